/-
  PACKED for a claim.
-/
import Derived.Lib.AppendZeros
import Derived.Test.YteibnfeokgibmaaGreatP23
import Derived.Test.YteibnfeokgibmaaGreatP24
set_option linter.unusedVariables false
set_option linter.unusedSimpArgs false
set_option maxRecDepth 100000
namespace Go.Proofs.YteibnfeokgibmaaGreat
open Go.RowKit
theorem zae (n : Nat) (h0 : 0 < n) (hn : n <= 1000) (w : World) :
  Calls Tryz.prog 100 #[.slice none 0 0, .int .i64 (n : Int)] w fun e w' => (∃ A c, e = .returned (.slice A 0 c) /\ OwnM w.heap.size w' (.slice A 0 c) []) /\ Below w.heap.size w w' := by
 obtain ⟨i0, hi0, hz0, hz1, hz2⟩ := info_parts ybm
 have hrun : ∀ ty, (Builtin.append_ #[83, 3] ty #[.slice none 0 0, .int .i64 (n : Int)]).run Tryz.prog w = _ := fun ty =>
  Lib.run_append_nil_zeros w 83 3 ty 88 i0 _ .i64 .i64 Tryz.underlying83 Tryz.underlying3 hi0 hz0 n h0 (by omega) (by omega) (by rw [hz2]; omega)
 obtain ⟨G, hG⟩ : ∃ G, grownCap w n 0 88 = G := ⟨_, rfl⟩; have hge := grownCap_ge w n 0 88; have hle := grownCap_le_maxLen w n 0 88 (by simp only [maxLen]; omega)
 rw [hG] at hrun hge hle; obtain ⟨CS, hCS⟩ : ∃ CS, Builtin.zeroCells (Value.agg #[.slice none 0 0, .slice none 0 0]).cells n ++ Builtin.zeroCells (Value.agg #[.slice none 0 0, .slice none 0 0]).cells (G - n) = CS := ⟨_, rfl⟩
 have hsz : CS.size = G * 2 := by
  rw [<- hCS, Array.size_append, size_zeroCells, size_zeroCells]
  have : (Value.agg #[.slice none 0 0, .slice none 0 0]).cells.size = 2 := rfl
  rw [this]; omega
 rw [hCS] at hrun; have HR := zH hrun; have HO := zH (World.ownsRow_made (base := w.heap.size) (e := 88) (size := 2) w.drew CS G (zN _) hle hsz)
 have hGI : (0 : Int) <= (G : Int) := by omega
 have hnI : (n : Int) <= 1000 := by omega
 have hnp : (0 : Int) < (n : Int) := by omega
 clear hrun hge hG hCS hsz hi0 hz0 hz1 hz2
 go_enter Tryz.func100, Tryz.ntmps100
 go_wp2_with (at_builtin; refine Lib.wpList_append_run _ rfl _ _ _ _ rfl _ _ rfl rfl _ _ (HR.out _) ?_)
 go_ret
 exact ⟨⟨_, _, rfl, HO.out⟩, ((zR _ w).drew).alloc (zN _) _⟩
theorem appendM {ops : Array Oper} {rest : List Oper} {o : Oper} {a : Act} {Q : Exit -> Act -> World -> Prop} (hgd : o.guard = none) (s x : Operand)
  (ho : o.op = .call { callee := .builtin .append, args := #[s, x], argTypes := #[83, 83] })
  (w : World) (B : Nat) (v : Value) (M N : List ME) (ad : Addr) (C : Nat) (hs : a.eval s = v) (hown : OwnM B w v M) (hx : a.eval x = .slice (some ad) N.length C)
  (hsrc : ∀ j u, (mcells N)[j]? = some u -> w.cell? (ad.add j) = some u) (hone : ∀ u ∈ mcells N, u.oneCell' = true) (hB : B <= w.heap.size) (hl : M.length + N.length <= 1000000)
  (h : ∀ v' w', OwnM B w' v' (M ++ N) -> Below B w w' -> wpList Tryz.prog ops Q rest (a.put o.dst v') w') : wpList Tryz.prog ops Q (o :: rest) a w := by
 obtain ⟨i0, hi0, hz0, hz1, hz2⟩ := info_parts ybm
 refine wpList_append_own_at _ hgd s x _ ho B 88 i0 _ 2 48 Tryz.underlying83 hi0 hz0 hz1 hz2 rfl (by omega) v M.length (mcells M) hs hown ad N.length C (mcells N) hx (by rw [yaq])
  hsrc hone (by simp only [maxLen]; omega) (by omega) hB ?_
 intro v' w' h2 h3 _ _; refine h v' w' ?_ ((zR B w).grown h3 hB (fun k hk => (World.ownsRow.lt hown k hk).1))
 unfold OwnM; rw [yaw, List.length_append]; exact h2
theorem yly {Ms : List (List ME)} {k : Nat} {M : List ME} (h : Ms[k]? = some M) : (Ms.take (k + 1)).flatten = (Ms.take k).flatten ++ M := by
 rw [List.take_add_one, h]; simp
theorem yvu (Ms : List (List ME)) (k : Nat) : (Ms.take k).flatten.length <= Ms.flatten.length := by
 have h := congrArg List.flatten (List.take_append_drop k Ms); rw [List.flatten_append] at h
 have := congrArg List.length h
 rw [List.length_append] at this
 omega
theorem yri {F : Nat -> Prop} {w : World} {g n : Nat} {Ms : List (List ME)} {vs : List Value} (hn : Ms.length = n) (hv : vs.length = n) (h6 : 0 < n /\ n <= 100) (hc : ∀ k v, vs[k]? = some v -> w.cell? ⟨g, k, none⟩ = some v)
  (hr : ∀ (k : Nat) v M, vs[k]? = some v -> Ms[k]? = some M -> RdM F w v M /\ 0 < M.length) (hN : Ms.flatten.length <= 1000) :
  Calls Tryz.prog 67 #[.slice (some ⟨g, 0, none⟩) n n] w fun e w' => (∃ v, e = .returned v /\ OwnM w.heap.size w' v Ms.flatten) /\ Below w.heap.size w w' := by
 have hg : g < w.heap.size := by
  obtain ⟨v, hv0⟩ : ∃ v, vs[0]? = some v := ⟨_, List.getElem?_eq_getElem (by omega)⟩
  exact yaj (hc 0 v hv0)
 have hpos : 0 < Ms.flatten.length := by
  obtain ⟨v, hv0⟩ : ∃ v, vs[0]? = some v := ⟨_, List.getElem?_eq_getElem (by omega)⟩
  obtain ⟨M, hM0⟩ : ∃ M, Ms[0]? = some M := ⟨_, List.getElem?_eq_getElem (by omega)⟩
  have h1 := (hr 0 v M hv0 hM0).2; have h2 := yvu Ms 1; have h3 := yly hM0; rw [h3, List.length_append] at h2
  omega
 have HC := zH hc; have HR := zH hr; have HFL := zH (fun k => yvu Ms k)
 have HFT := zH (fun k M => @yly Ms k M)
 obtain ⟨T, hT⟩ : ∃ T, Ms.flatten.length = T := ⟨_, rfl⟩; have HT := zH hT; rw [hT] at hN hpos
 have HEnd : Hid ((Ms.take n).flatten = Ms.flatten) := by show _ = _; rw [<- hn, List.take_length]
 have hnI : (n : Int) <= 100 := by omega
 have HV := zH hv; have HMn := zH hn; clear hc hr hT hv hn
 go_enter Tryz.func67, Tryz.ntmps67
 go_wp2
 go_loop [3, 11] (fun t i => ∃ k : Nat, k <= n /\ i = .int .i64 (k : Nat) /\ t = .int .i64 ((Ms.take k).flatten.length : Nat)) (fun _ i => n - (intOf i).toNat)
 case atStart => exact ⟨0, Nat.zero_le _, rfl, rfl⟩
 case round =>
  obtain ⟨k, hk, rfl, rfl⟩ := hrel
  by_cases hlt : k < n
  ·obtain ⟨v, hv0⟩ : ∃ v, vs[k]? = some v := ⟨_, List.getElem?_eq_getElem (by have := HV.out; omega)⟩
   obtain ⟨M, hM0⟩ : ∃ M, Ms[k]? = some M := ⟨_, List.getElem?_eq_getElem (by have := HMn.out; omega)⟩
   have c0 := HC.out k v hv0; obtain ⟨A, c, rfl⟩ := (HR.out k v M hv0 hM0).1.form; have hft := HFT.out k M hM0; have hfl := HFL.out (k + 1); rw [hft, List.length_append, HT.out] at hfl
   have HS : Hid (((Ms.take (k + 1)).flatten.length : Int) = ((Ms.take k).flatten.length : Int) + (M.length : Int)) := by show _ = _; rw [hft, List.length_append]; omega
   have hkI : (k : Int) < (n : Int) := by omega
   obtain ⟨z, hz⟩ : ∃ z, (Ms.take k).flatten.length = z := ⟨_, rfl⟩; rw [hz] at HS hfl |-
   have hzI : (z : Int) + (M.length : Int) <= 1000 := by omega
   have hz0 : (0 : Int) <= (z : Int) + (M.length : Int) := by omega
   have hz2 : ¬ ((z : Int) + (M.length : Int) < 0) := by omega
   clear hv0 hM0 hft hfl hz hlt
   go_wp2
   go_round
   case rel => exact ⟨k + 1, by omega, by go_num, by rw [HS.out]⟩
   case measure => simp [intOf]; omega
  ·obtain rfl : k = n := by omega
   rw [HEnd.out, HT.out]
   go_wp2_with (go_at_call 100; refine (zae T hpos hN _).mono ?_; rintro e w1 ⟨⟨A, c, rfl, ho⟩, hb⟩; have HO1 := zH ho; have HB1 := zH hb; clear ho hb)
   go_loopw [6, 27] (fun v i wr => ∃ j : Nat, j <= k /\ i = .int .i64 (j : Nat) /\ Hid (OwnM w.heap.size wr v (Ms.take j).flatten) /\ Hid (Below w.heap.size w wr)) (fun _ i _ => k - (intOf i).toNat)
   case atStart => exact ⟨0, Nat.zero_le _, rfl, HO1.out, HB1.out⟩
   case round =>
    clear HO1 HB1; obtain ⟨j, hj, rfl, HO, HB⟩ := hrel
    by_cases hlt2 : j < k
    ·obtain ⟨v, hv0⟩ : ∃ v, vs[j]? = some v := ⟨_, List.getElem?_eq_getElem (by have := HV.out; omega)⟩
     obtain ⟨M, hM0⟩ : ∃ M, Ms[j]? = some M := ⟨_, List.getElem?_eq_getElem (by have := HMn.out; omega)⟩
     have c0 := (HB.out.cell (p := ⟨g, j, none⟩) hg).trans (HC.out j v hv0); obtain ⟨hrd, hp0⟩ := HR.out j v M hv0 hM0; obtain ⟨A, c, rfl⟩ := hrd.form; have hrd2 := hrd.below HB.out (zN _); have hone := ydb hrd2.2; obtain ⟨g2, o2, rfl, -, hcell⟩ := hrd2.1.base hp0
     have HSRC : Hid (∀ i u, (mcells M)[i]? = some u -> wr.cell? ((⟨g2, o2, none⟩ : Addr).add i) = some u) := fun i u hu => by rw [Addr.add_lit]; exact hcell i u hu
     have HONE := zH hone; have hfl := HFL.out (j + 1); have HFT2 := zH (HFT.out j M hM0)
     have HL : Hid ((Ms.take j).flatten.length + M.length <= 1000000) := by
      have h1 := HFL.out (j + 1); rw [HFT2.out, List.length_append, HT.out] at h1
      show _ <= _; omega
     have hjI : (j : Int) < (k : Int) := by omega
     clear hv0 hM0 hrd hrd2 hone hcell hfl hp0 hlt2
     go_wp2_with (at_builtin; refine appendM rfl (.tmp 31) (.tmp 32) rfl _ w.heap.size _ _ M ⟨g2, o2, none⟩ c rfl HO.out rfl HSRC.out HONE.out HB.out.size HL.out ?_; intro v2 w2 ho2 hb2; have HO2 := zH ho2; have HB2 := zH (HB.out.trans hb2); clear ho2 hb2)
     go_roundw
     case rel => exact ⟨j + 1, by omega, by go_num, by rw [HFT2.out]; exact HO2.out, HB2.out⟩
     case measure => simp [intOf]; omega
    ·obtain rfl : j = k := by omega
     rw [HEnd.out] at HO
     go_wp2
     go_ret
     exact ⟨⟨_, rfl, HO.out⟩, HB.out⟩
def Pc (w0 w : World) (v : Value) (L : List PE) : Prop := ∃ M, pls M = L /\ OwnM w0.heap.size w v M /\ (∀ m ∈ M, Ent w0.heap.size w m) /\ Below w0.heap.size w0 w
theorem Pc.below {w0 w w' : World} {v : Value} {L : List PE} (h : Pc w0 w v L) (hb : Below w.heap.size w w') : Pc w0 w' v L := by
 obtain ⟨M, h1, h2, h3, h4⟩ := h; exact ⟨M, h1, h2.below hb (zN _), fun m hm => (h3 m hm).below hb (zN _), h4.trans (hb.mono h4.size)⟩
theorem Pc.of {w0 w w' : World} {v : Value} {L : List PE} (h : GotM w.heap.size w L (.returned v) w') (h0 : Below w0.heap.size w0 w) : Pc w0 w' v L := by
 obtain ⟨v', M, e, h1, h2, h3, h4⟩ := h
 cases e
 exact ⟨M, h1, R4.yau h2 h0.size, fun m hm => (h3 m hm).mono fun k hk => ⟨by have := h0.size; omega, hk.2⟩, h0.trans (h4.mono h0.size)⟩
def RawIs (w : World) (e : Ending) (w' : World) : Prop := ∃ v M B, e = .returned v /\ pls M = rawP /\ OwnM B w' v M /\ (∀ m ∈ M, EntOk (fun k => w.heap.size <= k /\ k < B) w' m) /\ w.heap.size <= B /\ B <= w'.heap.size /\ Below w.heap.size w w'
theorem Pc.rd {w0 w : World} {v : Value} {L : List PE} (h : Pc w0 w v L) (hL : 0 < L.length) : ∃ M, pls M = L /\ RdM (fun k => w0.heap.size <= k /\ k < w.heap.size) w v M /\ 0 < M.length := by
 obtain ⟨M, h1, h2, h3, h4⟩ := h; refine ⟨M, h1, h2.rd fun m hm => ?_, by rw [<- h1, yap] at hL; exact hL⟩
 exact (h3 m hm).mono fun k hk => ⟨hk.1, by obtain ⟨cs, T, fr, h, _⟩ := hk.2; exact R4.yad h⟩
theorem raw_of {w w6 w8 : World} {v v1 v2 v3 v4 v5 v6 : Value} {M1 M2 M3 M4 M5 M6 : List ME} {O : Obj} (p1 : pls M1 = (List.range 6).map varE) (p2 : pls M2 = (List.range 10).map digE) (p3 : pls M3 = (List.range 26).flatMap letE) (p4 : pls M4 = (List.range 8).map mkE) (p5 : pls M5 = runs.flatMap compR) (p6 : pls M6 = othP)
  (r1 : RdM (fun k => w.heap.size <= k /\ k < w6.heap.size) w6 v1 M1) (r2 : RdM (fun k => w.heap.size <= k /\ k < w6.heap.size) w6 v2 M2) (r3 : RdM (fun k => w.heap.size <= k /\ k < w6.heap.size) w6 v3 M3) (r4 : RdM (fun k => w.heap.size <= k /\ k < w6.heap.size) w6 v4 M4) (r5 : RdM (fun k => w.heap.size <= k /\ k < w6.heap.size) w6 v5 M5) (r6 : RdM (fun k => w.heap.size <= k /\ k < w6.heap.size) w6 v6 M6)
  (hb6 : Below w.heap.size w w6) (ho : OwnM (w6.alloc O).heap.size w8 v [M1, M2, M3, M4, M5, M6].flatten) (hb : Below (w6.alloc O).heap.size (w6.alloc O) w8) : RawIs w (.returned v) w8 := by
 have hA : Below w6.heap.size w6 (w6.alloc O) := (zR _ w6).alloc (zN _) O
 have hz : (w6.alloc O).heap.size = w6.heap.size + 1 := by simp
 have hb2 : Below w6.heap.size w6 w8 := hA.trans (hb.mono (by omega))
 refine ⟨v, _, _, rfl, ?_, ho, ?_, by have := hb6.size; omega, hb.size, hb6.trans (hb2.mono hb6.size)⟩
 ·simp only [List.flatten_cons, List.flatten_nil, List.append_nil, yay, p1, p2, p3, p4, p5, p6]
  rfl
 ·intro m hm
  have key : ∀ {u : Value} {M : List ME}, RdM (fun k => w.heap.size <= k /\ k < w6.heap.size) w6 u M -> m ∈ M -> EntOk (fun k => w.heap.size <= k /\ k < (w6.alloc O).heap.size) w8 m := fun {u M} hr hm =>
   ((hr.2 m hm).below hb2 (zN _)).mono fun k hk => ⟨hk.1, by have := hk.2; omega⟩
  simp only [List.flatten_cons, List.flatten_nil, List.append_nil, List.mem_append] at hm
  rcases hm with hm | hm | hm | hm | hm | hm
  ·exact key r1 hm
  ·exact key r2 hm
  ·exact key r3 hm
  ·exact key r4 hm
  ·exact key r5 hm
  ·exact key r6 hm
theorem lens : 0 < ((List.range 6).map varE).length /\ 0 < ((List.range 10).map digE).length /\ 0 < ((List.range 26).flatMap letE).length /\ 0 < ((List.range 8).map mkE).length /\ 0 < (runs.flatMap compR).length /\ 0 < othP.length := by decide +kernel
theorem ytv : rawP.length = 132 := by decide +kernel
theorem yqn {w w6 : World} {v1 v2 v3 v4 v5 v6 : Value} (p1 : Pc w w6 v1 ((List.range 6).map varE)) (p2 : Pc w w6 v2 ((List.range 10).map digE)) (p3 : Pc w w6 v3 ((List.range 26).flatMap letE)) (p4 : Pc w w6 v4 ((List.range 8).map mkE)) (p5 : Pc w w6 v5 (runs.flatMap compR)) (p6 : Pc w w6 v6 othP)
  (hb6 : Below w.heap.size w w6) : Calls Tryz.prog 67 #[.slice (some ⟨w6.heap.size, 0, none⟩) 6 6] (w6.alloc (.cells #[v1, v2, v3, v4, v5, v6] 83)) fun e w' => ∃ v, e = .returned v /\ RawIs w (.returned v) w' := by
 obtain ⟨M1, e1, r1, l1⟩ := p1.rd lens.1; obtain ⟨M2, e2, r2, l2⟩ := p2.rd lens.2.1; obtain ⟨M3, e3, r3, l3⟩ := p3.rd lens.2.2.1; obtain ⟨M4, e4, r4, l4⟩ := p4.rd lens.2.2.2.1; obtain ⟨M5, e5, r5, l5⟩ := p5.rd lens.2.2.2.2.1; obtain ⟨M6, e6, r6, l6⟩ := p6.rd lens.2.2.2.2.2
 have hA : Below w6.heap.size w6 (w6.alloc (.cells #[v1, v2, v3, v4, v5, v6] 83)) := (zR _ w6).alloc (zN _) _
 have hlen : [M1, M2, M3, M4, M5, M6].flatten.length <= 1000 := by
  have h := ytv
  have h2 : rawP = pls [M1, M2, M3, M4, M5, M6].flatten := by
   simp only [List.flatten_cons, List.flatten_nil, List.append_nil, yay, e1, e2, e3, e4, e5, e6]
   rfl
  rw [h2, yap] at h
  omega
 refine (yri (F := anyB) (n := 6) (Ms := [M1, M2, M3, M4, M5, M6]) (vs := [v1, v2, v3, v4, v5, v6]) rfl rfl (by omega) (fun k v hk => yim hk) ?_ hlen).mono ?_
 ·intro k v M hv hM
  have key : ∀ {u : Value} {N : List ME}, RdM (fun k => w.heap.size <= k /\ k < w6.heap.size) w6 u N -> 0 < N.length -> RdM anyB (w6.alloc (.cells #[v1, v2, v3, v4, v5, v6] 83)) u N /\ 0 < N.length := fun {u N} hr h0 => by
   have h1 := hr.below hA (zN _); exact ⟨⟨h1.1, fun m hm => (h1.2 m hm).mono fun _ _ => trivial⟩, h0⟩
  match k, hv, hM with
  | 0, hv, hM => cases hv; cases hM; exact key r1 l1
  | 1, hv, hM => cases hv; cases hM; exact key r2 l2
  | 2, hv, hM => cases hv; cases hM; exact key r3 l3
  | 3, hv, hM => cases hv; cases hM; exact key r4 l4
  | 4, hv, hM => cases hv; cases hM; exact key r5 l5
  | 5, hv, hM => cases hv; cases hM; exact key r6 l6
  | k + 6, hv, hM => simp at hv
 ·rintro e w' ⟨⟨v, he, ho⟩, hb⟩; exact ⟨v, he, raw_of e1 e2 e3 e4 e5 e6 r1 r2 r3 r4 r5 r6 hb6 ho hb⟩
theorem ygd {f : Nat} {w0 w : World} {L : List PE} (h : Calls Tryz.prog f #[] w (GotM w.heap.size w L)) (h0 : Below w0.heap.size w0 w) :
  Calls Tryz.prog f #[] w fun e w' => (∃ A n c, e = .returned (.slice A n c) /\ Pc w0 w' (.slice A n c) L) /\ Below w.heap.size w w' /\ Below w0.heap.size w0 w' := by
 refine h.mono fun e w' hg => ?_
 obtain ⟨v, M, rfl, h1, h2, h3, h4⟩ := hg; obtain ⟨A, c, rfl⟩ := h2.form; exact ⟨⟨A, _, c, rfl, Pc.of ⟨_, M, rfl, h1, h2, h3, h4⟩ h0⟩, h4, h0.trans (h4.mono h0.size)⟩
set_option maxHeartbeats 1000000 in
theorem yhq (w : World) : Calls Tryz.prog 38 #[] w (RawIs w) := by
 have B0 : Hid (Below w.heap.size w w) := zR _ w
 have HL := zH lens
 go_enter Tryz.func38, Tryz.ntmps38
 go_wp2_with (first
  | (go_at_call 68; refine (ygd (yjs _) B0.out).mono ?_; rintro e w1 ⟨⟨A1, n1, c1, rfl, p⟩, hb, hb0⟩; have P11 := zH p; have B1 := zH hb0; clear p hb hb0 B0)
  | (go_at_call 69; refine (ygd (yrh _) B1.out).mono ?_; rintro e w2 ⟨⟨A2, n2, c2, rfl, p⟩, hb, hb0⟩; have P22 := zH p; have B2 := zH hb0; have P12 := zH (P11.out.below hb); clear p hb hb0 B1 P11)
  | (go_at_call 70; refine (ygd (yno _) B2.out).mono ?_; rintro e w3 ⟨⟨A3, n3, c3, rfl, p⟩, hb, hb0⟩; have P33 := zH p; have B3 := zH hb0; have P13 := zH (P12.out.below hb); have P23 := zH (P22.out.below hb); clear p hb hb0 B2 P12 P22)
  | (go_at_call 71; refine (ygd (yuy _) B3.out).mono ?_; rintro e w4 ⟨⟨A4, n4, c4, rfl, p⟩, hb, hb0⟩; have P44 := zH p; have B4 := zH hb0; have P14 := zH (P13.out.below hb); have P24 := zH (P23.out.below hb); have P34 := zH (P33.out.below hb); clear p hb hb0 B3 P13 P23 P33)
  | (go_at_call 72; refine (ygd (ymd _) B4.out).mono ?_; rintro e w5 ⟨⟨A5, n5, c5, rfl, p⟩, hb, hb0⟩; have P55 := zH p; have B5 := zH hb0; have P15 := zH (P14.out.below hb); have P25 := zH (P24.out.below hb); have P35 := zH (P34.out.below hb); have P45 := zH (P44.out.below hb); clear p hb hb0 B4 P14 P24 P34 P44)
  | (go_at_call 73; refine (ygd (yqx _) B5.out).mono ?_; rintro e w6 ⟨⟨A6, n6, c6, rfl, p⟩, hb, hb0⟩; have P66 := zH p; have B6 := zH hb0; have P16 := zH (P15.out.below hb); have P26 := zH (P25.out.below hb); have P36 := zH (P35.out.below hb); have P46 := zH (P45.out.below hb); have P56 := zH (P55.out.below hb); clear p hb hb0 B5 P15 P25 P35 P45 P55)
  | (go_at_call 67; have hc := yqn P16.out P26.out P36.out P46.out P56.out P66.out B6.out; refine hc.mono ?_; rintro e w8 ⟨v, rfl, h⟩; have HF := zH h; clear h hc))
 go_ret
 exact HF.out
structure TabAt (F : Nat -> Prop) (w : World) (p : Nat) (L : List PE) : Prop where
 good : GoodT L
 at_ : ∃ (ve : Value) (bo b2 b3 : Nat), w.heap[p]? = some (.cells #[ve, .pointer (some ⟨bo, 0, none⟩), .map (some b2), .map (some b3)] 122 (0, 0)) /\ RdT F w ve L /\ R4.TrieAt w bo (R4.rowsF 17412 (R4.findP (ones 0 L))) /\ KMap 126 2 w b2 L /\ KMap 127 3 w b3 L
theorem TabAt.below {F : Nat -> Prop} {w w' : World} {p : Nat} {L : List PE} {B : Nat} (h : TabAt F w p L) (hb : Below B w w') (hB : w.heap.size <= B) : TabAt F w' p L := by
 obtain ⟨hg, ve, bo, b2, b3, h1, h2, h3, h4, h5⟩ := h; exact ⟨hg, ve, bo, b2, b3, (hb.block p (Nat.lt_of_lt_of_le (R4.yad h1) hB)).trans h1, h2.below hb hB, h3.below hb hB, h4.below hb hB, h5.below hb hB⟩
theorem TabAt.mono {F G : Nat -> Prop} {w : World} {p : Nat} {L : List PE} (h : TabAt F w p L) (hG : ∀ g, F g -> G g) : TabAt G w p L := by
 obtain ⟨hg, ve, bo, b2, b3, h1, h2, h3, h4, h5⟩ := h; exact ⟨hg, ve, bo, b2, b3, h1, h2.mono hG, h3, h4, h5⟩
theorem TabAt.lt {F : Nat -> Prop} {w : World} {p : Nat} {L : List PE} (h : TabAt F w p L) : p < w.heap.size := by
 obtain ⟨hg, ve, bo, b2, b3, h1, h2, h3, h4, h5⟩ := h; exact R4.yad h1
theorem TabAt.cells {F : Nat -> Prop} {w : World} {p : Nat} {L : List PE} (h : TabAt F w p L) : ∃ (A : Option Addr) (c bo b2 b3 : Nat), w.cell? ⟨p, 0, none⟩ = some (.slice A L.length c) /\ w.cell? ⟨p, 1, none⟩ = some (.pointer (some ⟨bo, 0, none⟩)) /\ w.cell? ⟨p, 2, none⟩ = some (.map (some b2)) /\ w.cell? ⟨p, 3, none⟩ = some (.map (some b3)) ∧
  RdT F w (.slice A L.length c) L /\ R4.TrieAt w bo (R4.rowsF 17412 (R4.findP (ones 0 L))) /\ KMap 126 2 w b2 L /\ KMap 127 3 w b3 L := by
 obtain ⟨hg, ve, bo, b2, b3, h1, h2, h3, h4, h5⟩ := h; obtain ⟨A, c, rfl⟩ := h2.form; exact ⟨A, c, bo, b2, b3, by rw [cell_of_row w p 0 _ _ _ h1]; rfl, by rw [cell_of_row w p 1 _ _ _ h1]; rfl, by rw [cell_of_row w p 2 _ _ _ h1]; rfl, by rw [cell_of_row w p 3 _ _ _ h1]; rfl, h2, h3, h4, h5⟩
theorem yoh {w w' : World} {p : Nat} {r : List (List Int)} {b : Nat} {cs : Array Value} {T : TypeId} {fr : Nat × Nat} (h : R4.TrieAt w p r) (hg : w.grownBy w' (some b)) (hb : w.heap[b]? = some (.cells cs T fr)) (h1 : T ≠ 252) (h2 : T ≠ 253) (h3 : T ≠ 225) : R4.TrieAt w' p r := by
 obtain ⟨⟨vi, vb, e1, e2, e3⟩, hgd, hl⟩ := h; refine ⟨⟨vi, vb, (hg.block p (R4.yad e1) ?_).trans e1, World.ownsRow.kept e2 hg ?_, World.ownsRow.kept e3 hg ?_⟩, hgd, hl⟩
 ·intro e
  injection e with e
  subst e; rw [hb] at e1
  injection e1 with e1
  injection e1 with e1 e4 e5
  exact h1 e4
 ·cases q : vi.ownBlock with
  | none => exact .inl rfl
  | some g => exact .inr (fun e => R4.yao e2 hb h2 (by rw [q, e]))
 ·cases q : vb.ownBlock with
  | none => exact .inl rfl
  | some g => exact .inr (fun e => R4.yao e3 hb h3 (by rw [q, e]))
theorem yuh {L : List PE} (h : GoodT L) : R4.Wide (ones 0 L) := by
 intro p hp; obtain ⟨e, he, e1, h1, h2⟩ := yki hp; have hl := h.len; exact ⟨by omega, by omega⟩
structure BuildSt (w : World) (vl : Value) (v : Value) (L : List PE) (wr : World) : Prop where
 own : R4.OwnP (w.heap.size + 3) wr v (ones 0 L)
 m2 : KMap 126 2 wr w.heap.size L
 m3 : KMap 127 3 wr (w.heap.size + 1) L
 tab : wr.heap[w.heap.size + 2]? = some (.cells #[vl, .pointer none, .map (some w.heap.size), .map (some (w.heap.size + 1))] 122 (0, 0))
 bel : Below w.heap.size w wr
theorem BuildSt.big {w wr : World} {vl v : Value} {L : List PE} (h : BuildSt w vl v L wr) : w.heap.size + 3 <= wr.heap.size := by
 have := R4.yad h.tab; omega
theorem BuildSt.more {w wr wr' : World} {vl v : Value} {L : List PE} (h : BuildSt w vl v L wr) (hb : Below wr.heap.size wr wr') : BuildSt w vl v L wr' :=
 ⟨R4.yan h.own hb (zN _), h.m2.below hb (zN _), h.m3.below hb (zN _), (hb.block _ (R4.yad h.tab)).trans h.tab, h.bel.trans (hb.mono h.bel.size)⟩
theorem BuildSt.start (w : World) (A : Option Addr) (n c : Nat) : BuildSt w (.slice A n c) (.slice none 0 0) [] (((w.alloc (.map #[] 0)).alloc (.map #[] 0)).alloc (.cells #[.slice A n c, .pointer none, .map (some w.heap.size), .map (some (w.heap.size + 1))] 122)) := by
 have e1 : (w.alloc (.map #[] 0)).heap.size = w.heap.size + 1 := by simp
 have e2 : ((w.alloc (.map #[] 0)).alloc (.map #[] 0)).heap.size = w.heap.size + 2 := by simp
 have hb1 : ∀ o, Below (w.alloc (.map #[] 0)).heap.size (w.alloc (.map #[] 0)) ((w.alloc (.map #[] 0)).alloc o) := fun o => (zR _ _).alloc (zN _) o
 have hb2 : ∀ o, Below ((w.alloc (.map #[] 0)).alloc (.map #[] 0)).heap.size ((w.alloc (.map #[] 0)).alloc (.map #[] 0)) (((w.alloc (.map #[] 0)).alloc (.map #[] 0)).alloc o) := fun o => (zR _ _).alloc (zN _) o
 refine ⟨World.ownsRow_nil _ _ _ _, ((KMap.new _ _ w).below (hb1 _) (zN _)).below (hb2 _) (zN _), ?_, ?_, (((zR _ w).alloc (zN _) _).alloc (by omega) _).alloc (by omega) _⟩
 ·have := KMap.new 127 3 (w.alloc (.map #[] 0))
  rw [e1] at this; exact this.below (hb2 _) (zN _)
 ·have := heap_alloc_new ((w.alloc (.map #[] 0)).alloc (.map #[] 0)) (.cells #[.slice A n c, .pointer none, .map (some w.heap.size), .map (some (w.heap.size + 1))] 122)
  rw [e2] at this; exact this
theorem yhw : (Tryz.prog.info? 125).map (fun i => (i.zero, i.size, i.bytes)) = some (some (.agg #[.int .i64 0, .int .i64 0]), 2, 16) := by kernel_rfl
theorem BuildSt.push {ops : Array Oper} {rest : List Oper} {o : Oper} {a : Act} {Q : Exit -> Act -> World -> Prop} {w wr : World} {vl v : Value} {L : List PE} (h : BuildSt w vl v L wr) {e : PE} (he : e.1.length = 1) {x : Int} (hx : hd e.1 = x) {y : Int} (hy : (L.length : Int) + 1 = y) (hlen : L.length <= 1000) (hgd : o.guard = none) (s z : Operand)
  (ho : o.op = .call { callee := .builtin .append, args := #[s, z], argTypes := #[123, 123] }) (C : Nat) {b : Nat} (hbb : wr.heap.size = b) (hs : a.eval s = v) (hz : a.eval z = .slice (some ⟨b, 0, none⟩) 1 C)
  (hK : ∀ v' w', BuildSt w vl v' (L ++ [e]) w' -> wpList Tryz.prog ops Q rest (a.put o.dst v') w') : wpList Tryz.prog ops Q (o :: rest) a (wr.alloc (.cells #[.int .i64 x, .int .i64 y] 125)) := by
 subst hbb; obtain ⟨i0, hi0, hz0, hz1, hz2⟩ := info_parts yhw
 have hA : Below wr.heap.size wr (wr.alloc (.cells #[.int .i64 x, .int .i64 y] 125)) := (zR _ wr).alloc (zN _) _
 have h1 := h.more hA; have hol := yov 0 L
 refine wpList_append_own_at _ hgd s z _ ho (w.heap.size + 3) 125 i0 _ 2 16 Tryz.underlying123 hi0 hz0 hz1 hz2 rfl (by omega) v (ones 0 L).length (R4.pcells (ones 0 L)) hs h1.own ⟨wr.heap.size, 0, none⟩ 1 C [.int .i64 x, .int .i64 y] hz rfl
  (R4.yax wr [.int .i64 x, .int .i64 y] _) (by intro u hu; simp at hu; rcases hu with rfl | rfl <;> rfl) (by simp only [maxLen]; omega) (by omega) h1.big ?_
 intro v' w' h2 h3 _ _
 have hse : ones 0 (L ++ [e]) = ones 0 L ++ [(x, y)] := by
  rw [ykj, Nat.zero_add, ones, ones, if_pos he, hx, List.append_nil, <- hy]
 refine hK v' w' ⟨?_, ?_, ?_, ?_, ?_⟩
 ·unfold R4.OwnP; rw [hse, R4.yqv, List.length_append]; exact h2
 ·obtain ⟨es, c, hm⟩ := h1.m2.isMap; exact (h1.m2.kept h3 (R4.ybf h1.own hm)).other e (by omega)
 ·obtain ⟨es, c, hm⟩ := h1.m3.isMap; exact (h1.m3.kept h3 (R4.ybf h1.own hm)).other e (by omega)
 ·exact (h3.block _ (R4.yad h1.tab) (R4.yao h1.own h1.tab (by decide))).trans h1.tab
 ·exact h1.bel.grown h3 h1.bel.size (fun k hk => by have := (World.ownsRow.lt h1.own k hk).1; omega)
theorem yce {w w' : World} {B : Nat} {e : TypeId} {s : Nat} {v : Value} {n : Nat} {xs : List Value} (h : w.ownsRow B e s v n xs) {b : Nat} (hg : w.grownBy w' (some b)) (hb : b < B) : w'.ownsRow B e s v n xs := by
 refine World.ownsRow.kept h hg ?_
 cases q : v.ownBlock with
 | none => exact .inl rfl
 | some g =>
  right
  intro e'
  injection e' with e'
  have := (World.ownsRow.lt h g q).1
  omega
theorem BuildSt.map2 {w wr w' : World} {vl v : Value} {L : List PE} (h : BuildSt w vl v L wr) {e : PE} (he : e.1.length = 2) (hg : wr.grownBy w' (some w.heap.size)) (hm : KMap 126 2 w' w.heap.size (L ++ [e])) : BuildSt w vl v (L ++ [e]) w' where
 own := by
  have hse : ones 0 (L ++ [e]) = ones 0 L := by rw [ykj, ones, ones, if_neg (by omega)]; simp
  unfold R4.OwnP; rw [hse]; exact yce h.own hg (by omega)
 m2 := hm
 m3 := (h.m3.kept hg (by simp)).other e (by omega)
 tab := (hg.block _ (R4.yad h.tab) (by simp)).trans h.tab
 bel := h.bel.grown hg h.bel.size (fun k hk => by cases hk; exact zN _)
theorem BuildSt.map3 {w wr w' : World} {vl v : Value} {L : List PE} (h : BuildSt w vl v L wr) {e : PE} (he : e.1.length = 3) (hg : wr.grownBy w' (some (w.heap.size + 1))) (hm : KMap 127 3 w' (w.heap.size + 1) (L ++ [e])) : BuildSt w vl v (L ++ [e]) w' where
 own := by
  have hse : ones 0 (L ++ [e]) = ones 0 L := by rw [ykj, ones, ones, if_neg (by omega)]; simp
  unfold R4.OwnP; rw [hse]; exact yce h.own hg (by omega)
 m2 := (h.m2.kept hg (by simp)).other e (by omega)
 m3 := hm
 tab := (hg.block _ (R4.yad h.tab) (by simp)).trans h.tab
 bel := h.bel.grown hg h.bel.size (fun k hk => by cases hk; omega)
end Go.Proofs.YteibnfeokgibmaaGreat
