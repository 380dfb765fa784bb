/-
  PACKED for a claim.
-/
import Derived.Test.YtichfdjjbafeiaaGreatP28
set_option linter.unusedVariables false
set_option linter.unusedSimpArgs false
set_option maxRecDepth 100000
namespace Go.Proofs.YtichfdjjbafeiaaGreat
open Go.RowKit
theorem RdI.take {G : Nat -> Prop} {w : World} {A : Option Addr} {m c : Nat} {l : List Int} (h : RdI G w (.slice A m c) l) {n : Nat} (hn : n <= l.length) : RdI G w (.slice A n c) (l.take n) := by
 have hm : m = l.length := (RdF.cap h).2
 subst hm
 have := RdF.take h hn n
 unfold RdI; rw [List.length_take, Nat.min_eq_left hn, show iv (l.take n) = (iv l).take n by simp [iv, T2.iv, List.map_take]]
 exact this
theorem RdI.drop {G : Nat -> Prop} {w : World} {A A2 : Option Addr} {m c u : Nat} {l : List Int} (h : RdI G w (.slice A m c) l) (hu : u <= l.length) (hA : ∀ ad : Addr, A = some ad -> (if c = u then some ad else some (ad.add u)) = A2) : RdI G w (.slice A2 (l.length - u) (c - u)) (l.drop u) := by
 have hm : m = l.length := (RdF.cap h).2
 subst hm
 have := RdF.drop h hu hA
 unfold RdI; rw [List.length_drop, show iv (l.drop u) = (iv l).drop u by simp [iv, T2.iv, List.map_drop]]
 exact this
theorem ymj {l : List Int} (h : I64 l) (n : Nat) : I64 (l.take n) := fun x hx => h x (List.mem_of_mem_take hx)
def FirstIs (L : List PE) (ss : List Int) (w : World) (e : Ending) (w' : World) : Prop := (∃ A c, e = .returned (.tuple #[.slice A (atP L ss).1.length c, .int .i64 ((atP L ss).2 : Nat)]) /\ RdE anyB w' (.slice A (atP L ss).1.length c) (atP L ss).1) /\ Below w.heap.size w w'
theorem yye {L : List PE} {ss : List Int} {n k : Nat} {e : PE} (hp : place L (ss.take (n + 1)) = some k) (he : L[k]? = some e) : atF L ss (n + 1) = (e.2, n + 1) := by
 rw [atF, yfa hp he]
theorem yvt {L : List PE} {ss : List Int} {n : Nat} (hp : place L (ss.take (n + 1)) = none) : atF L ss (n + 1) = atF L ss n := by
 rw [atF, yjm hp]
theorem ygq {F G : Nat -> Prop} {w : World} {p : Nat} {L : List PE} {v : Value} {ss : List Int} (h : TabAt F w p L) (hs : RdI G w v ss) (h0 : 0 < ss.length) (hI : I64 ss) (hl : ss.length <= 1000000) :
  Calls Tryz.prog 53 #[.pointer (some ⟨p, 0, none⟩), v] w (FirstIs L ss w) := by
 obtain ⟨A, c, rfl⟩ := hs.form; obtain ⟨A1, c1, bo, b2, b3, d0, -, -, -, hr, -, -, -⟩ := h.cells; obtain ⟨g, o, e0, c2⟩ := hs.at (hd_at h0); simp only [Nat.add_zero] at c2; have hcap := (RdF.cap hs).1; obtain ⟨R, hR⟩ : ∃ R, atP L ss = R := ⟨_, rfl⟩; obtain ⟨l, u⟩ := R; unfold FirstIs; rw [hR]
 have hR' : atF L ss (min 3 ss.length) = (l, u) := hR
 have HR := zH hR'; have HT := zH h; have HS := zH hs; have HE := zH hr; have HI := zH hI
 have hlI : (ss.length : Int) <= 1000000 := by omega
 have h0I : (0 : Int) < (ss.length : Int) := by omega
 obtain ⟨n, hn⟩ : ∃ n, min 3 ss.length = n := ⟨_, rfl⟩
 have hn3 : n <= 3 := by omega
 have hnl : n <= ss.length := by omega
 have HMIN : Hid (min 3 (ss.length : Int) = (n : Int)) := by show _ = _; omega
 rw [hn] at HR; have HC2 := zH c2; have HD0 := zH d0; have HEA := zH e0; clear h hs hr hI hR hR' c2 d0 e0; clear hn
 go_enter Tryz.func53, Tryz.ntmps53
 go_wp2
 go_loopw [6] (fun i wr => ∃ m : Nat, m <= ss.length /\ m <= 3 /\ i = .int .i64 (m : Nat) /\ Hid (atF L ss m = (l, u)) /\ Hid (Below w.heap.size w wr)) (fun i _ => (intOf i).toNat)
 case atStart => exact ⟨n, hnl, hn3, by rw [HMIN.out], HR.out, zR _ _⟩
 case round =>
  clear HR HMIN hnl hn3; obtain ⟨m, hm, hm3, rfl, HF, HB⟩ := hrel
  cases m with
  | zero =>
   have hf := HF.out; unfold atF at hf
   have h1 : impl (hd ss) = l := congrArg Prod.fst hf
   have h2 : 1 = u := congrArg Prod.snd hf
   subst h2; have HL := zH h1; have c3 := HEA.out; subst c3
   have c4 : RdI G wr (.slice (some ⟨g, o, none⟩) ss.length c) ss := RdF.below HS.out HB.out (zN _)
   obtain ⟨g', o', e', c5⟩ := c4.at (hd_at h0)
   cases e'
   simp only [Nat.add_zero] at c5; have HIM := zH (fun w => yuu (hd ss) w)
   rw [h1] at HIM; clear hf h1 c4 HF
   go_wp2_with (go_at_call 95; refine (HIM.out _).mono ?_; rintro e w1 ⟨vl, rfl, ho, hb⟩; obtain ⟨A9, c9, rfl⟩ := ho.form; have HO := zH ho; have HB2 := zH (HB.out.trans (hb.mono HB.out.size)); clear ho hb)
   go_ret2
   exact ⟨⟨_, _, rfl, HO.out.rd fun _ _ => trivial⟩, HB2.out⟩
  | succ m =>
   have hmI : ((m + 1 : Nat) : Int) <= (ss.length : Int) := by omega
   have hmJ : (0 : Int) < ((m + 1 : Nat) : Int) := by omega
   have HW := zH (HT.out.below HB.out (zN _)); have HSk := zH ((HS.out.below HB.out (zN _)).take hm)
   have hcI : ((m + 1 : Nat) : Int) <= (c : Int) := by omega
   cases hp : place L (ss.take (m + 1)) with
   | none =>
    have HF2 : Hid (atF L ss m = (l, u)) := by show _ = _; rw [<- yvt hp]; exact HF.out
    have HC := zH (yit hp HW.out HSk.out (ymj HI.out _) (by rw [List.length_take]; omega))
    clear hp
    go_wp2_with (go_at_call 56; refine (HC.out).mono ?_; rintro e w1 ⟨⟨i, rfl⟩, hb⟩; have HB2 := zH (HB.out.trans (hb.mono HB.out.size)); clear hb)
    go_roundw
    case rel => exact ⟨m, by omega, by omega, by go_num, HF2.out, HB2.out⟩
    case measure => simp [intOf]
   | some k =>
    obtain ⟨e, he, hes⟩ := ybl hp; have hf := HF.out; rw [yye hp he] at hf
    have h1 : e.2 = l := congrArg Prod.fst hf
    have h2 : m + 1 = u := congrArg Prod.snd hf
    subst h2; have HC := zH (yis hp HW.out HSk.out); have hkL := yih hp
    have hkI : (k : Int) < (L.length : Int) := by omega
    obtain ⟨g1, o1, vs, vl, rfl, -, c3, -, hrl⟩ := (HE.out.below HB.out (zN _)).at he; rw [h1] at hrl; obtain ⟨A8, c8, rfl⟩ := hrl.form; have d1 := (HB.out.cell (p := ⟨p, 0, none⟩) (yag HD0.out)).trans HD0.out
    have HX : Hid (∀ W, Below wr.heap.size wr W -> W.cell? ⟨p, 0, none⟩ = some (.slice (some ⟨g1, o1, none⟩) L.length c1) /\ W.cell? ⟨g1, o1 + k * 2 + 1, none⟩ = some (.slice A8 l.length c8) /\ RdE F W (.slice A8 l.length c8) l) := fun W hb =>
     ⟨(hb.cell (p := ⟨p, 0, none⟩) (yag d1)).trans d1, (hb.cell (p := ⟨g1, o1 + k * 2 + 1, none⟩) (yag c3)).trans c3, hrl.below hb (zN _)⟩
    clear hf h1 he hes hp c3 hrl d1 hkL
    go_wp2_with (go_at_call 56; refine (HC.out).mono ?_; rintro e w1 ⟨rfl, hb⟩; have HB2 := zH (HB.out.trans (hb.mono HB.out.size)); obtain ⟨x1, x2, x3⟩ := HX.out w1 hb; have HX3 := zH x3; clear hb x3)
    go_ret2
    exact ⟨⟨_, _, rfl, HX3.out.any⟩, HB2.out⟩
theorem ycs {w : World} (base : Nat) (t ty e : TypeId) (i : TypeInfo) (size c : Nat) (ht : Tryz.prog.underlying t = some (.slice e)) (hi : Tryz.prog.info? e = some i)
  (v : Value) (n : Nat) (xs : List Value) (hown : w.ownsRow base e size v n xs) :
  (Builtin.append_ #[t, t] ty #[v, .slice none 0 c]).run Tryz.prog w = .ok v w := by
 rcases hown.2 with ⟨rfl, rfl⟩ | ⟨g, cap, cur, rfl, _, _, hnc, _⟩
 ·simp [Builtin.append_, run_underlying ht, sizeOf, typeInfo, hi, Builtin.lenOf, Builtin.firstCells]
 ·simp [Builtin.append_, run_underlying ht, sizeOf, typeInfo, hi, Builtin.lenOf, Builtin.firstCells, hnc, storeCells]
theorem ycf : (Tryz.prog.info? 47).map (fun i => (i.zero, i.size, i.bytes)) = some (some (.int .u32 0), 1, 4) := by kernel_rfl
theorem appendE {ops : Array Oper} {rest : List Oper} {o : Oper} {a : Act} {Q : Exit -> Act -> World -> Prop} (hgd : o.guard = none) (s x : Operand)
  (ho : o.op = .call { callee := .builtin .append, args := #[s, x], argTypes := #[43, 43] })
  (w : World) (B : Nat) (v : Value) (l m : List Nat) {A : Option Addr} {C : Nat} {F : Nat -> Prop} (hs : a.eval s = v) (hown : OwnE B w v l) (hx : a.eval x = .slice A m.length C)
  (hsrc : RdE F w (.slice A m.length C) m) (hB : B <= w.heap.size) (hl : l.length + m.length <= 100000000)
  (h : ∀ v' w', OwnE B w' v' (l ++ m) -> Below B w w' -> wpList Tryz.prog ops Q rest (a.put o.dst v') w') : wpList Tryz.prog ops Q (o :: rest) a w := by
 obtain ⟨i0, hi0, hz0, hz1, hz2⟩ := info_parts ycf
 cases A with
 | none =>
  have hm : m = [] := by
   rcases Nat.eq_zero_or_pos m.length with h0 | h0
   ·exact List.eq_nil_of_length_eq_zero h0
   ·obtain ⟨g, o, e, _⟩ := RdF.base hsrc h0
    cases e
  subst hm; refine wpList_plain hgd fun K hK => ?_
  have hrun := ycs (w := w) B 43 o.type 47 i0 1 C Tryz.underlying43 hi0 v l.length (ev l) hown
  have hx' : a.eval x = .slice none 0 C := hx
  unfold Oper.wp
  simp [execOp, ho, resolve, invoke, builtin, hs, hx', hrun, Result.andThen]
  exact hK _ _ (h v w (by rw [List.append_nil]; exact hown) (zR _ _))
 | some ad =>
  refine wpList_append_own_at _ hgd s x _ ho B 47 i0 _ 1 4 Tryz.underlying43 hi0 hz0 hz1 hz2 rfl (by omega) v l.length (ev l) hs hown ad m.length C (ev m) hx (by rw [ev_len]; omega)
   ?_ (ev_one m) (by simp only [maxLen]; omega) (by omega) hB ?_
  ·intro j u hu
   have h0 : 0 < m.length := by
    have := (List.getElem?_eq_some_iff.1 hu).1
    rw [ev_len] at this; omega
   obtain ⟨g, o, e, _, hc⟩ := RdF.base hsrc h0
   cases e
   rw [Addr.add_lit]; exact hc j u hu
  ·intro v' w' h2 h3 _ _; refine h v' w' ?_ ((zR B w).grown h3 hB (fun k hk => (World.ownsRow.lt hown k hk).1))
   unfold OwnE; rw [ev_app, List.length_append]; exact h2
theorem yvx {l : List Int} {q : Int -> Bool} (h : l.all q = true) (n : Nat) : (l.drop n).all q = true := by
 rw [List.all_eq_true] at h |-; exact fun x hx => h x (List.mem_of_mem_drop hx)
theorem ywu {B : Nat} {w : World} {v : Value} {l : List Int} (h : T2.OwnI B w v l) : RdI (fun g => g < w.heap.size) w v l := by
 obtain ⟨A, c, rfl, hc, hr⟩ := R4.yaf h; refine ⟨A, c, rfl, hc, fun hn => ?_⟩
 obtain ⟨g, e, h1, h2, h3⟩ := hr hn; exact ⟨g, 0, e, h2, fun j u hu => by rw [Nat.zero_add]; exact h3 j u hu⟩
theorem RdI.keep {B : Nat} {w w' : World} {v : Value} {l : List Int} (h : RdI (fun g => g < B) w v l) (hb : Below B w w') : RdI (fun g => g < B) w' v l := RdF.frame h fun g hg _ => hb.block g hg
theorem I64.drop {l : List Int} (h : I64 l) (n : Nat) : I64 (l.drop n) := fun x hx => h x (List.mem_of_mem_drop hx)
theorem ymm {L : List PE} {ss : List Int} {l : List Nat} {u : Nat} (hr : atP L ss = (l, u)) {F G : Nat -> Prop} {w : World} {p : Nat} {v : Value} (h : TabAt F w p L) (hs : RdI G w v ss) (h0 : 0 < ss.length) (hI : I64 ss) (hl : ss.length <= 1000000) :
  Calls Tryz.prog 53 #[.pointer (some ⟨p, 0, none⟩), v] w fun e w' => (∃ A c, e = .returned (.tuple #[.slice A l.length c, .int .i64 (u : Nat)]) /\ RdE anyB w' (.slice A l.length c) l) /\ Below w.heap.size w w' := by
 have := ygq h hs h0 hI hl
 unfold FirstIs at this; rw [hr] at this; exact this
set_option maxHeartbeats 1000000 in
theorem yda {F : Nat -> Prop} {w : World} {p : Nat} {L : List PE} (h : TabAt F w p L) (b : ByteArray) (hb : b.size <= 100000) :
  Calls Tryz.prog 23 #[.pointer (some ⟨p, 0, none⟩), .string b] w (GotE w.heap.size w (elsP L (T2.sgs b.data.toList))) := by
 have HS := zH (T2.yfw b w (by omega))
 have hsg := T2.sgs_sg b.data.toList; have hln := T2.yer b.data.toList; have hbl := T2.ba_len b; obtain ⟨ss, hss⟩ : ∃ ss, T2.sgs b.data.toList = ss := ⟨_, rfl⟩; rw [hss] at HS hsg hln |-
 have hsl : ss.length <= 100000 := by omega
 have HT := zH h; have HG := zH hsg; clear h hsg hln hbl hss hb
 go_enter Tryz.func23, Tryz.ntmps23
 go_wp2_with (go_at_call 52; refine (HS.out).mono ?_; rintro e w1 ⟨v1, rfl, ho, hb⟩; obtain ⟨A0, c0, rfl⟩ := (ybr (F := anyB) ho (fun _ _ => trivial)).form; have HRS := zH (ywu ho); have HB1 := zH hb; clear ho hb)
 clear HS
 go_loopw [5, 6] (fun u v wr => ∃ (rest : List Int) (acc : List Nat) (A : Option Addr) (c : Nat), v = .slice A rest.length c /\ Hid (RdI (fun g => g < w1.heap.size) wr (.slice A rest.length c) rest) /\ Hid (rest.all T2.isSg = true) /\ Hid (OwnE w1.heap.size wr u acc) /\ Hid (acc ++ elsP L rest = elsP L ss) /\ acc.length + 8 * rest.length <= 8 * ss.length /\ Hid (Below w1.heap.size w1 wr)) (fun _ v _ => match v with | .slice _ n _ => n | _ => 0)
 case atStart => exact ⟨ss, [], A0, c0, rfl, HRS.out, HG.out, World.ownsRow_nil _ _ _ _, rfl, by simp, zR _ _⟩
 case round =>
  clear HRS HG; obtain ⟨rest, acc, A, c, rfl, HR, HG, HO, HE, hlen, HB⟩ := hrel; have HW := zH (HB1.out.trans (HB.out.mono HB1.out.size))
  by_cases h0 : 0 < rest.length
  ·have HTw := zH (HT.out.below HW.out (zN _)); obtain ⟨R, hR⟩ : ∃ R, atP L rest = R := ⟨_, rfl⟩; obtain ⟨l, u⟩ := R; have hu := ydj L h0; have hg := yel HT.out.good rest; have hst := ycz L h0; rw [hR] at hu hg hst
   simp only at hu hg hst
   have HC := zH (ymm hR HTw.out HR.out h0 (sg_i64 HG.out) (by omega))
   have HE2 : Hid ((acc ++ l) ++ elsP L (rest.drop u) = elsP L ss) := by show _ = _; rw [List.append_assoc, <- hst]; exact HE.out
   have hcap := (RdF.cap HR.out).1; obtain ⟨g, o, rfl, -⟩ := RdF.base HR.out h0; obtain ⟨A2, hA2⟩ : ∃ A2, (if c = u then some (⟨g, o, none⟩ : Addr) else some ⟨g, o + u, none⟩) = A2 := ⟨_, rfl⟩
   have HR2 : Hid (RdI (fun g => g < w1.heap.size) wr (.slice A2 (rest.length - u) (c - u)) (rest.drop u)) := RdI.drop HR.out hu.2.1 (fun ad e => by cases e; rw [Addr.add_lit]; exact hA2)
   have HG2 := zH (yvx HG.out u)
   have HLD : Hid ((rest.drop u).length = rest.length - u) := List.length_drop
   have u1 : (1 : Int) <= (u : Int) := by omega
   have u2 : (u : Int) <= (rest.length : Int) := by omega
   have u3 : (rest.length : Int) <= (c : Int) := by omega
   have u4 : (0 : Int) < (rest.length : Int) := by omega
   have hll : l.length <= 8 := hg.1
   have hu2 := hu.2.1; have hu1 := hu.1
   have HLL : Hid (acc.length + l.length <= 100000000) := by show _ <= _; omega
   clear hR hu hg hst hcap
   go_wp2_with (first
    | (go_at_call 53; refine (HC.out).mono ?_; rintro e w2 ⟨⟨A3, c3, rfl, hr⟩, hb⟩; have HRL := zH hr; have HB2 := zH hb; have HO2 := zH (HO.out.below hb (zN _)); have HW2 := zH (HB.out.trans (hb.mono HB.out.size)); clear hr hb)
    | (at_builtin; refine appendE rfl (.tmp 20) (.tmp 21) rfl _ w1.heap.size _ acc l rfl HO2.out rfl HRL.out HW2.out.size HLL.out ?_; intro v4 w4 h4 hb4; have HO4 := zH h4; have HW4 := zH (HW2.out.trans hb4); have HR4 := zH (HR2.out.keep ((HB2.out.mono HB.out.size).trans hb4)); clear h4 hb4))
   go_roundw
   case rel => exact ⟨rest.drop u, acc ++ l, A2, c - u, by rw [HLD.out], by rw [HLD.out]; exact HR4.out, HG2.out, HO4.out, HE2.out, by rw [HLD.out, List.length_append]; omega, HW4.out⟩
   case measure => simp; omega
  ·have hr0 : rest = [] := List.eq_nil_of_length_eq_zero (by omega)
   subst hr0
   have HEE : Hid (acc = elsP L ss) := by have := HE.out; rw [ycb, List.append_nil] at this; exact this
   clear h0 HE
   go_wp2
   go_ret
   exact ⟨_, rfl, by rw [<- HEE.out]; exact R4.yaw HO.out HB1.out.size, HW.out⟩
theorem ykl {M M' : List ME} (hp : M.Perm M') (e : pls M = rawP) (hs : SortedM M') : pls M' = rootP := by
 have h1 : (pls M').Perm rootP := ((hp.symm.map ME.pl).trans (by unfold pls at e; rw [e])).trans root_perm
 refine ysx h1 ?_ root_srt
 have h2 : (pls M').Pairwise fun a b => a.1 ≠ b.1 := (List.Perm.pairwise_iff (R := fun a b : PE => a.1 ≠ b.1) (fun {x y} h => h.symm) h1).2 (root_srt.imp fun {a b} h => ord_ne h)
 have h3 : (pls M').Pairwise fun a b => ¬ ord b.1 a.1 < 0 := by
  unfold pls; rw [List.pairwise_map]; exact hs
 exact (h2.and h3).imp fun {a b} h => ykv h.2 (fun c => h.1 c.symm)
def RootIs (w : World) (e : Ending) (w' : World) : Prop := ∃ p, e = .returned (.pointer (some ⟨p, 0, none⟩)) /\ TabAt (fun k => w.heap.size <= k) w' p rootP /\ Below w.heap.size w w'
theorem ysy {w w1 : World} {e : Ending} (h : RawIs w e w1) : ∃ A n c, e = .returned (.slice A n c) /\ Calls Tryz.prog 28 #[.slice A n c, .func (.func 29) #[] #[]] w1 fun e w' => e = .returned (.tuple #[]) /\ RdT (fun k => w.heap.size <= k) w' (.slice A n c) rootP /\ Below w.heap.size w w' := by
 obtain ⟨v, M, B, rfl, e, ho, hM, h1, h2, hb⟩ := h; obtain ⟨A, c, rfl⟩ := ho.form; refine ⟨A, M.length, c, rfl, ?_⟩
 have hl : M.length = 132 := by rw [<- yao, e]; exact ypz
 have hmem : ∀ m ∈ M, EntOk (fun g => g < B) w1 m /\ 1 <= m.s.length /\ m.s.length <= 3 := fun m hm => by
  refine ⟨(hM m hm).mono fun k hk => hk.2, ?_⟩
  have h3 : m.pl ∈ rawP := by rw [<- e]; exact List.mem_map.2 ⟨m, hm, rfl⟩
  have h4 := root_good.seq m.pl ((root_perm.mem_iff).1 h3); exact ⟨h4.1, h4.2.1⟩
 refine (yib ho (by omega) (by omega) h2 hmem).mono fun e' w' => ?_
 rintro ⟨he, M', hp, hs, hr, hb2⟩; refine ⟨he, ⟨M', ykl hp e hs, ?_⟩, hb.trans (hb2.mono h1)⟩; refine ⟨?_, fun m hm => ?_⟩
 ·exact hr
 ·have hk := hM m ((hp.mem_iff).2 hm); exact (hk.frame fun g hg hlt => hb2.block g hg.2).mono fun k hk => hk.1
theorem yie (w : World) : Calls Tryz.prog 13 #[] w (RootIs w) := by
 go_enter Tryz.func13, Tryz.ntmps13
 go_wp2_with (first
  | (go_at_call 27; refine (yga _).mono ?_; rintro e w1 h; obtain ⟨A, n, c, rfl, hs⟩ := ysy h; have HS := zH hs; clear h hs)
  | (go_at_call 28; refine (HS.out).mono ?_; rintro e w2 ⟨rfl, hr, hb⟩; have HR := zH hr; have HB := zH hb; clear hr hb)
  | (go_at_call 30; refine (yek HR.out root_good).mono ?_; rintro e w3 ⟨p, rfl, ht, hb⟩; have HT := zH ht; have HB3 := zH (HB.out.trans (hb.mono HB.out.size)); clear ht hb))
 go_ret
 exact ⟨p, rfl, HT.out, HB3.out⟩
end Go.Proofs.YtichfdjjbafeiaaGreat
