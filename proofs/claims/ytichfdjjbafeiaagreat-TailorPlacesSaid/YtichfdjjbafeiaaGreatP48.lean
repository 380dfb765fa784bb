/-
  PACKED for a claim.
-/
import Derived.Test.YtichfdjjbafeiaaGreatP46
set_option linter.unusedVariables false
set_option linter.unusedSimpArgs false
set_option maxRecDepth 100000
namespace Go.Proofs.YtichfdjjbafeiaaGreat.S6
open Go.RowKit
open T2 (gb dec one isSg isPt sgs)
def spcB (c : Int) : Bool := decide (c = 32) || decide (c = 10) || decide (c = 38) || decide (c = 60) || decide (c = 61) || decide (c = 47)
end Go.Proofs.YtichfdjjbafeiaaGreat.S6
namespace Go.Proofs.YtichfdjjbafeiaaGreat.S6
open T2 (gb dec one isSg isPt sgs)
def esc (c : Int) : Bool := spcB c || decide (c = 92)
def wr1 (c : Int) : List UInt8 := (if esc c = true then [92] else []) ++ T2.one c.toNat
def wrd (l : List Int) : List UInt8 := l.flatMap wr1
def ruleT (x : RV) : List UInt8 := mk x.rel.toNat ++ [32] ++ wrd x.seq ++ (if x.exp.length = 0 then [] else [32, 47, 32] ++ wrd x.exp)
def txt : List RV -> List UInt8
 | [] => []
 | [x] => ruleT x
 | x :: y :: t => ruleT x ++ [32] ++ txt (y :: t)
def okR (x : RV) : Bool := decide (1 <= x.rel) && decide (x.rel <= 5) && x.seq.all isSg && x.exp.all isSg
def good (l : List RV) : Bool := l.all okR && decide ((parse (txt l)).2.2 = 0) && decide ((parse (txt l)).1 = l)
theorem yqh (L : List UInt8) : ∀ (f : Nat) (out : List RV) (k : Nat), k <= L.length -> out.all okR = true -> (parD L f out k).1.all okR = true
 | 0, out, k, hk, ho => by rw [parD]; rfl
 | f + 1, out, k, hk, ho => by
  rw [parD]
  split
  ·split
   ·rfl
   ·exact ho
  ·split
   ·rfl
   ·split
    ·rfl
    ·split
     ·rfl
     ·rename_i h0 h1 h2 h3
      have hw := ybo (L.drop k); rw [List.length_drop] at hw
      have hw : 1 <= (relD (L.drop k)).1 /\ (relD (L.drop k)).1 <= 5 /\ 1 <= (relD (L.drop k)).2 /\ (relD (L.drop k)).2 <= L.length - k := by
       rcases hw with hw | hw
       ·rw [hw] at h1; exact absurd (Or.inl rfl) h1
       ·omega
      have hc : k + (relD (L.drop k)).2 <= L.length := by omega
      have hq := yfx hc; have hx := yrq (r := (relD (L.drop k)).1) hq.2; have ha := af_le hx.2; refine yqh L f _ _ ha.2 ?_; rw [List.all_append, ho, Bool.true_and]; simp only [List.all_cons, List.all_nil, Bool.and_true, okR, Bool.and_eq_true, decide_eq_true_eq]; refine ⟨⟨⟨by omega, by omega⟩, (ygt L 3 [] _ rfl rfl (by simpa [seqD] using h2)).1⟩, ?_⟩
      unfold expD at h3 |-
      split
      ·rename_i h5
       rw [if_pos h5] at h3; exact (ygt L 3 [] _ rfl rfl (by simpa [seqD] using h3)).1
      ·rfl
theorem yqg (L : List UInt8) : (parse L).1.all okR = true := yqh L _ _ _ (af_le (L := L) (k := 0) (Nat.zero_le _)).2 rfl
end Go.Proofs.YtichfdjjbafeiaaGreat.S6
namespace Go.Proofs.YtichfdjjbafeiaaGreat.S6
open Go.RowKit
def RVs (l : List RV) : Prop := l.length <= 60 /\ ∀ x ∈ l, x.seq.length <= 20 /\ x.exp.length <= 20
theorem RdRs.cap {w : World} {A : Option Addr} {n c : Nat} {L : List RV} (h : RdRs w (.slice A n c) L) : n <= c := by
 obtain ⟨M, -, h⟩ := h
 have := RdF.cap h.1
 omega
theorem RdRs.at' {w : World} {A : Option Addr} {n c : Nat} {L : List RV} (h : RdRs w (.slice A n c) L) {k : Nat} {x : RV} (hk : L[k]? = some x) :
  ∃ (g o : Nat) (A1 : Option Addr) (n1 c1 : Nat) (A2 : Option Addr) (n2 c2 : Nat), A = some ⟨g, o, none⟩ /\ w.cell? ⟨g, o + k * 3, none⟩ = some (.int .i64 x.rel) /\ w.cell? ⟨g, o + k * 3 + 1, none⟩ = some (.slice A1 n1 c1) /\ w.cell? ⟨g, o + k * 3 + 2, none⟩ = some (.slice A2 n2 c2) ∧
   RdI anyB w (.slice A1 n1 c1) x.seq /\ RdI anyB w (.slice A2 n2 c2) x.exp /\ n1 = x.seq.length /\ n2 = x.exp.length := by
 obtain ⟨g, o, vs, ve, e, h0, h1, h2, s1, s2⟩ := h.at hk; obtain ⟨A1, c1, rfl⟩ := s1.form; obtain ⟨A2, c2, rfl⟩ := s2.form; exact ⟨g, o, A1, _, c1, A2, _, c2, e, h0, h1, h2, s1, s2, rfl, rfl⟩
theorem ylz {B : Nat} {w : World} {v : Value} {l : List Int} (h : T2.OwnI B w v l) : ∃ A c, v = .slice A l.length c := by
 obtain ⟨A, c, e, _⟩ := R4.yaf h; exact ⟨A, c, e⟩
theorem yjz {ops : Array Oper} {o : Oper} {ts : Array Value} {df : List Deferred} {w : World} {K : Act -> World -> Prop} {Q : Exit -> Act -> World -> Prop} {Z : Prop} (hgd : o.guard = none) (s x : Operand) (d : Nat) (hd : o.dst = some d)
  (ho : o.op = .call { callee := .builtin .append, args := #[s, x], argTypes := #[22, 22] })
  (B g0 : Nat) (m : List Int) {A : Option Addr} {n C : Nat} (hn : m.length = n) (hs : (Act.mk ts df).eval s = .slice (some ⟨g0, 0, none⟩) 0 0) (hx : (Act.mk ts df).eval x = .slice A n C) (hown : T2.OwnI B w (.slice (some ⟨g0, 0, none⟩) 0 0) []) (hsrc : RdI anyB w (.slice A n C) m)
  (hB : B <= w.heap.size) (hl : n <= 1000)
  (h : ∀ v' w', T2.OwnI B w' v' m -> Below w.heap.size w w' -> K ⟨ts.setIfInBounds d v', df⟩ w') :
  if Region.wanted o (yielded ops ts) = true then Oper.wp Tryz.prog o ⟨ts, df⟩ w K Q else Z := by
 subst hn
 have hw : Region.wanted o (yielded ops ts) = true := by simp [Region.wanted, hgd]
 rw [if_pos hw]; obtain ⟨i0, hi0, hz0, hz1, hz2⟩ := info_parts yef
 by_cases h0 : m.length = 0
 ·obtain rfl : m = [] := List.eq_nil_of_length_eq_zero h0
  have hrun : (Builtin.append_ #[22, 22] o.type #[.slice (some ⟨g0, 0, none⟩) 0 0, .slice A 0 C]).run Tryz.prog w = .ok (.slice (some ⟨g0, 0, none⟩) 0 0) w := by
   cases A <;> simp [Builtin.append_, run_underlying Tryz.underlying22, sizeOf, typeInfo, hi0, Builtin.lenOf, Builtin.firstCells, storeCells, loadCells, loadCellsFrom, Sem.run, Result.andThen, pure]
  have hx' : (Act.mk ts df).eval x = .slice A 0 C := hx
  unfold Oper.wp
  simp [execOp, ho, resolve, invoke, builtin, hs, hx', hrun, Result.andThen]
  have hk : K ((Act.mk ts df).put o.dst (.slice (some ⟨g0, 0, none⟩) 0 0)) w := by rw [hd]; exact h _ w hown (zR _ _)
  exact hk
 ·obtain ⟨g, o', e, -, hcell⟩ := RdF.base hsrc (by omega)
  subst e
  have hcs : ∀ j u, (iv m)[j]? = some u -> w.cell? ((⟨g, o', none⟩ : Addr).add j) = some u := fun j u hu => by rw [Addr.add_lit]; exact hcell j u hu
  obtain ⟨v', w', hrun, h2, h3, -, -⟩ := run_append_own_at (P := Tryz.prog) (w := w) B 22 o.type 3 i0 _ 1 8 Tryz.underlying22 hi0 hz0 hz1 hz2 rfl (by omega) (.slice (some ⟨g0, 0, none⟩) 0 0) 0 [] hown
   ⟨g, o', none⟩ m.length C (iv m) (by rw [iv_len]; omega) hcs (by intro u hu; obtain ⟨k, _, rfl⟩ := List.mem_map.1 hu; rfl) (by simp only [maxLen]; omega) (by omega) hB
  have hnx : Builtin.nextslicecap (0 + m.length) 0 = m.length := by rw [Nat.zero_add]; exact nextslicecap_zero (by omega)
  have hrun2 := run_append_grow (P := Tryz.prog) (w := w) 22 o.type 3 i0 _ Tryz.underlying22 hi0 hz0 ⟨g0, 0, none⟩ 0 0 [] (by simp) (by simp) ⟨g, o', none⟩ m.length C (iv m) (by rw [iv_len, hz1]; omega) hcs (by omega) (by omega) (by rw [hnx, hz2]; omega)
  have hbl : Below w.heap.size w w' := by
   rw [hrun] at hrun2
   injection hrun2 with e1 e2
   rw [e2]; exact ((zR _ w).drew).alloc (zN _) _
  unfold Oper.wp
  simp [execOp, ho, resolve, invoke, builtin, hs, hx, hrun, Result.andThen]
  have hk : K ((Act.mk ts df).put o.dst v') w' := by
   rw [hd]; refine h v' w' ?_ hbl; unfold T2.OwnI; rw [show m.length = 0 + m.length by omega]; exact h2
  exact hk
def SV.emp (B : Nat) : SV := ⟨fun v w => ∃ g0 : Nat, v = .slice (some ⟨g0, 0, none⟩) 0 0 /\ T2.OwnI B w v [], fun v w w' h hb => by
 obtain ⟨g0, h1, h2⟩ := h; exact ⟨g0, h1, OwnI.below h2 hb (zN _)⟩⟩
def SV.own (B : Nat) (l : List Int) : SV := ⟨fun v w => T2.OwnI B w v l, fun v w w' h hb => OwnI.below h hb (zN _)⟩
def RulV (B : Nat) (r : Int) (s e : List Int) (v : Value) (w : World) : Prop := ∃ (A1 : Option Addr) (c1 : Nat) (A2 : Option Addr) (c2 : Nat), v = .agg #[.int .i64 r, .slice A1 s.length c1, .slice A2 e.length c2] /\ T2.OwnI B w (.slice A1 s.length c1) s /\ T2.OwnI B w (.slice A2 e.length c2) e
def SV.rul (B : Nat) (r : Int) (s e : List Int) : SV := ⟨RulV B r s e, fun v w w' h hb => by
 obtain ⟨A1, c1, A2, c2, h1, h2, h3⟩ := h; exact ⟨A1, c1, A2, c2, h1, OwnI.below h2 hb (zN _), OwnI.below h3 hb (zN _)⟩⟩
def RowV (B : Nat) (x : RV) (v : Value) (w : World) : Prop := ∃ (m : MR) (g1 : Nat), m.pl = x /\ v = .slice (some ⟨g1, 0, none⟩) 1 1 /\ RdF anyB w (.slice (some ⟨g1, 0, none⟩) 1 1) 1 (rcells [m]) /\ T2.OwnI B w m.vs m.s /\ T2.OwnI B w m.ve m.e
def SV.row (B : Nat) (x : RV) : SV := ⟨RowV B x, fun v w w' h hb => by
 obtain ⟨m, g1, h1, h2, h3, h4, h5⟩ := h; exact ⟨m, g1, h1, h2, h3.below hb (zN _), OwnI.below h4 hb (zN _), OwnI.below h5 hb (zN _)⟩⟩
theorem yti {B : Nat} {w : World} {A1 A2 : Option Addr} {n1 c1 n2 c2 : Nat} {r : Int} {s e : List Int} (h1 : T2.OwnI B w (.slice A1 n1 c1) s) (h2 : T2.OwnI B w (.slice A2 n2 c2) e) (T : TypeId) :
  RowV B ⟨r, s, e⟩ (.slice (some ⟨w.heap.size, 0, none⟩) 1 1) (w.alloc (.cells #[.int .i64 r, .slice A1 n1 c1, .slice A2 n2 c2] T)) :=
 ⟨⟨r, .slice A1 n1 c1, .slice A2 n2 c2, s, e⟩, w.heap.size, rfl, rfl, RdF.new (n := 1) w (rcells [⟨r, .slice A1 n1 c1, .slice A2 n2 c2, s, e⟩]) T (zN 1), yas h1 _, yas h2 _⟩
theorem pushRd {T E : TypeId} {i : TypeInfo} (hT : Tryz.prog.underlying T = some (.slice E)) (hi : Tryz.prog.info? E = some i) (hz0 : i.zero = some (.agg #[.int .i64 0, .slice none 0 0, .slice none 0 0])) (hz1 : i.size = 3) (hz2 : i.bytes = 56) (hne : 3 ≠ E)
  {ops : Array Oper} {rest : List Oper} {o : Oper} {a : Act} {Q : Exit -> Act -> World -> Prop} (hgd : o.guard = none) (s x : Operand)
  (ho : o.op = .call { callee := .builtin .append, args := #[s, x], argTypes := #[T, T] })
  (w : World) (B : Nat) (v : Value) (M : List MR) (m : MR) {g1 : Nat} (hs : a.eval s = v) (hown : OwnR E B w v M) (hm : T2.OwnI B w m.vs m.s /\ T2.OwnI B w m.ve m.e) (hx : a.eval x = .slice (some ⟨g1, 0, none⟩) 1 1) (hsrc : RdF anyB w (.slice (some ⟨g1, 0, none⟩) 1 1) 1 (rcells [m]))
  (hB : B <= w.heap.size) (hl : M.length + 1 <= 1000000)
  (h : ∀ v' w', OwnR E B w' v' (M ++ [m]) -> Below B w w' -> wpList Tryz.prog ops Q rest (a.put o.dst v') w') : wpList Tryz.prog ops Q (o :: rest) a w := by
 refine appendG hT hi hz0 hz1 hz2 rfl (by omega) (by omega) hgd s x ho _ B v M.length (rcells M) hs hown.row hx hsrc (by rw [yhg]; rfl) ?_ hB hl ?_
 ·intro u hu; rw [show rcells [m] = [.int .i64 m.r, m.vs, m.ve] from rfl] at hu
  simp only [List.mem_cons, List.not_mem_nil, or_false] at hu
  rcases hu with rfl | rfl | rfl
  ·rfl
  ·exact yii hm.1
  ·exact yii hm.2
 ·intro v' w' h1 h2 h3; refine h v' w' ⟨?_, fun p hp => ?_⟩ h3
  ·rw [yhh, List.length_append]; exact h1
  ·rcases List.mem_append.1 hp with hp | hp
   ·exact ⟨ybz (m := 0) (hown.els p hp).1 hown.row hne h2, ybz (m := 0) (hown.els p hp).2 hown.row hne h2⟩
   ·simp only [List.mem_cons, List.not_mem_nil, or_false] at hp; subst hp; exact ⟨ybz (m := 0) hm.1 hown.row hne h2, ybz (m := 0) hm.2 hown.row hne h2⟩
set_option maxHeartbeats 8000000 in
theorem of_any {w : World} {v : Value} {l : List RV} (h : RdRs w v l) (hl : RVs l) :
  Calls Tryz.prog 15 #[v] w fun e w' => (∃ v', e = .returned v' /\ RdRs w' v' l) /\ Below w.heap.size w w' := by
 obtain ⟨A, c, rfl⟩ := h.form; have HV := zH h; obtain ⟨n, hn⟩ : ∃ n, l.length = n := ⟨_, rfl⟩
 have hn60 : n <= 60 := by rw [<- hn]; exact hl.1
 rw [hn] at HV |-; have hcap := HV.out.cap; have HN := zH hn; have HRS := zH hl; have HB0 := zH (zR w.heap.size w); obtain ⟨i0, hi0, hz0, hz1, hz2⟩ := info_parts yea; have HI0 := zH (And.intro hi0 (And.intro hz0 (And.intro hz1 hz2))); clear h hn hl hi0 hz0 hz1 hz2
 go_enter Tryz.func15, Tryz.ntmps15
 go_wp2
 go_loopg [3, 4] n (fun f lv i wr => ∃ (k : Nat) (M : List MR), k <= n /\ i = .int .i64 (k : Nat) /\ f = n - k /\ Hid (pls M = l.take k) /\ Hid (OwnR 81 w.heap.size wr lv M) /\ Hid (Below w.heap.size w wr))
 case atStart => exact ⟨0, [], Nat.zero_le _, rfl, rfl, rfl, OwnR.nil _ _ _, HB0.out⟩
 case round =>
  obtain ⟨k, M, hk, rfl, rfl, HM, HO, HW⟩ := hrel; clear HB0; obtain ⟨wo, rfl⟩ : ∃ wo, wo = wr := ⟨_, rfl⟩; obtain ⟨Aw, cw, rfl⟩ := HO.out.form; obtain ⟨nw, hnw⟩ : ∃ m, M.length = m := ⟨_, rfl⟩
  have hml : nw <= 60 := by rw [<- hnw, <- yao, HM.out, List.length_take, HN.out]; omega
  have HNW := zH hnw; rw [hnw] at HO |-; clear hnw
  by_cases hlt : k < n
  ·obtain ⟨x, hx⟩ : ∃ x, l[k]? = some x := ⟨_, List.getElem?_eq_getElem (by rw [HN.out]; exact hlt)⟩
   obtain ⟨g, o, A1, n1, p1, A2, n2, p2, rfl, c0, c1, c2, r1, r2, rfl, rfl⟩ := HV.out.at' hx
   replace c0 := (HW.out.cell (yag c0)).trans c0
   replace c1 := (HW.out.cell (yag c1)).trans c1
   replace c2 := (HW.out.cell (yag c2)).trans c2
   replace r1 := RdI.below r1 HW.out (zN _)
   replace r2 := RdI.below r2 HW.out (zN _)
   have hxm := HRS.out.2 x (List.mem_of_getElem? hx)
   have hltI : (k : Int) < (n : Int) := by omega
   have hkc : (k : Int) < (c : Int) := by omega
   have HNX : Hid (l.take (k + 1) = l.take k ++ [x]) := by show _ = _; rw [List.take_add_one, hx]; rfl
   obtain ⟨xr, xs, xe⟩ := x; obtain ⟨es, hes⟩ : ∃ z, xs.length = z := ⟨_, rfl⟩; obtain ⟨ee, hee⟩ : ∃ z, xe.length = z := ⟨_, rfl⟩; simp only [hes, hee] at c0 c1 c2 r1 r2 hxm; have HES := zH hes; have HEE := zH hee; have HX1 := zH r1; have HX2 := zH r2; have HC0 := zH c0; have HC1 := zH c1; have HC2 := zH c2
   have hes1 : es <= 1000 := by omega
   have hee1 : ee <= 1000 := by omega
   have HBo := zH HW.out.size; clear hx r1 r2 hes hee c0 c1 c2 hlt hxm
   go_upto_region 5 with (fail)
   refine ybc (m := 22) [11, 12, 13, 14, 15, 16, 17, 18, 19, 20, 21, 22, 23, 24, 25, 26, 27, 28, 29, 30, 31, 32] [SV.eq (.slice Aw nw cw), SV.eq (.slice (some ⟨g, o, none⟩) n c), SV.eq (.int .i64 (k : Int)), SV.eq (.pointer (some ⟨g, o + k * 3, none⟩)), SV.eq (.pointer (some ⟨g, o + k * 3, none⟩)), SV.eq (.int .i64 xr), SV.emp w.heap.size, SV.eq (.slice (some ⟨g, o, none⟩) n c), SV.eq (.int .i64 (k : Int)), SV.eq (.pointer (some ⟨g, o + k * 3, none⟩)), SV.eq (.pointer (some ⟨g, o + k * 3 + 1, none⟩)), SV.eq (.slice A1 es p1), SV.own w.heap.size xs, SV.emp w.heap.size, SV.eq (.slice (some ⟨g, o, none⟩) n c), SV.eq (.int .i64 (k : Int)), SV.eq (.pointer (some ⟨g, o + k * 3, none⟩)), SV.eq (.pointer (some ⟨g, o + k * 3 + 2, none⟩)), SV.eq (.slice A2 ee p2), SV.own w.heap.size xe, SV.rul w.heap.size xr xs xe, SV.row w.heap.size ⟨xr, xs, xe⟩] (by kernel_rfl) (by kernel_rfl) ?_ ?_
   ·refine ⟨⟨⟨⟨⟨⟨⟨⟨⟨⟨⟨⟨⟨⟨⟨⟨⟨⟨⟨⟨⟨⟨trivial, ?_⟩, ?_⟩, ?_⟩, ?_⟩, ?_⟩, ?_⟩, ?_⟩, ?_⟩, ?_⟩, ?_⟩, ?_⟩, ?_⟩, ?_⟩, ?_⟩, ?_⟩, ?_⟩, ?_⟩, ?_⟩, ?_⟩, ?_⟩, ?_⟩, ?_⟩
    all_goals (refine OpIs.mk rfl ?_; intro vs w1 hb hd K hK; simp only [frameV, zS, zA, zB, zC, zD] at hK |-)
    iterate 3 (·have HK := zH hK; clear hK; go_simp; exact HK.out _ _ rfl (zR _ _))
    ·have d1 : vs 1 = .slice (some ⟨g, o, none⟩) n c := hd 1 (by kernel_rfl)
     have d2 : vs 2 = .int .i64 (k : Int) := hd 2 (by kernel_rfl)
     simp only [d1, d2] at hK |-; have HK := zH hK; clear hK; go_simp; exact HK.out _ _ rfl (zR _ _)
    ·have d3 : vs 3 = .pointer (some ⟨g, o + k * 3, none⟩) := hd 3 (by kernel_rfl)
     simp only [d3] at hK |-; have HK := zH hK; clear hK; go_simp; exact HK.out _ _ rfl (zR _ _)
    ·have d4 : vs 4 = .pointer (some ⟨g, o + k * 3, none⟩) := hd 4 (by kernel_rfl)
     have c0 := yae hb HC0.out; simp only [d4] at hK |-; have HK := zH hK; clear hK; go_simp; exact HK.out _ _ rfl (zR _ _)
    ·have HK := zH hK; clear hK; go_simp; exact HK.out _ _ ⟨_, rfl, yji w1 _ 1 (Nat.le_trans HBo.out hb.size)⟩ (yab w1 _)
    iterate 2 (·have HK := zH hK; clear hK; go_simp; exact HK.out _ _ rfl (zR _ _))
    ·have d7 : vs 7 = .slice (some ⟨g, o, none⟩) n c := hd 7 (by kernel_rfl)
     have d8 : vs 8 = .int .i64 (k : Int) := hd 8 (by kernel_rfl)
     simp only [d7, d8] at hK |-; have HK := zH hK; clear hK; go_simp; exact HK.out _ _ rfl (zR _ _)
    ·have d9 : vs 9 = .pointer (some ⟨g, o + k * 3, none⟩) := hd 9 (by kernel_rfl)
     simp only [d9] at hK |-; have HK := zH hK; clear hK; go_simp; exact HK.out _ _ rfl (zR _ _)
    ·have d10 : vs 10 = .pointer (some ⟨g, o + k * 3 + 1, none⟩) := hd 10 (by kernel_rfl)
     have c0 := yae hb HC1.out; simp only [d10] at hK |-; have HK := zH hK; clear hK; go_simp; exact HK.out _ _ rfl (zR _ _)
    ·have d6 : ∃ g0 : Nat, ((vs 6)) = .slice (some ⟨g0, 0, none⟩) 0 0 /\ T2.OwnI w.heap.size w1 ((vs 6)) [] := hd 6 (by kernel_rfl)
     have d11 : vs 11 = .slice A1 es p1 := hd 11 (by kernel_rfl)
     have q0 := Exists.choose_spec d6; generalize Exists.choose d6 = g0 at q0; have q1 := q0.1; have q2 := q0.2; rw [q1] at q2; clear q0 d6; simp only [q1, d11] at hK |-; refine yjz rfl (.tmp 17) (.tmp 22) 23 rfl rfl w.heap.size g0 xs HES.out rfl rfl q2 (RdI.below HX1.out hb (zN _)) (Nat.le_trans HBo.out hb.size) hes1 ?_; intro v' w' h1 h2; simp only [zS, zA, zB]; exact hK v' w' h1 h2
    ·have HK := zH hK; clear hK; go_simp; exact HK.out _ _ ⟨_, rfl, yji w1 _ 1 (Nat.le_trans HBo.out hb.size)⟩ (yab w1 _)
    iterate 2 (·have HK := zH hK; clear hK; go_simp; exact HK.out _ _ rfl (zR _ _))
    ·have d14 : vs 14 = .slice (some ⟨g, o, none⟩) n c := hd 14 (by kernel_rfl)
     have d15 : vs 15 = .int .i64 (k : Int) := hd 15 (by kernel_rfl)
     simp only [d14, d15] at hK |-; have HK := zH hK; clear hK; go_simp; exact HK.out _ _ rfl (zR _ _)
    ·have d16 : vs 16 = .pointer (some ⟨g, o + k * 3, none⟩) := hd 16 (by kernel_rfl)
     simp only [d16] at hK |-; have HK := zH hK; clear hK; go_simp; exact HK.out _ _ rfl (zR _ _)
    ·have d17 : vs 17 = .pointer (some ⟨g, o + k * 3 + 2, none⟩) := hd 17 (by kernel_rfl)
     have c0 := yae hb HC2.out; simp only [d17] at hK |-; have HK := zH hK; clear hK; go_simp; exact HK.out _ _ rfl (zR _ _)
    ·have d13 : ∃ g0 : Nat, ((vs 13)) = .slice (some ⟨g0, 0, none⟩) 0 0 /\ T2.OwnI w.heap.size w1 ((vs 13)) [] := hd 13 (by kernel_rfl)
     have d18 : vs 18 = .slice A2 ee p2 := hd 18 (by kernel_rfl)
     have q0 := Exists.choose_spec d13; generalize Exists.choose d13 = g0 at q0; have q1 := q0.1; have q2 := q0.2; rw [q1] at q2; clear q0 d13; simp only [q1, d18] at hK |-; refine yjz rfl (.tmp 24) (.tmp 29) 30 rfl rfl w.heap.size g0 xe HEE.out rfl rfl q2 (RdI.below HX2.out hb (zN _)) (Nat.le_trans HBo.out hb.size) hee1 ?_; intro v' w' h1 h2; simp only [zS, zA, zB]; exact hK v' w' h1 h2
    ·have d5 : vs 5 = .int .i64 xr := hd 5 (by kernel_rfl)
     have d12 : T2.OwnI w.heap.size w1 (vs 12) xs := hd 12 (by kernel_rfl)
     have d19 : T2.OwnI w.heap.size w1 (vs 19) xe := hd 19 (by kernel_rfl)
     have q0 := ylz d12; have q1 := Exists.choose_spec q0; generalize Exists.choose q0 = B1 at q1; have q2 := Exists.choose_spec q1; generalize Exists.choose q1 = k1 at q2; have q3 := ylz d19; have q4 := Exists.choose_spec q3; generalize Exists.choose q3 = B2 at q4; have q5 := Exists.choose_spec q4; generalize Exists.choose q4 = k2 at q5; clear q0 q1 q3 q4; rw [q2] at d12; rw [q5] at d19; have D12 := zH d12; have D19 := zH d19; clear d12 d19; simp only [d5] at hK |-; simp only [q2, q5] at hK |-; have HK := zH hK; clear hK; go_simp; exact HK.out _ _ ⟨B1, k1, B2, k2, rfl, D12.out, D19.out⟩ (zR _ _)
    ·have d20 : RulV w.heap.size xr xs xe (vs 20) w1 := hd 20 (by kernel_rfl)
     have q1 := Exists.choose_spec d20; generalize Exists.choose d20 = B1 at q1; have q2 := Exists.choose_spec q1; generalize Exists.choose q1 = k1 at q2; have q3 := Exists.choose_spec q2; generalize Exists.choose q2 = B2 at q3; have q4 := Exists.choose_spec q3; generalize Exists.choose q3 = k2 at q4; have q5 := q4.1; have D12 := zH q4.2.1; have D19 := zH q4.2.2; clear q1 q2 q3 q4 d20; simp only [q5] at hK |-; have HK := zH hK; clear hK; go_simp; exact HK.out _ _ (yti D12.out D19.out _) (yab w1 _)
   ·intro vs w3 hb hd
    have d0 : vs 0 = .slice Aw nw cw := hd 0 (by omega)
    have d21 : RowV w.heap.size ⟨xr, xs, xe⟩ (vs 21) w3 := hd 21 (by omega)
    obtain ⟨m, g1, hm1, hm2, hm3, hm4, hm5⟩ := d21; have HO3 := zH (HO.out.below hb (zN _)); have HW3 := zH (HW.out.trans (hb.mono HW.out.size)); have HSR := zH hm3; have HMM := zH (And.intro hm4 hm5); have HPL := zH hm1
    have HLM : Hid (M.length + 1 <= 1000000) := by show _ <= _; rw [HNW.out]; omega
    simp only [frameV, zS, zA, zB, List.drop_succ_cons, List.drop_zero, d0, hm2]; clear hb hd hm1 hm3 hm4 hm5 d0 hm2
    go_wp2_with (at_builtin; refine pushRd Tryz.underlying36 HI0.out.1 HI0.out.2.1 HI0.out.2.2.1 HI0.out.2.2.2 (by decide) rfl (.tmp 11) (.tmp 32) rfl w3 w.heap.size _ M m rfl HO3.out HMM.out rfl HSR.out HW3.out.size HLM.out ?_; intro v4 w4 ho4 hb4; have HO4 := zH ho4; have HB4 := zH (HW3.out.trans hb4); clear ho4 hb4)
    go_roundg (n - (k + 1))
    case measure => omega
    case rel => exact ⟨k + 1, M ++ [m], by omega, by first | rfl | (congr 1), rfl, by show _ = _; rw [HNX.out, ybp, HM.out]; show _ = _ ++ [_]; rw [<- HPL.out]; rfl, HO4.out, HB4.out⟩
  ·have hltI : ¬ (k : Int) < (n : Int) := by omega
   have hkn : l.take k = l := List.take_of_length_le (by rw [HN.out]; omega)
   have hr := HO.out.rd; rw [HM.out, hkn] at hr; have HR := zH hr; clear hr hkn
   go_wp2
   go_ret
   exact ⟨⟨_, rfl, HR.out⟩, HW.out⟩
end Go.Proofs.YtichfdjjbafeiaaGreat.S6
