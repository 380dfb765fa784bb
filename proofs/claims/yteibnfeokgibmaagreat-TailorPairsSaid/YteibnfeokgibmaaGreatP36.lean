/-
  PACKED for a claim.
-/
import Derived.Deep.SlicePairs
import Derived.ChangeArms
import Derived.ChangeAt
import Derived.Test.YteibnfeokgibmaaGreatP34
import Derived.Test.YteibnfeokgibmaaGreatP35
set_option linter.unusedVariables false
set_option linter.unusedSimpArgs false
set_option maxRecDepth 100000
namespace Go.Proofs.YteibnfeokgibmaaGreat
open Go.RowKit
theorem TabAt.tight {F : Nat -> Prop} {w : World} {p : Nat} {L : List PE} (h : TabAt F w p L) : TabAt (fun k => F k /\ k < w.heap.size) w p L := by
 obtain ⟨hg, ve, bo, b2, b3, h1, ⟨M, e, h2, h2'⟩, h3, h4, h5⟩ := h; exact ⟨hg, ve, bo, b2, b3, h1, ⟨M, e, h2, fun m hm => (h2' m hm).lt⟩, h3, h4, h5⟩
def IsSl (u : Value) : Prop := ∃ A n c, u = .slice A n c
theorem yux {F : Nat -> Prop} {w : World} {M : List ME} (h : ∀ m ∈ M, EntOk F w m) {k : Nat} {m : ME} (hk : M[k]? = some m) : IsSl m.vs /\ IsSl m.vl := by
 have := h m (List.mem_of_getElem? hk)
 obtain ⟨A, c, e⟩ := this.1.form; obtain ⟨A', c', e'⟩ := this.2.form; exact ⟨⟨_, _, _, e⟩, ⟨_, _, _, e'⟩⟩
theorem TabAt.off {F : Nat -> Prop} {w w' : World} {p : Nat} {L : List PE} {b : Nat} {cs : Array Value} {T : TypeId} {fr : Nat × Nat} (h : TabAt F w p L) (hF : ∀ k, F k -> k ≠ b) (hg : w.grownBy w' (some b)) (hb : w.heap[b]? = some (.cells cs T fr)) (h0 : T ≠ 122) (h1 : T ≠ 252) (h2 : T ≠ 253) (h3 : T ≠ 225)
  (hrow : ∀ o u1 u2, IsSl u1 -> IsSl u2 -> w.cell? ⟨b, o, none⟩ = some u1 -> w.cell? ⟨b, o + 1, none⟩ = some u2 -> w'.cell? ⟨b, o, none⟩ = some u1 /\ w'.cell? ⟨b, o + 1, none⟩ = some u2) : TabAt F w' p L := by
 obtain ⟨hgd, ve, bo, b2, b3, e1, ⟨M, e, ⟨A, c, rfl, hc, hr⟩, hM⟩, e3, e4, e5⟩ := h
 have hmap : ∀ {kt n j}, KMap kt n w j L -> some j ≠ some b := fun hk hh => by
  injection hh with hh
  obtain ⟨es, cc, hm⟩ := hk.isMap; rw [hh, hb] at hm
  cases hm
 refine ⟨hgd, _, bo, b2, b3, (hg.block p (R4.yad e1) (by
  intro hh
  injection hh with hh
  rw [hh, hb] at e1
  injection e1 with e1
  injection e1 with _ e1 _
  exact h0 e1)).trans e1, ⟨M, e, ⟨A, c, rfl, hc, fun hn => ?_⟩, fun m hm => (hM m hm).frame fun k hk hl => hg.block k hl (by intro hh; injection hh with hh; exact hF k hk hh)⟩, yoh e3 hg hb h1 h2 h3, e4.kept hg (hmap e4), e5.kept hg (hmap e5)⟩
 obtain ⟨g, o, rfl, ht, hx⟩ := hr hn; refine ⟨g, o, rfl, ht, fun j u hu => ?_⟩
 by_cases hgb : g = b
 ·subst hgb; have hj := (List.getElem?_eq_some_iff.1 hu).1; rw [yaq] at hj
  have hm : M[j / 2]? = some (M[j / 2]'(by omega)) := List.getElem?_eq_getElem _
  obtain ⟨c1, c2⟩ := ycl hm; obtain ⟨s1, s2⟩ := yux hM hm; obtain ⟨r1, r2⟩ := hrow (o + j / 2 * 2) _ _ s1 s2 (hx _ _ c1) (by rw [Nat.add_assoc]; exact hx _ _ c2)
  rcases Nat.mod_two_eq_zero_or_one j with em | em
  ·rw [show j / 2 * 2 = j by omega] at c1 r1
   rw [c1] at hu; cases hu; exact r1
  ·rw [show j / 2 * 2 + 1 = j by omega] at c2
   rw [show o + j / 2 * 2 + 1 = o + j by omega] at r2
   rw [c2] at hu; cases hu; exact r2
 ·have hcell := hx j u hu; rw [World.cell?_of_block (w := w) (a := ⟨g, o + j, none⟩) (hg.block g (yaj hcell) (by intro hh; injection hh with hh; exact hgb hh))]
  exact hcell
structure ZS (w4 : World) (gx m : Nat) (wq : World) : Prop where
 gr : w4.grownBy wq (some gx)
 keep : ∀ p u, IsSl u -> w4.cell? p = some u -> wq.cell? p = some u
 row : 0 < m -> ∃ cs, wq.heap[gx]? = some (.cells cs 168 (0, 0)) /\ m <= cs.size /\ ∀ i, i < m -> ∃ y, cs[i]? = some (.int .u32 y)
 zero : m = 0 -> wq = w4
theorem ZS.start {w4 : World} {B gx m c : Nat} {A : Option Addr} {l : List Nat} (ho : OwnE B w4 (.slice A m c) l) (hl : l.length = m) (hA : 0 < m -> A = some ⟨gx, 0, none⟩) : ZS w4 gx m w4 := by
 refine ⟨World.grownBy.refl _ _, fun _ _ _ h => h, fun hm => ?_, fun _ => rfl⟩
 obtain rfl := hA hm; unfold OwnE World.ownsRow at ho; obtain ⟨h1, h2 | ⟨g, cap, cur, e, hB, hh, h3, h4, h5, h6⟩⟩ := ho
 ·cases h2.1
 ·injection e with e1 e2 e3
  injection e1 with e1
  injection e1 with e1
  subst e1; refine ⟨cur, hh, by omega, fun i hi => ?_⟩
  have hx : (ev l)[i]? = some (.int .u32 ((l[i]'(by omega) : Nat) : Int)) := ev_at (List.getElem?_eq_getElem _)
  rw [<- h6, List.getElem?_take_of_lt (by omega)] at hx
  exact ⟨_, by simpa using hx⟩
theorem ZS.put {w4 wq : World} {gx m j : Nat} (h : ZS w4 gx m wq) (hj : j < m) : ZS w4 gx m (wq.setCell ⟨gx, j, none⟩ (.int .u32 0)) := by
 obtain ⟨cs, h1, h2, h3⟩ := h.row (by omega)
 have h8 := heap_setCell_same wq gx j _ _ (.int .u32 0) h1; refine ⟨h.gr.trans (R4.yae wq ⟨gx, j, none⟩ _), fun p u hu hp => ?_, fun _ => ⟨_, h8, by simpa using h2, fun i hi => ?_⟩, fun hm => by omega⟩
 ·have hq := h.keep p u hu hp
  by_cases e : (⟨gx, j, none⟩ : Addr) = p
  ·subst e; rw [cell_of_row _ _ _ _ _ _ h1] at hq; obtain ⟨y, hy⟩ := h3 j hj; rw [hy] at hq; obtain ⟨A, n, c, rfl⟩ := hu
   cases hq
  ·rw [World.cell?_setCell_other _ _ _ _ e]; exact hq
 ·by_cases e : j = i
  ·subst e; exact ⟨0, by rw [Array.getElem?_setIfInBounds_self_of_lt (by omega)]⟩
  ·obtain ⟨y, hy⟩ := h3 i hi; exact ⟨y, by rw [Array.getElem?_setIfInBounds_ne e]; exact hy⟩
theorem ZS.slot {w4 wq : World} {gx m j : Nat} (h : ZS w4 gx m wq) (hj : j < m) : (∃ y, wq.cell? ⟨gx, j, none⟩ = some (.int .u32 y)) /\ wq.frozen? ⟨gx, j, none⟩ = false := by
 obtain ⟨cs, h1, h2, h3⟩ := h.row (by omega)
 obtain ⟨y, hy⟩ := h3 j hj; exact ⟨⟨y, by rw [cell_of_row _ _ _ _ _ _ h1]; exact hy⟩, frozen_of_row _ _ _ _ _ h1⟩
theorem ZS.tab {w4 wq : World} {gx m : Nat} {F : Nat -> Prop} {p : Nat} {L : List PE} (h : ZS w4 gx m wq) (ht : TabAt F w4 p L) (hF : ∀ k, F k -> k ≠ gx) (hx : 0 < m -> ∃ cs, w4.heap[gx]? = some (.cells cs 168 (0, 0))) : TabAt F wq p L := by
 rcases Nat.eq_zero_or_pos m with hm | hm
 ·rw [h.zero hm]; exact ht
 ·obtain ⟨cs, hx⟩ := hx hm; exact ht.off hF h.gr hx (by decide) (by decide) (by decide) (by decide) fun o u1 u2 s1 s2 c1 c2 => ⟨h.keep _ _ s1 c1, h.keep _ _ s2 c2⟩
theorem ZS.ref {w4 wq : World} {gx m : Nat} {v : Value} {L : List PE} (h : ZS w4 gx m wq) (ht : RefT w4 v L) (hx : 0 < m -> ∃ cs, w4.heap[gx]? = some (.cells cs 168 (0, 0))) : RefT wq v L := by
 rcases Nat.eq_zero_or_pos m with hm | hm
 ·rw [h.zero hm]; exact ht
 ·obtain ⟨cs, hx⟩ := hx hm; exact ht.off h.gr hx (by decide) (by decide) (by decide)
theorem ZS.var {w4 wq : World} {gx m b : Nat} {u : Value} (h : ZS w4 gx m wq) (hv : w4.heap[b]? = some (.cells #[u] 40 (0, 0))) (hx : 0 < m -> ∃ cs, w4.heap[gx]? = some (.cells cs 168 (0, 0))) : wq.heap[b]? = some (.cells #[u] 40 (0, 0)) := by
 rcases Nat.eq_zero_or_pos m with hm | hm
 ·rw [h.zero hm]; exact hv
 ·obtain ⟨cs, hx⟩ := hx hm
  exact (h.gr.block b (R4.yad hv) (by
   intro e
   injection e with e
   rw [e, hx] at hv
   injection hv with hv
   injection hv with _ hv _
   cases hv)).trans hv
theorem ZS.bel {w w4 wq : World} {gx m b6 : Nat} (h : ZS w4 gx m wq) (hb : Below w.heap.size w w4) (hg : w.heap.size <= gx) : Below w.heap.size w wq := hb.grown h.gr hb.size fun k hk => by cases hk; exact hg
structure PU (w : World) (b6 : Nat) (t : Value) (wr : World) : Prop where
 tab : ∃ p L A c, t = .pointer (some ⟨p, 0, none⟩) /\ TabAt (fun k => k ≠ b6) wr p L /\ 0 < L.length /\ wr.heap[b6]? = some (.cells #[.slice A L.length c] 40 (0, 0)) /\ RefT wr (.slice A L.length c) L
 bel : Below w.heap.size w wr
 lo : w.heap.size <= b6
theorem TabAt.var {F : Nat -> Prop} {wz : World} {p b6 : Nat} {L : List PE} {u u' : Value} (h : TabAt F wz p L) (hF : ∀ k, F k -> k ≠ b6) (hv : wz.heap[b6]? = some (.cells #[u] 40 (0, 0))) : TabAt F (wz.setCell ⟨b6, 0, none⟩ u') p L :=
 h.off hF (R4.yae wz ⟨b6, 0, none⟩ _) hv (by decide) (by decide) (by decide) (by decide) fun o u1 u2 _ _ _ c2 => (by
  rw [cell_of_row _ _ _ _ _ _ hv] at c2
  simp at c2)
theorem PU.put {w wz : World} {b6 q : Nat} {L : List PE} {u : Value} {A : Option Addr} {c : Nat} (hT : TabAt (fun k => k ≠ b6) wz q L) (h0 : 0 < L.length) (hv : wz.heap[b6]? = some (.cells #[u] 40 (0, 0))) (hR : RefT wz (.slice A L.length c) L) (hb : Below w.heap.size w wz) (hlo : w.heap.size <= b6) :
  PU w b6 (.pointer (some ⟨q, 0, none⟩)) (wz.setCell ⟨b6, 0, none⟩ (.slice A L.length c)) :=
 ⟨⟨q, L, A, c, rfl, hT.var (fun _ h => h) hv, h0, heap_setCell_same wz b6 0 _ _ _ hv, hR.off (R4.yae wz ⟨b6, 0, none⟩ _) hv (by decide) (by decide) (by decide)⟩, hb.setCell (by show _ <= b6; exact hlo) _, hlo⟩
def SV.rw (L : List PE) : SV := ⟨fun v w => ∃ u, v = .tuple #[.agg #[u], .int .i64 0] /\ RefT w u L, fun _ _ _ ⟨u, e, h⟩ hb => ⟨u, e, h.below hb (zN _)⟩⟩
theorem SV.rw_get {L : List PE} {v : Value} {w : World} (h : (SV.rw L).p v w) : ∃ u, v = .tuple #[.agg #[u], .int .i64 0] /\ RefT w u L := h
def SV.newT (N : Nat) : SV := ⟨fun v w => ∃ g, v = .pointer (some ⟨g, 0, none⟩) /\ N <= g /\ w.heap[g]? = some (.cells #[.slice none 0 0] 40 (0, 0)), fun _ _ _ ⟨g, e, hN, h⟩ hb => ⟨g, e, hN, (hb.block g (R4.yad h)).trans h⟩⟩
end Go.Proofs.YteibnfeokgibmaaGreat
section
namespace Go.Proofs.YteibnfeokgibmaaGreat
open Go.RowKit
variable {U : Nat -> Prop}
structure BelU (U : Nat -> Prop) (B px : Nat) : Prop where
 le : B <= px
 nu : ∀ k, B <= k -> U k
structure TA (U : Nat -> Prop) (B : Nat) (w : World) (px : Nat) (t : ST) : Prop where
 blk : ∃ q va, w.heap[px]? = some (.cells #[.pointer (some ⟨q, 0, none⟩), va, .bool t.A.isSome] 143 (0, 0)) /\ TabAt (fun k => va.ownBlock ≠ some k /\ (k ≠ px /\ U k)) w q t.L /\ OwnE B w va (t.A.getD [])
 bel : BelU U B px
theorem TA.lt {B : Nat} {w : World} {px : Nat} {t : ST} (h : TA U B w px t) : px < w.heap.size := by
 obtain ⟨⟨q, va, h1, h2, h3⟩, h4⟩ := h; exact R4.yad h1
theorem TA.below {B : Nat} {w w' : World} {px : Nat} {t : ST} (h : TA U B w px t) (hb : Below w.heap.size w w') : TA U B w' px t := by
 obtain ⟨⟨q, va, h1, h2, h3⟩, h4⟩ := h; exact ⟨⟨q, va, (hb.block _ (R4.yad h1)).trans h1, h2.below hb (zN _), R4.yan h3 hb (zN _)⟩, h4⟩
theorem TA.cells {B : Nat} {w : World} {px : Nat} {t : ST} (h : TA U B w px t) {A : List Nat} (hA : t.A.getD [] = A) : ∃ (q : Nat) (Aa : Option Addr) (c : Nat), w.cell? ⟨px, 0, none⟩ = some (.pointer (some ⟨q, 0, none⟩)) /\ w.cell? ⟨px, 1, none⟩ = some (.slice Aa A.length c) /\ w.cell? ⟨px, 2, none⟩ = some (.bool t.A.isSome) ∧
  w.frozen? ⟨px, 0, none⟩ = false /\ w.frozen? ⟨px, 1, none⟩ = false /\ w.frozen? ⟨px, 2, none⟩ = false /\ TabAt (fun k => (Value.slice Aa A.length c).ownBlock ≠ some k /\ (k ≠ px /\ U k)) w q t.L /\ OwnE B w (.slice Aa A.length c) A /\ RdE anyB w (.slice Aa A.length c) A := by
 subst hA; obtain ⟨⟨q, va, h1, h2, h3⟩, h4⟩ := h; have h5 := OwnE.rd (F := anyB) h3 fun _ _ => trivial
 obtain ⟨Aa, c, rfl⟩ := h5.form; exact ⟨q, Aa, c, by rw [cell_of_row w px 0 _ _ _ h1]; rfl, by rw [cell_of_row w px 1 _ _ _ h1]; rfl, by rw [cell_of_row w px 2 _ _ _ h1]; rfl, frozen_of_row w px 0 _ _ h1, frozen_of_row w px 1 _ _ h1, frozen_of_row w px 2 _ _ h1, h2, h3, h5⟩
def lastI (lv : Nat) (A : List Nat) : Int := match lastW lv A with
 | none => -1
 | some k => k
theorem yqz {lv : Nat} {A : List Nat} {n x : Nat} (hx : A[n]? = some x) : lastF lv A (n + 1) = if wgt lv x = 0 then lastF lv A n else some n := by
 rw [lastF, List.getD_eq_getElem?_getD, hx]; rfl
set_option maxHeartbeats 1000000 in
theorem yct {B : Nat} {w : World} {px : Nat} {t : ST} (hT : TA U B w px t) {A : List Nat} (hA : t.A.getD [] = A) (h8 : Anc A) {lv : Nat} (hl : Lv lv) {r : Int} (hr : lastI lv A = r) :
  Calls Tryz.prog 205 #[.pointer (some ⟨px, 0, none⟩), .int .i64 (lv : Nat)] w fun q w' => q = .returned (.int .i64 r) /\ w = w' := by
 obtain ⟨q, Aa, c, -, c1, -, -, -, -, -, -, hrd⟩ := hT.cells hA; have HR := zH hrd; have H8 := zH h8; have HL := zH hl; have HI := zH hr; obtain ⟨n0, hn0⟩ : ∃ n0, A.length = n0 := ⟨_, rfl⟩; have HN := zH hn0; have hn8 := h8.1; rw [hn0] at c1 hn8
 have hnI : (n0 : Int) <= 8 := by omega
 clear hT hA h8 hl hr hrd; rw [hn0] at HR
 have hwr : IntKind.i64.wrap ((n0 : Int) - 1) = (n0 : Int) - 1 := by rw [IntKind.wrap_i64]; omega
 clear hn0
 go_enter Tryz.func205, Tryz.ntmps205
 go_wp2
 go_loop [5] (fun i => ∃ n : Nat, n <= n0 /\ i = .int .i64 ((n : Int) - 1) /\ Hid (lastF lv A n = lastW lv A)) (fun i => (intOf i + 1).toNat)
 case atStart => exact ⟨n0, zN _, rfl, by show _ = _; unfold lastW; rw [HN.out]⟩
 case round =>
  obtain ⟨n, hn, rfl, HE⟩ := hrel
  cases n with
  | zero =>
   have h0 : ¬ (0 : Int) <= ((0 : Nat) : Int) - 1 := by omega
   have h0b : decide ((0 : Int) <= ((0 : Nat) : Int) - 1) = false := decide_eq_false h0
   have HF : Hid (((0 : Nat) : Int) - 1 = r) := by
    have h2 := HE.out
    show _ = _
    rw [<- HI.out]; unfold lastI; rw [<- h2]; rfl
   obtain ⟨z, hz⟩ : ∃ z : Int, ((0 : Nat) : Int) - 1 = z := ⟨_, rfl⟩; rw [hz] at h0 h0b HF |-; clear hz
   go_wp2
   go_ret
   exact ⟨by rw [HF.out]; rfl, rfl⟩
  | succ n =>
   obtain ⟨x, hx⟩ : ∃ x, A[n]? = some x := ⟨_, List.getElem?_eq_getElem (by have := HN.out; omega)⟩
   obtain ⟨g, o, rfl, c2⟩ := RdE.at HR.out hx; have hxl := H8.out.2 x (List.mem_of_getElem? hx); have hst := yqz (lv := lv) hx; rw [HE.out] at hst; obtain ⟨p, hp⟩ : ∃ p, wgt lv x = p := ⟨_, rfl⟩; have CW := zH (fun w => ybx HL.out hp hxl w)
   rw [hp] at hst
   have e1 : ((n + 1 : Nat) : Int) - 1 = (n : Int) := by omega
   rw [e1]
   have hn1 : (0 : Int) <= (n : Int) := by omega
   have hn2 : (n : Int) < (n0 : Int) := by omega
   by_cases hp0 : p = 0
   ·rw [if_pos hp0] at hst; have HS := zH hst.symm
    have hpI : (p : Int) = 0 := by omega
    have hwn : IntKind.i64.wrap ((n : Int) - 1) = (n : Int) - 1 := by rw [IntKind.wrap_i64]; omega
    have hpb : ((p : Int) == 0) = true := by simp [hpI]
    clear hx hxl hst hp hp0 hpI e1
    go_wp2_with (go_at_call 147; refine (CW.out _).mono ?_; rintro q w' ⟨rfl, rfl⟩)
    go_round
    case rel => exact ⟨n, by omega, rfl, HS.out⟩
    case measure => simp [intOf] <;> omega
   ·rw [if_neg hp0] at hst
    have HF : Hid (r = (n : Int)) := by
     show _ = _
     rw [<- HI.out]; unfold lastI; rw [hst]
    have hpb : ((p : Int) == 0) = false := by rw [beq_eq_false_iff_ne]; omega
    clear hx hxl hst hp hp0 e1
    go_wp2_with (go_at_call 147; refine (CW.out _).mono ?_; rintro q w' ⟨rfl, rfl⟩)
    go_ret
    exact ⟨by rw [HF.out]; rfl, rfl⟩
theorem yqo (lv fr : Nat) (w : World) :
  Calls Tryz.prog 208 #[.int .i64 (lv : Nat), .int .i64 (fr : Nat)] w fun q w' => (∃ b1 b2, q = .returned (.func (.func 224) #[] #[.pointer (some ⟨b1, 0, none⟩), .pointer (some ⟨b2, 0, none⟩)]) /\ w'.heap[b1]? = some (.cells #[.int .i64 (lv : Nat)] 3 (0, 0)) /\ w'.heap[b2]? = some (.cells #[.int .i64 (fr : Nat)] 3 (0, 0))) /\ Below w.heap.size w w' := by
 have hmf : ∀ (fn : Fn) (first cap : Array Value) (w : World), (Instr.makeFunc fn first cap).run Tryz.prog w = .ok (.func fn first cap) w := fun _ _ _ _ => rfl
 have hb1 := yaa w (.cells #[.int .i64 (lv : Nat)] 3); have hb2 := yaa (w.alloc (.cells #[.int .i64 (lv : Nat)] 3)) (.cells #[.int .i64 (fr : Nat)] 3); have c1 := heap_alloc_new w (.cells #[.int .i64 (lv : Nat)] 3); have C1 := zH ((hb2.block _ (R4.yad c1)).trans c1); have C2 := zH (heap_alloc_new (w.alloc (.cells #[.int .i64 (lv : Nat)] 3)) (.cells #[.int .i64 (fr : Nat)] 3)); rw [World.size_alloc] at C2; have HB := zH (hb1.trans (hb2.mono hb1.size)); clear hb1 hb2 c1
 go_enter Tryz.func208, Tryz.ntmps208
 go_wp2
 go_ret
 exact ⟨⟨_, _, rfl, C1.out, C2.out⟩, HB.out⟩
end Go.Proofs.YteibnfeokgibmaaGreat
end
section
namespace Go.Proofs.YteibnfeokgibmaaGreat
open Go.RowKit
variable {U : Nat -> Prop}
def fuE (lv : Nat) (e : PE) : Bool := e.2.any fun x => wgt lv x == topW lv
theorem ypu {α : Type} {q : α -> Bool} {l : List α} {k : Nat} {x : α} (hx : l[k]? = some x) (h : (l.take k).any q = false) (hq : q x = false) : (l.take (k + 1)).any q = false := by
 rw [List.take_add_one, hx, List.any_append, h]; simp [hq]
theorem any_at {α : Type} {q : α -> Bool} {l : List α} {k : Nat} {x : α} (hx : l[k]? = some x) (hq : q x = true) : l.any q = true := List.any_eq_true.2 ⟨x, List.mem_of_getElem? hx, hq⟩
set_option maxHeartbeats 2000000 in
theorem yji {B : Nat} {w : World} {px : Nat} {t : ST} (hT : TA U B w px t) {lv : Nat} (hl : Lv lv) {b : Bool} (hb : fullP lv t.L = b) :
  Calls Tryz.prog 207 #[.pointer (some ⟨px, 0, none⟩), .int .i64 (lv : Nat)] w fun q w' => q = .returned (.bool b) /\ Below w.heap.size w w' := by
 obtain ⟨q, Aa, c, c0, -, -, -, -, -, hTab, -, -⟩ := hT.cells rfl; obtain ⟨L, hL⟩ : ∃ L, t.L = L := ⟨_, rfl⟩; rw [hL] at hTab hb; obtain ⟨tp, htp⟩ : ∃ tp, topW lv = tp := ⟨_, rfl⟩; have HTP := zH htp; have HE := zH (yns hTab); have HG := zH hTab.good; have HBB := zH hb; have HL := zH hl; have CG := zH (fun w => ycn hl htp w)
 obtain ⟨n, hn⟩ : ∃ n, L.length = n := ⟨_, rfl⟩; have HN := zH hn; have hlen := hTab.good.len; rw [hn] at HE hlen
 have hnI : (n : Int) <= 500 := by omega
 clear hT hTab hb hl hL htp hn
 go_enter Tryz.func207, Tryz.ntmps207
 go_wp2_with (go_at_call 223; refine (HE.out).mono ?_; rintro e w1 ⟨⟨A1, c1, rfl, hr⟩, hb1⟩; have HRT := zH hr; have HB1 := zH hb1; clear hr hb1)
 clear c0
 go_loopw [15] (fun i wr => ∃ k : Nat, k <= n /\ i = .int .i64 (k : Nat) /\ Hid ((L.take k).any (fuE lv) = false) /\ Hid (Below w1.heap.size w1 wr)) (fun i _ => n - (intOf i).toNat)
 case atStart => exact ⟨0, Nat.zero_le _, rfl, rfl, zR _ _⟩
 case round =>
  obtain ⟨k, hk, rfl, HA, HB⟩ := hrel; obtain ⟨wo, rfl⟩ : ∃ wo, wo = wr := ⟨_, rfl⟩
  by_cases hlt : k < n
  ·obtain ⟨e, he⟩ : ∃ e, L[k]? = some e := ⟨_, List.getElem?_eq_getElem (by rw [HN.out]; exact hlt)⟩
   obtain ⟨g, o, vs, vl, rfl, e0, e1, hri, hre⟩ := (HRT.out.below HB.out (zN _)).at he; obtain ⟨A2, k2, rfl⟩ := hri.form; obtain ⟨A3, k3, rfl⟩ := hre.form; have HEE := zH he
   have hkI : (k : Int) < (n : Int) := by omega
   have hl8 := (HG.out.els e (List.mem_of_getElem? he)).1; have hlw := zH (HG.out.els e (List.mem_of_getElem? he)).2; obtain ⟨n2, hn2⟩ : ∃ n2, e.2.length = n2 := ⟨_, rfl⟩; have HN2 := zH hn2; rw [hn2] at e1 hl8 hre
   have hl8I : (n2 : Int) <= 8 := by omega
   have HXX := yaa wo (.cells #[.slice A2 e.1.length k2, .slice A3 n2 k3] 88); have HREX := zH (RdF.below hre HXX (zN _)); have HBX := zH (HB.out.trans (HXX.mono HB.out.size))
   have HX1 : (wo.alloc (.cells #[.slice A2 e.1.length k2, .slice A3 n2 k3] 88)).cell? ⟨wo.heap.size, 1, none⟩ = some (.slice A3 n2 k3) := by rw [cell_of_row _ _ 1 _ _ _ (heap_alloc_new wo _)]; rfl
   clear hri hre he hlt hn2 HXX
   go_wp2
   generalize (wo.alloc (.cells #[.slice A2 e.1.length k2, .slice A3 n2 k3] 88)) = wx at HREX HBX HX1 |-; clear e0 e1 HX1
   go_loopw [22] (fun i wq => ∃ j : Nat, j <= n2 /\ i = .int .i64 (j : Nat) /\ Hid ((e.2.take j).any (fun x => wgt lv x == topW lv) = false) /\ wq = wx) (fun i _ => n2 - (intOf i).toNat)
   case atStart => exact ⟨0, Nat.zero_le _, rfl, rfl, rfl⟩
   case round =>
    obtain ⟨j, hj, rfl, HJ, rfl⟩ := hrel
    by_cases hjl : j < n2
    ·obtain ⟨x, hx⟩ : ∃ x, e.2[j]? = some x := ⟨_, List.getElem?_eq_getElem (by rw [HN2.out]; exact hjl)⟩
     obtain ⟨g5, o5, rfl, c5⟩ := RdE.at (by have h := HREX.out; have h2 := HN2.out; rw [<- h2] at h; exact h) hx
     have hxl := hlw.out x (List.mem_of_getElem? hx); obtain ⟨p, hp⟩ : ∃ p, wgt lv x = p := ⟨_, rfl⟩; have CW := zH (fun w => ybx HL.out hp hxl w)
     have hjI : (j : Int) < (n2 : Int) := by omega
     by_cases hpt : p = tp
     ·have HF : Hid (fullP lv L = true) := any_at HEE.out (any_at hx (by rw [hp, HTP.out, hpt]; simp))
      have hpb : ((p : Int) == (tp : Int)) = true := by rw [hpt]; simp
      clear hx hxl hp hpt hjl
      go_wp2_with (first | (go_at_call 147; refine (CW.out _).mono ?_; rintro q w' ⟨rfl, rfl⟩) | (go_at_call 206; refine (CG.out _).mono ?_; rintro q w' ⟨rfl, rfl⟩))
      go_ret
      exact ⟨by rw [<- HBB.out, HF.out]; rfl, HB1.out.trans (HBX.out.mono HB1.out.size)⟩
     ·have HJ2 := zH (ypu hx HJ.out (by rw [hp, HTP.out]; simpa using hpt))
      have hpb : ((p : Int) == (tp : Int)) = false := by rw [beq_eq_false_iff_ne]; omega
      clear hx hxl hp hpt hjl
      go_wp2_with (first | (go_at_call 147; refine (CW.out _).mono ?_; rintro q w' ⟨rfl, rfl⟩) | (go_at_call 206; refine (CG.out _).mono ?_; rintro q w' ⟨rfl, rfl⟩))
      go_roundw
      case rel => exact ⟨j + 1, by omega, by go_num, HJ2.out, trivial⟩
      case measure => simp [intOf] <;> omega
    ·obtain rfl : j = n2 := by omega
     have HJ2 : Hid ((L.take (k + 1)).any (fuE lv) = false) := ypu HEE.out HA.out (by have h := HJ.out; have h2 := HN2.out; rw [<- h2, List.take_length] at h; exact h)
     clear hjl
     go_wp2
     go_roundw
     case rel => exact ⟨k + 1, by omega, by go_num, HJ2.out, HBX.out⟩
     case measure => simp [intOf] <;> omega
  ·obtain rfl : k = n := by omega
   have HF : Hid (fullP lv L = false) := by have h := HA.out; have h2 := HN.out; rw [<- h2, List.take_length] at h; exact h
   clear hlt
   go_wp2
   go_ret
   exact ⟨by rw [<- HBB.out, HF.out]; rfl, HB1.out.trans (HB.out.mono HB1.out.size)⟩
end Go.Proofs.YteibnfeokgibmaaGreat
end
section
namespace Go.Proofs.YteibnfeokgibmaaGreat
open Go.RowKit
variable {U : Nat -> Prop}
set_option maxHeartbeats 2000000 in
theorem yft {B : Nat} {w : World} {px : Nat} {t : ST} (hT : TA U B w px t) {L : List PE} (hL : t.L = L) {sv : Value} {ss : List Int} (hs : RdI anyB w sv ss) (hI : I64 ss) (hl : ss.length <= 100000) :
  Calls Tryz.prog 175 #[.pointer (some ⟨px, 0, none⟩), sv] w (GotE w.heap.size w (elsP L ss)) := by
 subst hL; obtain ⟨q, Aa, c, c0, -, -, -, -, -, hTab, -, -⟩ := hT.cells rfl; obtain ⟨L, hL⟩ : ∃ L, t.L = L := ⟨_, rfl⟩; rw [hL] at hTab |-; obtain ⟨As, cs, rfl⟩ := hs.form; have HT := zH hTab; have HS := zH hs; have HI := zH hI; have HC0 := zH c0; obtain ⟨n, hn⟩ : ∃ n, ss.length = n := ⟨_, rfl⟩; have HN := zH hn; rw [hn] at hl HS |-
 have hnI : (n : Int) <= 100000 := by omega
 clear hT hTab hs hI hL hn c0
 go_enter Tryz.func175, Tryz.ntmps175
 go_wp2
 go_loopw [5, 6] (fun a i wr => ∃ (acc : List Nat) (k : Nat), k <= n /\ i = .int .i64 (k : Nat) /\ Hid (OwnE w.heap.size wr a acc) /\ Hid (acc ++ elsP L (ss.drop k) = elsP L ss) /\ acc.length <= 8 * k /\ Hid (Below w.heap.size w wr)) (fun _ i _ => n - (intOf i).toNat)
 case atStart => exact ⟨[], 0, Nat.zero_le _, rfl, World.ownsRow_nil _ _ _ _, by show _ = _; rw [List.drop_zero]; rfl, by simp, zR _ _⟩
 case round =>
  obtain ⟨acc, k, hk, rfl, HO, HE, hacc, HB⟩ := hrel
  by_cases hlt : k < n
  ·obtain ⟨l, hl1⟩ : ∃ l, (atP L (ss.drop k)).1 = l := ⟨_, rfl⟩; obtain ⟨u, hu1⟩ : ∃ u, (atP L (ss.drop k)).2 = u := ⟨_, rfl⟩
   have hR : atP L (ss.drop k) = (l, u) := by rw [<- hl1, <- hu1]
   have h0 : 0 < (ss.drop k).length := by rw [List.length_drop, HN.out]; omega
   have hu := yel L h0; have hgd := yfq HT.out.good (ss.drop k); have hst := ycc L h0; rw [hR] at hu hgd hst
   simp only at hu hgd hst
   rw [List.length_drop, HN.out] at hu; have HC := zH (at_in (HT.out.below HB.out (zN _)) (RdI.below HS.out HB.out (zN _) |> fun h => by have h2 := HN.out; rw [<- h2] at h; exact h) HI.out (by rw [HN.out]; omega) (by rw [HN.out]; exact hlt) hR)
   rw [HN.out] at HC
   have HE2 : Hid ((acc ++ l) ++ elsP L (ss.drop (k + u)) = elsP L ss) := by
    show _ = _
    rw [List.append_assoc, <- List.drop_drop, <- hst]; exact HE.out
   have hl8 : l.length <= 8 := hgd.1
   have hkI : (k : Int) < (n : Int) := by omega
   have hku : k + u <= n := by omega
   have hkuI : (k : Int) + (u : Int) <= (n : Int) := by omega
   have hu1' : 1 <= u := hu.1
   have cx := (HB.out.cell (p := ⟨px, 0, none⟩) (yaj HC0.out)).trans HC0.out
   have hwr : IntKind.i64.wrap ((k : Int) + (u : Int)) = ((k + u : Nat) : Int) := by rw [IntKind.wrap_i64]; omega
   clear hl1 hu1 hR h0 hu hgd hst hlt
   go_wp2_with (first
    | (go_at_call 204; refine (HC.out).mono ?_; rintro e w2 ⟨⟨A3, n3, c3, rfl, hr⟩, hb⟩; obtain ⟨-, hn3⟩ := RdF.cap hr; subst hn3; have HRL := zH hr; have HO2 := zH (R4.yan HO.out hb (zN _)); have HW2 := zH (HB.out.trans (hb.mono HB.out.size)); clear hr hb cx)
    | (at_builtin; refine appendE rfl (.tmp 23) (.tmp 24) rfl _ w.heap.size _ acc l rfl HO2.out rfl HRL.out HW2.out.size (by omega) ?_; intro v4 w4 h4 hb4; have HO4 := zH h4; have HW4 := zH (HW2.out.trans hb4); clear h4 hb4))
   go_roundw
   case rel => exact ⟨acc ++ l, k + u, hku, by first | rfl | go_num | (congr 1; omega), HO4.out, HE2.out, by rw [List.length_append]; omega, HW4.out⟩
   case measure => simp [intOf] <;> omega
  ·obtain rfl : k = n := by omega
   have HEE : Hid (acc = elsP L ss) := by
    have h := HE.out; rw [List.drop_of_length_le (by rw [HN.out]; exact zN _), ycu, List.append_nil] at h
    exact h
   clear hlt HE
   go_wp2
   go_ret
   exact ⟨_, rfl, by rw [<- HEE.out]; exact HO.out, HB.out⟩
end Go.Proofs.YteibnfeokgibmaaGreat
end
section
namespace Go.Proofs.YteibnfeokgibmaaGreat
open Go.RowKit
section
variable {P : Program} {ops : Array Oper} {Q : Exit -> Act -> World -> Prop} {m : Nat}
def OpIsE (P : Program) (ops : Array Oper) (Q : Exit -> Act -> World -> Prop) (ts : Array Value) (df : List Deferred) (ds : List Nat) (Vs : List SV) (ex : Nat -> Nat) (D : Nat -> Nat -> Bool) (w : World) (i : Nat) : Prop :=
 ∀ o, ops[i]? = some o -> ∀ (vs : Nat -> Value) (w1 : World), Below w.heap.size w w1 -> (∀ j, Region.waitsFor .any ops i j = true -> (ex j = i \/ ops.size <= ex j) -> (Vs.getD j SV.any).p (vs j) w1) →
  ∀ K : Act -> World -> Prop, (∀ v w2, (Vs.getD i SV.any).p v w2 -> Below w.heap.size w w2 -> (∀ j, j ≠ i -> ex j ≠ i -> D i j = false -> D (ex j) i = false -> ∀ u, (Vs.getD j SV.any).p u w1 -> (Vs.getD j SV.any).p u w2) -> K ⟨(frameV ts ds vs 0).setIfInBounds (ds.getD i 0) v, df⟩ w2) →
   if Region.wanted o (yielded ops (frameV ts ds vs 0)) = true then Oper.wp P o ⟨frameV ts ds vs 0, df⟩ w1 K Q else K (Act.put ⟨frameV ts ds vs 0, df⟩ o.dst undef) w1
theorem OpIsE.mk {ts : Array Value} {df : List Deferred} {ds : List Nat} {Vs : List SV} {ex : Nat -> Nat} {D : Nat -> Nat -> Bool} {w : World} {i : Nat} {o : Oper} (ho : ops[i]? = some o)
  (h : ∀ (vs : Nat -> Value) (w1 : World), Below w.heap.size w w1 -> (∀ j, Region.waitsFor .any ops i j = true -> (ex j = i \/ ops.size <= ex j) -> (Vs.getD j SV.any).p (vs j) w1) →
  ∀ K : Act -> World -> Prop, (∀ v w2, (Vs.getD i SV.any).p v w2 -> Below w.heap.size w w2 -> (∀ j, j ≠ i -> ex j ≠ i -> D i j = false -> D (ex j) i = false -> ∀ u, (Vs.getD j SV.any).p u w1 -> (Vs.getD j SV.any).p u w2) -> K ⟨(frameV ts ds vs 0).setIfInBounds (ds.getD i 0) v, df⟩ w2) →
   if Region.wanted o (yielded ops (frameV ts ds vs 0)) = true then Oper.wp P o ⟨frameV ts ds vs 0, df⟩ w1 K Q else K (Act.put ⟨frameV ts ds vs 0, df⟩ o.dst undef) w1) : OpIsE P ops Q ts df ds Vs ex D w i := fun o' ho' => by
 have : o = o' := Option.some.inj (ho.symm.trans ho')
 subst this; exact h
end
end Go.Proofs.YteibnfeokgibmaaGreat
end
