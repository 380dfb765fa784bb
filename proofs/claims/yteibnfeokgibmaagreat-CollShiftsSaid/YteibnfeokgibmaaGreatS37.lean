/-
  PACKED for a claim.
-/
import Derived.Deep.SlicePairs
import Derived.ChangeArms
import Derived.ChangeAt
import Derived.Test.YteibnfeokgibmaaGreatS36
set_option linter.unusedVariables false
set_option linter.unusedSimpArgs false
set_option maxRecDepth 100000
namespace Go.Proofs.YteibnfeokgibmaaGreat
open Go.RowKit
def IsSl (u : Value) : Prop := ∃ A n c, u = .slice A n c
theorem yrj {F : Nat -> Prop} {w : World} {M : List ME} (h : ∀ m ∈ M, EntOk F w m) {k : Nat} {m : ME} (hk : M[k]? = some m) : IsSl m.vs /\ IsSl m.vl := by
 have := h m (List.mem_of_getElem? hk)
 obtain ⟨A, c, e⟩ := this.1.form; obtain ⟨A', c', e'⟩ := this.2.form; exact ⟨⟨_, _, _, e⟩, ⟨_, _, _, e'⟩⟩
theorem TabAt.off {F : Nat -> Prop} {w w' : World} {p : Nat} {L : List PE} {b : Nat} {cs : Array Value} {T : TypeId} {fr : Nat × Nat} (h : TabAt F w p L) (hF : ∀ k, F k -> k ≠ b) (hg : w.grownBy w' (some b)) (hb : w.heap[b]? = some (.cells cs T fr)) (h0 : T ≠ 122) (h1 : T ≠ 252) (h2 : T ≠ 253) (h3 : T ≠ 225)
  (hrow : ∀ o u1 u2, IsSl u1 -> IsSl u2 -> w.cell? ⟨b, o, none⟩ = some u1 -> w.cell? ⟨b, o + 1, none⟩ = some u2 -> w'.cell? ⟨b, o, none⟩ = some u1 /\ w'.cell? ⟨b, o + 1, none⟩ = some u2) : TabAt F w' p L := by
 obtain ⟨hgd, ve, bo, b2, b3, e1, ⟨M, e, ⟨A, c, rfl, hc, hr⟩, hM⟩, e3, e4, e5⟩ := h
 have hmap : ∀ {kt n j}, KMap kt n w j L -> some j ≠ some b := fun hk hh => by
  injection hh with hh
  obtain ⟨es, cc, hm⟩ := hk.isMap; rw [hh, hb] at hm
  cases hm
 refine ⟨hgd, _, bo, b2, b3, (hg.block p (R4.yad e1) (by
  intro hh
  injection hh with hh
  rw [hh, hb] at e1
  injection e1 with e1
  injection e1 with _ e1 _
  exact h0 e1)).trans e1, ⟨M, e, ⟨A, c, rfl, hc, fun hn => ?_⟩, fun m hm => (hM m hm).frame fun k hk hl => hg.block k hl (by intro hh; injection hh with hh; exact hF k hk hh)⟩, yma e3 hg hb h1 h2 h3, e4.kept hg (hmap e4), e5.kept hg (hmap e5)⟩
 obtain ⟨g, o, rfl, ht, hx⟩ := hr hn; refine ⟨g, o, rfl, ht, fun j u hu => ?_⟩
 by_cases hgb : g = b
 ·subst hgb; have hj := (List.getElem?_eq_some_iff.1 hu).1; rw [yax] at hj
  have hm : M[j / 2]? = some (M[j / 2]'(by omega)) := List.getElem?_eq_getElem _
  obtain ⟨c1, c2⟩ := ycm hm; obtain ⟨s1, s2⟩ := yrj hM hm; obtain ⟨r1, r2⟩ := hrow (o + j / 2 * 2) _ _ s1 s2 (hx _ _ c1) (by rw [Nat.add_assoc]; exact hx _ _ c2)
  rcases Nat.mod_two_eq_zero_or_one j with em | em
  ·rw [show j / 2 * 2 = j by omega] at c1 r1
   rw [c1] at hu; cases hu; exact r1
  ·rw [show j / 2 * 2 + 1 = j by omega] at c2
   rw [show o + j / 2 * 2 + 1 = o + j by omega] at r2
   rw [c2] at hu; cases hu; exact r2
 ·have hcell := hx j u hu; rw [World.cell?_of_block (w := w) (a := ⟨g, o + j, none⟩) (hg.block g (yaq hcell) (by intro hh; injection hh with hh; exact hgb hh))]
  exact hcell
structure ZS (w4 : World) (gx m : Nat) (wq : World) : Prop where
 gr : w4.grownBy wq (some gx)
 keep : ∀ p u, IsSl u -> w4.cell? p = some u -> wq.cell? p = some u
 row : 0 < m -> ∃ cs, wq.heap[gx]? = some (.cells cs 168 (0, 0)) /\ m <= cs.size /\ ∀ i, i < m -> ∃ y, cs[i]? = some (.int .u32 y)
 zero : m = 0 -> wq = w4
theorem ZS.start {w4 : World} {B gx m c : Nat} {A : Option Addr} {l : List Nat} (ho : OwnE B w4 (.slice A m c) l) (hl : l.length = m) (hA : 0 < m -> A = some ⟨gx, 0, none⟩) : ZS w4 gx m w4 := by
 refine ⟨World.grownBy.refl _ _, fun _ _ _ h => h, fun hm => ?_, fun _ => rfl⟩
 obtain rfl := hA hm; unfold OwnE World.ownsRow at ho; obtain ⟨h1, h2 | ⟨g, cap, cur, e, hB, hh, h3, h4, h5, h6⟩⟩ := ho
 ·cases h2.1
 ·injection e with e1 e2 e3
  injection e1 with e1
  injection e1 with e1
  subst e1; refine ⟨cur, hh, by omega, fun i hi => ?_⟩
  have hx : (ev l)[i]? = some (.int .u32 ((l[i]'(by omega) : Nat) : Int)) := ev_at (List.getElem?_eq_getElem _)
  rw [<- h6, List.getElem?_take_of_lt (by omega)] at hx
  exact ⟨_, by simpa using hx⟩
theorem ZS.put {w4 wq : World} {gx m j : Nat} (h : ZS w4 gx m wq) (hj : j < m) : ZS w4 gx m (wq.setCell ⟨gx, j, none⟩ (.int .u32 0)) := by
 obtain ⟨cs, h1, h2, h3⟩ := h.row (by omega)
 have h8 := heap_setCell_same wq gx j _ _ (.int .u32 0) h1; refine ⟨h.gr.trans (R4.yae wq ⟨gx, j, none⟩ _), fun p u hu hp => ?_, fun _ => ⟨_, h8, by simpa using h2, fun i hi => ?_⟩, fun hm => by omega⟩
 ·have hq := h.keep p u hu hp
  by_cases e : (⟨gx, j, none⟩ : Addr) = p
  ·subst e; rw [cell_of_row _ _ _ _ _ _ h1] at hq; obtain ⟨y, hy⟩ := h3 j hj; rw [hy] at hq; obtain ⟨A, n, c, rfl⟩ := hu
   cases hq
  ·rw [World.cell?_setCell_other _ _ _ _ e]; exact hq
 ·by_cases e : j = i
  ·subst e; exact ⟨0, by rw [Array.getElem?_setIfInBounds_self_of_lt (by omega)]⟩
  ·obtain ⟨y, hy⟩ := h3 i hi; exact ⟨y, by rw [Array.getElem?_setIfInBounds_ne e]; exact hy⟩
theorem ZS.tab {w4 wq : World} {gx m : Nat} {F : Nat -> Prop} {p : Nat} {L : List PE} (h : ZS w4 gx m wq) (ht : TabAt F w4 p L) (hF : ∀ k, F k -> k ≠ gx) (hx : 0 < m -> ∃ cs, w4.heap[gx]? = some (.cells cs 168 (0, 0))) : TabAt F wq p L := by
 rcases Nat.eq_zero_or_pos m with hm | hm
 ·rw [h.zero hm]; exact ht
 ·obtain ⟨cs, hx⟩ := hx hm; exact ht.off hF h.gr hx (by decide) (by decide) (by decide) (by decide) fun o u1 u2 s1 s2 c1 c2 => ⟨h.keep _ _ s1 c1, h.keep _ _ s2 c2⟩
theorem ZS.ref {w4 wq : World} {gx m : Nat} {v : Value} {L : List PE} (h : ZS w4 gx m wq) (ht : RefT w4 v L) (hx : 0 < m -> ∃ cs, w4.heap[gx]? = some (.cells cs 168 (0, 0))) : RefT wq v L := by
 rcases Nat.eq_zero_or_pos m with hm | hm
 ·rw [h.zero hm]; exact ht
 ·obtain ⟨cs, hx⟩ := hx hm; exact ht.off h.gr hx (by decide) (by decide) (by decide)
theorem ZS.var {w4 wq : World} {gx m b : Nat} {u : Value} (h : ZS w4 gx m wq) (hv : w4.heap[b]? = some (.cells #[u] 40 (0, 0))) (hx : 0 < m -> ∃ cs, w4.heap[gx]? = some (.cells cs 168 (0, 0))) : wq.heap[b]? = some (.cells #[u] 40 (0, 0)) := by
 rcases Nat.eq_zero_or_pos m with hm | hm
 ·rw [h.zero hm]; exact hv
 ·obtain ⟨cs, hx⟩ := hx hm
  exact (h.gr.block b (R4.yad hv) (by
   intro e
   injection e with e
   rw [e, hx] at hv
   injection hv with hv
   injection hv with _ hv _
   cases hv)).trans hv
theorem ZS.bel {w w4 wq : World} {gx m b6 : Nat} (h : ZS w4 gx m wq) (hb : Below w.heap.size w w4) (hg : w.heap.size <= gx) : Below w.heap.size w wq := hb.grown h.gr hb.size fun k hk => by cases hk; exact hg
structure PU (w : World) (b6 : Nat) (t : Value) (wr : World) : Prop where
 tab : ∃ p L A c, t = .pointer (some ⟨p, 0, none⟩) /\ TabAt (fun k => k ≠ b6) wr p L /\ 0 < L.length /\ wr.heap[b6]? = some (.cells #[.slice A L.length c] 40 (0, 0)) /\ RefT wr (.slice A L.length c) L
 bel : Below w.heap.size w wr
 lo : w.heap.size <= b6
theorem TabAt.var {F : Nat -> Prop} {wz : World} {p b6 : Nat} {L : List PE} {u u' : Value} (h : TabAt F wz p L) (hF : ∀ k, F k -> k ≠ b6) (hv : wz.heap[b6]? = some (.cells #[u] 40 (0, 0))) : TabAt F (wz.setCell ⟨b6, 0, none⟩ u') p L :=
 h.off hF (R4.yae wz ⟨b6, 0, none⟩ _) hv (by decide) (by decide) (by decide) (by decide) fun o u1 u2 _ _ _ c2 => (by
  rw [cell_of_row _ _ _ _ _ _ hv] at c2
  simp at c2)
theorem PU.put {w wz : World} {b6 q : Nat} {L : List PE} {u : Value} {A : Option Addr} {c : Nat} (hT : TabAt (fun k => k ≠ b6) wz q L) (h0 : 0 < L.length) (hv : wz.heap[b6]? = some (.cells #[u] 40 (0, 0))) (hR : RefT wz (.slice A L.length c) L) (hb : Below w.heap.size w wz) (hlo : w.heap.size <= b6) :
  PU w b6 (.pointer (some ⟨q, 0, none⟩)) (wz.setCell ⟨b6, 0, none⟩ (.slice A L.length c)) :=
 ⟨⟨q, L, A, c, rfl, hT.var (fun _ h => h) hv, h0, heap_setCell_same wz b6 0 _ _ _ hv, hR.off (R4.yae wz ⟨b6, 0, none⟩ _) hv (by decide) (by decide) (by decide)⟩, hb.setCell (by show _ <= b6; exact hlo) _, hlo⟩
def SV.rw (L : List PE) : SV := ⟨fun v w => ∃ u, v = .tuple #[.agg #[u], .int .i64 0] /\ RefT w u L, fun _ _ _ ⟨u, e, h⟩ hb => ⟨u, e, h.below hb (zN _)⟩⟩
theorem SV.rw_get {L : List PE} {v : Value} {w : World} (h : (SV.rw L).p v w) : ∃ u, v = .tuple #[.agg #[u], .int .i64 0] /\ RefT w u L := h
def SV.newT (N : Nat) : SV := ⟨fun v w => ∃ g, v = .pointer (some ⟨g, 0, none⟩) /\ N <= g /\ w.heap[g]? = some (.cells #[.slice none 0 0] 40 (0, 0)), fun _ _ _ ⟨g, e, hN, h⟩ hb => ⟨g, e, hN, (hb.block g (R4.yad h)).trans h⟩⟩
end Go.Proofs.YteibnfeokgibmaaGreat
section
namespace Go.Proofs.YteibnfeokgibmaaGreat
open Go.RowKit
section
variable {P : Program} {ops : Array Oper} {Q : Exit -> Act -> World -> Prop} {m : Nat}
def OpIsE (P : Program) (ops : Array Oper) (Q : Exit -> Act -> World -> Prop) (ts : Array Value) (df : List Deferred) (ds : List Nat) (Vs : List SV) (ex : Nat -> Nat) (D : Nat -> Nat -> Bool) (w : World) (i : Nat) : Prop :=
 ∀ o, ops[i]? = some o -> ∀ (vs : Nat -> Value) (w1 : World), Below w.heap.size w w1 -> (∀ j, Region.waitsFor .any ops i j = true -> (ex j = i \/ ops.size <= ex j) -> (Vs.getD j SV.any).p (vs j) w1) →
  ∀ K : Act -> World -> Prop, (∀ v w2, (Vs.getD i SV.any).p v w2 -> Below w.heap.size w w2 -> (∀ j, j ≠ i -> ex j ≠ i -> D i j = false -> D (ex j) i = false -> ∀ u, (Vs.getD j SV.any).p u w1 -> (Vs.getD j SV.any).p u w2) -> K ⟨(frameV ts ds vs 0).setIfInBounds (ds.getD i 0) v, df⟩ w2) →
   if Region.wanted o (yielded ops (frameV ts ds vs 0)) = true then Oper.wp P o ⟨frameV ts ds vs 0, df⟩ w1 K Q else K (Act.put ⟨frameV ts ds vs 0, df⟩ o.dst undef) w1
theorem OpIsE.mk {ts : Array Value} {df : List Deferred} {ds : List Nat} {Vs : List SV} {ex : Nat -> Nat} {D : Nat -> Nat -> Bool} {w : World} {i : Nat} {o : Oper} (ho : ops[i]? = some o)
  (h : ∀ (vs : Nat -> Value) (w1 : World), Below w.heap.size w w1 -> (∀ j, Region.waitsFor .any ops i j = true -> (ex j = i \/ ops.size <= ex j) -> (Vs.getD j SV.any).p (vs j) w1) →
  ∀ K : Act -> World -> Prop, (∀ v w2, (Vs.getD i SV.any).p v w2 -> Below w.heap.size w w2 -> (∀ j, j ≠ i -> ex j ≠ i -> D i j = false -> D (ex j) i = false -> ∀ u, (Vs.getD j SV.any).p u w1 -> (Vs.getD j SV.any).p u w2) -> K ⟨(frameV ts ds vs 0).setIfInBounds (ds.getD i 0) v, df⟩ w2) →
   if Region.wanted o (yielded ops (frameV ts ds vs 0)) = true then Oper.wp P o ⟨frameV ts ds vs 0, df⟩ w1 K Q else K (Act.put ⟨frameV ts ds vs 0, df⟩ o.dst undef) w1) : OpIsE P ops Q ts df ds Vs ex D w i := fun o' ho' => by
 have : o = o' := Option.some.inj (ho.symm.trans ho')
 subst this; exact h
end
end Go.Proofs.YteibnfeokgibmaaGreat
end
