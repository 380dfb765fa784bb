/-
  PACKED for a claim.
-/
import Derived.Deep.SlicePairs
import Derived.ChangeArms
import Derived.ChangeAt
import Derived.Test.YtichfdjjbafeiaaGreatO37
set_option linter.unusedVariables false
set_option linter.unusedSimpArgs false
set_option maxRecDepth 100000
namespace Go.Proofs.YtichfdjjbafeiaaGreat
open Go.ChangeShapes Go.WideShapes Go.ChangeAt Go.RowKit
theorem ypw {w : World} {a : Addr} {u : Value} (h : w.cell? a = some u) : a.spot = none /\ a.block < w.heap.size := by
 unfold World.cell? at h
 split at h
 ·rename_i hb
  split at h
  ·cases h
  ·rename_i hs
   refine ⟨by cases e : a.spot <;> simp_all, (Array.getElem?_eq_some_iff.1 hb).1⟩
 ·cases h
theorem yqy {H : Type} {enc : TypeId × Value -> H} {W : World} {v : Value} {t e : TypeId} {k : IntKind} {fuel : Nat} {x : DataW H × List MemPlace} (ht : Tryz.prog.underlying t = some (.slice e)) (he : Tryz.prog.underlying e = some (.int k)) (hc : Tryz.prog.cellsOf e = 1)
  (h : DataW.trod enc Tryz.prog W 0 (fun _ => true) true fuel t [v] = some x) : ∃ l : List Int, RdF anyB W v l.length (l.map fun z => .int k z) /\ l.length <= maxLen /\ ∀ z ∈ l, (Lit.int k z).wf = true := by
 rcases Deep.open_slice1 ht hc h with ⟨ev, _⟩ | ⟨ad, len, cap, m, n, V, D, P, ev, -, hl, hm, hmm, -, hi⟩
 ·simp at ev
  subst ev; exact ⟨[], RdF.nil _ _, Nat.zero_le _, fun z hz => by simp at hz⟩
 ·simp at ev
  subst ev
  have hmc : m = cap := by simpa using hmm
  have h0 : ∀ i, i < len -> V i = .int k (intOf (V i)) /\ (Lit.int k (intOf (V i))).wf = true := by
   intro i hil; obtain ⟨_, t0⟩ := hi i (by omega)
   obtain ⟨n0, e0, _, w0⟩ := DataW.trod_int he t0
   simp at e0
   rw [e0]; exact ⟨rfl, w0⟩
  obtain ⟨l, hl'⟩ : ∃ l : List Int, l = (List.range len).map fun i => intOf (V i) := ⟨_, rfl⟩
  have hll : l.length = len := by rw [hl']; simp
  have hget : ∀ i, i < len -> l[i]? = some (intOf (V i)) := fun i h => by rw [hl', List.getElem?_map, List.getElem?_range h]; rfl
  refine ⟨l, ⟨some ad, cap, by rw [hll], by omega, fun hn => ?_⟩, by omega, ?_⟩
  ·rw [hll] at hn; obtain ⟨c0, _⟩ := hi 0 (by omega)
   obtain ⟨hs, hb⟩ := ypw c0
   have ea : ad.add 0 = ad := by simp [Addr.add]
   rw [ea] at hs hb; obtain ⟨g, o, sp⟩ := ad
   simp only at hs hb
   subst hs; refine ⟨g, o, rfl, trivial, fun j u hu => ?_⟩
   rw [List.getElem?_map] at hu
   have hj : j < len := by
    rcases Nat.lt_or_ge j len with h | h
    ·exact h
    ·rw [List.getElem?_eq_none (by omega)] at hu; cases hu
   rw [hget j hj] at hu; obtain ⟨c1, _⟩ := hi j (by omega)
   rw [Addr.add_lit] at c1; rw [c1, (h0 j hj).1]
   simpa using hu
  ·intro z hz; rw [hl'] at hz; obtain ⟨i, hi', rfl⟩ := List.mem_map.1 hz; exact (h0 i (by simpa using hi')).2
theorem yur {H : Type} {enc : TypeId × Value -> H} {W : World} {v : Value} {fuel : Nat} {x : DataW H × List MemPlace} (h : DataW.trod enc Tryz.prog W 0 (fun _ => true) true fuel 22 [v] = some x) : ∃ l : List Int, RdI anyB W v l /\ l.length <= maxLen /\ I64 l := by
 obtain ⟨l, h1, h2, h3⟩ := yqy Tryz.underlying22 Tryz.underlying3 (by kernel_rfl) h
 exact ⟨l, h1, h2, fun z hz => wf_i64 (h3 z hz)⟩
theorem yuq {H : Type} {enc : TypeId × Value -> H} {W : World} {v : Value} {base : Nat} {d : DataW H} {ps : List MemPlace} (hval : Value.okWide Tryz.prog W .any base 22 v)
  (h : DataW.Trod enc Tryz.prog W 0 (fun _ => true) true 22 v d ps) : ∃ l : List Int, RdI anyB W v l /\ l.length <= maxLen /\ I64 l := by
 obtain ⟨a, len, cap, rfl⟩ := okWide_slice Tryz.underlying22 hval; obtain ⟨fuel, hf⟩ := h; exact yur hf
end Go.Proofs.YtichfdjjbafeiaaGreat
namespace Go.Proofs.YtichfdjjbafeiaaGreat
open Go.RowKit
theorem TabAt.tight {F : Nat -> Prop} {w : World} {p : Nat} {L : List PE} (h : TabAt F w p L) : TabAt (fun k => F k /\ k < w.heap.size) w p L := by
 obtain ⟨hg, ve, bo, b2, b3, h1, ⟨M, e, h2, h2'⟩, h3, h4, h5⟩ := h; exact ⟨hg, ve, bo, b2, b3, h1, ⟨M, e, h2, fun m hm => (h2' m hm).lt⟩, h3, h4, h5⟩
def IsSl (u : Value) : Prop := ∃ A n c, u = .slice A n c
theorem yrg {F : Nat -> Prop} {w : World} {M : List ME} (h : ∀ m ∈ M, EntOk F w m) {k : Nat} {m : ME} (hk : M[k]? = some m) : IsSl m.vs /\ IsSl m.vl := by
 have := h m (List.mem_of_getElem? hk)
 obtain ⟨A, c, e⟩ := this.1.form; obtain ⟨A', c', e'⟩ := this.2.form; exact ⟨⟨_, _, _, e⟩, ⟨_, _, _, e'⟩⟩
theorem TabAt.off {F : Nat -> Prop} {w w' : World} {p : Nat} {L : List PE} {b : Nat} {cs : Array Value} {T : TypeId} {fr : Nat × Nat} (h : TabAt F w p L) (hF : ∀ k, F k -> k ≠ b) (hg : w.grownBy w' (some b)) (hb : w.heap[b]? = some (.cells cs T fr)) (h0 : T ≠ 70) (h1 : T ≠ 193) (h2 : T ≠ 194) (h3 : T ≠ 189)
  (hrow : ∀ o u1 u2, IsSl u1 -> IsSl u2 -> w.cell? ⟨b, o, none⟩ = some u1 -> w.cell? ⟨b, o + 1, none⟩ = some u2 -> w'.cell? ⟨b, o, none⟩ = some u1 /\ w'.cell? ⟨b, o + 1, none⟩ = some u2) : TabAt F w' p L := by
 obtain ⟨hgd, ve, bo, b2, b3, e1, ⟨M, e, ⟨A, c, rfl, hc, hr⟩, hM⟩, e3, e4, e5⟩ := h
 have hmap : ∀ {kt n j}, KMap kt n w j L -> some j ≠ some b := fun hk hh => by
  injection hh with hh
  obtain ⟨es, cc, hm⟩ := hk.isMap; rw [hh, hb] at hm
  cases hm
 refine ⟨hgd, _, bo, b2, b3, (hg.block p (R4.yac e1) (by
  intro hh
  injection hh with hh
  rw [hh, hb] at e1
  injection e1 with e1
  injection e1 with _ e1 _
  exact h0 e1)).trans e1, ⟨M, e, ⟨A, c, rfl, hc, fun hn => ?_⟩, fun m hm => (hM m hm).frame fun k hk hl => hg.block k hl (by intro hh; injection hh with hh; exact hF k hk hh)⟩, ylw e3 hg hb h1 h2 h3, e4.kept hg (hmap e4), e5.kept hg (hmap e5)⟩
 obtain ⟨g, o, rfl, ht, hx⟩ := hr hn; refine ⟨g, o, rfl, ht, fun j u hu => ?_⟩
 by_cases hgb : g = b
 ·subst hgb; have hj := (List.getElem?_eq_some_iff.1 hu).1; rw [yak] at hj
  have hm : M[j / 2]? = some (M[j / 2]'(by omega)) := List.getElem?_eq_getElem _
  obtain ⟨c1, c2⟩ := ybw hm; obtain ⟨s1, s2⟩ := yrg hM hm; obtain ⟨r1, r2⟩ := hrow (o + j / 2 * 2) _ _ s1 s2 (hx _ _ c1) (by rw [Nat.add_assoc]; exact hx _ _ c2)
  rcases Nat.mod_two_eq_zero_or_one j with em | em
  ·rw [show j / 2 * 2 = j by omega] at c1 r1
   rw [c1] at hu; cases hu; exact r1
  ·rw [show j / 2 * 2 + 1 = j by omega] at c2
   rw [show o + j / 2 * 2 + 1 = o + j by omega] at r2
   rw [c2] at hu; cases hu; exact r2
 ·have hcell := hx j u hu; rw [World.cell?_of_block (w := w) (a := ⟨g, o + j, none⟩) (hg.block g (yah hcell) (by intro hh; injection hh with hh; exact hgb hh))]
  exact hcell
structure ZS (w4 : World) (gx m : Nat) (wq : World) : Prop where
 gr : w4.grownBy wq (some gx)
 keep : ∀ p u, IsSl u -> w4.cell? p = some u -> wq.cell? p = some u
 row : 0 < m -> ∃ cs, wq.heap[gx]? = some (.cells cs 47 (0, 0)) /\ m <= cs.size /\ ∀ i, i < m -> ∃ y, cs[i]? = some (.int .u32 y)
 zero : m = 0 -> wq = w4
theorem ZS.start {w4 : World} {B gx m c : Nat} {A : Option Addr} {l : List Nat} (ho : OwnE B w4 (.slice A m c) l) (hl : l.length = m) (hA : 0 < m -> A = some ⟨gx, 0, none⟩) : ZS w4 gx m w4 := by
 refine ⟨World.grownBy.refl _ _, fun _ _ _ h => h, fun hm => ?_, fun _ => rfl⟩
 obtain rfl := hA hm; unfold OwnE World.ownsRow at ho; obtain ⟨h1, h2 | ⟨g, cap, cur, e, hB, hh, h3, h4, h5, h6⟩⟩ := ho
 ·cases h2.1
 ·injection e with e1 e2 e3
  injection e1 with e1
  injection e1 with e1
  subst e1; refine ⟨cur, hh, by omega, fun i hi => ?_⟩
  have hx : (ev l)[i]? = some (.int .u32 ((l[i]'(by omega) : Nat) : Int)) := ev_at (List.getElem?_eq_getElem _)
  rw [<- h6, List.getElem?_take_of_lt (by omega)] at hx
  exact ⟨_, by simpa using hx⟩
theorem ZS.put {w4 wq : World} {gx m j : Nat} (h : ZS w4 gx m wq) (hj : j < m) : ZS w4 gx m (wq.setCell ⟨gx, j, none⟩ (.int .u32 0)) := by
 obtain ⟨cs, h1, h2, h3⟩ := h.row (by omega)
 have h8 := heap_setCell_same wq gx j _ _ (.int .u32 0) h1; refine ⟨h.gr.trans (R4.yal wq ⟨gx, j, none⟩ _), fun p u hu hp => ?_, fun _ => ⟨_, h8, by simpa using h2, fun i hi => ?_⟩, fun hm => by omega⟩
 ·have hq := h.keep p u hu hp
  by_cases e : (⟨gx, j, none⟩ : Addr) = p
  ·subst e; rw [cell_of_row _ _ _ _ _ _ h1] at hq; obtain ⟨y, hy⟩ := h3 j hj; rw [hy] at hq; obtain ⟨A, n, c, rfl⟩ := hu
   cases hq
  ·rw [World.cell?_setCell_other _ _ _ _ e]; exact hq
 ·by_cases e : j = i
  ·subst e; exact ⟨0, by rw [Array.getElem?_setIfInBounds_self_of_lt (by omega)]⟩
  ·obtain ⟨y, hy⟩ := h3 i hi; exact ⟨y, by rw [Array.getElem?_setIfInBounds_ne e]; exact hy⟩
theorem ZS.slot {w4 wq : World} {gx m j : Nat} (h : ZS w4 gx m wq) (hj : j < m) : (∃ y, wq.cell? ⟨gx, j, none⟩ = some (.int .u32 y)) /\ wq.frozen? ⟨gx, j, none⟩ = false := by
 obtain ⟨cs, h1, h2, h3⟩ := h.row (by omega)
 obtain ⟨y, hy⟩ := h3 j hj; exact ⟨⟨y, by rw [cell_of_row _ _ _ _ _ _ h1]; exact hy⟩, frozen_of_row _ _ _ _ _ h1⟩
theorem ZS.tab {w4 wq : World} {gx m : Nat} {F : Nat -> Prop} {p : Nat} {L : List PE} (h : ZS w4 gx m wq) (ht : TabAt F w4 p L) (hF : ∀ k, F k -> k ≠ gx) (hx : 0 < m -> ∃ cs, w4.heap[gx]? = some (.cells cs 47 (0, 0))) : TabAt F wq p L := by
 rcases Nat.eq_zero_or_pos m with hm | hm
 ·rw [h.zero hm]; exact ht
 ·obtain ⟨cs, hx⟩ := hx hm; exact ht.off hF h.gr hx (by decide) (by decide) (by decide) (by decide) fun o u1 u2 s1 s2 c1 c2 => ⟨h.keep _ _ s1 c1, h.keep _ _ s2 c2⟩
theorem ZS.var {w4 wq : World} {gx m b : Nat} {u : Value} (h : ZS w4 gx m wq) (hv : w4.heap[b]? = some (.cells #[u] 52 (0, 0))) (hx : 0 < m -> ∃ cs, w4.heap[gx]? = some (.cells cs 47 (0, 0))) : wq.heap[b]? = some (.cells #[u] 52 (0, 0)) := by
 rcases Nat.eq_zero_or_pos m with hm | hm
 ·rw [h.zero hm]; exact hv
 ·obtain ⟨cs, hx⟩ := hx hm
  exact (h.gr.block b (R4.yac hv) (by
   intro e
   injection e with e
   rw [e, hx] at hv
   injection hv with hv
   injection hv with _ hv _
   cases hv)).trans hv
theorem ZS.bel {w w4 wq : World} {gx m b6 : Nat} (h : ZS w4 gx m wq) (hb : Below w.heap.size w w4) (hg : w.heap.size <= gx) : Below w.heap.size w wq := hb.grown h.gr hb.size fun k hk => by cases hk; exact hg
structure PU (w : World) (b6 : Nat) (t : Value) (wr : World) : Prop where
 tab : ∃ p L A c, t = .pointer (some ⟨p, 0, none⟩) /\ TabAt (fun k => k ≠ b6) wr p L /\ 0 < L.length /\ wr.heap[b6]? = some (.cells #[.slice A L.length c] 52 (0, 0)) /\ RefT wr (.slice A L.length c) L
 bel : Below w.heap.size w wr
 lo : w.heap.size <= b6
theorem TabAt.var {F : Nat -> Prop} {wz : World} {p b6 : Nat} {L : List PE} {u u' : Value} (h : TabAt F wz p L) (hF : ∀ k, F k -> k ≠ b6) (hv : wz.heap[b6]? = some (.cells #[u] 52 (0, 0))) : TabAt F (wz.setCell ⟨b6, 0, none⟩ u') p L :=
 h.off hF (R4.yal wz ⟨b6, 0, none⟩ _) hv (by decide) (by decide) (by decide) (by decide) fun o u1 u2 _ _ _ c2 => (by
  rw [cell_of_row _ _ _ _ _ _ hv] at c2
  simp at c2)
theorem PU.put {w wz : World} {b6 q : Nat} {L : List PE} {u : Value} {A : Option Addr} {c : Nat} (hT : TabAt (fun k => k ≠ b6) wz q L) (h0 : 0 < L.length) (hv : wz.heap[b6]? = some (.cells #[u] 52 (0, 0))) (hR : RefT wz (.slice A L.length c) L) (hb : Below w.heap.size w wz) (hlo : w.heap.size <= b6) :
  PU w b6 (.pointer (some ⟨q, 0, none⟩)) (wz.setCell ⟨b6, 0, none⟩ (.slice A L.length c)) :=
 ⟨⟨q, L, A, c, rfl, hT.var (fun _ h => h) hv, h0, heap_setCell_same wz b6 0 _ _ _ hv, hR.off (R4.yal wz ⟨b6, 0, none⟩ _) hv (by decide) (by decide) (by decide)⟩, hb.setCell (by show _ <= b6; exact hlo) _, hlo⟩
def SV.rw (L : List PE) : SV := ⟨fun v w => ∃ u, v = .tuple #[.agg #[u], .int .i64 0] /\ RefT w u L, fun _ _ _ ⟨u, e, h⟩ hb => ⟨u, e, h.below hb (zN _)⟩⟩
end Go.Proofs.YtichfdjjbafeiaaGreat
