/-
  THE ARGUMENTS of the laws of stage 5, opened: lists of numbers; entries that are put.
  WHAT IS WRITTEN BESIDE A TABLE; the states of the law TablePuts.
-/
import Derived.Test.YtaabdpfhpolcgaaGreatBOpen
import Derived.Test.YtaabdpfhpolcgaaGreatBBuild
import Derived.Deep.SlicePairs
import Derived.ChangeArms
import Derived.ChangeAt
import Derived.Test.YtaabdpfhpolcgaaGreatBRUse
import Derived.Test.YtaabdpfhpolcgaaGreatBLike
import Derived.Test.YtaabdpfhpolcgaaGreatBRRoot
namespace Go.Proofs.YtaabdpfhpolcgaaGreat
open Go.ChangeShapes Go.WideShapes Go.ChangeAt Go.RowKit
set_option linter.unusedVariables false
theorem spot_none {w : World} {a : Addr} {u : Value} (h : w.cell? a = some u) : a.spot = none ∧ a.block < w.heap.size := by
  unfold World.cell? at h
  split at h
  · rename_i hb
    split at h
    · cases h
    · rename_i hs
      refine ⟨by cases e : a.spot <;> simp_all, (Array.getElem?_eq_some_iff.1 hb).1⟩
  · cases h
theorem open_nums {H : Type} {enc : TypeId × Value → H} {W : World} {v : Value} {t e : TypeId} {k : IntKind} {fuel : Nat} {x : DataW H × List MemPlace} (ht : Tryz.prog.underlying t = some (.slice e)) (he : Tryz.prog.underlying e = some (.int k)) (hc : Tryz.prog.cellsOf e = 1)
    (h : DataW.trod enc Tryz.prog W 0 (fun _ => true) true fuel t [v] = some x) : ∃ l : List Int, RdF anyB W v l.length (l.map fun z => .int k z) ∧ l.length ≤ maxLen ∧ ∀ z ∈ l, (Lit.int k z).wf = true := by
  rcases Deep.open_slice1 ht hc h with ⟨ev, _⟩ | ⟨ad, len, cap, m, n, V, D, P, ev, -, hl, hm, hmm, -, hi⟩
  · simp at ev
    subst ev
    exact ⟨[], RdF.nil _ _, Nat.zero_le _, fun z hz => by simp at hz⟩
  · simp at ev
    subst ev
    have hmc : m = cap := by simpa using hmm
    have h0 : ∀ i, i < len → V i = .int k (intOf (V i)) ∧ (Lit.int k (intOf (V i))).wf = true := by
      intro i hil
      obtain ⟨_, t0⟩ := hi i (by omega)
      obtain ⟨n0, e0, _, w0⟩ := DataW.trod_int he t0
      simp at e0
      rw [e0]
      exact ⟨rfl, w0⟩
    obtain ⟨l, hl'⟩ : ∃ l : List Int, l = (List.range len).map fun i => intOf (V i) := ⟨_, rfl⟩
    have hll : l.length = len := by rw [hl']; simp
    have hget : ∀ i, i < len → l[i]? = some (intOf (V i)) := fun i h => by rw [hl', List.getElem?_map, List.getElem?_range h]; rfl
    refine ⟨l, ⟨some ad, cap, by rw [hll], by omega, fun hn => ?_⟩, by omega, ?_⟩
    · rw [hll] at hn
      obtain ⟨c0, _⟩ := hi 0 (by omega)
      obtain ⟨hs, hb⟩ := spot_none c0
      have ea : ad.add 0 = ad := by simp [Addr.add]
      rw [ea] at hs hb
      obtain ⟨g, o, sp⟩ := ad
      simp only at hs hb
      subst hs
      refine ⟨g, o, rfl, trivial, fun j u hu => ?_⟩
      rw [List.getElem?_map] at hu
      have hj : j < len := by
        rcases Nat.lt_or_ge j len with h | h
        · exact h
        · rw [List.getElem?_eq_none (by omega)] at hu; cases hu
      rw [hget j hj] at hu
      obtain ⟨c1, _⟩ := hi j (by omega)
      rw [Addr.add_lit] at c1
      rw [c1, (h0 j hj).1]
      simpa using hu
    · intro z hz
      rw [hl'] at hz
      obtain ⟨i, hi', rfl⟩ := List.mem_map.1 hz
      exact (h0 i (by simpa using hi')).2
theorem open_rdi {H : Type} {enc : TypeId × Value → H} {W : World} {v : Value} {fuel : Nat} {x : DataW H × List MemPlace} (h : DataW.trod enc Tryz.prog W 0 (fun _ => true) true fuel 33 [v] = some x) : ∃ l : List Int, RdI anyB W v l ∧ l.length ≤ maxLen ∧ I64 l := by
  obtain ⟨l, h1, h2, h3⟩ := open_nums Tryz.underlying33 Tryz.underlying3 (by kernel_rfl) h
  exact ⟨l, h1, h2, fun z hz => wf_i64 (h3 z hz)⟩
theorem open_rde {H : Type} {enc : TypeId × Value → H} {W : World} {v : Value} {fuel : Nat} {x : DataW H × List MemPlace} (h : DataW.trod enc Tryz.prog W 0 (fun _ => true) true fuel 48 [v] = some x) : ∃ l : List Nat, RdE anyB W v l ∧ l.length ≤ maxLen ∧ ∀ z ∈ l, z < 4294967296 := by
  obtain ⟨l, h1, h2, h3⟩ := open_nums Tryz.underlying48 Tryz.underlying25 (by kernel_rfl) h
  have hw : ∀ z ∈ l, 0 ≤ z ∧ z ≤ 4294967295 := fun z hz => wf_u32 (h3 z hz)
  refine ⟨l.map Int.toNat, ?_, by simpa using h2, fun z hz => ?_⟩
  · unfold RdE
    have he : ev (l.map Int.toNat) = l.map fun z => .int .u32 z := by
      unfold ev
      rw [List.map_map]
      apply List.map_congr_left
      intro z hz
      have := hw z hz
      simp only [Function.comp]
      rw [Int.toNat_of_nonneg this.1]
    rw [he, List.length_map]
    exact h1
  · obtain ⟨y, hy, rfl⟩ := List.mem_map.1 hz
    have := hw y hy
    omega
set_option maxRecDepth 100000 in
theorem open_ris {H : Type} {enc : TypeId × Value → H} {W : World} {v : Value} {base : Nat} {d : DataW H} {ps : List MemPlace} (hval : Value.okWide Tryz.prog W .any base 33 v)
    (h : DataW.Trod enc Tryz.prog W 0 (fun _ => true) true 33 v d ps) : ∃ l : List Int, RdI anyB W v l ∧ l.length ≤ maxLen ∧ I64 l := by
  obtain ⟨a, len, cap, rfl⟩ := okWide_slice Tryz.underlying33 hval
  obtain ⟨fuel, hf⟩ := h
  exact open_rdi hf
def OpOk (e : PE) : Prop := I64 e.1 ∧ (∀ x ∈ e.2, x < 4294967296) ∧ e.1.length ≤ maxLen ∧ e.2.length ≤ maxLen
set_option maxRecDepth 100000 in
theorem open_ops {H : Type} {enc : TypeId × Value → H} {W : World} {v : Value} {base : Nat} {d : DataW H} {ps : List MemPlace} (hval : Value.okWide Tryz.prog W .any base 44 v)
    (h : DataW.Trod enc Tryz.prog W 0 (fun _ => true) true 44 v d ps) : ∃ O : List PE, RdT anyB W v O ∧ (∀ e ∈ O, OpOk e) ∧ O.length ≤ maxLen := by
  obtain ⟨a, len, cap, rfl⟩ := okWide_slice Tryz.underlying44 hval
  obtain ⟨fuel, hf⟩ := h
  rcases Deep.open_slice_pairs Tryz.underlying44 Tryz.underlying50 (by kernel_rfl) rfl rfl (by kernel_rfl) (by kernel_rfl) hf with ⟨e, _⟩ | ⟨ad, n, c, m, k, V0, V1, D0, D1, P0, P1, e, -, hl, hm, hmm, -, hi⟩
  · simp [Value.cells] at e
    obtain ⟨rfl, rfl, rfl⟩ := e
    exact ⟨[], ⟨[], rfl, RdF.nil _ _, fun m hm => by simp at hm⟩, fun p hp => absurd hp (by simp), Nat.zero_le _⟩
  · simp [Value.cells] at e
    obtain ⟨rfl, rfl, rfl⟩ := e
    have hmc : m = cap := by simpa using hmm
    have hex : ∀ i, i < len → ∃ q : ME, q.vs = V0 i ∧ q.vl = V1 i ∧ EntOk anyB W q ∧ OpOk q.pl := by
      intro i hil
      obtain ⟨_, _, t0, t1⟩ := hi i (by omega)
      obtain ⟨l0, r0, m0, i0⟩ := open_rdi t0
      obtain ⟨l1, r1, m1, i1⟩ := open_rde t1
      exact ⟨⟨V0 i, V1 i, l0, l1⟩, rfl, rfl, ⟨r0, r1⟩, i0, i1, m0, m1⟩
    obtain ⟨f, hfz⟩ := Deep.choose_lt hex
    obtain ⟨M, hM⟩ : ∃ M : List ME, M = (List.range len).map f := ⟨_, rfl⟩
    have hMl : M.length = len := by rw [hM]; simp
    have hget : ∀ i, i < len → M[i]? = some (f i) := fun i h => by rw [hM, List.getElem?_map, List.getElem?_range h]; rfl
    have hmem : ∀ q ∈ M, EntOk anyB W q ∧ OpOk q.pl := fun q hq => by
      rw [hM] at hq
      obtain ⟨i, hi', rfl⟩ := List.mem_map.1 hq
      exact (hfz i (by simpa using hi')).2.2
    refine ⟨pls M, ⟨M, rfl, ⟨some ad, cap, by rw [hMl], by rw [hMl]; exact hl, fun hn => ?_⟩, fun q hq => (hmem q hq).1⟩, fun e he => ?_, by rw [pls_len, hMl]; omega⟩
    · rw [hMl] at hn
      obtain ⟨c0, _, _, _⟩ := hi 0 (by omega)
      obtain ⟨hs, hb⟩ := spot_none c0
      rw [Nat.zero_mul] at hs hb
      have ea : ad.add 0 = ad := by simp [Addr.add]
      rw [ea] at hs hb
      obtain ⟨g, o, sp⟩ := ad
      simp only at hs hb
      subst hs
      refine ⟨g, o, rfl, trivial, fun j u hu => ?_⟩
      have hj2 := (List.getElem?_eq_some_iff.1 hu).1
      rw [mcells_len, hMl] at hj2
      have hj : j / 2 < len := by omega
      obtain ⟨c0, c1, _, _⟩ := hi (j / 2) (by omega)
      rw [Addr.add_lit] at c0 c1
      obtain ⟨q0, q1⟩ := mcells_at (hget _ hj)
      obtain ⟨e0, e1, _⟩ := hfz _ hj
      rcases Nat.mod_two_eq_zero_or_one j with e | e
      · rw [show j / 2 * 2 = j by omega] at c0 q0
        rw [q0] at hu
        rw [c0, ← e0]; exact hu
      · rw [show j / 2 * 2 + 1 = j by omega] at c1 q1
        rw [q1] at hu
        rw [c1, ← e1]; exact hu
    · obtain ⟨q, hq, rfl⟩ := List.mem_map.1 he
      exact (hmem q hq).2
end Go.Proofs.YtaabdpfhpolcgaaGreat
namespace Go.Proofs.YtaabdpfhpolcgaaGreat
open Go.RowKit
set_option linter.unusedVariables false
set_option linter.unusedSimpArgs false
theorem TabAt.tight {F : Nat → Prop} {w : World} {p : Nat} {L : List PE} (h : TabAt F w p L) : TabAt (fun k => F k ∧ k < w.heap.size) w p L := by
  obtain ⟨hg, ve, bo, b2, b3, h1, ⟨M, e, h2, h2'⟩, h3, h4, h5⟩ := h
  exact ⟨hg, ve, bo, b2, b3, h1, ⟨M, e, h2, fun m hm => (h2' m hm).lt⟩, h3, h4, h5⟩
def IsSl (u : Value) : Prop := ∃ A n c, u = .slice A n c
theorem mcells_sl {F : Nat → Prop} {w : World} {M : List ME} (h : ∀ m ∈ M, EntOk F w m) {k : Nat} {m : ME} (hk : M[k]? = some m) : IsSl m.vs ∧ IsSl m.vl := by
  have := h m (List.mem_of_getElem? hk)
  obtain ⟨A, c, e⟩ := this.1.form
  obtain ⟨A', c', e'⟩ := this.2.form
  exact ⟨⟨_, _, _, e⟩, ⟨_, _, _, e'⟩⟩
/-- A block beside the table is written: two slices that stand there side by side stay. -/
theorem TabAt.off {F : Nat → Prop} {w w' : World} {p : Nat} {L : List PE} {b : Nat} {cs : Array Value} {T : TypeId} {fr : Nat × Nat} (h : TabAt F w p L) (hF : ∀ k, F k → k ≠ b) (hg : w.grownBy w' (some b)) (hb : w.heap[b]? = some (.cells cs T fr)) (h0 : T ≠ 96) (h1 : T ≠ 166) (h2 : T ≠ 167) (h3 : T ≠ 162)
    (hrow : ∀ o u1 u2, IsSl u1 → IsSl u2 → w.cell? ⟨b, o, none⟩ = some u1 → w.cell? ⟨b, o + 1, none⟩ = some u2 → w'.cell? ⟨b, o, none⟩ = some u1 ∧ w'.cell? ⟨b, o + 1, none⟩ = some u2) : TabAt F w' p L := by
  obtain ⟨hgd, ve, bo, b2, b3, e1, ⟨M, e, ⟨A, c, rfl, hc, hr⟩, hM⟩, e3, e4, e5⟩ := h
  have hmap : ∀ {kt n j}, KMap kt n w j L → some j ≠ some b := fun hk hh => by
    injection hh with hh
    obtain ⟨es, cc, hm⟩ := hk.isMap
    rw [hh, hb] at hm
    cases hm
  refine ⟨hgd, _, bo, b2, b3, (hg.block p (R4.heap_lt e1) (by
    intro hh
    injection hh with hh
    rw [hh, hb] at e1
    injection e1 with e1
    injection e1 with _ e1 _
    exact h0 e1)).trans e1, ⟨M, e, ⟨A, c, rfl, hc, fun hn => ?_⟩, fun m hm => (hM m hm).frame fun k hk hl => hg.block k hl (by intro hh; injection hh with hh; exact hF k hk hh)⟩, trie_off e3 hg hb h1 h2 h3, e4.kept hg (hmap e4), e5.kept hg (hmap e5)⟩
  obtain ⟨g, o, rfl, ht, hx⟩ := hr hn
  refine ⟨g, o, rfl, ht, fun j u hu => ?_⟩
  by_cases hgb : g = b
  · subst hgb
    have hj := (List.getElem?_eq_some_iff.1 hu).1
    rw [mcells_len] at hj
    have hm : M[j / 2]? = some (M[j / 2]'(by omega)) := List.getElem?_eq_getElem _
    obtain ⟨c1, c2⟩ := mcells_at hm
    obtain ⟨s1, s2⟩ := mcells_sl hM hm
    obtain ⟨r1, r2⟩ := hrow (o + j / 2 * 2) _ _ s1 s2 (hx _ _ c1) (by rw [Nat.add_assoc]; exact hx _ _ c2)
    rcases Nat.mod_two_eq_zero_or_one j with em | em
    · rw [show j / 2 * 2 = j by omega] at c1 r1
      rw [c1] at hu; cases hu; exact r1
    · rw [show j / 2 * 2 + 1 = j by omega] at c2
      rw [show o + j / 2 * 2 + 1 = o + j by omega] at r2
      rw [c2] at hu; cases hu; exact r2
  · have hcell := hx j u hu
    rw [World.cell?_of_block (w := w) (a := ⟨g, o + j, none⟩) (hg.block g (cell_lt hcell) (by intro hh; injection hh with hh; exact hgb hh))]
    exact hcell
/-- While x's elements are zeroed: what was a slice stays. -/
structure ZS (w4 : World) (gx m : Nat) (wq : World) : Prop where
  gr : w4.grownBy wq (some gx)
  keep : ∀ p u, IsSl u → w4.cell? p = some u → wq.cell? p = some u
  row : 0 < m → ∃ cs, wq.heap[gx]? = some (.cells cs 26 (0, 0)) ∧ m ≤ cs.size ∧ ∀ i, i < m → ∃ y, cs[i]? = some (.int .u32 y)
  zero : m = 0 → wq = w4
theorem ZS.start {w4 : World} {B gx m c : Nat} {A : Option Addr} {l : List Nat} (ho : OwnE B w4 (.slice A m c) l) (hl : l.length = m) (hA : 0 < m → A = some ⟨gx, 0, none⟩) : ZS w4 gx m w4 := by
  refine ⟨World.grownBy.refl _ _, fun _ _ _ h => h, fun hm => ?_, fun _ => rfl⟩
  obtain rfl := hA hm
  unfold OwnE World.ownsRow at ho
  obtain ⟨h1, h2 | ⟨g, cap, cur, e, hB, hh, h3, h4, h5, h6⟩⟩ := ho
  · cases h2.1
  · injection e with e1 e2 e3
    injection e1 with e1
    injection e1 with e1
    subst e1
    refine ⟨cur, hh, by omega, fun i hi => ?_⟩
    have hx : (ev l)[i]? = some (.int .u32 ((l[i]'(by omega) : Nat) : Int)) := ev_at (List.getElem?_eq_getElem _)
    rw [← h6, List.getElem?_take_of_lt (by omega)] at hx
    exact ⟨_, by simpa using hx⟩
theorem ZS.put {w4 wq : World} {gx m j : Nat} (h : ZS w4 gx m wq) (hj : j < m) : ZS w4 gx m (wq.setCell ⟨gx, j, none⟩ (.int .u32 0)) := by
  obtain ⟨cs, h1, h2, h3⟩ := h.row (by omega)
  have h8 := heap_setCell_same wq gx j _ _ (.int .u32 0) h1
  refine ⟨h.gr.trans (R4.grown_setCell wq ⟨gx, j, none⟩ _), fun p u hu hp => ?_, fun _ => ⟨_, h8, by simpa using h2, fun i hi => ?_⟩, fun hm => by omega⟩
  · have hq := h.keep p u hu hp
    by_cases e : (⟨gx, j, none⟩ : Addr) = p
    · subst e
      rw [cell_of_row _ _ _ _ _ _ h1] at hq
      obtain ⟨y, hy⟩ := h3 j hj
      rw [hy] at hq
      obtain ⟨A, n, c, rfl⟩ := hu
      cases hq
    · rw [World.cell?_setCell_other _ _ _ _ e]; exact hq
  · by_cases e : j = i
    · subst e
      exact ⟨0, by rw [Array.getElem?_setIfInBounds_self_of_lt (by omega)]⟩
    · obtain ⟨y, hy⟩ := h3 i hi
      exact ⟨y, by rw [Array.getElem?_setIfInBounds_ne e]; exact hy⟩
theorem ZS.slot {w4 wq : World} {gx m j : Nat} (h : ZS w4 gx m wq) (hj : j < m) : (∃ y, wq.cell? ⟨gx, j, none⟩ = some (.int .u32 y)) ∧ wq.frozen? ⟨gx, j, none⟩ = false := by
  obtain ⟨cs, h1, h2, h3⟩ := h.row (by omega)
  obtain ⟨y, hy⟩ := h3 j hj
  exact ⟨⟨y, by rw [cell_of_row _ _ _ _ _ _ h1]; exact hy⟩, frozen_of_row _ _ _ _ _ h1⟩
theorem ZS.tab {w4 wq : World} {gx m : Nat} {F : Nat → Prop} {p : Nat} {L : List PE} (h : ZS w4 gx m wq) (ht : TabAt F w4 p L) (hF : ∀ k, F k → k ≠ gx) (hx : 0 < m → ∃ cs, w4.heap[gx]? = some (.cells cs 26 (0, 0))) : TabAt F wq p L := by
  rcases Nat.eq_zero_or_pos m with hm | hm
  · rw [h.zero hm]; exact ht
  · obtain ⟨cs, hx⟩ := hx hm
    exact ht.off hF h.gr hx (by decide) (by decide) (by decide) (by decide) fun o u1 u2 s1 s2 c1 c2 => ⟨h.keep _ _ s1 c1, h.keep _ _ s2 c2⟩
theorem ZS.ref {w4 wq : World} {gx m : Nat} {v : Value} {L : List PE} (h : ZS w4 gx m wq) (ht : RefT w4 v L) (hx : 0 < m → ∃ cs, w4.heap[gx]? = some (.cells cs 26 (0, 0))) : RefT wq v L := by
  rcases Nat.eq_zero_or_pos m with hm | hm
  · rw [h.zero hm]; exact ht
  · obtain ⟨cs, hx⟩ := hx hm
    exact ht.off h.gr hx (by decide) (by decide) (by decide)
/-- A variable of one cell, of another kind, stays. -/
theorem ZS.var {w4 wq : World} {gx m b : Nat} {u : Value} (h : ZS w4 gx m wq) (hv : w4.heap[b]? = some (.cells #[u] 42 (0, 0))) (hx : 0 < m → ∃ cs, w4.heap[gx]? = some (.cells cs 26 (0, 0))) : wq.heap[b]? = some (.cells #[u] 42 (0, 0)) := by
  rcases Nat.eq_zero_or_pos m with hm | hm
  · rw [h.zero hm]; exact hv
  · obtain ⟨cs, hx⟩ := hx hm
    exact (h.gr.block b (R4.heap_lt hv) (by
      intro e
      injection e with e
      rw [e, hx] at hv
      injection hv with hv
      injection hv with _ hv _
      cases hv)).trans hv
theorem ZS.bel {w w4 wq : World} {gx m b6 : Nat} (h : ZS w4 gx m wq) (hb : Below w.heap.size w w4) (hg : w.heap.size ≤ gx) : Below w.heap.size w wq := hb.grown h.gr hb.size fun k hk => by cases hk; exact hg
/-- x's block, or, where x has none, b6. -/
theorem gx_of {w1 : World} {b6 B m c : Nat} {A : Option Addr} {l : List Nat} (ho : OwnE B w1 (.slice A m c) l) (hl : l.length = m) (hb : b6 < B) (hB : B ≤ w1.heap.size) : ∃ gx, gx < w1.heap.size ∧ (gx = b6 ∨ B ≤ gx) ∧ (0 < m → A = some ⟨gx, 0, none⟩) := by
  unfold OwnE at ho
  subst hl
  obtain ⟨A', c', e, _, hr⟩ := R4.own_parts ho
  cases e
  rcases Nat.eq_zero_or_pos l.length with hm | hm
  · exact ⟨b6, by omega, .inl rfl, fun h => by omega⟩
  · obtain ⟨g, rfl, h1, h2, _⟩ := hr (by omega)
    exact ⟨g, h2, .inr h1, fun _ => rfl⟩
theorem gx_row {w1 : World} {B gx m c : Nat} {A : Option Addr} {l : List Nat} (ho : OwnE B w1 (.slice A m c) l) (hA : 0 < m → A = some ⟨gx, 0, none⟩) : 0 < m → ∃ cs, w1.heap[gx]? = some (.cells cs 26 (0, 0)) := fun hm => by
  obtain rfl := hA hm
  exact R4.own_block ho rfl
/-- Between two rounds: the program's table, and the document's in its variable (block b6). -/
structure PU (w : World) (b6 : Nat) (t : Value) (wr : World) : Prop where
  tab : ∃ p L A c, t = .pointer (some ⟨p, 0, none⟩) ∧ TabAt (fun k => k ≠ b6) wr p L ∧ 0 < L.length ∧ wr.heap[b6]? = some (.cells #[.slice A L.length c] 42 (0, 0)) ∧ RefT wr (.slice A L.length c) L
  bel : Below w.heap.size w wr
  lo : w.heap.size ≤ b6
theorem TabAt.var {F : Nat → Prop} {wz : World} {p b6 : Nat} {L : List PE} {u u' : Value} (h : TabAt F wz p L) (hF : ∀ k, F k → k ≠ b6) (hv : wz.heap[b6]? = some (.cells #[u] 42 (0, 0))) : TabAt F (wz.setCell ⟨b6, 0, none⟩ u') p L :=
  h.off hF (R4.grown_setCell wz ⟨b6, 0, none⟩ _) hv (by decide) (by decide) (by decide) (by decide) fun o u1 u2 _ _ _ c2 => (by
    rw [cell_of_row _ _ _ _ _ _ hv] at c2
    simp at c2)
theorem PU.put {w wz : World} {b6 q : Nat} {L : List PE} {u : Value} {A : Option Addr} {c : Nat} (hT : TabAt (fun k => k ≠ b6) wz q L) (h0 : 0 < L.length) (hv : wz.heap[b6]? = some (.cells #[u] 42 (0, 0))) (hR : RefT wz (.slice A L.length c) L) (hb : Below w.heap.size w wz) (hlo : w.heap.size ≤ b6) :
    PU w b6 (.pointer (some ⟨q, 0, none⟩)) (wz.setCell ⟨b6, 0, none⟩ (.slice A L.length c)) :=
  ⟨⟨q, L, A, c, rfl, hT.var (fun _ h => h) hv, h0, heap_setCell_same wz b6 0 _ _ _ hv, hR.off (R4.grown_setCell wz ⟨b6, 0, none⟩ _) hv (by decide) (by decide) (by decide)⟩, hb.setCell (by show _ ≤ b6; exact hlo) _, hlo⟩
theorem putP_pos {L : List PE} (x : PE) : 0 < (putP L x).length := by
  rw [putP_len]
  cases hp : place L x.1 with
  | none => simp
  | some k => have := place_lt hp; simp; omega
/-- Words for the region that holds the document's With. -/
def SV.rw (L : List PE) : SV := ⟨fun v w => ∃ u, v = .tuple #[.agg #[u], .int .i64 0] ∧ RefT w u L, fun _ _ _ ⟨u, e, h⟩ hb => ⟨u, e, h.below hb (Nat.le_refl _)⟩⟩
theorem SV.rw_get {L : List PE} {v : Value} {w : World} (h : (SV.rw L).p v w) : ∃ u, v = .tuple #[.agg #[u], .int .i64 0] ∧ RefT w u L := h
def SV.newT (N : Nat) : SV := ⟨fun v w => ∃ g, v = .pointer (some ⟨g, 0, none⟩) ∧ N ≤ g ∧ w.heap[g]? = some (.cells #[.slice none 0 0] 42 (0, 0)), fun _ _ _ ⟨g, e, hN, h⟩ hb => ⟨g, e, hN, (hb.block g (R4.heap_lt h)).trans h⟩⟩
theorem with_yes {F G H : Nat → Prop} {w : World} {p : Nat} {L L' : List PE} {sv lv : Value} {s : List Int} {l : List Nat} (hE : withE L s l = 0) (hL : putP L (s, l) = L') (hF : ∀ k, w.heap.size ≤ k → F k) (h : TabAt F w p L) (hs : RdI G w sv s) (hl : RdE H w lv l) (hlw : ∀ x ∈ l, x < 4294967296) (hsl : s.length ≤ 1000000000000000) (hll : l.length ≤ 1000000000000000) :
    Calls Tryz.prog 12 #[.pointer (some ⟨p, 0, none⟩), sv, lv] w fun r w' => (∃ q, r = .returned (.tuple #[.pointer (some ⟨q, 0, none⟩), .int .i64 0]) ∧ TabAt F w' q L') ∧ Below w.heap.size w w' := by
  subst hL
  exact (with_any hF h hs hl hlw hsl hll).mono fun r w' hh => ⟨hh.1 hE, hh.2.2⟩
theorem with_not {F G H : Nat → Prop} {w : World} {p : Nat} {L : List PE} {sv lv : Value} {s : List Int} {l : List Nat} {E : Int} (hE : withE L s l = E) (hE0 : E ≠ 0) (hF : ∀ k, w.heap.size ≤ k → F k) (h : TabAt F w p L) (hs : RdI G w sv s) (hl : RdE H w lv l) (hlw : ∀ x ∈ l, x < 4294967296) (hsl : s.length ≤ 1000000000000000) (hll : l.length ≤ 1000000000000000) :
    Calls Tryz.prog 12 #[.pointer (some ⟨p, 0, none⟩), sv, lv] w fun r w' => r = .returned (.tuple #[.pointer none, .int .i64 E]) ∧ Below w.heap.size w w' := by
  subst hE
  exact (with_any hF h hs hl hlw hsl hll).mono fun r w' hh => ⟨hh.2.1 hE0, hh.2.2⟩
theorem rwith_yes {G H : Nat → Prop} {w : World} {v sv lv : Value} {L L' : List PE} {s : List Int} {l : List Nat} (hE : withE L s l = 0) (hL : putP L (s, l) = L') (hg : GoodT L) (hne : 0 < L.length) (h : RefT w v L) (hs : RdI G w sv s) (hl : RdQ H w lv l) :
    Calls Tryz.prog 20 #[.agg #[v], sv, lv] w fun r w' => (∃ u, r = .returned (.tuple #[.agg #[u], .int .i64 0]) ∧ RefT w' u L') ∧ Below w.heap.size w w' := by
  subst hL
  exact (rwith_any (fun _ _ => trivial) hg hne h hs hl).mono fun r w' hh => ⟨hh.1 hE, hh.2.2⟩
theorem rwith_not {G H : Nat → Prop} {w : World} {v sv lv : Value} {L : List PE} {s : List Int} {l : List Nat} {E : Int} (hE : withE L s l = E) (hE0 : E ≠ 0) (hg : GoodT L) (hne : 0 < L.length) (h : RefT w v L) (hs : RdI G w sv s) (hl : RdQ H w lv l) :
    Calls Tryz.prog 20 #[.agg #[v], sv, lv] w fun r w' => r = .returned (.tuple #[.agg #[.slice none 0 0], .int .i64 E]) ∧ Below w.heap.size w w' := by
  subst hE
  exact (rwith_any (fun _ _ => trivial) hg hne h hs hl).mono fun r w' hh => ⟨hh.2.1 hE0, hh.2.2⟩
theorem withE_good {L : List PE} {s : List Int} {l : List Nat} (h : GoodT L) (hE : withE L s l = 0) (hw : ∀ x ∈ l, x < 4294967296) : GoodT (putP L (s, l)) := by
  unfold withE at hE
  split at hE
  · cases hE
  · rename_i hb
    obtain ⟨g1, g3, g8, gs⟩ := good_parts (by simpa using hb)
    split at hE
    · cases hE
    · rename_i hp
      refine h.put g1 g3 gs g8 hw ?_
      cases hq : place L s with
      | some k => exact .inl rfl
      | none => exact .inr (by rcases Nat.lt_or_ge L.length 500 with h5 | h5; exact h5; exact absurd ⟨hq, h5⟩ hp)
/-- Entry and Find, whether or not there is one. -/
theorem entry_any {F G : Nat → Prop} {w : World} {p : Nat} {L : List PE} {sv : Value} {s : List Int} (h : TabAt F w p L) (hs : RdI G w sv s) (hI : I64 s) (hsl : s.length ≤ 1000000000000000) {b : Bool} (hb : (place L s).isSome = b) {l : List Nat} (hl : (look L s).getD [] = l) :
    Calls Tryz.prog 26 #[.pointer (some ⟨p, 0, none⟩), sv] w fun r w' => (∃ A n c, r = .returned (.tuple #[.slice A n c, .bool b]) ∧ RdE anyB w' (.slice A n c) l) ∧ Below w.heap.size w w' := by
  cases hp : place L s with
  | none =>
    rw [hp] at hb
    rw [look_none hp] at hl
    subst hb
    subst hl
    exact (entry_no h hs hI hsl hp).mono fun r w' hh => ⟨⟨_, _, _, hh.1, RdF.nil _ _⟩, hh.2⟩
  | some k =>
    obtain ⟨e, he, _⟩ := place_some hp
    have hk := look_place hp he
    rw [hp] at hb
    rw [hk] at hl
    subst hb
    simp at hl
    subst hl
    exact entry_yes h hs hk
theorem rfind_any {G : Nat → Prop} {w : World} {v sv : Value} {L : List PE} {s : List Int} (h : RefT w v L) (hs : RdI G w sv s) (hL : L.length ≤ 1000) (hq : ∀ e ∈ L, e.1.length ≤ 1000) {b : Bool} (hb : (place L s).isSome = b) {l : List Nat} (hl : (look L s).getD [] = l) :
    Calls Tryz.prog 27 #[.agg #[v], sv] w fun r w' => (∃ A n c, r = .returned (.tuple #[.slice A n c, .bool b]) ∧ RdQ anyB w' (.slice A n c) l) ∧ Below w.heap.size w w' := by
  obtain ⟨M, hML, hM⟩ := id h
  refine (rfind_raw hML hM h hs hL hq).mono fun r w' hh => ⟨?_, hh.2⟩
  obtain ⟨⟨A, n, c, b', rfl, h1, h2⟩, -⟩ := hh
  cases hp : place L s with
  | none =>
    rw [hp] at hb
    rw [look_none hp] at hl
    subst hb
    subst hl
    obtain ⟨rfl, rfl, rfl, rfl⟩ := h2 (look_none hp)
    exact ⟨_, _, _, rfl, RdF.nil _ _⟩
  | some k =>
    obtain ⟨e, he, _⟩ := place_some hp
    have hk := look_place hp he
    rw [hp] at hb
    rw [hk] at hl
    subst hb
    simp at hl
    subst hl
    obtain ⟨rfl, h3, -⟩ := h1 _ hk
    exact ⟨_, _, _, rfl, h3⟩
theorem look_good {L : List PE} (h : GoodT L) {s : List Int} {l : List Nat} (hl : (look L s).getD [] = l) : l.length ≤ 8 ∧ ∀ x ∈ l, x < 4294967296 := by
  cases hk : look L s with
  | none => rw [hk] at hl; subst hl; exact ⟨by simp, fun x hx => by simp at hx⟩
  | some m => rw [hk] at hl; simp at hl; subst hl; exact h.els _ (look_mem hk)
end Go.Proofs.YtaabdpfhpolcgaaGreat
