/-
  A SLICE OF PAIRS AMONG THE ARGUMENTS, opened.
-/
import Derived.Test.YtpckmdmfhglmbaaRLaw1
import Derived.Deep.SlicePairs
import Derived.ChangeArms
import Derived.ChangeAt
import Derived.OpenShut
namespace Go.Proofs.Ytpckmdmfhglmbaa
open Go.ChangeShapes Go.WideShapes Go.ChangeAt Go.RowKit
set_option linter.unusedVariables false
theorem wf_i64 {a : Int} (h : (Lit.int .i64 a).wf = true) : -9223372036854775808 ≤ a ∧ a ≤ 9223372036854775807 := by
  simpa [Lit.wf, IntKind.min, IntKind.max, IntKind.signed, IntKind.bits] using h
theorem spot_none {w : World} {a : Addr} {u : Value} (h : w.cell? a = some u) : a.spot = none ∧ a.block < w.heap.size := by
  unfold World.cell? at h
  split at h
  · rename_i hb
    split at h
    · cases h
    · rename_i hs
      refine ⟨by cases e : a.spot <;> simp_all, (Array.getElem?_eq_some_iff.1 hb).1⟩
  · cases h
theorem pcells_get {l : List (Int × Int)} {j : Nat} {u : Value} (h : (pcells l)[j]? = some u) : ∃ p, l[j / 2]? = some p ∧ u = if j % 2 = 0 then .int .i64 p.1 else .int .i64 p.2 := by
  have hj := (List.getElem?_eq_some_iff.1 h).1
  rw [pcells_len] at hj
  have hp : l[j / 2]? = some (l[j / 2]'(by omega)) := List.getElem?_eq_getElem _
  obtain ⟨h1, h2⟩ := pcells_at hp
  refine ⟨_, hp, ?_⟩
  rcases Nat.mod_two_eq_zero_or_one j with e | e
  · rw [if_pos e]
    rw [show j / 2 * 2 = j by omega, h] at h1
    exact Option.some.inj h1
  · rw [if_neg (by omega)]
    rw [show j / 2 * 2 + 1 = j by omega, h] at h2
    exact Option.some.inj h2
theorem open_rdp {H : Type} {enc : TypeId × Value → H} {W : World} {v : Value} {base : Nat} {d : DataW H} {ps : List MemPlace} (hval : Value.okWide Try.prog W .any base 22 v)
    (h : DataW.Trod enc Try.prog W 0 (fun _ => true) true 22 v d ps) : ∃ l : List (Int × Int), RdP W.heap.size W v l ∧ Wide l ∧ l.length ≤ maxLen := by
  obtain ⟨a, len, cap, rfl⟩ := okWide_slice Try.underlying22 hval
  obtain ⟨fuel, hf⟩ := h
  rcases Deep.open_slice_pairs Try.underlying22 Try.underlying29 (by kernel_rfl) rfl rfl (by kernel_rfl) (by kernel_rfl) hf with ⟨e, _⟩ | ⟨ad, n, c, m, k, V0, V1, D0, D1, P0, P1, e, -, hl, hm, hmm, -, hi⟩
  · simp [Value.cells] at e
    obtain ⟨rfl, rfl, rfl⟩ := e
    exact ⟨[], RdP.nil _ _, fun p hp => absurd hp (by simp), Nat.zero_le _⟩
  · simp [Value.cells] at e
    obtain ⟨rfl, rfl, rfl⟩ := e
    have hmc : m = cap := by simpa using hmm
    have h0 : ∀ i, i < len → V0 i = .int .i64 (intOf (V0 i)) ∧ V1 i = .int .i64 (intOf (V1 i)) ∧ (-9223372036854775808 ≤ intOf (V1 i) ∧ intOf (V1 i) ≤ 9223372036854775807) := by
      intro i hil
      obtain ⟨_, _, t0, t1⟩ := hi i (by omega)
      obtain ⟨n0, e0, _, _⟩ := DataW.trod_int Try.underlying3 t0
      obtain ⟨n1, e1, _, w1⟩ := DataW.trod_int Try.underlying3 t1
      simp at e0 e1
      rw [e0, e1]
      exact ⟨rfl, rfl, wf_i64 w1⟩
    obtain ⟨l, hl'⟩ : ∃ l : List (Int × Int), l = (List.range len).map fun i => (intOf (V0 i), intOf (V1 i)) := ⟨_, rfl⟩
    have hll : l.length = len := by rw [hl']; simp
    have hget : ∀ i, i < len → l[i]? = some (intOf (V0 i), intOf (V1 i)) := fun i h => by rw [hl', List.getElem?_map, List.getElem?_range h]; rfl
    refine ⟨l, ⟨some ad, cap, by rw [hll], by rw [hll]; exact hl, fun hn => ?_⟩, ?_, by rw [hll]; omega⟩
    · rw [hll] at hn
      obtain ⟨c0, _, _, _⟩ := hi 0 (by omega)
      obtain ⟨hs, hb⟩ := spot_none c0
      rw [Nat.zero_mul] at hs hb
      have ea : ad.add 0 = ad := by simp [Addr.add]
      rw [ea] at hs hb
      obtain ⟨g, o, sp⟩ := ad
      simp only at hs hb
      subst hs
      refine ⟨g, o, rfl, hb, fun j u hu => ?_⟩
      obtain ⟨p, hp, rfl⟩ := pcells_get hu
      have hj : j / 2 < len := by have := (List.getElem?_eq_some_iff.1 hp).1; omega
      rw [hget _ hj] at hp
      cases hp
      obtain ⟨c0, c1, _, _⟩ := hi (j / 2) (by omega)
      obtain ⟨e0, e1, _⟩ := h0 (j / 2) hj
      rw [Addr.add_lit] at c0 c1
      rcases Nat.mod_two_eq_zero_or_one j with e | e
      · rw [if_pos e]
        rw [show j / 2 * 2 = j by omega] at c0
        rw [c0, ← e0]
      · rw [if_neg (by omega)]
        rw [show j / 2 * 2 + 1 = j by omega] at c1
        rw [c1, ← e1]
    · intro p hp
      rw [hl'] at hp
      obtain ⟨i, hi', rfl⟩ := List.mem_map.1 hp
      exact (h0 i (by simpa using hi')).2.2
end Go.Proofs.Ytpckmdmfhglmbaa
