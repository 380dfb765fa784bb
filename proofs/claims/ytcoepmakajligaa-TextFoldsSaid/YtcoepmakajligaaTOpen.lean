/-
  WHAT AN ARGUMENT IS: a list of ints that came in, as cells below the heap's size; the bounds of numbers.
-/
import Derived.Test.YtcoepmakajligaaTMem
import Derived.ProofKit
import Derived.OpenShut
namespace Go.Proofs.Ytcoepmakajligaa
open Go.ChangeShapes Go.WideShapes Go.ChangeAt Go.RowKit
set_option linter.unusedVariables false
theorem wf_i64 {a : Int} (h : (Lit.int .i64 a).wf = true) : -9223372036854775808 ≤ a ∧ a ≤ 9223372036854775807 := by
  simpa [Lit.wf, IntKind.min, IntKind.max, IntKind.signed, IntKind.bits] using h
theorem wf_u8 {a : Int} (h : (Lit.int .u8 a).wf = true) : 0 ≤ a ∧ a ≤ 255 := by
  simpa [Lit.wf, IntKind.min, IntKind.max, IntKind.signed, IntKind.bits] using h
theorem cells_int : Try.prog.cellsOf 3 = 1 := by kernel_rfl
theorem lt_of_cell {w : World} {a : Addr} {u : Value} (h : w.cell? a = some u) : a.block < w.heap.size := by
  rcases Nat.lt_or_ge a.block w.heap.size with h' | h'
  · exact h'
  · exfalso
    have : w.heap[a.block]? = none := by simp; omega
    unfold World.cell? at h
    rw [this] at h
    simp at h
theorem open_is {H : Type} {enc : TypeId × Value → H} {W : World} {v : Value} {base : Nat} {d : DataW H} {ps : List MemPlace} (hval : Value.okWide Try.prog W .any base 23 v)
    (h : DataW.Trod enc Try.prog W 0 (fun _ => true) true 23 v d ps) : ∃ l : List Int, Rd W.heap.size W v (iv l) ∧ l.length ≤ maxLen := by
  obtain ⟨a, len, cap, rfl⟩ := okWide_slice Try.underlying23 hval
  obtain ⟨fuel, hf⟩ := h
  rcases open_ints Try.underlying23 Try.underlying3 cells_int hf with ⟨e, _⟩ | ⟨ad, n, c, zs, e, -, hl, hm, hz, -, hc, -⟩
  · simp [Value.cells] at e
    obtain ⟨rfl, rfl, rfl⟩ := e
    exact ⟨[], ⟨none, 0, rfl, fun h => by simp [iv] at h⟩, Nat.zero_le _⟩
  · simp [Value.cells] at e
    obtain ⟨rfl, rfl, rfl⟩ := e
    have hz' : zs.length = cap := by simpa using hz
    have hlen : (zs.take len).length = len := by rw [List.length_take]; omega
    refine ⟨zs.take len, ⟨some ad, cap, by rw [iv_len, hlen], fun h0 => ⟨ad, rfl, ?_, fun j u hu => ?_⟩⟩, by rw [hlen]; omega⟩
    · rw [iv_len, hlen] at h0
      have := lt_of_cell (hc 0 (by omega))
      rw [add_block] at this; exact this
    · have hj : j < len := by
        have := (List.getElem?_eq_some_iff.1 hu).1
        rw [iv_len, hlen] at this; exact this
      rw [hc j (by omega)]
      simp only [iv, List.getElem?_map, List.getElem?_take_of_lt hj, List.getElem?_eq_getElem (show j < zs.length by omega)] at hu
      rw [← hu, List.getD_eq_getElem?_getD, List.getElem?_eq_getElem (show j < zs.length by omega)]; rfl
end Go.Proofs.Ytcoepmakajligaa
