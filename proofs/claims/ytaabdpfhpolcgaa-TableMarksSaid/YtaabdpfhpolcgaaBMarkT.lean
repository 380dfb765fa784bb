/-
  THE WALK of the law TableMarks.
-/
import Derived.Test.YtaabdpfhpolcgaaBAny
import Derived.Test.YtaabdpfhpolcgaaBImp
import Derived.Deep.CutRange
namespace Go.Proofs.Ytaabdpfhpolcgaa
open Go.RowKit
set_option linter.unusedVariables false
set_option linter.unusedSimpArgs false
def mkB : List (List UInt8) := [[204, 128], [204, 129], [204, 130], [204, 131], [204, 136], [204, 138], [204, 167]]
def whB : List (List UInt8) := [[65, 69, 73, 79, 85], [65, 69, 73, 79, 85, 89], [65, 69, 73, 79, 85], [65, 78, 79], [65, 69, 73, 79, 85], [65], [67]]
def cdN : List (List Nat) := [[192, 200, 204, 210, 217], [193, 201, 205, 211, 218, 221], [194, 202, 206, 212, 219], [195, 209, 213], [196, 203, 207, 214, 220], [197], [199]]
def mkK (k : Nat) : List UInt8 := mkB.getD k []
def whK (k : Nat) : List UInt8 := whB.getD k []
def cdK (k : Nat) : List Nat := cdN.getD k []
def ltB (k i : Nat) (g : Bool) : Nat := ((whK k).getD i 0).toNat + if g then 32 else 0
def cdB (k i : Nat) (g : Bool) : Nat := (cdK k).getD i 0 + if g then 32 else 0
def xyL (k i : Nat) (g : Bool) : List Nat := elsP rootP (T2.sgs (UInt8.ofNat (ltB k i g) :: mkK k))
set_option maxRecDepth 100000 in
theorem marks_all : ∀ k, k < 7 → ∀ i, i < (whK k).length → ∀ g : Bool, ((xyL k i g).length = 2 ∧ elsP rootP (T2.sgs (T2.one (cdB k i g))) = xyL k i g ∧ (xyL k i g).getD 1 0 / 65536 = 0 ∧ 32 < (xyL k i g).getD 1 0 / 256 % 256) ∧ ((xyL k i g).all (fun x => decide (x < 4294967296)) = true ∧ ltB k i g < 256 ∧ cdB k i g < 1000 ∧ (mkK k).length = 2) := by decide +kernel
theorem marks_len : ∀ k, k < 7 → (cdK k).length = (whK k).length ∧ 1 ≤ (whK k).length ∧ (whK k).length ≤ 6 := by decide +kernel
theorem two_of {l : List Nat} (h : l.length = 2) : ∃ x y, l = [x, y] := by
  match l, h with
  | [x, y], _ => exact ⟨x, y, rfl⟩
theorem and_128 (c : Nat) (h : c < 256) : bits .and .u8 (c : Int) 128 = if 128 ≤ c then 128 else 0 := by
  have h1 := u8_and_nat c 128 h (by omega)
  have h2 : ∀ c : Nat, c < 256 → ((c &&& 128 : Nat) : Int) = if 128 ≤ c then 128 else 0 := by decide +kernel
  rw [show ((128 : Nat) : Int) = 128 from rfl] at h1
  rw [h1, h2 c h]
theorem and_65535 (n : Int) : bits .and .i64 n 65535 = n % 65536 := T2.and_i64_k 16 (by omega) n
/-- The three tables in memory: at place k. -/
structure TMk (W : World) (b1 b2 b3 k : Nat) : Prop where
  hmk : W.cell? ⟨b1, k, none⟩ = some (.string ⟨(mkK k).toArray⟩)
  hwh : W.cell? ⟨b2, k, none⟩ = some (.string ⟨(whK k).toArray⟩)
  hcd : ∃ g, W.cell? ⟨b3, k, none⟩ = some (.slice (some ⟨g, 0, none⟩) (cdK k).length (cdK k).length) ∧ ∀ i, i < (cdK k).length → W.cell? ⟨g, i, none⟩ = some (.int .i64 ((cdK k).getD i 0 : Nat))
def strs (l : List (List UInt8)) : Array Value := (l.map fun b => Value.string ⟨b.toArray⟩).toArray
def nums (l : List Nat) : Array Value := (l.map fun n : Nat => Value.int .i64 (n : Int)).toArray
def slcs (b : Nat) : Nat → List (List Nat) → List Value
  | _, [] => []
  | j, l :: t => Value.slice (some ⟨b + j, 0, none⟩) l.length l.length :: slcs b (j + 1) t
theorem slcs_at (b : Nat) : ∀ (L : List (List Nat)) (j k : Nat) (l : List Nat), L[k]? = some l → (slcs b j L)[k]? = some (.slice (some ⟨b + (j + k), 0, none⟩) l.length l.length)
  | [], _, _, _, h => by simp at h
  | m :: t, j, 0, l, h => by simp at h; subst h; rfl
  | m :: t, j, k + 1, l, h => by
    have := slcs_at b t (j + 1) k l (by simpa using h)
    rw [show j + (k + 1) = j + 1 + k by omega]
    simpa [slcs] using this
theorem tmk_of {W : World} {b1 b2 b3 b : Nat} (h1 : W.heap[b1]? = some (.cells (strs mkB) 9 (0, 0))) (h2 : W.heap[b2]? = some (.cells (strs whB) 9 (0, 0))) (h3 : W.heap[b3]? = some (.cells (slcs b 0 cdN).toArray 25 (0, 0)))
    (h4 : ∀ j l, cdN[j]? = some l → W.heap[b + j]? = some (.cells (nums l) 3 (0, 0))) {k : Nat} (hk : k < 7) : TMk W b1 b2 b3 k := by
  have e1 : mkB[k]? = some (mkK k) := by unfold mkK; rw [List.getD_eq_getElem?_getD, List.getElem?_eq_getElem (show k < mkB.length by simpa [mkB] using hk)]; rfl
  have e2 : whB[k]? = some (whK k) := by unfold whK; rw [List.getD_eq_getElem?_getD, List.getElem?_eq_getElem (show k < whB.length by simpa [whB] using hk)]; rfl
  have e3 : cdN[k]? = some (cdK k) := by unfold cdK; rw [List.getD_eq_getElem?_getD, List.getElem?_eq_getElem (show k < cdN.length by simpa [cdN] using hk)]; rfl
  refine ⟨?_, ?_, b + k, ?_, fun i hi => ?_⟩
  · rw [cell_of_row _ _ _ _ _ _ h1]; simp [strs, e1]
  · rw [cell_of_row _ _ _ _ _ _ h2]; simp [strs, e2]
  · rw [cell_of_row _ _ _ _ _ _ h3]
    have := slcs_at b cdN 0 k _ e3
    rw [Nat.zero_add] at this
    simpa using this
  · rw [cell_of_row _ _ _ _ _ _ (h4 k _ e3)]
    simp [nums, List.getElem?_eq_getElem hi]
theorem TMk.below {W W' : World} {b1 b2 b3 k : Nat} (h : TMk W b1 b2 b3 k) (hb : Below W.heap.size W W') : TMk W' b1 b2 b3 k := by
  obtain ⟨h1, h2, g, h3, h4⟩ := h
  exact ⟨cell_call hb h1, cell_call hb h2, g, cell_call hb h3, fun i hi => cell_call hb (h4 i hi)⟩
theorem cut_one {l : List UInt8} {i : Nat} (h : i < l.length) : (⟨l.toArray⟩ : ByteArray).extract i (i + 1) = ⟨#[l.getD i 0]⟩ := by
  have h1 : ((⟨l.toArray⟩ : ByteArray).extract i (i + 1)).data = #[l.getD i 0] := by
    rw [ByteArray.data_extract]
    apply Array.ext
    · simp; omega
    · intro j h2 h3
      have hj : j = 0 := by simp at h3; omega
      subst hj
      simp [List.getD_eq_getElem?_getD, List.getElem?_eq_getElem h]
  cases hh : (⟨l.toArray⟩ : ByteArray).extract i (i + 1) with
  | mk d => rw [hh] at h1; simp at h1; rw [h1]; simp
theorem run_cut {l : List UInt8} {i : Nat} (h : i < l.length) (w : World) : (Instr.slice 9 (.string ⟨l.toArray⟩) (some (.int .i64 (i : Int))) (some (.int .i64 ((i : Int) + 1))) none).run Try.prog w = .ok (.string ⟨#[l.getD i 0]⟩) w := by
  have := run_slice_string (P := Try.prog) w 9 ⟨l.toArray⟩ .i64 .i64 (i : Int) ((i : Int) + 1) Try.underlying9 (by omega) (by omega) (by have hz : (⟨l.toArray⟩ : ByteArray).size = l.length := (by simp [ByteArray.size]); rw [hz]; omega)
  rw [this, ← cut_one h]; congr 2
end Go.Proofs.Ytaabdpfhpolcgaa
