/-
  THE CONTRACTS of package ints once more, each at an answer that is told beside it (so that a walk bears plain variables alone).
-/
import Derived.Test.YtlfiaompjbdcgaaDoorInts
namespace Go.Proofs.YtlfiaompjbdcgaaDoor
theorem add_to (a b V E : Int) (w : World) (ha : -9223372036854775808 ≤ a) (ha' : a ≤ 9223372036854775807) (hb : -9223372036854775808 ≤ b) (hb' : b ≤ 9223372036854775807) (h : ovV (a + b) = V ∧ ovE (a + b) = E) : Calls Tryd.prog 17 #[.int .i64 a, .int .i64 b] w fun e w' => e = .returned (.tuple #[.int .i64 V, .int .i64 E]) ∧ w = w' := by
  obtain ⟨rfl, rfl⟩ := h; exact add_any a b w ha ha' hb hb'
theorem sub_to (a b V E : Int) (w : World) (ha : -9223372036854775808 ≤ a) (ha' : a ≤ 9223372036854775807) (hb : -9223372036854775808 ≤ b) (hb' : b ≤ 9223372036854775807) (h : ovV (a - b) = V ∧ ovE (a - b) = E) : Calls Tryd.prog 18 #[.int .i64 a, .int .i64 b] w fun e w' => e = .returned (.tuple #[.int .i64 V, .int .i64 E]) ∧ w = w' := by
  obtain ⟨rfl, rfl⟩ := h; exact sub_any a b w ha ha' hb hb'
theorem mul_to (a b V E : Int) (w : World) (ha : -9223372036854775808 ≤ a) (ha' : a ≤ 9223372036854775807) (hb : -9223372036854775808 ≤ b) (hb' : b ≤ 9223372036854775807) (h : ovV (a * b) = V ∧ ovE (a * b) = E) : Calls Tryd.prog 24 #[.int .i64 a, .int .i64 b] w fun e w' => e = .returned (.tuple #[.int .i64 V, .int .i64 E]) ∧ w = w' := by
  obtain ⟨rfl, rfl⟩ := h; exact mul_any a b w ha ha' hb hb'
theorem div_to (a b V E : Int) (w : World) (ha : -9223372036854775808 ≤ a) (ha' : a ≤ 9223372036854775807) (hb : -9223372036854775808 ≤ b) (hb' : b ≤ 9223372036854775807) (h : divV a b = V ∧ divE a b = E) : Calls Tryd.prog 20 #[.int .i64 a, .int .i64 b] w fun e w' => e = .returned (.tuple #[.int .i64 V, .int .i64 E]) ∧ w = w' := by
  obtain ⟨rfl, rfl⟩ := h; exact div_any a b w ha ha' hb hb'
theorem mod_to (a b V E : Int) (w : World) (ha : -9223372036854775808 ≤ a) (ha' : a ≤ 9223372036854775807) (hb : -9223372036854775808 ≤ b) (hb' : b ≤ 9223372036854775807) (h : modV a b = V ∧ modE b = E) : Calls Tryd.prog 21 #[.int .i64 a, .int .i64 b] w fun e w' => e = .returned (.tuple #[.int .i64 V, .int .i64 E]) ∧ w = w' := by
  obtain ⟨rfl, rfl⟩ := h; exact mod_any a b w ha ha' hb hb'
theorem shl_to (a b V E : Int) (w : World) (h : shlV a b = V ∧ shlE a b = E) : Calls Tryd.prog 22 #[.int .i64 a, .int .i64 b] w fun e w' => e = .returned (.tuple #[.int .i64 V, .int .i64 E]) ∧ w = w' := by
  obtain ⟨rfl, rfl⟩ := h; exact shl_any a b w
theorem shr_to (a b V E : Int) (w : World) (h : shrV a b = V ∧ shrE b = E) : Calls Tryd.prog 23 #[.int .i64 a, .int .i64 b] w fun e w' => e = .returned (.tuple #[.int .i64 V, .int .i64 E]) ∧ w = w' := by
  obtain ⟨rfl, rfl⟩ := h; exact shr_any a b w
end Go.Proofs.YtlfiaompjbdcgaaDoor
