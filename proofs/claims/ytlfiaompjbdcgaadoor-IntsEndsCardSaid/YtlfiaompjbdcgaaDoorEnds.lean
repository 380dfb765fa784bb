/-
  THE WALK of the law IntsEnds: at the ends of the numbers sums, differences, quotients are told as they are.
-/
import Derived.Test.YtlfiaompjbdcgaaDoorShift
namespace Go.Proofs.YtlfiaompjbdcgaaDoor
open Go.RowKit
set_option linter.unusedVariables false
theorem ends_const : ovV 9223372036854775807 = 9223372036854775807 ∧ ovE 9223372036854775807 = 0 ∧ ovV (-9223372036854775808) = -9223372036854775808 ∧ ovE (-9223372036854775808) = 0 ∧ ovE 9223372036854775808 = 17 ∧
    divE (-9223372036854775808) (-1) = 17 ∧ modV (-9223372036854775808) (-1) = 0 ∧ modE (-1) = 0 := by decide
theorem ends_low {K : Int} (h : 0 ≤ K) : ovE (-9223372036854775808 - (1 + K % 3)) = 17 := (ov_out (by omega)).2
theorem ends_top {K : Int} (h : 0 ≤ K) (h' : K ≤ 9223372036854775807) : (K == 9223372036854775807) = false → ovE (9223372036854775807 - K + (K + min 1 (9223372036854775807 - K))) = 17 := by
  intro hk
  have := WalkArith.int_ne hk
  exact (ov_out (by omega)).2
set_option maxRecDepth 200000 in
theorem intsEnds_walk (a0 : Int) (w : World) (w0 : (Lit.int .i64 a0).wf = true) (hL : laidMetH Tryd.prog Rows.intsEndsRow.laid w) :
    Calls Tryd.prog 4 #[.int .i64 a0] w fun e w' => e = .returned (.bool true) ∧ Below w.heap.size w w' := by
  have HT := Lib.hid (tab_of hL (by kernel_rfl))
  obtain ⟨h0, h0'⟩ := bd64 w0
  clear hL w0
  obtain ⟨c1, c2, c3, c4, c5, c6, c7, c8⟩ := ends_const
  by_cases hn : a0 < 0
  · obtain ⟨K, rfl⟩ : ∃ K : Int, a0 = -K - 1 := ⟨-a0 - 1, by omega⟩
    have L := @ends_low K (by omega)
    have e1 : ovV (9223372036854775807 - K + K) = 9223372036854775807 := by rw [Int.sub_add_cancel]; exact c1
    by_cases hk : K = 9223372036854775807
    · subst hk
      go_enter Tryd.func4, Tryd.ntmps4
      go_wp2_with (first | (go_at_call 17; refine (add_any _ _ _ (by omega) (by omega) (by omega) (by omega)).mono ?_; rintro e w' ⟨rfl, rfl⟩) | (go_at_call 18; refine (sub_any _ _ _ (by omega) (by omega) (by omega) (by omega)).mono ?_; rintro e w' ⟨rfl, rfl⟩) | (go_at_call 19; refine (neg_any _ _ (by omega) (by omega)).mono ?_; rintro e w' ⟨rfl, rfl⟩) | (go_at_call 20; refine (div_any _ _ _ (by omega) (by omega) (by omega) (by omega)).mono ?_; rintro e w' ⟨rfl, rfl⟩) | (go_at_call 21; refine (mod_any _ _ _ (by omega) (by omega) (by omega) (by omega)).mono ?_; rintro e w' ⟨rfl, rfl⟩) | (go_at_call 16; refine (awake_any _ HT.out).mono ?_; rintro e w' ⟨rfl, hb⟩))
      go_ret
      exact ⟨rfl, hb⟩
    · have hT := @ends_top K (by omega) (by omega) (by simpa using hk)
      go_enter Tryd.func4, Tryd.ntmps4
      go_wp2_with (first | (go_at_call 17; refine (add_any _ _ _ (by omega) (by omega) (by omega) (by omega)).mono ?_; rintro e w' ⟨rfl, rfl⟩) | (go_at_call 18; refine (sub_any _ _ _ (by omega) (by omega) (by omega) (by omega)).mono ?_; rintro e w' ⟨rfl, rfl⟩) | (go_at_call 19; refine (neg_any _ _ (by omega) (by omega)).mono ?_; rintro e w' ⟨rfl, rfl⟩) | (go_at_call 20; refine (div_any _ _ _ (by omega) (by omega) (by omega) (by omega)).mono ?_; rintro e w' ⟨rfl, rfl⟩) | (go_at_call 21; refine (mod_any _ _ _ (by omega) (by omega) (by omega) (by omega)).mono ?_; rintro e w' ⟨rfl, rfl⟩) | (go_at_call 16; refine (awake_any _ HT.out).mono ?_; rintro e w' ⟨rfl, hb⟩))
      go_ret
      exact ⟨rfl, hb⟩
  · have L := @ends_low a0 (by omega)
    have e1 : ovV (9223372036854775807 - a0 + a0) = 9223372036854775807 := by rw [Int.sub_add_cancel]; exact c1
    by_cases hk : a0 = 9223372036854775807
    · subst hk
      go_enter Tryd.func4, Tryd.ntmps4
      go_wp2_with (first | (go_at_call 17; refine (add_any _ _ _ (by omega) (by omega) (by omega) (by omega)).mono ?_; rintro e w' ⟨rfl, rfl⟩) | (go_at_call 18; refine (sub_any _ _ _ (by omega) (by omega) (by omega) (by omega)).mono ?_; rintro e w' ⟨rfl, rfl⟩) | (go_at_call 19; refine (neg_any _ _ (by omega) (by omega)).mono ?_; rintro e w' ⟨rfl, rfl⟩) | (go_at_call 20; refine (div_any _ _ _ (by omega) (by omega) (by omega) (by omega)).mono ?_; rintro e w' ⟨rfl, rfl⟩) | (go_at_call 21; refine (mod_any _ _ _ (by omega) (by omega) (by omega) (by omega)).mono ?_; rintro e w' ⟨rfl, rfl⟩) | (go_at_call 16; refine (awake_any _ HT.out).mono ?_; rintro e w' ⟨rfl, hb⟩))
      go_ret
      exact ⟨rfl, hb⟩
    · have hT := @ends_top a0 (by omega) (by omega) (by simpa using hk)
      go_enter Tryd.func4, Tryd.ntmps4
      go_wp2_with (first | (go_at_call 17; refine (add_any _ _ _ (by omega) (by omega) (by omega) (by omega)).mono ?_; rintro e w' ⟨rfl, rfl⟩) | (go_at_call 18; refine (sub_any _ _ _ (by omega) (by omega) (by omega) (by omega)).mono ?_; rintro e w' ⟨rfl, rfl⟩) | (go_at_call 19; refine (neg_any _ _ (by omega) (by omega)).mono ?_; rintro e w' ⟨rfl, rfl⟩) | (go_at_call 20; refine (div_any _ _ _ (by omega) (by omega) (by omega) (by omega)).mono ?_; rintro e w' ⟨rfl, rfl⟩) | (go_at_call 21; refine (mod_any _ _ _ (by omega) (by omega) (by omega) (by omega)).mono ?_; rintro e w' ⟨rfl, rfl⟩) | (go_at_call 16; refine (awake_any _ HT.out).mono ?_; rintro e w' ⟨rfl, hb⟩))
      go_ret
      exact ⟨rfl, hb⟩
end Go.Proofs.YtlfiaompjbdcgaaDoor
