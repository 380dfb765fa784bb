/-
  THE WALK of the law IntsShifts: both answers are the plain arithmetic's, and what was shifted to the left comes back.
-/
import Derived.Test.YtlfiaompjbdcgaaDoorShift
namespace Go.Proofs.YtlfiaompjbdcgaaDoor
open Go.RowKit
set_option linter.unusedVariables false
theorem shl_shr {a n : Int} (h : (shlE a n == 0) = true) : (shrE n == 0) = true ∧ (shrV (shlV a n) n == a) = true := by
  have h := WalkArith.int_eq h
  unfold shlE at h
  split at h
  · rename_i hn
    obtain ⟨hv, _⟩ := ov_zero h
    unfold shrE shrV shlV
    rw [if_pos hn, if_pos hn, if_pos hn, hv]
    have := p2 n.toNat (by omega)
    rw [Int.mul_ediv_cancel _ (by omega)]
    simp
  · omega
theorem intsShifts_walk (a0 : Int) (a1 : Int) (w : World) (w0 : (Lit.int .i64 a0).wf = true) (w1 : (Lit.int .i64 a1).wf = true) (hL : laidMetH Tryd.prog Rows.intsShiftsRow.laid w) :
    Calls Tryd.prog 8 #[.int .i64 a0, .int .i64 a1] w fun e w' => e = .returned (.bool true) ∧ Below w.heap.size w w' := by
  have HT := Lib.hid (tab_of hL (by kernel_rfl))
  obtain ⟨h0, h0'⟩ := bd64 w0
  obtain ⟨h1, h1'⟩ := bd64 w1
  clear hL w0 w1
  cases hg : (shlE a0 a1 == 0)
  · go_enter Tryd.func8, Tryd.ntmps8
    go_wp2_with (first | (go_at_call 22; refine (shl_any _ _ _).mono ?_; rintro e w' ⟨rfl, rfl⟩) | (go_at_call 34; refine (rshl_any _ _ _ h0 h0').mono ?_; rintro e w' ⟨rfl, rfl⟩) | (go_at_call 23; refine (shr_any _ _ _).mono ?_; rintro e w' ⟨rfl, rfl⟩) | (go_at_call 35; refine (rshr_any _ _ _ h0 h0').mono ?_; rintro e w' ⟨rfl, rfl⟩) | (go_at_call 30; refine (same_eq _ _ _).mono ?_; rintro e w' ⟨rfl, rfl⟩) | (go_at_call 16; refine (awake_any _ HT.out).mono ?_; rintro e w' ⟨rfl, hb⟩))
    go_ret
    exact ⟨rfl, hb⟩
  · obtain ⟨hi, hz⟩ := shl_shr hg
    go_enter Tryd.func8, Tryd.ntmps8
    go_wp2_with (first | (go_at_call 22; refine (shl_any _ _ _).mono ?_; rintro e w' ⟨rfl, rfl⟩) | (go_at_call 34; refine (rshl_any _ _ _ h0 h0').mono ?_; rintro e w' ⟨rfl, rfl⟩) | (go_at_call 23; refine (shr_any _ _ _).mono ?_; rintro e w' ⟨rfl, rfl⟩) | (go_at_call 35; refine (rshr_any _ _ _ h0 h0').mono ?_; rintro e w' ⟨rfl, rfl⟩) | (go_at_call 30; refine (same_eq _ _ _).mono ?_; rintro e w' ⟨rfl, rfl⟩) | (go_at_call 16; refine (awake_any _ HT.out).mono ?_; rintro e w' ⟨rfl, hb⟩))
    go_ret
    exact ⟨rfl, hb⟩
end Go.Proofs.YtlfiaompjbdcgaaDoor
