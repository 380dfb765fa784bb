/-
  THE WALK of the law IntsSums: both answers are the plain arithmetic's.
-/
import Derived.Test.YtlfiaompjbdcgaaDoorLaid
import Derived.Test.YtlfiaompjbdcgaaDoorRef
namespace Go.Proofs.YtlfiaompjbdcgaaDoor
open Go.RowKit
set_option linter.unusedVariables false
theorem intsSums_walk (a0 : Int) (a1 : Int) (w : World) (w0 : (Lit.int .i64 a0).wf = true) (w1 : (Lit.int .i64 a1).wf = true) (hL : laidMetH Tryd.prog Rows.intsSumsRow.laid w) :
    Calls Tryd.prog 6 #[.int .i64 a0, .int .i64 a1] w fun e w' => e = .returned (.bool true) ∧ Below w.heap.size w w' := by
  have HT := Lib.hid (tab_of hL (by kernel_rfl))
  obtain ⟨h0, h0'⟩ := bd64 w0
  obtain ⟨h1, h1'⟩ := bd64 w1
  clear hL w0 w1
  go_enter Tryd.func6, Tryd.ntmps6
  go_wp2_with (first | (go_at_call 17; refine (add_any _ _ _ h0 h0' h1 h1').mono ?_; rintro e w' ⟨rfl, rfl⟩) | (go_at_call 27; refine (radd_any _ _ _ h0 h0' h1 h1').mono ?_; rintro e w' ⟨rfl, rfl⟩) | (go_at_call 18; refine (sub_any _ _ _ h0 h0' h1 h1').mono ?_; rintro e w' ⟨rfl, rfl⟩) | (go_at_call 28; refine (rsub_any _ _ _ h0 h0' h1 h1').mono ?_; rintro e w' ⟨rfl, rfl⟩) | (go_at_call 19; refine (neg_any _ _ h0 h0').mono ?_; rintro e w' ⟨rfl, rfl⟩) | (go_at_call 29; refine (rneg_any _ _ h0 h0').mono ?_; rintro e w' ⟨rfl, rfl⟩) | (go_at_call 30; refine (same_eq _ _ _).mono ?_; rintro e w' ⟨rfl, rfl⟩) | (go_at_call 16; refine (awake_any _ HT.out).mono ?_; rintro e w' ⟨rfl, hb⟩))
  go_ret
  exact ⟨rfl, hb⟩
end Go.Proofs.YtlfiaompjbdcgaaDoor
