/-
  THE WALK of the law IntsProducts: both answers are the plain arithmetic's; a quotient times its divisor and the rest are the number.
-/
import Derived.Test.YtlfiaompjbdcgaaDoorLaid
import Derived.Test.YtlfiaompjbdcgaaDoorRef
namespace Go.Proofs.YtlfiaompjbdcgaaDoor
open Go.RowKit
set_option linter.unusedVariables false
theorem prod_back {a b : Int} (ha : -9223372036854775808 ≤ a) (ha' : a ≤ 9223372036854775807) (hb : -9223372036854775808 ≤ b) (hb' : b ≤ 9223372036854775807) (h : (divE a b != 0) = false) :
    (modE b != 0) = false ∧ (wrap64 (wrap64 (divV a b * b) + modV a b) == a) = true := by
  have h := WalkArith.int_eq' h
  have hb0 : b ≠ 0 := by
    intro e; subst e; unfold divE at h; simp at h
  unfold divE at h; rw [if_neg hb0] at h
  obtain ⟨hv, hq⟩ := ov_zero h
  unfold divV modV modE; rw [if_neg hb0, if_neg hb0, if_neg hb0, hv]
  refine ⟨rfl, ?_⟩
  have hm := Int.mul_tdiv_add_tmod a b
  rw [Int.mul_comm] at hm
  have ht := @tmod_bd a b ha ha'
  generalize a.tdiv b * b = p at *
  generalize a.tmod b = r at *
  have : wrap64 (wrap64 p + r) = a := by unfold wrap64; omega
  simpa using this
theorem intsProducts_walk (a0 : Int) (a1 : Int) (w : World) (w0 : (Lit.int .i64 a0).wf = true) (w1 : (Lit.int .i64 a1).wf = true) (hL : laidMetH Tryd.prog Rows.intsProductsRow.laid w) :
    Calls Tryd.prog 7 #[.int .i64 a0, .int .i64 a1] w fun e w' => e = .returned (.bool true) ∧ Below w.heap.size w w' := by
  have HT := Lib.hid (tab_of hL (by kernel_rfl))
  obtain ⟨h0, h0'⟩ := bd64 w0
  obtain ⟨h1, h1'⟩ := bd64 w1
  clear hL w0 w1
  cases hg : (divE a0 a1 != 0)
  · obtain ⟨hi, hz⟩ := prod_back h0 h0' h1 h1' hg
    go_enter Tryd.func7, Tryd.ntmps7
    go_wp2_with (first | (go_at_call 24; refine (mul_any _ _ _ h0 h0' h1 h1').mono ?_; rintro e w' ⟨rfl, rfl⟩) | (go_at_call 31; refine (rmul_any _ _ _ h0 h0' h1 h1').mono ?_; rintro e w' ⟨rfl, rfl⟩) | (go_at_call 20; refine (div_any _ _ _ h0 h0' h1 h1').mono ?_; rintro e w' ⟨rfl, rfl⟩) | (go_at_call 32; refine (rdiv_any _ _ _ h0 h0' h1 h1').mono ?_; rintro e w' ⟨rfl, rfl⟩) | (go_at_call 21; refine (mod_any _ _ _ h0 h0' h1 h1').mono ?_; rintro e w' ⟨rfl, rfl⟩) | (go_at_call 33; refine (rmod_any _ _ _ h0 h0' h1 h1').mono ?_; rintro e w' ⟨rfl, rfl⟩) | (go_at_call 30; refine (same_eq _ _ _).mono ?_; rintro e w' ⟨rfl, rfl⟩) | (go_at_call 16; refine (awake_any _ HT.out).mono ?_; rintro e w' ⟨rfl, hb⟩))
    go_ret
    exact ⟨rfl, hb⟩
  · go_enter Tryd.func7, Tryd.ntmps7
    go_wp2_with (first | (go_at_call 24; refine (mul_any _ _ _ h0 h0' h1 h1').mono ?_; rintro e w' ⟨rfl, rfl⟩) | (go_at_call 31; refine (rmul_any _ _ _ h0 h0' h1 h1').mono ?_; rintro e w' ⟨rfl, rfl⟩) | (go_at_call 20; refine (div_any _ _ _ h0 h0' h1 h1').mono ?_; rintro e w' ⟨rfl, rfl⟩) | (go_at_call 32; refine (rdiv_any _ _ _ h0 h0' h1 h1').mono ?_; rintro e w' ⟨rfl, rfl⟩) | (go_at_call 21; refine (mod_any _ _ _ h0 h0' h1 h1').mono ?_; rintro e w' ⟨rfl, rfl⟩) | (go_at_call 33; refine (rmod_any _ _ _ h0 h0' h1 h1').mono ?_; rintro e w' ⟨rfl, rfl⟩) | (go_at_call 30; refine (same_eq _ _ _).mono ?_; rintro e w' ⟨rfl, rfl⟩) | (go_at_call 16; refine (awake_any _ HT.out).mono ?_; rintro e w' ⟨rfl, hb⟩))
    go_ret
    exact ⟨rfl, hb⟩
end Go.Proofs.YtlfiaompjbdcgaaDoor
