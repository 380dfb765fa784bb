/-
  THE CONTRACTS of package ints' sums, products, quotients and shifts: each call returns what the plain arithmetic tells; memory is as it was.
-/
import Derived.Test.YtlfiaompjbdcgaaDoorProg
import Derived.Test.YtlfiaompjbdcgaaDoorPure
namespace Go.Proofs.YtlfiaompjbdcgaaDoor
open Go.RowKit
set_option linter.unusedVariables false

section
variable (a b : Int) (w : World) (ha : -9223372036854775808 ≤ a) (ha' : a ≤ 9223372036854775807) (hb : -9223372036854775808 ≤ b) (hb' : b ≤ 9223372036854775807)
include ha ha' hb hb'
theorem add_any : Calls Tryd.prog 17 #[.int .i64 a, .int .i64 b] w fun e w' => e = .returned (.tuple #[.int .i64 (ovV (a + b)), .int .i64 (ovE (a + b))]) ∧ w = w' := by
  go_enter Tryd.func17, Tryd.ntmps17
  go_wp2
  all_goals go_ret2
  · exact ⟨two (add_t ha ha' hb hb' (by assumption)), rfl⟩
  · exact ⟨two (add_f ha ha' hb hb' (by assumption)), rfl⟩
theorem sub_any : Calls Tryd.prog 18 #[.int .i64 a, .int .i64 b] w fun e w' => e = .returned (.tuple #[.int .i64 (ovV (a - b)), .int .i64 (ovE (a - b))]) ∧ w = w' := by
  go_enter Tryd.func18, Tryd.ntmps18
  go_wp2
  all_goals go_ret2
  · exact ⟨two (sub_t ha ha' hb hb' (by assumption)), rfl⟩
  · exact ⟨two (sub_f ha ha' hb hb' (by assumption)), rfl⟩
omit hb hb' in
theorem neg_any : Calls Tryd.prog 19 #[.int .i64 a] w fun e w' => e = .returned (.tuple #[.int .i64 (ovV (-a)), .int .i64 (ovE (-a))]) ∧ w = w' := by
  go_enter Tryd.func19, Tryd.ntmps19
  go_wp2
  all_goals go_ret2
  · exact ⟨two (neg_t (by assumption)), rfl⟩
  · exact ⟨two (neg_f ha ha' (by assumption)), rfl⟩
theorem mul_any : Calls Tryd.prog 24 #[.int .i64 a, .int .i64 b] w fun e w' => e = .returned (.tuple #[.int .i64 (ovV (a * b)), .int .i64 (ovE (a * b))]) ∧ w = w' := by
  by_cases h0 : b = 0
  · subst h0
    go_enter Tryd.func24, Tryd.ntmps24
    go_wp2
    all_goals go_ret2
    exact ⟨two (mul_0 rfl), rfl⟩
  by_cases h1 : b = -1
  · subst h1
    rw [show a * -1 = -a by omega]
    go_enter Tryd.func24, Tryd.ntmps24
    go_wp2_with (go_at_call 19; refine (neg_any a _ ha ha').mono ?_; rintro e w' ⟨rfl, rfl⟩)
    all_goals go_ret2
    exact ⟨rfl, rfl⟩
  have g0 : (b == 0) = false := by simpa using h0
  have g1 : (b == -1) = false := by simpa using h1
  go_enter Tryd.func24, Tryd.ntmps24
  go_wp2
  all_goals go_ret2
  · exact ⟨two (mul_t ha ha' hb hb' g0 g1 (by assumption)), rfl⟩
  · exact ⟨two (mul_f ha ha' hb hb' g0 g1 (by assumption)), rfl⟩
theorem div_any : Calls Tryd.prog 20 #[.int .i64 a, .int .i64 b] w fun e w' => e = .returned (.tuple #[.int .i64 (divV a b), .int .i64 (divE a b)]) ∧ w = w' := by
  by_cases h0 : b = 0
  · subst h0
    go_enter Tryd.func20, Tryd.ntmps20
    go_wp2
    all_goals go_ret2
    exact ⟨two (div_0 rfl), rfl⟩
  by_cases h1 : b = -1
  · subst h1
    go_enter Tryd.func20, Tryd.ntmps20
    go_wp2_with (go_at_call 19; refine (neg_any a _ ha ha').mono ?_; rintro e w' ⟨rfl, rfl⟩)
    all_goals go_ret2
    exact ⟨two (div_m1 rfl), rfl⟩
  have g0 : (b == 0) = false := by simpa using h0
  have g1 : (b == -1) = false := by simpa using h1
  go_enter Tryd.func20, Tryd.ntmps20
  go_wp2
  all_goals go_ret2
  exact ⟨two (div_f ha ha' g0 g1), rfl⟩
theorem mod_any : Calls Tryd.prog 21 #[.int .i64 a, .int .i64 b] w fun e w' => e = .returned (.tuple #[.int .i64 (modV a b), .int .i64 (modE b)]) ∧ w = w' := by
  by_cases h0 : b = 0
  · subst h0
    go_enter Tryd.func21, Tryd.ntmps21
    go_wp2
    all_goals go_ret2
    exact ⟨two (mod_0 rfl), rfl⟩
  have g0 : (b == 0) = false := by simpa using h0
  have gm := @tmod_bd a b ha ha'
  go_enter Tryd.func21, Tryd.ntmps21
  go_wp2
  all_goals go_ret2
  exact ⟨two (mod_f g0), rfl⟩
omit ha ha' hb hb' in
theorem shl_any : Calls Tryd.prog 22 #[.int .i64 a, .int .i64 b] w fun e w' => e = .returned (.tuple #[.int .i64 (shlV a b), .int .i64 (shlE a b)]) ∧ w = w' := by
  go_enter Tryd.func22, Tryd.ntmps22
  go_wp2
  all_goals go_ret2
  · exact ⟨two (shl_o1 (by assumption)), rfl⟩
  · exact ⟨two (shl_t (by assumption) (by assumption) (by assumption)), rfl⟩
  · exact ⟨two (shl_f (by assumption) (by assumption) (by assumption)), rfl⟩
  · exact ⟨two (shl_o2 (by assumption)), rfl⟩
omit ha ha' hb hb' in
theorem shr_any : Calls Tryd.prog 23 #[.int .i64 a, .int .i64 b] w fun e w' => e = .returned (.tuple #[.int .i64 (shrV a b), .int .i64 (shrE b)]) ∧ w = w' := by
  go_enter Tryd.func23, Tryd.ntmps23
  go_wp2
  all_goals go_ret2
  · exact ⟨two (shr_o1 (by assumption)), rfl⟩
  · exact ⟨two (shr_f (by assumption) (by assumption)), rfl⟩
  · exact ⟨two (shr_o2 (by assumption)), rfl⟩

/-! ### narrow numbers -/
omit ha ha' hb hb' in
theorem wrap_any (sg : Bool) : Calls Tryd.prog 36 #[.int .i64 a, .int .i64 b, .bool sg] w fun e w' => e = .returned (.int .i64 (wrapP a b sg)) ∧ w = w' := by
  go_enter Tryd.func36, Tryd.ntmps36
  go_wp2
  all_goals go_ret
  all_goals refine ⟨one ?_, rfl⟩
  all_goals simp only [wrapP, wr1, wr2, wr2u, wr4, *]
  all_goals simp [*]
omit ha ha' hb hb' in
theorem fit_any (sg : Bool) : Calls Tryd.prog 37 #[.int .i64 a, .int .i64 b, .bool sg] w fun e w' => e = .returned (.tuple #[.int .i64 (fitV a b sg), .int .i64 (fitE a b sg)]) ∧ w = w' := by
  go_enter Tryd.func37, Tryd.ntmps37
  go_wp2_with (go_at_call 36; refine (wrap_any a b _ sg).mono ?_; rintro e w' ⟨rfl, rfl⟩)
  all_goals go_ret2
  · exact ⟨two (fit_t (by assumption)), rfl⟩
  · exact ⟨two (fit_f (by assumption)), rfl⟩
end
end Go.Proofs.YtlfiaompjbdcgaaDoor
