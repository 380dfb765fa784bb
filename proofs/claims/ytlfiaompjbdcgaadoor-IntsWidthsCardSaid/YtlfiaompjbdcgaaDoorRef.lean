/-
  THE CONTRACTS of the document's own answer for layer 1 (package umlautref1): sums, differences, products, quotients, rests; and of the laws' own 'same'.
-/
import Derived.Test.YtlfiaompjbdcgaaDoorProg
import Derived.Test.YtlfiaompjbdcgaaDoorPure
namespace Go.Proofs.YtlfiaompjbdcgaaDoor
open Go.RowKit
set_option linter.unusedVariables false

theorem same_eq (x e : Int) (w : World) : Calls Tryd.prog 30 #[.int .i64 x, .int .i64 e, .int .i64 x, .int .i64 e] w fun r w' => r = .returned (.bool true) ∧ w = w' := by
  go_enter Tryd.func30, Tryd.ntmps30
  go_wp2
  go_ret
  exact ⟨rfl, rfl⟩

section
variable (a b : Int) (w : World) (ha : -9223372036854775808 ≤ a) (ha' : a ≤ 9223372036854775807) (hb : -9223372036854775808 ≤ b) (hb' : b ≤ 9223372036854775807)
include ha ha' hb hb'
theorem radd_any : Calls Tryd.prog 27 #[.int .i64 a, .int .i64 b] w fun e w' => e = .returned (.tuple #[.int .i64 (ovV (a + b)), .int .i64 (ovE (a + b))]) ∧ w = w' := by
  go_enter Tryd.func27, Tryd.ntmps27
  go_wp2
  all_goals go_ret2
  all_goals first
    | exact ⟨two (ov_out (by omega)), rfl⟩
    | exact ⟨two (ov_in (by omega) (by omega)), rfl⟩
theorem rsub_any : Calls Tryd.prog 28 #[.int .i64 a, .int .i64 b] w fun e w' => e = .returned (.tuple #[.int .i64 (ovV (a - b)), .int .i64 (ovE (a - b))]) ∧ w = w' := by
  go_enter Tryd.func28, Tryd.ntmps28
  go_wp2
  all_goals go_ret2
  all_goals first
    | exact ⟨two (ov_out (by omega)), rfl⟩
    | exact ⟨two (ov_in (by omega) (by omega)), rfl⟩
omit hb hb' in
theorem rneg_any : Calls Tryd.prog 29 #[.int .i64 a] w fun e w' => e = .returned (.tuple #[.int .i64 (ovV (-a)), .int .i64 (ovE (-a))]) ∧ w = w' := by
  go_enter Tryd.func29, Tryd.ntmps29
  go_wp2_with (go_at_call 28; refine (rsub_any 0 a _ (by omega) (by omega) ha ha').mono ?_; rintro e w' ⟨rfl, rfl⟩)
  go_ret2
  exact ⟨two ⟨rfl, rfl⟩, rfl⟩
theorem rmul_any : Calls Tryd.prog 31 #[.int .i64 a, .int .i64 b] w fun e w' => e = .returned (.tuple #[.int .i64 (ovV (a * b)), .int .i64 (ovE (a * b))]) ∧ w = w' := by
  by_cases h0 : a = 0
  · subst h0
    rw [Int.zero_mul]
    go_enter Tryd.func31, Tryd.ntmps31
    go_wp2
    all_goals go_ret2
    all_goals exact ⟨two ⟨rfl, rfl⟩, rfl⟩
  by_cases h1 : b = 0
  · subst h1
    rw [Int.mul_zero]
    have g0 : (a == 0) = false := by simpa using h0
    go_enter Tryd.func31, Tryd.ntmps31
    go_wp2
    all_goals go_ret2
    all_goals exact ⟨two ⟨rfl, rfl⟩, rfl⟩
  have g0 : (a == 0) = false := by simpa using h0
  have g1 : (b == 0) = false := by simpa using h1
  by_cases h2 : a = -1
  · subst h2
    rw [show -1 * b = -b by omega]
    go_enter Tryd.func31, Tryd.ntmps31
    go_wp2_with (go_at_call 29; refine (rneg_any b _ hb hb').mono ?_; rintro e w' ⟨rfl, rfl⟩)
    all_goals go_ret2
    all_goals exact ⟨rfl, rfl⟩
  have g2 : (a == -1) = false := by simpa using h2
  by_cases h3 : b = -1
  · subst h3
    rw [show a * -1 = -a by omega]
    go_enter Tryd.func31, Tryd.ntmps31
    go_wp2_with (go_at_call 29; refine (rneg_any a _ ha ha').mono ?_; rintro e w' ⟨rfl, rfl⟩)
    all_goals go_ret2
    all_goals exact ⟨rfl, rfl⟩
  have g3 : (b == -1) = false := by simpa using h3
  go_enter Tryd.func31, Tryd.ntmps31
  go_wp2
  all_goals go_ret2
  all_goals first
    | exact ⟨two (rmul_t ha ha' hb hb' g1 g3 (by assumption)), rfl⟩
    | exact ⟨two (rmul_f ha ha' hb hb' g1 g3 (by assumption)), rfl⟩
theorem rdiv_any : Calls Tryd.prog 32 #[.int .i64 a, .int .i64 b] w fun e w' => e = .returned (.tuple #[.int .i64 (divV a b), .int .i64 (divE a b)]) ∧ w = w' := by
  by_cases h0 : b = 0
  · subst h0
    go_enter Tryd.func32, Tryd.ntmps32
    go_wp2
    all_goals go_ret2
    exact ⟨two (div_0 rfl), rfl⟩
  by_cases h1 : b = -1
  · subst h1
    go_enter Tryd.func32, Tryd.ntmps32
    go_wp2_with (go_at_call 29; refine (rneg_any a _ ha ha').mono ?_; rintro e w' ⟨rfl, rfl⟩)
    all_goals go_ret2
    exact ⟨two (div_m1 rfl), rfl⟩
  have g0 : (b == 0) = false := by simpa using h0
  have g1 : (b == -1) = false := by simpa using h1
  go_enter Tryd.func32, Tryd.ntmps32
  go_wp2
  all_goals go_ret2
  exact ⟨two (div_f ha ha' g0 g1), rfl⟩
theorem rmod_any : Calls Tryd.prog 33 #[.int .i64 a, .int .i64 b] w fun e w' => e = .returned (.tuple #[.int .i64 (modV a b), .int .i64 (modE b)]) ∧ w = w' := by
  by_cases h0 : b = 0
  · subst h0
    go_enter Tryd.func33, Tryd.ntmps33
    go_wp2
    all_goals go_ret2
    exact ⟨two (mod_0 rfl), rfl⟩
  have g0 : (b == 0) = false := by simpa using h0
  by_cases h1 : b = -1
  · subst h1
    go_enter Tryd.func33, Tryd.ntmps33
    go_wp2
    all_goals go_ret2
    exact ⟨two (by rw [(mod_f g0).1, (mod_f (a := a) g0).2, Int.tmod_neg, Int.tmod_one]; exact ⟨rfl, rfl⟩), rfl⟩
  have g1 : (b == -1) = false := by simpa using h1
  have gm := @tmod_bd a b ha ha'
  go_enter Tryd.func33, Tryd.ntmps33
  go_wp2
  all_goals go_ret2
  exact ⟨two (mod_f g0), rfl⟩
end
end Go.Proofs.YtlfiaompjbdcgaaDoor
