/-
  THE CONTRACTS of the small functions of package utext and of the document's own answer: memory is as it was.
-/
import Derived.Test.YtcoepmakajligaaProg
import Derived.Test.YtcoepmakajligaaTSigns
import Derived.Test.YtcoepmakajligaaTBits
import Derived.Lib.Hide
namespace Go.Proofs.Ytcoepmakajligaa
open Go.RowKit
set_option linter.unusedVariables false
set_option linter.unusedSimpArgs false
theorem bool_of {a b : Bool} (h : a = b) : Ending.returned (.bool a) = Ending.returned (.bool b) := by rw [h]
theorem int_of {k : IntKind} {a b : Int} (h : a = b) : Ending.returned (.int k a) = Ending.returned (.int k b) := by rw [h]
theorem two_of {a b c d : Int} (h : a = b) (h' : c = d) : Ending.returned (.tuple #[.int .i64 a, .int .i64 c]) = Ending.returned (.tuple #[.int .i64 b, .int .i64 d]) := by rw [h, h']

theorem stray_any (x : Nat) (w : World) (hx : x < 256) : Calls Try.prog 34 #[.int .u8 x] w fun e w' => e = .returned (.tuple #[.int .i64 (1114112 + x), .int .i64 1]) ∧ w = w' := by
  go_enter Try.func34, Try.ntmps34
  go_wp2
  go_ret2
  exact ⟨rfl, rfl⟩
theorem point_any (c : Int) (w : World) : Calls Try.prog 35 #[.int .i64 c] w fun e w' => e = .returned (.bool (isPt c)) ∧ w = w' := by
  go_enter Try.func35, Try.ntmps35
  go_wp2
  all_goals go_ret
  all_goals exact ⟨bool_of (by simp [isPt] <;> omega), rfl⟩
theorem sign_any (c : Int) (w : World) : Calls Try.prog 25 #[.int .i64 c] w fun e w' => e = .returned (.bool (isSg c)) ∧ w = w' := by
  obtain ⟨p, hp⟩ : ∃ p, Hid (isPt c = p) := ⟨_, rfl⟩
  go_enter Try.func25, Try.ntmps25
  go_wp2_with (go_at_call 35; refine (point_any _ _).mono ?_; rintro e w' ⟨rfl, rfl⟩)
  all_goals go_ret
  all_goals exact ⟨bool_of (by simp [isSg, *] <;> omega), rfl⟩
theorem rsign_any (c : Int) (w : World) : Calls Try.prog 29 #[.int .i64 c] w fun e w' => e = .returned (.bool (isSg c)) ∧ w = w' := by
  go_enter Try.func29, Try.ntmps29
  go_wp2
  all_goals go_ret
  all_goals (refine ⟨bool_of (Bool.eq_iff_iff.2 ?_), rfl⟩; (try simp only [beq_iff_eq, beq_eq_false_iff_ne, ne_eq] at *); simp only [isSg, isPt, isT, Bool.or_eq_true, Bool.and_eq_true, decide_eq_true_eq, Bool.false_eq_true, true_iff, false_iff, iff_true, iff_false] <;> omega)
theorem size_any (c : Int) (w : World) : Calls Try.prog 36 #[.int .i64 c] w fun e w' => e = .returned (.int .i64 (if c < 128 then 1 else if c < 2048 then 2 else if c < 65536 then 3 else 4)) ∧ w = w' := by
  go_enter Try.func36, Try.ntmps36
  go_wp2
  all_goals go_ret
  all_goals exact ⟨rfl, rfl⟩
theorem tail_any (c : Int) (w : World) : Calls Try.prog 37 #[.int .i64 c] w fun e w' => e = .returned (.int .u8 (128 + c % 64)) ∧ w = w' := by
  have h1 := and63 c
  have h2 := or128 (b := c % 64) (by omega) (by omega)
  go_enter Try.func37, Try.ntmps37
  go_wp2
  go_ret
  exact ⟨int_of (by omega), rfl⟩
theorem rtail_any (x : Nat) (w : World) (hx : x < 256) : Calls Try.prog 38 #[.int .u8 x] w fun e w' => e = .returned (.bool (isT x)) ∧ w = w' := by
  go_enter Try.func38, Try.ntmps38
  go_wp2
  all_goals go_ret
  all_goals (refine ⟨bool_of (Bool.eq_iff_iff.2 ?_), rfl⟩; (try simp only [beq_iff_eq, beq_eq_false_iff_ne, ne_eq] at *); simp only [isSg, isPt, isT, Bool.or_eq_true, Bool.and_eq_true, decide_eq_true_eq, Bool.false_eq_true, true_iff, false_iff, iff_true, iff_false] <;> omega)
def ldS (x : Nat) : Int := if x < 128 then 1 else if x < 192 then 0 else if x < 224 then 2 else if x < 240 then 3 else if x < 248 then 4 else 0
def ldC (x : Nat) : Int := if x < 128 then x else if x < 192 then 0 else if x < 224 then (x : Int) - 192 else if x < 240 then (x : Int) - 224 else if x < 248 then (x : Int) - 240 else 0
theorem lead_any (x : Nat) (w : World) (hx : x < 256) : Calls Try.prog 33 #[.int .u8 x] w fun e w' => e = .returned (.tuple #[.int .i64 (ldS x), .int .i64 (ldC x)]) ∧ w = w' := by
  have a1 := u8_31 hx
  have a2 := u8_15 hx
  have a3 := u8_7 hx
  go_enter Try.func33, Try.ntmps33
  go_wp2
  all_goals go_ret2
  all_goals (refine ⟨two_of ?_ ?_, rfl⟩ <;> simp only [beq_iff_eq, beq_eq_false_iff_ne, ne_eq] at *)
  all_goals first | (unfold ldS; (repeat' split) <;> omega) | (unfold ldC; (repeat' split) <;> omega)
theorem fold_any (c : Int) (w : World) : Calls Try.prog 18 #[.int .i64 c] w fun e w' => e = .returned (.int .i64 (fold c)) ∧ w = w' := by
  have H := Lib.hid (fold_ways c)
  generalize fold c = f at *
  go_enter Try.func18, Try.ntmps18
  go_wp2
  all_goals go_ret
  all_goals (refine ⟨int_of ?_, rfl⟩; have h := H.out; clear H; simp only [beq_iff_eq, beq_eq_false_iff_ne, bne_iff_ne, bne_eq_false_iff_eq, ne_eq, Bool.or_eq_true, Bool.and_eq_true, decide_eq_true_eq, Bool.or_eq_false_iff, decide_eq_false_iff_not, Bool.and_eq_false_imp, Bool.not_eq_true', Bool.not_eq_false'] at *; omega)
theorem rfold_any (c : Int) (w : World) : Calls Try.prog 19 #[.int .i64 c] w fun e w' => e = .returned (.int .i64 (fold c)) ∧ w = w' := by
  have H := Lib.hid (fold_ways c)
  generalize fold c = f at *
  go_enter Try.func19, Try.ntmps19
  go_wp2
  all_goals go_ret
  all_goals (refine ⟨int_of ?_, rfl⟩; have h := H.out; clear H; simp only [beq_iff_eq, beq_eq_false_iff_ne, bne_iff_ne, bne_eq_false_iff_eq, ne_eq, Bool.or_eq_true, Bool.and_eq_true, decide_eq_true_eq, Bool.or_eq_false_iff, decide_eq_false_iff_not, Bool.and_eq_false_imp, Bool.not_eq_true', Bool.not_eq_false'] at *; omega)
end Go.Proofs.Ytcoepmakajligaa
