/-
  THE CONTRACTS of ints.Turn, ints.Back and the document's own Turn: a word stands 2^63 above its number.
-/
import Derived.Test.YtlfiaompjbdcgaaDoorLaid
namespace Go.Proofs.YtlfiaompjbdcgaaDoor
open Go.RowKit
set_option linter.unusedVariables false

theorem add_or {y : Nat} (h : y < 2 ^ 63) : 2 ^ 63 + y = 2 ^ 63 ||| y := by
  have := Nat.two_pow_add_eq_or_of_lt h 1; rwa [Nat.mul_one] at this
theorem xor_top (x : Nat) (h : x < 18446744073709551616) : x ^^^ 9223372036854775808 = (x + 9223372036854775808) % 18446744073709551616 := by
  have e : (9223372036854775808 : Nat) = 2 ^ 63 := by decide
  by_cases hx : x < 9223372036854775808
  · have h1 : x ^^^ 9223372036854775808 = 2 ^ 63 + x := by
      rw [e] at hx ⊢
      rw [add_or hx]
      apply Nat.eq_of_testBit_eq
      intro i
      simp only [Nat.testBit_xor, Nat.testBit_or, Nat.testBit_two_pow]
      by_cases hi : 63 = i
      · subst hi; rw [Nat.testBit_lt_two_pow hx]; simp
      · simp [hi]
    rw [h1, ← e]; omega
  · obtain ⟨y, rfl⟩ : ∃ y, x = 2 ^ 63 + y := ⟨x - 2 ^ 63, by rw [← e]; omega⟩
    have hy : y < 2 ^ 63 := by omega
    have h1 : (2 ^ 63 + y) ^^^ 9223372036854775808 = y := by
      rw [e, add_or hy]
      apply Nat.eq_of_testBit_eq
      intro i
      simp only [Nat.testBit_xor, Nat.testBit_or, Nat.testBit_two_pow]
      by_cases hi : 63 = i
      · subst hi; rw [Nat.testBit_lt_two_pow hy]; simp
      · simp [hi]
    rw [h1, ← e]; omega
theorem xor_i {x : Int} (h : 0 ≤ x) (h' : x ≤ 18446744073709551615) : bits .xor .u64 x 9223372036854775808 = (x + 9223372036854775808) % 18446744073709551616 := by
  rw [u64_xor x 9223372036854775808 h (by omega) (by omega) (by omega)]
  have := xor_top x.toNat (by omega)
  rw [show (9223372036854775808 : Int).toNat = 9223372036854775808 from rfl, this]
  omega
theorem turn_v {a : Int} (h : -9223372036854775808 ≤ a) (h' : a ≤ 9223372036854775807) : bits .xor .u64 (IntKind.u64.wrap a) 9223372036854775808 = a + 9223372036854775808 := by
  rw [IntKind.wrap_u64, xor_i (by omega) (by omega)]; omega
theorem back_v {a : Int} (h : 0 ≤ a) (h' : a ≤ 18446744073709551615) : wrap64 (bits .xor .u64 a 9223372036854775808) = a - 9223372036854775808 := by
  rw [xor_i h h']; unfold wrap64; omega

theorem turn_any (a : Int) (w : World) (h : -9223372036854775808 ≤ a) (h' : a ≤ 9223372036854775807) :
    Calls Tryd.prog 42 #[.int .i64 a] w fun e w' => e = .returned (.int .u64 (a + 9223372036854775808)) ∧ w = w' := by
  go_enter Tryd.func42, Tryd.ntmps42
  go_wp2
  go_ret
  exact ⟨one (turn_v h h').symm, rfl⟩
theorem back_any (a : Int) (w : World) (h : 0 ≤ a) (h' : a ≤ 18446744073709551615) :
    Calls Tryd.prog 44 #[.int .u64 a] w fun e w' => e = .returned (.int .i64 (a - 9223372036854775808)) ∧ w = w' := by
  go_enter Tryd.func44, Tryd.ntmps44
  go_wp2
  go_ret
  exact ⟨one (back_v h h').symm, rfl⟩
theorem rturn_any (a : Int) (w : World) (h : -9223372036854775808 ≤ a) (h' : a ≤ 9223372036854775807) :
    Calls Tryd.prog 43 #[.int .i64 a] w fun e w' => e = .returned (.int .u64 (a + 9223372036854775808)) ∧ w = w' := by
  go_enter Tryd.func43, Tryd.ntmps43
  go_wp2
  go_ret
  exact ⟨one (by simp only [IntKind.wrap_u64]; omega), rfl⟩
end Go.Proofs.YtlfiaompjbdcgaaDoor
