/-
  PLAIN BITS, more: how many bits of a number stand; the lowest sixteen bits of a number with a sign. No program in it.
-/
import Derived.Test.YtlfiaompjbdcgaaDoorBits
namespace Go.Proofs.YtlfiaompjbdcgaaDoor
open Go.RowKit

/-- How many of the A lowest bits of x stand. -/
def cn : Nat → Nat → Nat
  | 0, _ => 0
  | A + 1, x => x % 2 + cn A (x / 2)
theorem cn_succ (A : Nat) : ∀ x, cn (A + 1) x = cn A x + x / 2 ^ A % 2 := by
  induction A with
  | zero => intro x; simp [cn]
  | succ A ih =>
    intro x
    rw [cn, ih (x / 2), Nat.div_div_eq_div_mul, show 2 * 2 ^ A = 2 ^ (A + 1) by rw [Nat.pow_succ]; omega]
    simp only [cn]; omega
theorem cn_step (A x : Nat) : cn (A + 1) x = cn A x + getN x A 1 := cn_succ A x
theorem cn_zero (A : Nat) : cn A 0 = 0 := by induction A with
  | zero => rfl
  | succ A ih => simp [cn, ih]
theorem cn_le (A : Nat) : ∀ x, cn A x ≤ A := by
  induction A with
  | zero => intro x; simp [cn]
  | succ A ih => intro x; have := ih (x / 2); simp only [cn]; omega
theorem low_odd (y : Nat) : (2 * y + 1) &&& (2 * y) = 2 * y := by
  apply Nat.eq_of_testBit_eq; intro j
  rw [Nat.testBit_and]
  cases j with
  | zero => simp
  | succ j => simp [Nat.testBit_succ, show (2 * y + 1) / 2 = y by omega]
theorem low_even (y : Nat) (h : 0 < y) : (2 * y) &&& (2 * y - 1) = 2 * (y &&& (y - 1)) := by
  apply Nat.eq_of_testBit_eq; intro j
  rw [Nat.testBit_and]
  cases j with
  | zero => simp
  | succ j => simp [Nat.testBit_succ, show (2 * y - 1) / 2 = y - 1 by omega]
theorem cn_low (A : Nat) : ∀ x, 0 < x → x < 2 ^ A → cn A (x &&& (x - 1)) + 1 = cn A x := by
  induction A with
  | zero => intro x h h'; simp at h'; omega
  | succ A ih =>
    intro x h h'
    by_cases ho : x % 2 = 1
    · obtain ⟨y, rfl⟩ : ∃ y, x = 2 * y + 1 := ⟨x / 2, by omega⟩
      rw [show 2 * y + 1 - 1 = 2 * y by omega, low_odd]
      simp only [cn, show (2 * y + 1) / 2 = y by omega, show 2 * y / 2 = y by omega]; omega
    · obtain ⟨y, rfl⟩ : ∃ y, x = 2 * y := ⟨x / 2, by omega⟩
      rw [low_even y (by omega)]
      have := ih y (by omega) (by rw [Nat.pow_succ] at h'; omega)
      simp only [cn, show 2 * y / 2 = y by omega, show 2 * (y &&& (y - 1)) / 2 = y &&& (y - 1) by omega]; omega
theorem i64_and16 (n : Int) : bits .and .i64 n 65535 = n % 65536 := by
  have h127 : (BitVec.ofInt 64 65535).toNat = 2 ^ 16 - 1 := by decide
  have key : (BitVec.ofInt 64 n &&& BitVec.ofInt 64 65535).toNat = (n % ((2 ^ 64 : Nat) : Int)).toNat % 2 ^ 16 := by
    rw [BitVec.toNat_and, BitVec.toNat_ofInt, h127, Nat.and_two_pow_sub_one_eq_mod]
  show IntKind.i64.wrap ((BitVec.ofInt 64 n &&& BitVec.ofInt 64 65535).toNat : Nat) = n % 65536
  rw [key, IntKind.wrap_i64]
  omega
theorem get_all {W : Nat} (h : W < 18446744073709551616) : getN W 0 64 = W := by
  unfold getN; rw [Nat.pow_zero, Nat.div_one, Nat.mod_eq_of_lt]; exact h
theorem mod_all {W A : Nat} (h : W < 18446744073709551616) (hA : 64 ≤ A) : W % 2 ^ A = W :=
  Nat.mod_eq_of_lt (Nat.lt_of_lt_of_le h (by have := Nat.pow_le_pow_right (show 0 < 2 by omega) hA; exact this))
/-- A piece more. -/
theorem piece {W A k R : Nat} (h : W < 18446744073709551616) (hk : (k : Int) = min ((R : Int) + 1) (64 - A)) : setN (W % 2 ^ A) A k (getN W A k) = W % 2 ^ (A + (R + 1)) := by
  rw [set_low]
  by_cases g : A + (R + 1) ≤ 64
  · rw [show k = R + 1 by omega]
  · rw [mod_all h (show 64 ≤ A + k by omega), mod_all h (by omega)]
end Go.Proofs.YtlfiaompjbdcgaaDoor
