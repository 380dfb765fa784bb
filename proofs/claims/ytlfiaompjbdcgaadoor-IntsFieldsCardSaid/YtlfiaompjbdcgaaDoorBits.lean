/-
  PLAIN BITS: a word whose k bits from A on are those of another number; reading them; counting bits. No program in it.
-/
import Derived.Test.YtlfiaompjbdcgaaDoorPure
namespace Go.Proofs.YtlfiaompjbdcgaaDoor
open Go.RowKit

/-- The word W with the k bits from A on put at V's lowest. -/
def setN (W A k V : Nat) : Nat := 2 ^ A * (2 ^ k * (W / 2 ^ (A + k)) + V % 2 ^ k) + W % 2 ^ A
def getN (W A k : Nat) : Nat := W / 2 ^ A % 2 ^ k

theorem setN_bit (W A k V j : Nat) : (setN W A k V).testBit j = if j < A then W.testBit j else if j < A + k then V.testBit (j - A) else W.testBit j := by
  unfold setN
  rw [Nat.testBit_two_pow_mul_add _ (Nat.mod_lt _ (Nat.two_pow_pos A)), Nat.testBit_two_pow_mul_add _ (Nat.mod_lt _ (Nat.two_pow_pos k))]
  by_cases h : j < A
  · simp only [Nat.testBit_mod_two_pow, h, decide_true, Bool.true_and, if_true]
  · simp only [if_neg h]
    by_cases h2 : j < A + k
    · have h3 : j - A < k := by omega
      simp only [if_pos h2, Nat.testBit_mod_two_pow, h3, decide_true, Bool.true_and, if_true]
    · have h3 : ¬ j - A < k := by omega
      simp only [if_neg h2, if_neg h3, Nat.testBit_div_two_pow]
      congr 1; omega
theorem getN_bit (W A k j : Nat) : (getN W A k).testBit j = (decide (j < k) && W.testBit (A + j)) := by
  unfold getN
  rw [Nat.testBit_mod_two_pow, Nat.testBit_div_two_pow, Nat.add_comm]
theorem setN_lt {W A k V m : Nat} (hW : W < 2 ^ m) (h : A + k ≤ m) : setN W A k V < 2 ^ m := by
  apply Nat.lt_pow_two_of_testBit
  intro j hj
  rw [setN_bit, if_neg (by omega), if_neg (by omega)]
  exact Nat.testBit_lt_two_pow (Nat.lt_of_lt_of_le hW (Nat.pow_le_pow_right (by omega) hj))
theorem getN_lt (W A k : Nat) : getN W A k < 2 ^ k := Nat.mod_lt _ (Nat.two_pow_pos k)

/-- What ints.Set makes. -/
theorem set_is {W V A k : Nat} (hW : W < 2 ^ 64) (h : A + k ≤ 64) :
    (W &&& (2 ^ 64 - 1 - (2 ^ k - 1) * 2 ^ A)) ||| ((V &&& (2 ^ k - 1)) * 2 ^ A) = setN W A k V := by
  apply Nat.eq_of_testBit_eq
  intro j
  have hm : (2 ^ k - 1) * 2 ^ A < 2 ^ 64 := by
    calc (2 ^ k - 1) * 2 ^ A < 2 ^ k * 2 ^ A := Nat.mul_lt_mul_of_pos_right (Nat.sub_lt (Nat.two_pow_pos k) (by omega)) (Nat.two_pow_pos A)
      _ = 2 ^ (k + A) := (Nat.pow_add ..).symm
      _ ≤ 2 ^ 64 := Nat.pow_le_pow_right (by omega) (by omega)
  rw [setN_bit, Nat.testBit_or, Nat.testBit_and, show 2 ^ 64 - 1 - (2 ^ k - 1) * 2 ^ A = 2 ^ 64 - ((2 ^ k - 1) * 2 ^ A + 1) by omega, Nat.testBit_two_pow_sub_succ hm,
    Nat.testBit_mul_two_pow, Nat.testBit_mul_two_pow, Nat.testBit_and, Nat.testBit_two_pow_sub_one]
  by_cases hj : j < 64
  · by_cases h1 : j < A
    · simp [h1, hj, show ¬ A ≤ j by omega]
    · by_cases h2 : j < A + k
      · have h3 : j - A < k := by omega
        simp [h1, h2, h3, hj, show A ≤ j by omega]
      · have h3 : ¬ j - A < k := by omega
        simp [h1, h2, h3, hj]
  · have hb : W.testBit j = false := Nat.testBit_lt_two_pow (Nat.lt_of_lt_of_le hW (Nat.pow_le_pow_right (by omega) (by omega)))
    have h1 : ¬ j < A := by omega
    have h2 : ¬ j < A + k := by omega
    have h3 : ¬ j - A < k := by omega
    simp [h1, h2, h3, hb]
/-- One bit more, as the document's own Set goes. -/
theorem set_step {W V A i : Nat} (hW : W < 2 ^ 64) (h : A + i < 64) :
    (setN W A i V &&& (2 ^ 64 - 1 - 2 ^ (A + i))) ||| (if V.testBit i then 2 ^ (A + i) else 0) = setN W A (i + 1) V := by
  apply Nat.eq_of_testBit_eq
  intro j
  have hm : 2 ^ (A + i) < 2 ^ 64 := Nat.pow_lt_pow_right (by omega) h
  have hlt := @setN_lt W A i V 64 hW (by omega)
  have e : (if V.testBit i then 2 ^ (A + i) else 0 : Nat).testBit j = (V.testBit i && decide (A + i = j)) := by
    split <;> simp [Nat.testBit_two_pow, *]
  rw [Nat.testBit_or, Nat.testBit_and, e, show 2 ^ 64 - 1 - 2 ^ (A + i) = 2 ^ 64 - (2 ^ (A + i) + 1) by omega, Nat.testBit_two_pow_sub_succ hm, Nat.testBit_two_pow]
  rw [setN_bit W A (i + 1) V j]
  by_cases hj : j < 64
  · rw [setN_bit]
    by_cases h1 : j < A
    · simp [h1, hj, show ¬ A + i = j by omega]
    · by_cases h2 : j < A + i
      · simp [h1, h2, hj, show j < A + (i + 1) by omega, show ¬ A + i = j by omega]
      · by_cases h3 : A + i = j
        · subst h3; simp [show ¬ A + i < A by omega]
        · simp [h1, h2, h3, hj, show ¬ j < A + (i + 1) by omega]
  · have hb : W.testBit j = false := Nat.testBit_lt_two_pow (Nat.lt_of_lt_of_le hW (Nat.pow_le_pow_right (by omega) (by omega)))
    simp [hj, hb, show ¬ A + i = j by omega, show ¬ j < A + (i + 1) by omega, show ¬ j < A by omega]
theorem get_step (W A i : Nat) : (getN W A i ||| (if W.testBit (A + i) then 2 ^ i else 0)) = getN W A (i + 1) := by
  apply Nat.eq_of_testBit_eq
  intro j
  have e : (if W.testBit (A + i) then 2 ^ i else 0 : Nat).testBit j = (W.testBit (A + i) && decide (i = j)) := by
    split <;> simp [Nat.testBit_two_pow, *]
  rw [Nat.testBit_or, e, getN_bit, getN_bit]
  by_cases h : i = j
  · subst h; simp
  · by_cases h2 : j < i
    · simp [h2, show j < i + 1 by omega, h]
    · simp [h2, show ¬ j < i + 1 by omega, h]
theorem set_none (W A V : Nat) : setN W A 0 V = W := by
  apply Nat.eq_of_testBit_eq; intro j; rw [setN_bit]; split
  · rfl
  · rw [if_neg (by omega)]
theorem get_none (W A : Nat) : getN W A 0 = 0 := by unfold getN; rw [Nat.pow_zero, Nat.mod_one]
theorem get_set (W A k V : Nat) : getN (setN W A k V) A k = getN V 0 k := by
  apply Nat.eq_of_testBit_eq; intro j; rw [getN_bit, getN_bit, setN_bit]
  by_cases h : j < k
  · simp [h, show ¬ A + j < A by omega]
  · simp [h]
theorem set_get (W A k V : Nat) : setN (setN W A k V) A k (getN W A k) = W := by
  apply Nat.eq_of_testBit_eq; intro j; rw [setN_bit, setN_bit, getN_bit]
  by_cases h : j < A
  · simp [h]
  · by_cases h2 : j < A + k
    · simp [h, h2, show j - A < k by omega, show A + (j - A) = j by omega]
    · simp [h, h2]
/-- Piece by piece. -/
theorem set_low (W A k : Nat) : setN (W % 2 ^ A) A k (getN W A k) = W % 2 ^ (A + k) := by
  apply Nat.eq_of_testBit_eq; intro j; rw [setN_bit, getN_bit, Nat.testBit_mod_two_pow, Nat.testBit_mod_two_pow]
  by_cases h : j < A
  · simp [h, show j < A + k by omega]
  · by_cases h2 : j < A + k
    · simp [h, h2, show j - A < k by omega, show A + (j - A) = j by omega]
    · simp [h, h2]
end Go.Proofs.YtlfiaompjbdcgaaDoor
