/-
  PLAIN NUMERALS: a text of digits, with a sign or without, and the number that it tells; how the library's reader of numbers agrees. No program in it.
-/
import Derived.Test.YtlfiaompjbdcgaaDoorPure
import Derived.Lib.ParseIntB
import Derived.Lib.Strings
import Derived.Lib.ItoaNum
import Derived.Lib.ItoaMem
namespace Go.Proofs.YtlfiaompjbdcgaaDoor
open Go.RowKit

def dig (c : UInt8) : Bool := decide (48 ≤ c.toNat) && decide (c.toNat ≤ 57)
def isNum (l : List UInt8) : Bool := !l.isEmpty && l.all dig
/-- What digits tell, behind others that tell acc. -/
def val (acc : Nat) (l : List UInt8) : Nat := l.foldl (fun a c => a * 10 + (c.toNat - 48)) acc
theorem val_nil (acc : Nat) : val acc [] = acc := by simp only [val, List.foldl_nil]
theorem val_cons (acc : Nat) (c : UInt8) (r : List UInt8) : val acc (c :: r) = val (acc * 10 + (c.toNat - 48)) r := by simp only [val, List.foldl_cons]
def isNeg (l : List UInt8) : Bool := l.head? == some 45
def bod (l : List UInt8) : List UInt8 := if isNeg l then l.tail else l
def sgn (n : Bool) (v : Nat) : Int := if n then -(v : Int) else v
/-- The number that a text tells, of any greatness. -/
def pNum (l : List UInt8) : Int := sgn (isNeg l) (val 0 (bod l))
def pV (l : List UInt8) : Int := if isNum (bod l) then ovV (pNum l) else 0
def pE (l : List UInt8) : Int := if isNum (bod l) then ovE (pNum l) else 3

theorem val_app (l m : List UInt8) (acc : Nat) : val acc (l ++ m) = val (val acc l) m := List.foldl_append
theorem val_ge (l : List UInt8) : ∀ acc, acc ≤ val acc l := by
  induction l with
  | nil => intro acc; rw [val_nil]; exact Nat.le_refl acc
  | cons c r ih => intro acc; have := ih (acc * 10 + (c.toNat - 48)); rw [val_cons]; omega
theorem val_ten (l : List UInt8) (acc : Nat) (h : l ≠ []) : acc * 10 ≤ val acc l := by
  cases l with
  | nil => exact absurd rfl h
  | cons c r => have := val_ge r (acc * 10 + (c.toNat - 48)); rw [val_cons]; omega
theorem val_take {l : List UInt8} {k : Nat} (h : k < l.length) : val 0 (l.take (k + 1)) = val 0 (l.take k) * 10 + (l[k].toNat - 48) := by
  rw [List.take_succ_eq_append_getElem h, val_app, val_cons, val_nil]
/-- What is told by the first k digits, and one more, does not pass what is told by all. -/
theorem val_part {l : List UInt8} {k : Nat} (h : k < l.length) : val 0 (l.take k) * 10 ≤ val 0 l ∧ val 0 (l.take (k + 1)) ≤ val 0 l := by
  constructor
  · have := val_ten (l.drop k) (val 0 (l.take k)) (by intro e; have := congrArg List.length e; simp at this; omega)
    rw [← val_app, List.take_append_drop] at this; exact this
  · have := val_ge (l.drop (k + 1)) (val 0 (l.take (k + 1)))
    rw [← val_app, List.take_append_drop] at this; exact this
theorem dig_is {c : UInt8} : dig c = true ↔ 48 ≤ c.toNat ∧ c.toNat ≤ 57 := by simp [dig]
theorem not_num {l : List UInt8} {k : Nat} (h : k < l.length) (hd : dig l[k] = false) : isNum l = false := by
  unfold isNum
  have : l.all dig = false := by
    rw [List.all_eq_false]; exact ⟨l[k], List.getElem_mem h, by rw [hd]; decide⟩
  rw [this, Bool.and_false]
theorem dig_at {l : List UInt8} {k : Nat} (h : k < l.length) (hn : isNum l = true) : 48 ≤ l[k].toNat ∧ l[k].toNat ≤ 57 := by
  unfold isNum at hn
  rw [Bool.and_eq_true] at hn
  exact dig_is.1 (List.all_eq_true.1 hn.2 _ (List.getElem_mem h))
theorem all_step {l : List UInt8} {k : Nat} (h : k < l.length) (ht : (l.take k).all dig = true) (hd : dig l[k] = true) : (l.take (k + 1)).all dig = true := by
  rw [List.take_succ_eq_append_getElem h, List.all_append, ht]; simp [hd]

theorem uintM {l : List UInt8} : ∀ acc, l.all dig = true → acc ≤ 18446744073709551615 →
    Lib.parseUintM 18446744073709551615 acc l = if val acc l ≤ 18446744073709551615 then .ok (val acc l) else .range := by
  induction l with
  | nil => intro acc _ h; simp [Lib.parseUintM, val_nil, h]
  | cons c r ih =>
    intro acc h ha
    rw [List.all_cons, Bool.and_eq_true] at h
    have hd := dig_is.1 h.1
    have hg := val_ge r (acc * 10 + (c.toNat - 48))
    rw [Lib.parseUintM, if_pos hd]
    by_cases h1 : 1844674407370955162 ≤ acc
    · rw [if_pos h1, if_neg (by rw [val_cons]; omega)]
    · rw [if_neg h1]
      by_cases h2 : 18446744073709551615 < acc * 10 + (c.toNat - 48)
      · rw [if_pos h2, if_neg (by rw [val_cons]; omega)]
      · rw [if_neg h2, ih _ h.2 (by omega)]; rfl
theorem uintB {l : List UInt8} (h : isNum l = true) : Lib.parseUintB 64 l = if val 0 l ≤ 18446744073709551615 then .ok (val 0 l) else .range := by
  unfold isNum at h
  rw [Bool.and_eq_true] at h
  have hne : l ≠ [] := by intro e; subst e; simp at h
  rw [Lib.parseUintB, if_neg hne]
  exact uintM 0 h.2 (by omega)
theorem parse_is {l : List UInt8} (h : isNum (bod l) = true) :
    Lib.parseIntB 64 l = if -9223372036854775808 ≤ pNum l ∧ pNum l ≤ 9223372036854775807 then .ok (pNum l) else .range := by
  cases l with
  | nil => simp [bod, isNum, isNeg] at h
  | cons c r =>
    by_cases hc : c = 45
    · subst hc
      have hb : bod (45 :: r) = r := by simp [bod, isNeg]
      rw [hb] at h
      have hn : pNum (45 :: r) = -(val 0 r : Int) := by unfold pNum; rw [hb]; simp [isNeg, sgn]
      rw [hn]
      simp only [Lib.parseIntB, show (45 : UInt8).toNat = 45 from rfl]
      rw [if_pos (show (45 : Nat) = 43 ∨ True from Or.inr trivial), uintB h]
      by_cases h1 : val 0 r ≤ 18446744073709551615
      · rw [if_pos h1]
        simp only [not_true_eq_false, false_and, if_false, true_and, if_true, Nat.reducePow, Nat.reduceSub]
        by_cases h2 : 9223372036854775808 < val 0 r
        · rw [if_pos h2, if_neg (by omega)]
        · rw [if_neg h2, if_pos (by omega)]
      · rw [if_neg h1]
        rw [if_neg (by omega)]
    · have hcn : c.toNat ≠ 45 := by intro e; apply hc; exact UInt8.toNat_inj.1 e
      have hng : isNeg (c :: r) = false := by simp [isNeg, hc]
      have hb : bod (c :: r) = c :: r := by simp [bod, hng]
      rw [hb] at h
      have hd := @dig_at _ 0 (by simp) h
      simp only [List.getElem_cons_zero] at hd
      have hn : pNum (c :: r) = (val 0 (c :: r) : Int) := by unfold pNum; rw [hb, hng]; simp [sgn]
      rw [hn]
      simp only [Lib.parseIntB]
      rw [if_neg (by omega), uintB h]
      by_cases h1 : val 0 (c :: r) ≤ 18446744073709551615
      · rw [if_pos h1]
        simp only [hcn, not_false_eq_true, true_and, false_and, if_false, Nat.reducePow, Nat.reduceSub]
        by_cases h2 : 9223372036854775808 ≤ val 0 (c :: r)
        · rw [if_pos h2, if_neg (by omega)]
        · rw [if_neg h2, if_pos (by omega)]
      · rw [if_neg h1]
        rw [if_neg (by omega)]

/-! ### what the number printer writes is read again -/
theorem dd_all (n : Nat) : (Lib.decDigits n).all dig = true := by
  induction n using Nat.strongRecOn with
  | _ n ih =>
    rw [Lib.decDigits]
    split
    · rename_i h
      simp only [List.all_cons, List.all_nil, Bool.and_true]
      exact dig_is.2 (by rw [UInt8.toNat_ofNat']; omega)
    · rename_i h
      rw [List.all_append, ih (n / 10) (by omega)]
      simp only [List.all_cons, List.all_nil, Bool.and_true, Bool.true_and]
      exact dig_is.2 (by rw [UInt8.toNat_ofNat']; omega)
theorem dd_val (n : Nat) : val 0 (Lib.decDigits n) = n := by
  induction n using Nat.strongRecOn with
  | _ n ih =>
    rw [Lib.decDigits]
    split
    · rename_i h
      simp only [val_cons, val_nil, UInt8.toNat_ofNat']; omega
    · rename_i h
      rw [val_app, ih (n / 10) (by omega)]
      simp only [val_cons, val_nil, UInt8.toNat_ofNat']; omega
theorem dd_ne (n : Nat) : Lib.decDigits n ≠ [] := by
  rw [Lib.decDigits]; split <;> simp
theorem dd_num (n : Nat) : isNum (Lib.decDigits n) = true := by
  unfold isNum
  rw [dd_all, Bool.and_true]
  cases h : Lib.decDigits n with
  | nil => exact absurd h (dd_ne n)
  | cons c r => rfl
theorem dd_neg (n : Nat) : isNeg (Lib.decDigits n) = false := by
  have h := dd_num n
  cases hl : Lib.decDigits n with
  | nil => rfl
  | cons c r =>
    rw [hl] at h
    have hd := @dig_at _ 0 (by simp) h
    simp only [List.getElem_cons_zero] at hd
    simp only [isNeg, List.head?_cons]
    have : c ≠ 45 := by intro e; subst e; simp at hd
    simpa using this
theorem itoa_back {x : Int} (h : -9223372036854775808 ≤ x) (h' : x ≤ 9223372036854775807) : pV (Lib.itoa x) = x ∧ pE (Lib.itoa x) = 0 := by
  by_cases hx : 0 ≤ x
  · obtain ⟨n, rfl⟩ := Int.eq_ofNat_of_zero_le hx
    rw [Lib.itoa_nonneg]
    have hb : bod (Lib.decDigits n) = Lib.decDigits n := by simp [bod, dd_neg]
    have hp : pNum (Lib.decDigits n) = n := by unfold pNum; rw [hb, dd_neg, dd_val]; rfl
    unfold pV pE; rw [hb, dd_num, hp]; exact ov_in h h'
  · obtain ⟨n, rfl⟩ : ∃ n : Nat, x = -(n : Int) := ⟨(-x).toNat, by omega⟩
    rw [Lib.itoa_neg n (by omega)]
    have hg : isNeg (45 :: Lib.decDigits n) = true := by simp [isNeg]
    have hb : bod (45 :: Lib.decDigits n) = Lib.decDigits n := by simp [bod, hg]
    have hp : pNum (45 :: Lib.decDigits n) = -(n : Int) := by unfold pNum; rw [hb, hg, dd_val]; rfl
    unfold pV pE; rw [hb, dd_num, hp]; exact ov_in h h'
theorem trim_bod (l : List UInt8) : Lib.trimPrefix l [45] = bod l := by
  cases l with
  | nil => simp [Lib.trimPrefix, Lib.hasPrefix, bod, isNeg]
  | cons c r =>
    by_cases h : c = 45
    · subst h; simp [Lib.trimPrefix, Lib.hasPrefix, bod, isNeg]
    · have h' : ¬ 45 = c := fun e => h e.symm
      simp [Lib.trimPrefix, Lib.hasPrefix, bod, isNeg, h, h']
end Go.Proofs.YtlfiaompjbdcgaaDoor
