/-
  BITS OF BYTES AND OF SIGNS, in plain arithmetic.
-/
import Derived.WalkKit
import Derived.Laws.BitsAllLaws
namespace Go.Proofs.Ytcoepmakajligaa
open Go.RowKit
theorem and_i64_k (k : Nat) (hk : k < 63) (n : Int) : bits .and .i64 n ((2 ^ k - 1 : Nat) : Int) = n % ((2 ^ k : Nat) : Int) := by
  have hlt : 2 ^ k < 2 ^ 63 := Nat.pow_lt_pow_right (by omega) hk
  have hm : (BitVec.ofInt 64 ((2 ^ k - 1 : Nat) : Int)).toNat = 2 ^ k - 1 := by
    rw [BitVec.toNat_ofInt]; omega
  have key : (BitVec.ofInt 64 n &&& BitVec.ofInt 64 ((2 ^ k - 1 : Nat) : Int)).toNat = (n % ((2 ^ 64 : Nat) : Int)).toNat % 2 ^ k := by
    rw [BitVec.toNat_and, BitVec.toNat_ofInt, hm, Nat.and_two_pow_sub_one_eq_mod]
  show IntKind.i64.wrap ((BitVec.ofInt 64 n &&& BitVec.ofInt 64 ((2 ^ k - 1 : Nat) : Int)).toNat : Nat) = _
  rw [key, IntKind.wrap_i64]
  have h0 : 0 < 2 ^ k := Nat.pos_of_ne_zero (by simp)
  have h1 : ((n % ((2 ^ 64 : Nat) : Int)).toNat % 2 ^ k : Nat) < 2 ^ k := Nat.mod_lt _ h0
  have h2 : (((n % ((2 ^ 64 : Nat) : Int)).toNat % 2 ^ k : Nat) : Int) = n % ((2 ^ k : Nat) : Int) := by
    rw [Int.natCast_emod, Int.toNat_of_nonneg (Int.emod_nonneg _ (by decide))]
    exact Int.emod_emod_of_dvd n (Int.natCast_dvd_natCast.2 (Nat.pow_dvd_pow 2 (by omega)))
  rw [← h2]; omega
theorem and63 (n : Int) : bits .and .i64 n 63 = n % 64 := and_i64_k 6 (by omega) n
theorem or_i64 {a b : Nat} (ha : a < 2 ^ 63) (hb : b < 2 ^ 63) : bits .or .i64 (a : Int) (b : Int) = ((a ||| b : Nat) : Int) := by
  show IntKind.i64.wrap ((BitVec.ofInt 64 (a : Int) ||| BitVec.ofInt 64 (b : Int)).toNat : Nat) = _
  have e1 : (BitVec.ofInt 64 (a : Int)).toNat = a := by rw [BitVec.toNat_ofInt]; omega
  have e2 : (BitVec.ofInt 64 (b : Int)).toNat = b := by rw [BitVec.toNat_ofInt]; omega
  have h : a ||| b < 2 ^ 63 := Nat.or_lt_two_pow ha hb
  rw [BitVec.toNat_or, e1, e2, IntKind.wrap_i64]; omega
theorem or_low {a b : Nat} (k : Nat) (ha : 2 ^ k * a < 2 ^ 63) (hb : b < 2 ^ k) (hk : k < 63) : bits .or .i64 ((2 ^ k * a : Nat) : Int) (b : Int) = ((2 ^ k * a + b : Nat) : Int) := by
  have h : 2 ^ k < 2 ^ 63 := Nat.pow_lt_pow_right (by omega) hk
  rw [or_i64 ha (by omega), Nat.two_pow_add_eq_or_of_lt hb]
theorem or6 {a b : Int} (h0 : 0 ≤ a) (ha : a < 33554432) (hb0 : 0 ≤ b) (hb : b < 64) : bits .or .i64 (a * 64) b = a * 64 + b := by
  obtain ⟨a, rfl⟩ := Int.eq_ofNat_of_zero_le h0
  obtain ⟨b, rfl⟩ := Int.eq_ofNat_of_zero_le hb0
  have := or_low (a := a) (b := b) 6 (by omega) (by omega) (by omega)
  rw [show (a : Int) * 64 = ((2 ^ 6 * a : Nat) : Int) by omega, this]; omega
theorem or128 {b : Int} (hb0 : 0 ≤ b) (hb : b < 64) : bits .or .i64 128 b = 128 + b := by
  have := or6 (a := 2) (b := b) (by omega) (by omega) hb0 hb; exact this
theorem or192 {b : Int} (hb0 : 0 ≤ b) (hb : b < 32) : bits .or .i64 192 b = 192 + b := by
  have := or6 (a := 3) (b := b) (by omega) (by omega) hb0 (by omega); exact this
theorem or224 {b : Int} (hb0 : 0 ≤ b) (hb : b < 16) : bits .or .i64 224 b = 224 + b := by
  obtain ⟨b, rfl⟩ := Int.eq_ofNat_of_zero_le hb0
  have := or_low (a := 7) (b := b) 5 (by omega) (by omega) (by omega)
  rw [show (224 : Int) = ((2 ^ 5 * 7 : Nat) : Int) by rfl, this]; omega
theorem or240 {b : Int} (hb0 : 0 ≤ b) (hb : b < 8) : bits .or .i64 240 b = 240 + b := by
  obtain ⟨b, rfl⟩ := Int.eq_ofNat_of_zero_le hb0
  have := or_low (a := 15) (b := b) 4 (by omega) (by omega) (by omega)
  rw [show (240 : Int) = ((2 ^ 4 * 15 : Nat) : Int) by rfl, this]; omega
theorem u8_all (k m : Int) (h : ∀ x : Fin 256, bits .and .u8 ((x.1 : Nat) : Int) k = ((x.1 : Nat) : Int) % m) {x : Nat} (hx : x < 256) : bits .and .u8 (x : Int) k = (x : Int) % m := h ⟨x, hx⟩
theorem u8_31 {x : Nat} (hx : x < 256) : bits .and .u8 (x : Int) 31 = (x : Int) % 32 := u8_all 31 32 (by decide +kernel) hx
theorem u8_15 {x : Nat} (hx : x < 256) : bits .and .u8 (x : Int) 15 = (x : Int) % 16 := u8_all 15 16 (by decide +kernel) hx
theorem u8_7 {x : Nat} (hx : x < 256) : bits .and .u8 (x : Int) 7 = (x : Int) % 8 := u8_all 7 8 (by decide +kernel) hx
theorem u8_63 {x : Nat} (hx : x < 256) : bits .and .u8 (x : Int) 63 = (x : Int) % 64 := u8_all 63 64 (by decide +kernel) hx
end Go.Proofs.Ytcoepmakajligaa
