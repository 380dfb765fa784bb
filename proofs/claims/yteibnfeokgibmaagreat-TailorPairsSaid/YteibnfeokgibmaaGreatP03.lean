/-
  PACKED for a claim.
-/
import Derived.Lib.Bytealg
import Derived.Lib.Strings
import Derived.WalkKit
import Derived.Laws.BitsAllLaws
set_option linter.unusedVariables false
set_option linter.unusedSimpArgs false
set_option maxRecDepth 100000
namespace Go.Proofs.YteibnfeokgibmaaGreat.E3
def mk (p s t v : Nat) : Nat := p * 65536 + s * 256 + t * 2 + v
def okE (e : Nat) : Bool := (decide (e / 65536 = 0) || !decide (e / 256 % 256 = 0) && !decide (e / 2 % 128 = 0)) && (decide (e / 256 % 256 = 0) || !decide (e / 2 % 128 = 0)) && (decide (e % 2 = 0) || !decide (e / 65536 = 0))
@[irreducible] def hx (d : Nat) : UInt8 := if d < 10 then UInt8.ofNat (48 + d) else UInt8.ofNat (87 + d)
def digL : List UInt8 := [48, 49, 50, 51, 52, 53, 54, 55, 56, 57, 97, 98, 99, 100, 101, 102]
@[irreducible] def dgt (c : UInt8) : Int := Lib.indexByte digL c
def wd : List UInt8 -> List UInt8 -> Nat -> Option Nat
 | [], [], w => some w
 | f :: fs, c :: cs, w => if f = 48 then (if 0 <= dgt c then wd fs cs (w * 16 % 4294967296 + (dgt c).toNat) else none) else if c = f then wd fs cs w else none
 | _, _, _ => none
end Go.Proofs.YteibnfeokgibmaaGreat.E3
namespace Go.Proofs.YteibnfeokgibmaaGreat.E3
open Go.RowKit
theorem one {k : IntKind} {v v' : Int} (h : v' = v) : Ending.returned (.int k v) = Ending.returned (.int k v') := by rw [h]
theorem two {k k' : IntKind} {v v' e e' : Int} (h : v' = v /\ e' = e) : Ending.returned (.tuple #[.int k v, .int k' e]) = Ending.returned (.tuple #[.int k v', .int k' e']) := by rw [h.1, h.2]
theorem yee {a b : Bool} (h : a = b) : Ending.returned (.bool a) = Ending.returned (.bool b) := by rw [h]
theorem and64 (k : Nat) (hk : k <= 63) {x : Nat} (hx : x < 18446744073709551616) : bits .and .u64 (x : Int) ((2 ^ k - 1 : Nat) : Int) = ((x % 2 ^ k : Nat) : Int) := by
 have h : 2 ^ k <= 2 ^ 63 := Nat.pow_le_pow_right (by omega) hk
 rw [u64_and_nat x (2 ^ k - 1) hx (by omega), Nat.and_two_pow_sub_one_eq_mod]
theorem and32 (k : Nat) (hk : k <= 31) {x : Nat} (hx : x < 4294967296) : bits .and .u32 (x : Int) ((2 ^ k - 1 : Nat) : Int) = ((x % 2 ^ k : Nat) : Int) := by
 have h : 2 ^ k <= 2 ^ 31 := Nat.pow_le_pow_right (by omega) hk
 rw [u32_and_nat x (2 ^ k - 1) hx (by omega), Nat.and_two_pow_sub_one_eq_mod]
theorem yfr (k : Nat) (hk : k < 63) (n : Int) : bits .and .i64 n ((2 ^ k - 1 : Nat) : Int) = n % ((2 ^ k : Nat) : Int) := by
 have hlt : 2 ^ k < 2 ^ 63 := Nat.pow_lt_pow_right (by omega) hk
 have hm : (BitVec.ofInt 64 ((2 ^ k - 1 : Nat) : Int)).toNat = 2 ^ k - 1 := by
  rw [BitVec.toNat_ofInt]; omega
 have key : (BitVec.ofInt 64 n &&& BitVec.ofInt 64 ((2 ^ k - 1 : Nat) : Int)).toNat = (n % ((2 ^ 64 : Nat) : Int)).toNat % 2 ^ k := by
  rw [BitVec.toNat_and, BitVec.toNat_ofInt, hm, Nat.and_two_pow_sub_one_eq_mod]
 show IntKind.i64.wrap ((BitVec.ofInt 64 n &&& BitVec.ofInt 64 ((2 ^ k - 1 : Nat) : Int)).toNat : Nat) = _
 rw [key, IntKind.wrap_i64]
 have h0 : 0 < 2 ^ k := Nat.pos_of_ne_zero (by simp)
 have h1 : ((n % ((2 ^ 64 : Nat) : Int)).toNat % 2 ^ k : Nat) < 2 ^ k := Nat.mod_lt _ h0
 have h2 : (((n % ((2 ^ 64 : Nat) : Int)).toNat % 2 ^ k : Nat) : Int) = n % ((2 ^ k : Nat) : Int) := by
  rw [Int.natCast_emod, Int.toNat_of_nonneg (Int.emod_nonneg _ (by decide))]
  exact Int.emod_emod_of_dvd n (Int.natCast_dvd_natCast.2 (Nat.pow_dvd_pow 2 (by omega)))
 rw [<- h2]; omega
theorem ywo (a k e : Nat) (hk : a + k <= 32) (he : e < 4294967296) : e &&& (4294967295 - e / 2 ^ a % 2 ^ k * 2 ^ a) = e - e / 2 ^ a % 2 ^ k * 2 ^ a := by
 have e32 : (4294967295 : Nat) = 2 ^ 32 - 1 := by decide
 have hm : e / 2 ^ a % 2 ^ k * 2 ^ a < 2 ^ 32 := by
  calc e / 2 ^ a % 2 ^ k * 2 ^ a < 2 ^ k * 2 ^ a := Nat.mul_lt_mul_of_pos_right (Nat.mod_lt _ (Nat.two_pow_pos k)) (Nat.two_pow_pos a)
   _ = 2 ^ (k + a) := (Nat.pow_add ..).symm
   _ <= 2 ^ 32 := Nat.pow_le_pow_right (by omega) (by omega)
 have hsplit : e = e / 2 ^ a % 2 ^ k * 2 ^ a + (e / 2 ^ (a + k) * 2 ^ (a + k) + e % 2 ^ a) := by
  have h1 := Nat.div_add_mod e (2 ^ a); have h2 := Nat.div_add_mod (e / 2 ^ a) (2 ^ k); rw [Nat.div_div_eq_div_mul, <- Nat.pow_add] at h2
  have h3 : 2 ^ a * (e / 2 ^ a) = 2 ^ a * (2 ^ k * (e / 2 ^ (a + k))) + 2 ^ a * (e / 2 ^ a % 2 ^ k) := by rw [<- Nat.mul_add, h2]
  have h4 : 2 ^ a * (2 ^ k * (e / 2 ^ (a + k))) = e / 2 ^ (a + k) * 2 ^ (a + k) := by rw [<- Nat.mul_assoc, <- Nat.pow_add, Nat.mul_comm]
  have h5 : 2 ^ a * (e / 2 ^ a % 2 ^ k) = e / 2 ^ a % 2 ^ k * 2 ^ a := Nat.mul_comm ..
  omega
 have hr : e - e / 2 ^ a % 2 ^ k * 2 ^ a = 2 ^ a * (2 ^ k * (e / 2 ^ (a + k))) + e % 2 ^ a := by
  have : e / 2 ^ (a + k) * 2 ^ (a + k) = 2 ^ a * (2 ^ k * (e / 2 ^ (a + k))) := by
   generalize e / 2 ^ (a + k) = q; rw [Nat.pow_add, Nat.mul_comm, Nat.mul_assoc]
  omega
 rw [hr]
 apply Nat.eq_of_testBit_eq
 intro j
 rw [Nat.testBit_and, e32, show 2 ^ 32 - 1 - e / 2 ^ a % 2 ^ k * 2 ^ a = 2 ^ 32 - (e / 2 ^ a % 2 ^ k * 2 ^ a + 1) by omega, Nat.testBit_two_pow_sub_succ hm, Nat.testBit_mul_two_pow,
  Nat.testBit_mod_two_pow, Nat.testBit_div_two_pow, Nat.testBit_two_pow_mul_add _ (Nat.mod_lt _ (Nat.two_pow_pos a))]
 by_cases hj : j < 32
 ·by_cases h1 : j < a
  ·simp [h1, hj, show ¬ a <= j by omega]
  ·by_cases h2 : j < a + k
   ·have h3 : j - a < k := by omega
    simp [h1, h3, hj, show a <= j by omega, show j - a + a = j by omega, Nat.testBit_two_pow_mul, show ¬ k <= j - a by omega]
   ·have h3 : ¬ j - a < k := by omega
    have h4 : (e / 2 ^ (a + k)).testBit (j - a - k) = e.testBit j := by rw [Nat.testBit_div_two_pow]; congr 1; omega
    simp [h1, h3, hj, Nat.testBit_two_pow_mul, show k <= j - a by omega, h4]
 ·have hb : e.testBit j = false := Nat.testBit_lt_two_pow (Nat.lt_of_lt_of_le he (by rw [show (4294967296 : Nat) = 2 ^ 32 by decide]; exact Nat.pow_le_pow_right (by omega) (by omega)))
  have h1 : ¬ j < a := by omega
  have hb2 : (e / 2 ^ (a + k)).testBit (j - a - k) = false := by
   rw [Nat.testBit_div_two_pow, show j - a - k + (a + k) = j by omega]; exact hb
  simp [h1, hb, hj, Nat.testBit_two_pow_mul, hb2]
theorem lay_mid (a k c n : Nat) (hn : n < 2 ^ k) (hc : c / 2 ^ a % 2 ^ k = 0) : c ||| n * 2 ^ a = c + n * 2 ^ a := by
 have hl := Nat.div_add_mod c (2 ^ a); have h2 := Nat.div_add_mod (c / 2 ^ a) (2 ^ k); rw [hc, Nat.add_zero] at h2; obtain ⟨q, hq⟩ : ∃ q, q = c / 2 ^ a / 2 ^ k := ⟨_, rfl⟩; rw [<- hq] at h2
 have hlo : c % 2 ^ a < 2 ^ a := Nat.mod_lt _ (Nat.two_pow_pos a)
 have e1 : c = 2 ^ a * (2 ^ k * q) + c % 2 ^ a := by rw [h2]; exact hl.symm
 have e2 : c + n * 2 ^ a = 2 ^ a * (2 ^ k * q + n) + c % 2 ^ a := by rw [Nat.mul_add, Nat.mul_comm (2 ^ a) n]; omega
 rw [e2]
 apply Nat.eq_of_testBit_eq
 intro j; rw [Nat.testBit_or, Nat.testBit_mul_two_pow, Nat.testBit_two_pow_mul_add _ hlo]
 conv => lhs; rw [e1, Nat.testBit_two_pow_mul_add _ hlo]
 by_cases h1 : j < a
 ·simp [h1, show ¬ a <= j by omega]
 ·simp only [h1, if_false, show a <= j by omega, decide_true, Bool.true_and]
  rw [Nat.testBit_two_pow_mul_add _ hn, Nat.testBit_two_pow_mul]
  by_cases h3 : j - a < k
  ·simp [h3, show ¬ k <= j - a by omega]
  ·have hz : n.testBit (j - a) = false := Nat.testBit_lt_two_pow (Nat.lt_of_lt_of_le hn (Nat.pow_le_pow_right (by omega) (by omega)))
   simp [h3, show k <= j - a by omega, hz]
theorem put_mid (a k e n : Nat) (hk : a + k <= 32) (hn : n < 2 ^ k) (he : e < 4294967296) :
  bits .or .u32 (bits .andNot .u32 (e : Int) ((e / 2 ^ a % 2 ^ k * 2 ^ a : Nat) : Int)) ((n * 2 ^ a : Nat) : Int) = ((e - e / 2 ^ a % 2 ^ k * 2 ^ a + n * 2 ^ a : Nat) : Int) := by
 have hlt : ∀ x : Nat, x < 2 ^ k -> x * 2 ^ a < 4294967296 := by
  intro x hx
  calc x * 2 ^ a < 2 ^ k * 2 ^ a := Nat.mul_lt_mul_of_pos_right hx (Nat.two_pow_pos a)
   _ = 2 ^ (k + a) := (Nat.pow_add ..).symm
   _ <= 2 ^ 32 := Nat.pow_le_pow_right (by omega) (by omega)
   _ = 4294967296 := by decide
 rw [u32_andNot_nat _ _ he (hlt _ (Nat.mod_lt _ (Nat.two_pow_pos k))), ywo a k e hk he, u32_or_nat _ _ (by omega) (hlt n hn)]
 rw [lay_mid a k _ n hn ?_]; have h2 := Nat.div_add_mod (e / 2 ^ a) (2 ^ k)
 have h3 : e / 2 ^ a - e / 2 ^ a % 2 ^ k = (e - e / 2 ^ a % 2 ^ k * 2 ^ a) / 2 ^ a := by
  rw [Nat.mul_comm, Nat.sub_mul_div]
 rw [<- h3, show e / 2 ^ a - e / 2 ^ a % 2 ^ k = 2 ^ k * (e / 2 ^ a / 2 ^ k) by omega]
 exact Nat.mul_mod_right ..
theorem yng {a k M K : Nat} (hM : 2 ^ a = M) (hK : 2 ^ k = K) (e n : Nat) (hk : a + k <= 32) (hn : n < K) (he : e < 4294967296) :
  bits .or .u32 (bits .andNot .u32 (e : Int) ((e : Int) / M % K * M)) ((n : Int) * M) = ((e - e / M % K * M + n * M : Nat) : Int) := by
 subst hM hK; have h := put_mid a k e n hk hn he; rw [<- h]; norm_cast
theorem put_1 {e : Nat} {v : Int} (he : e < 4294967296) : v % 65536 * 65536 + (e : Int) % 65536 = bits .or .u32 (bits .andNot .u32 (e : Int) ((e : Int) / 65536 * 65536)) (v % 65536 * 65536) := by
 obtain ⟨n, hn⟩ := Int.eq_ofNat_of_zero_le (show 0 <= v % 65536 by omega)
 have hn' : n < 65536 := by omega
 rw [hn]
 have e1 : (e : Int) / 65536 * 65536 = (e : Int) / ((65536 : Nat) : Int) % ((65536 : Nat) : Int) * ((65536 : Nat) : Int) := by omega
 have h := yng (a := 16) (k := 16) (M := 65536) (K := 65536) (by decide) (by decide) e n (by omega) hn' he
 rw [e1]; refine Eq.trans ?_ h.symm; clear h e1 hn; omega
theorem put_2 {e : Nat} {v : Int} (he : e < 4294967296) : (e : Int) / 65536 * 65536 + v % 256 * 256 + (e : Int) % 256 = bits .or .u32 (bits .andNot .u32 (e : Int) ((e : Int) / 256 % 256 * 256)) (v % 256 * 256) := by
 obtain ⟨n, hn⟩ := Int.eq_ofNat_of_zero_le (show 0 <= v % 256 by omega)
 have hn' : n < 256 := by omega
 rw [hn]; have h := yng (a := 8) (k := 8) (M := 256) (K := 256) (by decide) (by decide) e n (by omega) hn' he
 refine Eq.trans ?_ h.symm; clear h hn; omega
theorem put_3 {e : Nat} {v : Int} (he : e < 4294967296) : (e : Int) / 256 * 256 + v % 128 * 2 + (e : Int) % 2 = bits .or .u32 (bits .andNot .u32 (e : Int) ((e : Int) / 2 % 128 * 2)) (v % 128 * 2) := by
 obtain ⟨n, hn⟩ := Int.eq_ofNat_of_zero_le (show 0 <= v % 128 by omega)
 have hn' : n < 128 := by omega
 rw [hn]; have h := yng (a := 1) (k := 7) (M := 2) (K := 128) (by decide) (by decide) e n (by omega) hn' he
 refine Eq.trans ?_ h.symm; clear h hn; omega
end Go.Proofs.YteibnfeokgibmaaGreat.E3
