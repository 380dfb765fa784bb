/-
  PLAIN ARITHMETIC of layer 1: what a number that may be too great is told as; sums, differences, products, quotients, shifts, narrow numbers. No program in it.
-/
import Derived.WalkKit
import Derived.Laws.BitsAllLaws
namespace Go.Proofs.YtlfiaompjbdcgaaDoor
open Go.RowKit

/-- What is told of a whole number of any greatness: itself where it is a number of 64 bits, else nought .. -/
def ovV (x : Int) : Int := if -9223372036854775808 ≤ x ∧ x ≤ 9223372036854775807 then x else 0
/-- .. and the error beside it. -/
def ovE (x : Int) : Int := if -9223372036854775808 ≤ x ∧ x ≤ 9223372036854775807 then 0 else 17
/-- A quotient, and its error. -/
def divV (a b : Int) : Int := if b = 0 then 0 else ovV (a.tdiv b)
def divE (a b : Int) : Int := if b = 0 then 18 else ovE (a.tdiv b)
/-- A rest, and its error. -/
def modV (a b : Int) : Int := if b = 0 then 0 else a.tmod b
def modE (b : Int) : Int := if b = 0 then 18 else 0
/-- A shift to the left. -/
def shlV (a n : Int) : Int := if 0 ≤ n ∧ n ≤ 63 then ovV (a * 2 ^ n.toNat) else 0
def shlE (a n : Int) : Int := if 0 ≤ n ∧ n ≤ 63 then ovE (a * 2 ^ n.toNat) else 19
/-- A shift to the right. -/
def shrV (a n : Int) : Int := if 0 ≤ n ∧ n ≤ 63 then a / 2 ^ n.toNat else 0
def shrE (n : Int) : Int := if 0 ≤ n ∧ n ≤ 63 then 0 else 19
/-- The lowest bits of a number, 8 times size of them, with a sign or without. -/
def wrapP (x size : Int) (sg : Bool) : Int :=
  if size = 1 then (if sg then (x + 128) % 256 - 128 else x % 256)
  else if size = 2 then (if sg then (x + 32768) % 65536 - 32768 else x % 65536)
  else if size = 4 then (if sg then (x + 2147483648) % 4294967296 - 2147483648 else x % 4294967296)
  else x
def fitV (x size : Int) (sg : Bool) : Int := if wrapP x size sg = x then x else 0
def fitE (x size : Int) (sg : Bool) : Int := if wrapP x size sg = x then 0 else 17

theorem ov_in {x : Int} (h : -9223372036854775808 ≤ x) (h' : x ≤ 9223372036854775807) : ovV x = x ∧ ovE x = 0 := by
  unfold ovV ovE; rw [if_pos ⟨h, h'⟩, if_pos ⟨h, h'⟩]; exact ⟨rfl, rfl⟩
theorem ov_out {x : Int} (h : x < -9223372036854775808 ∨ 9223372036854775807 < x) : ovV x = 0 ∧ ovE x = 17 := by
  unfold ovV ovE; rw [if_neg (by omega), if_neg (by omega)]; exact ⟨rfl, rfl⟩
theorem ov_bd (x : Int) : -9223372036854775808 ≤ ovV x ∧ ovV x ≤ 9223372036854775807 := by
  unfold ovV; split <;> omega
theorem ovE_or (x : Int) : ovE x = 0 ∨ ovE x = 17 := by unfold ovE; split <;> simp
theorem ov_zero {x : Int} (h : ovE x = 0) : ovV x = x ∧ -9223372036854775808 ≤ x ∧ x ≤ 9223372036854775807 := by
  unfold ovE at h; unfold ovV; split at h
  · rename_i g; rw [if_pos g]; exact ⟨rfl, g⟩
  · omega
theorem ov_seventeen {x : Int} (h : ovE x = 17) : ovV x = 0 ∧ (x < -9223372036854775808 ∨ 9223372036854775807 < x) := by
  unfold ovE at h; unfold ovV; split at h
  · omega
  · rename_i g; rw [if_neg g]; exact ⟨rfl, by omega⟩

theorem dec_ne {p q : Prop} [Decidable p] [Decidable q] (h : (!decide p == decide q) = true) : ¬ (p ↔ q) := by
  by_cases hp : p <;> by_cases hq : q <;> simp_all
theorem dec_eq {p q : Prop} [Decidable p] [Decidable q] (h : (!decide p == decide q) = false) : (p ↔ q) := by
  by_cases hp : p <;> by_cases hq : q <;> simp_all

section
variable {a b : Int}
theorem add_t (ha : -9223372036854775808 ≤ a) (ha' : a ≤ 9223372036854775807) (hb : -9223372036854775808 ≤ b) (hb' : b ≤ 9223372036854775807)
    (h : (!decide (a < wrap64 (a + b)) == decide (0 < b)) = true) : ovV (a + b) = 0 ∧ ovE (a + b) = 17 := by
  have := dec_ne h; unfold wrap64 at this; exact ov_out (by omega)
theorem add_f (ha : -9223372036854775808 ≤ a) (ha' : a ≤ 9223372036854775807) (hb : -9223372036854775808 ≤ b) (hb' : b ≤ 9223372036854775807)
    (h : (!decide (a < wrap64 (a + b)) == decide (0 < b)) = false) : ovV (a + b) = wrap64 (a + b) ∧ ovE (a + b) = 0 := by
  have := dec_eq h; unfold wrap64 at *; have := @ov_in (a + b) (by omega) (by omega); rw [this.1, this.2]; exact ⟨by omega, rfl⟩
theorem sub_t (ha : -9223372036854775808 ≤ a) (ha' : a ≤ 9223372036854775807) (hb : -9223372036854775808 ≤ b) (hb' : b ≤ 9223372036854775807)
    (h : (!decide (wrap64 (a - b) < a) == decide (0 < b)) = true) : ovV (a - b) = 0 ∧ ovE (a - b) = 17 := by
  have := dec_ne h; unfold wrap64 at this; exact ov_out (by omega)
theorem sub_f (ha : -9223372036854775808 ≤ a) (ha' : a ≤ 9223372036854775807) (hb : -9223372036854775808 ≤ b) (hb' : b ≤ 9223372036854775807)
    (h : (!decide (wrap64 (a - b) < a) == decide (0 < b)) = false) : ovV (a - b) = wrap64 (a - b) ∧ ovE (a - b) = 0 := by
  have := dec_eq h; unfold wrap64 at *; have := @ov_in (a - b) (by omega) (by omega); rw [this.1, this.2]; exact ⟨by omega, rfl⟩
theorem neg_t (h : (a == -9223372036854775808) = true) : ovV (-a) = 0 ∧ ovE (-a) = 17 := by
  have := WalkArith.int_eq h; exact ov_out (by omega)
theorem neg_f (ha : -9223372036854775808 ≤ a) (ha' : a ≤ 9223372036854775807) (h : (a == -9223372036854775808) = false) : ovV (-a) = wrap64 (-a) ∧ ovE (-a) = 0 := by
  have := WalkArith.int_ne h; rw [IntWalk.wrap64_in (-a) (by omega)]; exact ov_in (by omega) (by omega)

/-- A product that did not wrap is told by its quotient. -/
theorem mul_back (ha : -9223372036854775808 ≤ a) (ha' : a ≤ 9223372036854775807) (hb : -9223372036854775808 ≤ b) (hb' : b ≤ 9223372036854775807) (h0 : b ≠ 0) (h1 : b ≠ -1) :
    wrap64 ((wrap64 (a * b)).tdiv b) = a ↔ (-9223372036854775808 ≤ a * b ∧ a * b ≤ 9223372036854775807) := by
  constructor
  · intro h
    have hp : -9223372036854775808 ≤ wrap64 (a * b) ∧ wrap64 (a * b) ≤ 9223372036854775807 := by unfold wrap64; omega
    have hk : ∃ k : Int, wrap64 (a * b) = a * b + k * 18446744073709551616 := ⟨-((a * b + 9223372036854775808) / 18446744073709551616), by unfold wrap64; omega⟩
    generalize wrap64 (a * b) = p at *
    have hq := Int.mul_tdiv_add_tmod p b
    have hr : (p.tmod b).natAbs < b.natAbs := by
      rw [Int.natAbs_tmod]; exact Nat.mod_lt _ (by omega)
    have hq' : -9223372036854775808 ≤ p.tdiv b ∧ p.tdiv b ≤ 9223372036854775807 := by
      have h2 : (p.tdiv b).natAbs = p.natAbs / b.natAbs := Int.natAbs_tdiv p b
      by_cases hb2 : 2 ≤ b.natAbs
      · have : p.natAbs / b.natAbs ≤ p.natAbs / 2 := Nat.div_le_div_left hb2 (by omega)
        omega
      · have : b = 1 := by omega
        subst this; rw [Int.tdiv_one]; exact hp
    rw [IntWalk.wrap64_in _ hq'] at h
    rw [h] at hq
    have hc : b * a = a * b := Int.mul_comm b a
    rw [hc] at hq
    obtain ⟨k, hk⟩ := hk
    generalize a * b = m at *
    generalize p.tmod b = r at *
    omega
  · intro h
    rw [IntWalk.wrap64_in _ h, Int.mul_tdiv_cancel _ h0, IntWalk.wrap64_in _ ⟨ha, ha'⟩]
theorem mul_t (ha : -9223372036854775808 ≤ a) (ha' : a ≤ 9223372036854775807) (hb : -9223372036854775808 ≤ b) (hb' : b ≤ 9223372036854775807)
    (h0 : (b == 0) = false) (h1 : (b == -1) = false) (h : (wrap64 ((wrap64 (a * b)).tdiv b) != a) = true) : ovV (a * b) = 0 ∧ ovE (a * b) = 17 := by
  have g := mul_back ha ha' hb hb' (WalkArith.int_ne h0) (WalkArith.int_ne h1)
  have := WalkArith.int_ne' h
  exact ov_out (by rw [Ne, g] at this; omega)
theorem mul_f (ha : -9223372036854775808 ≤ a) (ha' : a ≤ 9223372036854775807) (hb : -9223372036854775808 ≤ b) (hb' : b ≤ 9223372036854775807)
    (h0 : (b == 0) = false) (h1 : (b == -1) = false) (h : (wrap64 ((wrap64 (a * b)).tdiv b) != a) = false) : ovV (a * b) = wrap64 (a * b) ∧ ovE (a * b) = 0 := by
  have g := mul_back ha ha' hb hb' (WalkArith.int_ne h0) (WalkArith.int_ne h1)
  have := g.1 (WalkArith.int_eq' h)
  rw [IntWalk.wrap64_in _ this]
  exact ov_in this.1 this.2
theorem rmul_t (ha : -9223372036854775808 ≤ a) (ha' : a ≤ 9223372036854775807) (hb : -9223372036854775808 ≤ b) (hb' : b ≤ 9223372036854775807)
    (h0 : (b == 0) = false) (h1 : (b == -1) = false) (h : (wrap64 ((wrap64 (a * b)).tdiv b) == a) = true) : ovV (a * b) = wrap64 (a * b) ∧ ovE (a * b) = 0 := by
  exact mul_f ha ha' hb hb' h0 h1 (by simpa using h)
theorem rmul_f (ha : -9223372036854775808 ≤ a) (ha' : a ≤ 9223372036854775807) (hb : -9223372036854775808 ≤ b) (hb' : b ≤ 9223372036854775807)
    (h0 : (b == 0) = false) (h1 : (b == -1) = false) (h : (wrap64 ((wrap64 (a * b)).tdiv b) == a) = false) : ovV (a * b) = 0 ∧ ovE (a * b) = 17 := by
  exact mul_t ha ha' hb hb' h0 h1 (by simpa using h)
theorem mul_0 (h : (b == 0) = true) : ovV (a * b) = 0 ∧ ovE (a * b) = 0 := by
  have := WalkArith.int_eq h; subst this; rw [Int.mul_zero]; exact ⟨rfl, rfl⟩
theorem mul_m1 (h : (b == -1) = true) : a * b = -a := by
  have := WalkArith.int_eq h; subst this; omega

theorem tdiv_bd (hb : b ≠ 0) (h1 : b ≠ -1) (ha : -9223372036854775808 ≤ a) (ha' : a ≤ 9223372036854775807) :
    -9223372036854775808 ≤ a.tdiv b ∧ a.tdiv b ≤ 9223372036854775807 := by
  have h2 : (a.tdiv b).natAbs = a.natAbs / b.natAbs := Int.natAbs_tdiv a b
  by_cases hb2 : 2 ≤ b.natAbs
  · have : a.natAbs / b.natAbs ≤ a.natAbs / 2 := Nat.div_le_div_left hb2 (by omega)
    omega
  · have : b = 1 := by omega
    subst this; rw [Int.tdiv_one]; omega
theorem tdiv_m1 (a : Int) : a.tdiv (-1) = -a := by rw [Int.tdiv_neg, Int.tdiv_one]
theorem div_0 (h : (b == 0) = true) : divV a b = 0 ∧ divE a b = 18 := by
  have := WalkArith.int_eq h; subst this; exact ⟨rfl, rfl⟩
theorem div_m1 (h : (b == -1) = true) : divV a b = ovV (-a) ∧ divE a b = ovE (-a) := by
  have := WalkArith.int_eq h; subst this; unfold divV divE; rw [tdiv_m1]; simp
theorem div_f (ha : -9223372036854775808 ≤ a) (ha' : a ≤ 9223372036854775807) (h0 : (b == 0) = false) (h1 : (b == -1) = false) :
    divV a b = wrap64 (a.tdiv b) ∧ divE a b = 0 := by
  have g0 := WalkArith.int_ne h0; have g1 := WalkArith.int_ne h1
  have hb := tdiv_bd g0 g1 ha ha'
  unfold divV divE; rw [if_neg g0, if_neg g0, IntWalk.wrap64_in _ hb]; exact ov_in hb.1 hb.2
theorem mod_0 (h : (b == 0) = true) : modV a b = 0 ∧ modE b = 18 := by
  have := WalkArith.int_eq h; subst this; exact ⟨rfl, rfl⟩
theorem mod_f (h0 : (b == 0) = false) : modV a b = a.tmod b ∧ modE b = 0 := by
  have g0 := WalkArith.int_ne h0; unfold modV modE; rw [if_neg g0, if_neg g0]; exact ⟨rfl, rfl⟩
theorem tmod_bd (ha : -9223372036854775808 ≤ a) (ha' : a ≤ 9223372036854775807) : -9223372036854775808 ≤ a.tmod b ∧ a.tmod b ≤ 9223372036854775807 := by
  have := Int.natAbs_tmod a b; have := Nat.mod_le a.natAbs b.natAbs
  by_cases h : 0 ≤ a
  · have := Int.tmod_nonneg b h; omega
  · have h2 := Int.tmod_nonneg b (show 0 ≤ -a by omega); rw [Int.neg_tmod] at h2; omega

/-! ### shifts -/
theorem p2 (n : Nat) (h : n ≤ 63) : (1 : Int) ≤ 2 ^ n ∧ (2 : Int) ^ n ≤ 9223372036854775808 := by
  have h1 : (2 : Nat) ^ n ≤ 2 ^ 63 := Nat.pow_le_pow_right (by omega) h
  have h2 : 1 ≤ (2 : Nat) ^ n := Nat.one_le_two_pow
  have h3 : (2 : Int) ^ n = ((2 ^ n : Nat) : Int) := by norm_cast
  rw [h3]; exact ⟨by omega, by omega⟩
theorem shl_back {a : Int} (n : Nat) (h : n ≤ 63) :
    wrap64 (a * 2 ^ n) / 2 ^ n = a ↔ (-9223372036854775808 ≤ a * 2 ^ n ∧ a * 2 ^ n ≤ 9223372036854775807) := by
  have hp := p2 n h
  have hpq : (2 : Int) ^ n * 2 ^ (63 - n) = 9223372036854775808 := by
    rw [← Int.pow_add, show n + (63 - n) = 63 by omega]; rfl
  have hp2 := p2 (63 - n) (by omega)
  constructor
  · intro g
    obtain ⟨k, hk⟩ : ∃ k : Int, wrap64 (a * 2 ^ n) = a * 2 ^ n + k * 18446744073709551616 := ⟨-((a * 2 ^ n + 9223372036854775808) / 18446744073709551616), by unfold wrap64; omega⟩
    have hw : -9223372036854775808 ≤ wrap64 (a * 2 ^ n) ∧ wrap64 (a * 2 ^ n) ≤ 9223372036854775807 := by unfold wrap64; omega
    have he : a * 2 ^ n + k * 18446744073709551616 = 2 ^ n * (a + (2 * 2 ^ (63 - n)) * k) := by
      rw [Int.mul_add, Int.mul_comm (2 ^ n) a, ← Int.mul_assoc, Int.mul_comm (2 ^ n) (2 * 2 ^ (63 - n)), Int.mul_assoc 2, Int.mul_comm (2 ^ (63 - n)) (2 ^ n), hpq]; omega
    rw [hk, he, Int.mul_ediv_cancel_left _ (by omega)] at g
    have hk0 : 2 * 2 ^ (63 - n) * k = 0 := by omega
    have : k = 0 := by
      rcases Int.mul_eq_zero.1 hk0 with h0 | h0
      · omega
      · exact h0
    subst this; rw [Int.zero_mul, Int.add_zero] at hk; rw [hk] at hw; exact hw
  · intro g
    rw [IntWalk.wrap64_in _ g, Int.mul_ediv_cancel _ (by omega)]
theorem dec_f {p : Prop} [Decidable p] (h : (!decide p) = false) : p := by simpa using h
theorem dec_t {p : Prop} [Decidable p] (h : (!decide p) = true) : ¬ p := by simpa using h
theorem shl_o1 {a b : Int} (h : (!decide (b ≤ 63)) = true) : shlV a b = 0 ∧ shlE a b = 19 := by
  have := dec_t h; unfold shlV shlE; rw [if_neg (by omega), if_neg (by omega)]; exact ⟨rfl, rfl⟩
theorem shl_o2 {a b : Int} (h : b < 0) : shlV a b = 0 ∧ shlE a b = 19 := by
  unfold shlV shlE; rw [if_neg (by omega), if_neg (by omega)]; exact ⟨rfl, rfl⟩
theorem shl_t {a b : Int} (h0 : 0 ≤ b) (h : (!decide (b ≤ 63)) = false) (g : (wrap64 (a * 2 ^ min b.toNat 64) / 2 ^ min b.toNat 64 != a) = true) : shlV a b = 0 ∧ shlE a b = 17 := by
  have := dec_f h; unfold shlV shlE; rw [if_pos ⟨h0, this⟩, if_pos ⟨h0, this⟩]
  have hm : min b.toNat 64 = b.toNat := by omega
  rw [hm] at g
  have g := WalkArith.int_ne' g
  rw [Ne, shl_back b.toNat (by omega)] at g
  exact ov_out (by omega)
theorem shl_f {a b : Int} (h0 : 0 ≤ b) (h : (!decide (b ≤ 63)) = false) (g : (wrap64 (a * 2 ^ min b.toNat 64) / 2 ^ min b.toNat 64 != a) = false) :
    shlV a b = wrap64 (a * 2 ^ min b.toNat 64) ∧ shlE a b = 0 := by
  have := dec_f h; unfold shlV shlE; rw [if_pos ⟨h0, this⟩, if_pos ⟨h0, this⟩]
  have hm : min b.toNat 64 = b.toNat := by omega
  rw [hm] at g ⊢
  have g := WalkArith.int_eq' g
  rw [shl_back b.toNat (by omega)] at g
  rw [IntWalk.wrap64_in _ g]
  exact ov_in g.1 g.2
theorem shr_o1 {a b : Int} (h : (!decide (b ≤ 63)) = true) : shrV a b = 0 ∧ shrE b = 19 := by
  have := dec_t h; unfold shrV shrE; rw [if_neg (by omega), if_neg (by omega)]; exact ⟨rfl, rfl⟩
theorem shr_o2 {a b : Int} (h : b < 0) : shrV a b = 0 ∧ shrE b = 19 := by
  unfold shrV shrE; rw [if_neg (by omega), if_neg (by omega)]; exact ⟨rfl, rfl⟩
theorem shr_f {a b : Int} (h0 : 0 ≤ b) (h : (!decide (b ≤ 63)) = false) : shrV a b = a / 2 ^ min b.toNat 64 ∧ shrE b = 0 := by
  have := dec_f h; unfold shrV shrE; rw [if_pos ⟨h0, this⟩, if_pos ⟨h0, this⟩]
  have hm : min b.toNat 64 = b.toNat := by omega
  rw [hm]; exact ⟨rfl, rfl⟩

/-! ### narrow numbers -/
theorem wrapP_bd {x : Int} (size : Int) (sg : Bool) (h : -9223372036854775808 ≤ x) (h' : x ≤ 9223372036854775807) :
    -9223372036854775808 ≤ wrapP x size sg ∧ wrapP x size sg ≤ 9223372036854775807 := by
  unfold wrapP; repeat' split
  all_goals omega
theorem wr1 (x : Int) : wrap64 (IntKind.i8.wrap x) = (x + 128) % 256 - 128 := by
  have : IntKind.i8.wrap x = (x + 128) % 256 - 128 := by
    simp [IntKind.wrap, IntKind.bits, IntKind.signed]; omega
  rw [this, IntWalk.wrap64_in _ (by omega)]
theorem wr2 (x : Int) : wrap64 (IntKind.i16.wrap x) = (x + 32768) % 65536 - 32768 := by
  have : IntKind.i16.wrap x = (x + 32768) % 65536 - 32768 := by
    simp [IntKind.wrap, IntKind.bits, IntKind.signed]; omega
  rw [this, IntWalk.wrap64_in _ (by omega)]
theorem wr2u (x : Int) : wrap64 (IntKind.u16.wrap x) = x % 65536 := by
  rw [IntKind.wrap_u16, IntWalk.wrap64_in _ (by omega)]
theorem wr4 (x : Int) : wrap64 (wrap32 x) = (x + 2147483648) % 4294967296 - 2147483648 := by
  unfold wrap32; rw [IntWalk.wrap64_in _ (by omega)]
theorem ne_of {b n : Int} (h : ¬ b = n) : (b == n) = false := by simpa using h
theorem fit_t {x size : Int} {sg : Bool} (h : (wrapP x size sg != x) = true) : fitV x size sg = 0 ∧ fitE x size sg = 17 := by
  have := WalkArith.int_ne' h; unfold fitV fitE; rw [if_neg this, if_neg this]; exact ⟨rfl, rfl⟩
theorem fit_f {x size : Int} {sg : Bool} (h : (wrapP x size sg != x) = false) : fitV x size sg = x ∧ fitE x size sg = 0 := by
  have := WalkArith.int_eq' h; unfold fitV fitE; rw [if_pos this, if_pos this]; exact ⟨rfl, rfl⟩
theorem two {v v' e e' : Int} (h : v' = v ∧ e' = e) : Ending.returned (.tuple #[.int .i64 v, .int .i64 e]) = Ending.returned (.tuple #[.int .i64 v', .int .i64 e']) := by rw [h.1, h.2]
theorem one {k : IntKind} {v v' : Int} (h : v' = v) : Ending.returned (.int k v) = Ending.returned (.int k v') := by rw [h]
end
theorem bd64 {n : Int} (h : (Lit.int .i64 n).wf = true) : -9223372036854775808 ≤ n ∧ n ≤ 9223372036854775807 := by
  simpa [Lit.wf, IntKind.min, IntKind.max, IntKind.signed, IntKind.bits] using h
theorem bdu64 {n : Int} (h : (Lit.int .u64 n).wf = true) : 0 ≤ n ∧ n ≤ 18446744073709551615 := by
  simpa [Lit.wf, IntKind.min, IntKind.max, IntKind.signed, IntKind.bits] using h
end Go.Proofs.YtlfiaompjbdcgaaDoor
