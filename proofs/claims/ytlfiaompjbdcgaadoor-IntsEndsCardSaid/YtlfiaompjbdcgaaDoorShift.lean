/-
  THE CONTRACTS of the document's own shifts (umlautref1.Shl, Shr): doubled and halved as often as they say; and the walk of the law IntsShifts.
-/
import Derived.Test.YtlfiaompjbdcgaaDoorLaid
import Derived.Test.YtlfiaompjbdcgaaDoorRef
namespace Go.Proofs.YtlfiaompjbdcgaaDoor
open Go.RowKit
set_option linter.unusedVariables false

theorem mul_out {x : Int} {p : Int} (hp : 1 ≤ p) (h : x < -9223372036854775808 ∨ 9223372036854775807 < x) : x * p < -9223372036854775808 ∨ 9223372036854775807 < x * p := by
  rcases h with h | h
  · left
    have : x * p ≤ x * 1 := Int.mul_le_mul_of_nonpos_left (by omega) hp
    omega
  · right
    have : x * 1 ≤ x * p := Int.mul_le_mul_of_nonneg_left hp (by omega)
    omega
theorem shl_over {a : Int} {k N : Nat} (hk : k < N) (hN : N ≤ 63) (h : ¬ (-9223372036854775808 ≤ a * 2 ^ k + a * 2 ^ k ∧ a * 2 ^ k + a * 2 ^ k ≤ 9223372036854775807)) :
    shlV a N = 0 ∧ shlE a N = 17 := by
  have hp := p2 (N - (k + 1)) (by omega)
  have e : a * 2 ^ N = (a * 2 ^ k + a * 2 ^ k) * 2 ^ (N - (k + 1)) := by
    rw [show N = k + 1 + (N - (k + 1)) by omega, Int.pow_add, Int.pow_succ, show k + 1 + (N - (k + 1)) - (k + 1) = N - (k + 1) by omega, ← Int.mul_assoc]
    congr 1
    rw [← Int.mul_assoc]; omega
  unfold shlV shlE
  rw [if_pos (by omega), if_pos (by omega), Int.toNat_natCast, e]
  exact ov_out (mul_out hp.1 (by omega))
theorem shl_next {a : Int} {k : Nat} : a * 2 ^ k + a * 2 ^ k = a * 2 ^ (k + 1) := by
  rw [Int.pow_succ, ← Int.mul_assoc]; omega
theorem shl_done {a : Int} {N : Nat} (hN : N ≤ 63) (h : -9223372036854775808 ≤ a * 2 ^ N ∧ a * 2 ^ N ≤ 9223372036854775807) : shlV a N = a * 2 ^ N ∧ shlE a N = 0 := by
  unfold shlV shlE
  rw [if_pos (by omega), if_pos (by omega), Int.toNat_natCast]
  exact ov_in h.1 h.2

theorem rshl_any (a n : Int) (w : World) (ha : -9223372036854775808 ≤ a) (ha' : a ≤ 9223372036854775807) :
    Calls Tryd.prog 34 #[.int .i64 a, .int .i64 n] w fun e w' => e = .returned (.tuple #[.int .i64 (shlV a n), .int .i64 (shlE a n)]) ∧ w = w' := by
  by_cases h0 : n < 0
  · go_enter Tryd.func34, Tryd.ntmps34
    go_wp2
    all_goals go_ret2
    exact ⟨two (shl_o2 h0), rfl⟩
  by_cases h1 : 63 < n
  · have h0 : 0 ≤ n := by omega
    go_enter Tryd.func34, Tryd.ntmps34
    go_wp2
    all_goals go_ret2
    exact ⟨two (shl_o1 (by simp; omega)), rfl⟩
  obtain ⟨N, rfl⟩ := Int.eq_ofNat_of_zero_le (show 0 ≤ n by omega)
  have hN : N ≤ 63 := by omega
  have hp : decide ((N : Int) < 0) = false := by simp
  have hp2 : decide (63 < (N : Int)) = false := by simp; omega
  clear h0 h1
  go_enter Tryd.func34, Tryd.ntmps34
  go_wp2
  go_loop [0, 6] (fun u i => ∃ (k : Nat) (v : Int), k ≤ N ∧ i = .int .i64 k ∧ u = .int .i64 v ∧ -9223372036854775808 ≤ v ∧ v ≤ 9223372036854775807 ∧ Hid (v = a * 2 ^ k)) (fun _ i => N - (intOf i).toNat)
  case atStart => exact ⟨0, a, Nat.zero_le _, rfl, rfl, ha, ha', by rw [Int.pow_zero, Int.mul_one]; exact rfl⟩
  case round =>
    obtain ⟨k, v, hk, rfl, rfl, hv, hv', Hv⟩ := hrel
    by_cases hlt : k < N
    · by_cases ho : -9223372036854775808 ≤ v + v ∧ v + v ≤ 9223372036854775807
      · have ho1 := (ov_in ho.1 ho.2).1
        have ho2 := (ov_in ho.1 ho.2).2
        have HS : Hid (v + v = a * 2 ^ (k + 1)) := by have := Hv.out; subst this; exact shl_next
        obtain ⟨ho3, ho4⟩ := ho
        go_wp2_with (go_at_call 27; refine (radd_any v v _ hv hv' hv hv').mono ?_; rintro e w' ⟨rfl, rfl⟩)
        go_round
        case rel => exact ⟨k + 1, v + v, by omega, by go_num, rfl, ho3, ho4, HS⟩
        case measure => simp [intOf]; omega
      · have ho' := @ov_out (v + v) (by omega)
        have ho1 := ho'.1
        have ho2 := ho'.2
        have HF := Lib.hid (show shlV a N = 0 ∧ shlE a N = 17 from by have := Hv.out; subst this; exact shl_over hlt hN ho)
        clear ho ho'
        go_wp2_with (go_at_call 27; refine (radd_any v v _ hv hv' hv hv').mono ?_; rintro e w' ⟨rfl, rfl⟩)
        go_ret2
        exact ⟨two HF.out, rfl⟩
    · obtain rfl : k = N := by omega
      have HF := Lib.hid (show shlV a k = v ∧ shlE a k = 0 from by have := Hv.out; subst this; exact shl_done hN ⟨hv, hv'⟩)
      go_wp2
      go_ret2
      exact ⟨two HF.out, rfl⟩

theorem shr_next {a : Int} {k : Nat} : a / 2 ^ k / 2 = a / 2 ^ (k + 1) := by
  rw [Int.pow_succ, Int.ediv_ediv_of_nonneg (by have : (0 : Int) ≤ 2 ^ k := Int.pow_nonneg (by omega); exact this)]
theorem tdiv_low {v m : Int} (h : v ≤ 0) : v.tdiv m = -((-v).tdiv m) := by
  have := Int.neg_tdiv (-v) m; rw [Int.neg_neg] at this; exact this
theorem tdiv2 {v : Int} (h : v ≤ 0) : v.tdiv 2 = -((-v) / 2) := by
  rw [tdiv_low h, Int.tdiv_eq_ediv_of_nonneg (by omega)]
theorem tmod_low {v m : Int} (h : v ≤ 0) : v.tmod m = -((-v) % m) := by
  have := Int.neg_tmod (-v) m; rw [Int.neg_neg] at this; rw [this, Int.tmod_eq_emod_of_nonneg (by omega)]
theorem rshr_any (a n : Int) (w : World) (ha : -9223372036854775808 ≤ a) (ha' : a ≤ 9223372036854775807) :
    Calls Tryd.prog 35 #[.int .i64 a, .int .i64 n] w fun e w' => e = .returned (.tuple #[.int .i64 (shrV a n), .int .i64 (shrE n)]) ∧ w = w' := by
  by_cases h0 : n < 0
  · go_enter Tryd.func35, Tryd.ntmps35
    go_wp2
    all_goals go_ret2
    exact ⟨two (shr_o2 h0), rfl⟩
  by_cases h1 : 63 < n
  · have h0 : 0 ≤ n := by omega
    go_enter Tryd.func35, Tryd.ntmps35
    go_wp2
    all_goals go_ret2
    exact ⟨two (shr_o1 (by simp; omega)), rfl⟩
  obtain ⟨N, rfl⟩ := Int.eq_ofNat_of_zero_le (show 0 ≤ n by omega)
  have hN : N ≤ 63 := by omega
  have hp : decide ((N : Int) < 0) = false := by simp
  have hp2 : decide (63 < (N : Int)) = false := by simp; omega
  clear h0 h1
  go_enter Tryd.func35, Tryd.ntmps35
  go_wp2
  go_loop [0, 6] (fun u i => ∃ (k : Nat) (v : Int), k ≤ N ∧ i = .int .i64 k ∧ u = .int .i64 v ∧ -9223372036854775808 ≤ v ∧ v ≤ 9223372036854775807 ∧ Hid (v = a / 2 ^ k)) (fun _ i => N - (intOf i).toNat)
  case atStart => exact ⟨0, a, Nat.zero_le _, rfl, rfl, ha, ha', by rw [Int.pow_zero, Int.ediv_one]; exact rfl⟩
  case round =>
    obtain ⟨k, v, hk, rfl, rfl, hv, hv', Hv⟩ := hrel
    by_cases hlt : k < N
    · have HS : Hid (v / 2 = a / 2 ^ (k + 1)) := by have := Hv.out; subst this; exact shr_next
      by_cases hn : v < 0
      · by_cases hm : v.tmod 2 = 0
        · have hmb : (v.tmod 2 != 0) = false := by simpa using hm
          have hd : v.tdiv 2 = v / 2 := by rw [tdiv2 (by omega)]; rw [tmod_low (by omega)] at hm; omega
          have HD := Lib.hid hd
          clear hm hd
          go_wp2
          go_round
          case rel => exact ⟨k + 1, v / 2, by omega, by go_num, by rw [HD.out], by omega, by omega, HS⟩
          case measure => simp [intOf]; omega
        · have hmb : (v.tmod 2 != 0) = true := by simpa using hm
          have hd : (v - 1).tdiv 2 = v / 2 := by rw [tdiv2 (by omega)]; rw [tmod_low (by omega)] at hm; omega
          have hlo : -9223372036854775808 ≤ v - 1 := by rw [tmod_low (by omega)] at hm; omega
          have HD := Lib.hid hd
          clear hm hd
          go_wp2
          go_round
          case rel => exact ⟨k + 1, v / 2, by omega, by go_num, by rw [HD.out], by omega, by omega, HS⟩
          case measure => simp [intOf]; omega
      · have hnb : decide (v < 0) = false := by simpa using hn
        have hv0 : 0 ≤ v := by omega
        clear hn
        go_wp2
        go_round
        case rel => exact ⟨k + 1, v / 2, by omega, by go_num, rfl, by omega, by omega, HS⟩
        case measure => simp [intOf]; omega
    · obtain rfl : k = N := by omega
      have HF := Lib.hid (show shrV a k = v ∧ shrE k = 0 from by
        have := Hv.out; subst this; unfold shrV shrE; rw [if_pos (by omega), if_pos (by omega), Int.toNat_natCast]; exact ⟨rfl, rfl⟩)
      go_wp2
      go_ret2
      exact ⟨two HF.out, rfl⟩
end Go.Proofs.YtlfiaompjbdcgaaDoor
