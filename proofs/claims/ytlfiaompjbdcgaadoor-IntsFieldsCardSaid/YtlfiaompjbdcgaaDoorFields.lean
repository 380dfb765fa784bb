/-
  THE CONTRACTS of ints.mask, Get and Set: bits are read and written where they stand.
-/
import Derived.Test.YtlfiaompjbdcgaaDoorLaid
import Derived.Test.YtlfiaompjbdcgaaDoorBits
import Derived.Deep.QuietTactic
import Derived.BigQuiet
namespace Go.Proofs.YtlfiaompjbdcgaaDoor
open Go.RowKit
set_option linter.unusedVariables false

theorem mask_v {k : Nat} (h : 1 ≤ k) (h' : k ≤ 64) : (18446744073709551615 : Int) / 2 ^ (64 - k) = ((2 ^ k - 1 : Nat) : Int) := by
  have e : (18446744073709551616 : Int) = 2 ^ k * 2 ^ (64 - k) := by rw [← Int.pow_add, show k + (64 - k) = 64 by omega]; rfl
  have hp : (1 : Int) ≤ 2 ^ (64 - k) := (p2 (64 - k) (by omega)).1
  have hk : (18446744073709551615 : Int) = (2 ^ k - 1) * 2 ^ (64 - k) + (2 ^ (64 - k) - 1) := by
    rw [Int.sub_mul, ← e]; omega
  have hn : ((2 ^ k - 1 : Nat) : Int) = 2 ^ k - 1 := by
    have := Nat.two_pow_pos k; rw [Int.ofNat_sub (by omega)]; norm_cast
  rw [hk, Int.add_comm, Int.add_mul_ediv_right _ _ (by omega), Int.ediv_eq_zero_of_lt (by omega) (by omega), hn]; omega
theorem mask_out (at_ n : Int) (w : World) (h : ¬ (0 ≤ at_ ∧ at_ ≤ 63 ∧ 1 ≤ n)) :
    Calls Tryd.prog 47 #[.int .i64 at_, .int .i64 n] w fun e w' => e = .returned (.int .u64 0) ∧ w = w' := by
  by_cases h1 : at_ < 0
  · go_enter Tryd.func47, Tryd.ntmps47
    go_wp2
    all_goals go_ret
    all_goals exact ⟨rfl, rfl⟩
  by_cases h2 : 63 < at_
  · have h3 : 0 ≤ at_ := by omega
    go_enter Tryd.func47, Tryd.ntmps47
    go_wp2
    all_goals go_ret
    all_goals exact ⟨rfl, rfl⟩
  have h3 : n < 1 := by omega
  have d1 : decide (at_ < 0) = false := by simp; omega
  have d2 : decide (63 < at_) = false := by simp; omega
  go_enter Tryd.func47, Tryd.ntmps47
  go_wp2
  all_goals go_ret
  all_goals exact ⟨rfl, rfl⟩
theorem mask_in (A k : Nat) (n : Int) (w : World) (h : A ≤ 63) (h' : 1 ≤ n) (hn' : n ≤ 9223372036854775807) (hk : (k : Int) = min n (64 - A)) :
    Calls Tryd.prog 47 #[.int .i64 A, .int .i64 n] w fun e w' => e = .returned (.int .u64 ((2 ^ k - 1 : Nat) : Int)) ∧ w = w' := by
  have d1 : decide ((A : Int) < 0) = false := by simp
  have d2 : decide (63 < (A : Int)) = false := by simp; omega
  have d3 : decide (n < 1) = false := by simp; omega
  have hv := @mask_v k (by omega) (by omega)
  have hc : (64 - min n (64 - (A : Int))).toNat = 64 - k := by omega
  have HV := Lib.hid (And.intro hc hv)
  have HK := Lib.hid hk
  clear hv hc hk
  go_enter Tryd.func47, Tryd.ntmps47
  go_wp2
  all_goals go_ret
  all_goals exact ⟨one (by rw [HV.out.1]; exact HV.out.2.symm), rfl⟩

theorem get_out (W : Nat) (at_ n : Int) (w : World) (h : ¬ (0 ≤ at_ ∧ at_ ≤ 63 ∧ 1 ≤ n)) :
    Calls Tryd.prog 15 #[.int .u64 W, .int .i64 at_, .int .i64 n] w fun e w' => e = .returned (.int .u64 0) ∧ w = w' := by
  have H := Lib.hid h
  clear h
  go_enter Tryd.func15, Tryd.ntmps15
  go_wp2_with (go_at_call 47; refine (mask_out _ _ _ H.out).mono ?_; rintro e w' ⟨rfl, rfl⟩)
  go_ret
  exact ⟨rfl, rfl⟩
theorem pow_pos1 (k : Nat) (h : 1 ≤ k) : ((((2 ^ k - 1 : Nat) : Int)) == 0) = false := by
  have : 2 ^ 1 ≤ 2 ^ k := Nat.pow_le_pow_right (by omega) h
  have : ((2 ^ k - 1 : Nat) : Int) ≠ 0 := by omega
  simpa using this
theorem pow_lt64 (k : Nat) (h : k ≤ 64) : 2 ^ k - 1 < 18446744073709551616 := by
  have : 2 ^ k ≤ 2 ^ 64 := Nat.pow_le_pow_right (by omega) h
  have := Nat.two_pow_pos k
  omega
theorem get_v {W A k : Nat} (hW : W < 18446744073709551616) (hk : k ≤ 64) : bits .and .u64 ((W : Int) / 2 ^ A) ((2 ^ k - 1 : Nat) : Int) = (getN W A k : Nat) := by
  have e : (W : Int) / 2 ^ A = ((W / 2 ^ A : Nat) : Int) := by norm_cast
  rw [e, u64_and_nat _ _ (Nat.lt_of_le_of_lt (Nat.div_le_self ..) hW) (pow_lt64 k hk), Nat.and_two_pow_sub_one_eq_mod]; rfl
theorem get_in (W A k : Nat) (n : Int) (w : World) (hW : W < 18446744073709551616) (h : A ≤ 63) (h' : 1 ≤ n) (hn' : n ≤ 9223372036854775807) (hk : (k : Int) = min n (64 - A)) :
    Calls Tryd.prog 15 #[.int .u64 W, .int .i64 A, .int .i64 n] w fun e w' => e = .returned (.int .u64 (getN W A k : Nat)) ∧ w = w' := by
  have HV := Lib.hid (@get_v W A k hW (by omega))
  have hz := pow_pos1 k (by omega)
  have HK := Lib.hid hk
  clear hk
  obtain ⟨M, hM⟩ : ∃ M, M = 2 ^ k - 1 := ⟨_, rfl⟩
  have HC := Lib.hid (fun w => mask_in A k n w h h' hn' HK.out)
  rw [← hM] at hz HC HV
  clear hM
  go_enter Tryd.func15, Tryd.ntmps15
  go_wp2_with (go_at_call 47; refine (HC.out _).mono ?_; rintro e w' ⟨rfl, rfl⟩)
  go_ret
  exact ⟨one (HV.out.symm), rfl⟩
theorem set_out (W V : Nat) (at_ n : Int) (w : World) (h : ¬ (0 ≤ at_ ∧ at_ ≤ 63 ∧ 1 ≤ n)) :
    Calls Tryd.prog 14 #[.int .u64 W, .int .i64 at_, .int .i64 n, .int .u64 V] w fun e w' => e = .returned (.int .u64 W) ∧ w = w' := by
  have H := Lib.hid h
  clear h
  go_enter Tryd.func14, Tryd.ntmps14
  go_wp2_with (go_at_call 47; refine (mask_out _ _ _ H.out).mono ?_; rintro e w' ⟨rfl, rfl⟩)
  go_ret
  exact ⟨rfl, rfl⟩
theorem wrap_nat {x : Nat} (h : x < 18446744073709551616) : IntKind.u64.wrap (x : Int) = x := by rw [IntKind.wrap_u64]; omega
theorem set_v {W V A k : Nat} (hW : W < 18446744073709551616) (hV : V < 18446744073709551616) (hk : A + k ≤ 64) :
    bits .or .u64 (bits .andNot .u64 (W : Int) (IntKind.u64.wrap (((2 ^ k - 1 : Nat) : Int) * 2 ^ A))) (IntKind.u64.wrap (bits .and .u64 (V : Int) ((2 ^ k - 1 : Nat) : Int) * 2 ^ A)) = (setN W A k V : Nat) := by
  have hp : ∀ x : Nat, x < 2 ^ k → x * 2 ^ A < 18446744073709551616 := by
    intro x hx
    calc x * 2 ^ A < 2 ^ k * 2 ^ A := Nat.mul_lt_mul_of_pos_right hx (Nat.two_pow_pos A)
      _ = 2 ^ (k + A) := (Nat.pow_add ..).symm
      _ ≤ 2 ^ 64 := Nat.pow_le_pow_right (by omega) (by omega)
      _ = 18446744073709551616 := by decide
  have hM : 2 ^ k - 1 < 2 ^ k := Nat.sub_lt (Nat.two_pow_pos k) (by omega)
  have hM2 := pow_lt64 k (by omega)
  have e1 : (((2 ^ k - 1 : Nat) : Int) * 2 ^ A) = (((2 ^ k - 1) * 2 ^ A : Nat) : Int) := by rw [Int.natCast_mul]; norm_cast
  have hVM : V &&& (2 ^ k - 1) < 2 ^ k := by rw [Nat.and_two_pow_sub_one_eq_mod]; exact Nat.mod_lt _ (Nat.two_pow_pos k)
  have e2 : (((V &&& (2 ^ k - 1) : Nat) : Int) * 2 ^ A) = (((V &&& (2 ^ k - 1)) * 2 ^ A : Nat) : Int) := by rw [Int.natCast_mul]; norm_cast
  rw [u64_and_nat V (2 ^ k - 1) hV hM2, e1, e2, wrap_nat (hp _ hM), wrap_nat (hp _ hVM), u64_andNot_nat _ _ hW (hp _ hM), u64_or_nat _ _ (Nat.lt_of_le_of_lt Nat.and_le_left hW) (hp _ hVM)]
  have h64 : (18446744073709551615 : Nat) = 2 ^ 64 - 1 := by decide
  rw [h64, set_is (by rw [show (2 : Nat) ^ 64 = 18446744073709551616 by decide]; exact hW) hk]
theorem set_in (W V A k : Nat) (n : Int) (w : World) (hW : W < 18446744073709551616) (hV : V < 18446744073709551616) (h : A ≤ 63) (h' : 1 ≤ n) (hn' : n ≤ 9223372036854775807) (hk : (k : Int) = min n (64 - A)) :
    Calls Tryd.prog 14 #[.int .u64 W, .int .i64 A, .int .i64 n, .int .u64 V] w fun e w' => e = .returned (.int .u64 (setN W A k V : Nat)) ∧ ∃ nq, w' = w.drewN nq := by
  have hz := pow_pos1 k (by omega)
  have HV := Lib.hid (@set_v W V A k hW hV (by omega))
  have HK := Lib.hid hk
  clear hk
  obtain ⟨M, hM⟩ : ∃ M, M = 2 ^ k - 1 := ⟨_, rfl⟩
  have HC := Lib.hid (fun w => mask_in A k n w h h' hn' HK.out)
  rw [← hM] at hz HC HV
  clear hM
  go_enter Tryd.func14, Tryd.ntmps14
  go_wp2_with (go_at_call 47; refine (HC.out _).mono ?_; rintro e w' ⟨rfl, rfl⟩)
  go_quiet (fail)
  go_wp2
  go_ret
  exact ⟨one HV.out.symm, nq, rfl⟩

/-! ### the document's own, bit by bit -/
theorem bit_is {W j : Nat} (hW : W < 18446744073709551616) : bits .and .u64 ((W : Int) / 2 ^ j) 1 = (if W.testBit j then 1 else 0 : Int) := by
  have e : (W : Int) / 2 ^ j = ((W / 2 ^ j : Nat) : Int) := by norm_cast
  have := u64_and_nat (W / 2 ^ j) 1 (Nat.lt_of_le_of_lt (Nat.div_le_self ..) hW) (by omega)
  rw [show ((1 : Nat) : Int) = 1 from rfl] at this
  rw [e, this, Nat.and_one_is_mod, Nat.testBit_eq_decide_div_mod_eq]
  by_cases h : W / 2 ^ j % 2 = 1
  · simp [h]
  · simp [h]; omega
theorem bit_t {W j : Nat} (hW : W < 18446744073709551616) (h : (bits .and .u64 ((W : Int) / 2 ^ j) 1 == 1) = true) : W.testBit j = true := by
  rw [bit_is hW] at h; by_cases g : W.testBit j
  · exact g
  · simp [g] at h
theorem bit_f {W j : Nat} (hW : W < 18446744073709551616) (h : (bits .and .u64 ((W : Int) / 2 ^ j) 1 == 1) = false) : W.testBit j = false := by
  rw [bit_is hW] at h; by_cases g : W.testBit j
  · simp [g] at h
  · simpa using g
theorem pow_wrap {j : Nat} (h : j ≤ 63) : IntKind.u64.wrap (2 ^ j) = ((2 ^ j : Nat) : Int) ∧ 2 ^ j < 18446744073709551616 := by
  have h2 : (2 : Nat) ^ j ≤ 2 ^ 63 := Nat.pow_le_pow_right (by omega) h
  have e : (2 : Int) ^ j = ((2 ^ j : Nat) : Int) := by norm_cast
  rw [e]; exact ⟨wrap_nat (by omega), by omega⟩
theorem or_v {v j : Nat} (hv : v < 18446744073709551616) (h : j ≤ 63) : bits .or .u64 (v : Int) (IntKind.u64.wrap (2 ^ j)) = ((v ||| 2 ^ j : Nat) : Int) := by
  rw [(pow_wrap h).1, u64_or_nat _ _ hv (pow_wrap h).2]
theorem or_lt {v j : Nat} (hv : v < 18446744073709551616) (h : j ≤ 63) : v ||| 2 ^ j < 18446744073709551616 := by
  have := @Nat.or_lt_two_pow v (2 ^ j) 64 hv (pow_wrap h).2
  exact this
theorem not_v {v j : Nat} (hv : v < 18446744073709551616) (h : j ≤ 63) : bits .andNot .u64 (v : Int) (IntKind.u64.wrap (2 ^ j)) = ((v &&& (2 ^ 64 - 1 - 2 ^ j) : Nat) : Int) ∧ v &&& (2 ^ 64 - 1 - 2 ^ j) < 18446744073709551616 := by
  rw [(pow_wrap h).1, u64_andNot_nat _ _ hv (pow_wrap h).2]
  exact ⟨rfl, Nat.lt_of_le_of_lt Nat.and_le_left hv⟩
theorem rget_in (W A k : Nat) (n : Int) (w : World) (hW : W < 18446744073709551616) (h : A ≤ 63) (h' : 1 ≤ n) (hn' : n ≤ 9223372036854775807) (hk : (k : Int) = min n (64 - A)) :
    Calls Tryd.prog 40 #[.int .u64 W, .int .i64 A, .int .i64 n] w fun e w' => e = .returned (.int .u64 (getN W A k : Nat)) ∧ w = w' := by
  have d1 : decide ((A : Int) < 0) = false := by simp
  have d2 : decide (63 < (A : Int)) = false := by simp; omega
  have d3 : decide (n < 1) = false := by simp; omega
  go_enter Tryd.func40, Tryd.ntmps40
  go_wp2
  go_loop [7, 8] (fun u i => ∃ (j : Nat) (v : Nat), j ≤ k ∧ i = .int .i64 j ∧ u = .int .u64 v ∧ v < 18446744073709551616 ∧ Hid (v = getN W A j)) (fun _ i => k - (intOf i).toNat)
  case atStart => exact ⟨0, 0, Nat.zero_le _, rfl, rfl, by omega, (get_none W A).symm⟩
  case round =>
    obtain ⟨j, v, hj, rfl, rfl, hv, Hv⟩ := hrel
    by_cases hlt : j < k
    · have t1 : (j : Int) < n := by omega
      have t2 : (A : Int) + j < 64 := by omega
      have hs := get_step W A j
      have hs := Lib.hid hs
      go_wp2
      · have hb := bit_t hW (by assumption)
        go_round
        case rel => exact ⟨j + 1, v ||| 2 ^ j, by omega, by go_num, by rw [or_v hv (by omega)], or_lt hv (by omega), (by have := hs.out; rw [hb, if_pos rfl] at this; have hv := Hv.out; subst hv; exact this)⟩
        case measure => simp [intOf]; omega
      · have hb := bit_f hW (by assumption)
        go_round
        case rel => exact ⟨j + 1, v, by omega, by go_num, rfl, hv, Lib.hid (by have := hs.out; rw [hb] at this; have hv := Hv.out; subst hv; simpa using this)⟩
        case measure => simp [intOf]; omega
    · have : j = k := by omega
      subst this
      by_cases hn : (j : Int) < n
      · have t2 : 64 ≤ (A : Int) + j := by omega
        go_wp2
        go_ret
        exact ⟨one (by rw [Hv.out]), rfl⟩
      · go_wp2
        go_ret
        exact ⟨one (by rw [Hv.out]), rfl⟩
theorem rset_in (W V A k : Nat) (n : Int) (w : World) (hW : W < 18446744073709551616) (hV : V < 18446744073709551616) (h : A ≤ 63) (h' : 1 ≤ n) (hn' : n ≤ 9223372036854775807) (hk : (k : Int) = min n (64 - A)) :
    Calls Tryd.prog 41 #[.int .u64 W, .int .i64 A, .int .i64 n, .int .u64 V] w fun e w' => e = .returned (.int .u64 (setN W A k V : Nat)) ∧ w = w' := by
  have d1 : decide ((A : Int) < 0) = false := by simp
  have d2 : decide (63 < (A : Int)) = false := by simp; omega
  have d3 : decide (n < 1) = false := by simp; omega
  go_enter Tryd.func41, Tryd.ntmps41
  go_wp2
  go_loop [0, 9] (fun u i => ∃ (j : Nat) (v : Nat), j ≤ k ∧ i = .int .i64 j ∧ u = .int .u64 v ∧ v < 18446744073709551616 ∧ Hid (v = setN W A j V)) (fun _ i => k - (intOf i).toNat)
  case atStart => exact ⟨0, W, Nat.zero_le _, rfl, rfl, hW, (set_none W A V).symm⟩
  case round =>
    obtain ⟨j, v, hj, rfl, rfl, hv, Hv⟩ := hrel
    by_cases hlt : j < k
    · have t1 : (j : Int) < n := by omega
      have t2 : (A : Int) + j < 64 := by omega
      have hs := @set_step W V A j hW (by omega)
      have hs := Lib.hid hs
      obtain ⟨nv, hnv⟩ := @not_v v (A + j) hv (by omega)
      have NV := Lib.hid nv
      clear nv
      go_wp2
      · have hb := bit_t hV (by assumption)
        go_round
        case rel => exact ⟨j + 1, (v &&& (2 ^ 64 - 1 - 2 ^ (A + j))) ||| 2 ^ (A + j), by omega, by go_num, by rw [NV.out, or_v hnv (by omega)], or_lt hnv (by omega), (by have := hs.out; rw [hb, if_pos rfl] at this; have hv := Hv.out; subst hv; exact this)⟩
        case measure => simp [intOf]; omega
      · have hb := bit_f hV (by assumption)
        go_round
        case rel => exact ⟨j + 1, v &&& (2 ^ 64 - 1 - 2 ^ (A + j)), by omega, by go_num, by rw [NV.out], hnv, Lib.hid (by have := hs.out; rw [hb] at this; have hv := Hv.out; subst hv; simpa using this)⟩
        case measure => simp [intOf]; omega
    · have : j = k := by omega
      subst this
      by_cases hn : (j : Int) < n
      · have t2 : 64 ≤ (A : Int) + j := by omega
        go_wp2
        go_ret
        exact ⟨one (by rw [Hv.out]), rfl⟩
      · go_wp2
        go_ret
        exact ⟨one (by rw [Hv.out]), rfl⟩
end Go.Proofs.YtlfiaompjbdcgaaDoor
