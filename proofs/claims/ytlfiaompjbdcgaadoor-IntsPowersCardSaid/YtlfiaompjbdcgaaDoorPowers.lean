/-
  THE WALK of the law IntsPowers: a power of two is a shift; what it leaves is the lowest bits.
-/
import Derived.Test.YtlfiaompjbdcgaaDoorText
import Derived.Test.YtlfiaompjbdcgaaDoorTo
import Derived.Test.YtlfiaompjbdcgaaDoorFields
import Derived.Test.YtlfiaompjbdcgaaDoorCount
namespace Go.Proofs.YtlfiaompjbdcgaaDoor
open Go.RowKit
set_option linter.unusedVariables false

theorem pow_parts {a : Int} {N : Nat} (h : -9223372036854775808 ≤ a) (h' : a ≤ 9223372036854775807) (hN : N ≤ 62) :
    ∃ (P : Nat) (X Y Z : Int), 1 ≤ P ∧ P ≤ 4611686018427387904 ∧ (shlV 1 N = (P : Int) ∧ shlE 1 N = 0) ∧ (shrV a N = X ∧ shrE N = 0) ∧ (ovV (X * P) = Y ∧ ovE (X * P) = 0) ∧ (ovV (a - Y) = Z ∧ ovE (a - Y) = 0)
      ∧ 0 ≤ Z ∧ Z < P ∧ (-9223372036854775808 ≤ X ∧ X ≤ 9223372036854775807) ∧ (-9223372036854775808 ≤ Y ∧ Y ≤ 9223372036854775807) ∧ (Z.toNat = (a % 18446744073709551616).toNat % 2 ^ N) := by
  have hp := p2 N (by omega)
  have hP : (2 : Int) ^ N = ((2 ^ N : Nat) : Int) := by norm_cast
  have hPle : 2 ^ N ≤ 2 ^ 62 := Nat.pow_le_pow_right (by omega) hN
  have hpq : (2 ^ N : Nat) * 2 ^ (63 - N) = 9223372036854775808 := by
    rw [← Nat.pow_add, show N + (63 - N) = 63 by omega]
  have hmod : (a % 18446744073709551616).toNat % 2 ^ N = (a % ((2 ^ N : Nat) : Int)).toNat := by
    have hd : ((2 ^ N : Nat) : Int) ∣ 18446744073709551616 := ⟨((2 * 2 ^ (63 - N) : Nat) : Int), by rw [← Int.natCast_mul, show 2 ^ N * (2 * 2 ^ (63 - N)) = 2 * (2 ^ N * 2 ^ (63 - N)) by rw [Nat.mul_left_comm], hpq]; rfl⟩
    have e1 : a % ((2 ^ N : Nat) : Int) = (a % 18446744073709551616) % ((2 ^ N : Nat) : Int) := (Int.emod_emod_of_dvd a hd).symm
    have h0 : 0 ≤ a % 18446744073709551616 := by omega
    obtain ⟨m, hm⟩ := Int.eq_ofNat_of_zero_le h0
    rw [e1, hm, Int.toNat_natCast, ← Int.natCast_emod, Int.toNat_natCast]
  generalize hPd : 2 ^ N = P at *
  generalize 2 ^ (63 - N) = M at *
  have hP1 : 1 ≤ P := by omega
  have e := Int.mul_ediv_add_emod a P
  have z0 : 0 ≤ a % (P : Int) := Int.emod_nonneg _ (by omega)
  have z1 : a % (P : Int) < P := Int.emod_lt_of_pos _ (by omega)
  have hY : (-9223372036854775808 : Int) ≤ a / P * P := by
    have hM : (-(M : Int)) ≤ a / P := Int.le_ediv_of_mul_le (by omega) (by
      have hpq' : (P : Int) * M = 9223372036854775808 := by rw [← Int.natCast_mul, hpq]; rfl
      rw [Int.neg_mul, Int.mul_comm, hpq']; exact h)
    have := Int.mul_le_mul_of_nonneg_right hM (show 0 ≤ (P : Int) by omega)
    have hpq' : (P : Int) * M = 9223372036854775808 := by rw [← Int.natCast_mul, hpq]; rfl
    rw [Int.neg_mul, Int.mul_comm (M : Int), hpq'] at this
    exact this
  rw [Int.mul_comm] at e
  have hX : -9223372036854775808 ≤ a / (P : Int) ∧ a / (P : Int) ≤ 9223372036854775807 := by
    constructor
    · exact Int.le_trans (by omega) (Int.le_ediv_of_mul_le (a := -9223372036854775808) (by omega) (by
        have : (-9223372036854775808 : Int) * P ≤ -9223372036854775808 * 1 := Int.mul_le_mul_of_nonpos_left (by omega) (by omega)
        omega))
    · exact Int.le_trans (Int.ediv_le_of_le_mul (b := 9223372036854775807) (by omega) (by
        have : (9223372036854775807 : Int) * 1 ≤ 9223372036854775807 * P := Int.mul_le_mul_of_nonneg_left (by omega) (by omega)
        omega)) (Int.le_refl _)
  generalize hq : a / (P : Int) = X at *
  generalize hr : a % (P : Int) = Z at *
  generalize hy : X * (P : Int) = Y at *
  refine ⟨P, X, Y, Z, hP1, by omega, ?_, ?_, by rw [hy]; exact ov_in hY (by omega), by rw [show a - Y = Z by omega]; exact ov_in (by omega) (by omega), z0, z1, hX, ⟨hY, by omega⟩, hmod.symm⟩
  · unfold shlV shlE; rw [if_pos (by omega), if_pos (by omega), Int.toNat_natCast, Int.one_mul, hP]; exact ov_in (by omega) (by omega)
  · unfold shrV shrE; rw [if_pos (by omega), if_pos (by omega), Int.toNat_natCast, hP]; exact ⟨hq, rfl⟩

theorem intsPowers_walk (a0 : Int) (a1 : Int) (w : World) (w0 : (Lit.int .i64 a0).wf = true) (w1 : (Lit.int .i64 a1).wf = true) (hL : laidMetH Tryd.prog Rows.intsPowersRow.laid w) :
    Calls Tryd.prog 5 #[.int .i64 a0, .int .i64 a1] w fun e w' => e = .returned (.bool true) ∧ Below w.heap.size w w' := by
  have HT := Lib.hid (tab_of hL (by kernel_rfl))
  obtain ⟨h0, h0'⟩ := bd64 w0
  clear hL w0 w1
  obtain ⟨N, hN, e1⟩ : ∃ N : Nat, N ≤ 62 ∧ (bits .and .i64 a1 65535).tmod 63 = (N : Int) := ⟨(a1 % 65536 % 63).toNat, by omega, by rw [i64_and16, Int.tmod_eq_emod_of_nonneg (by omega)]; omega⟩
  obtain ⟨P, X, Y, Z, hP, hP', c1, c2, c3, c4, z0, z1, ⟨x0, x1⟩, ⟨y0, y1⟩, hz⟩ := @pow_parts a0 N h0 h0' hN
  obtain ⟨U, hU⟩ : ∃ U : Nat, IntKind.u64.wrap a0 = (U : Int) := ⟨(a0 % 18446744073709551616).toNat, by rw [IntKind.wrap_u64]; omega⟩
  have hUd : (a0 % 18446744073709551616).toNat = U := by rw [IntKind.wrap_u64] at hU; omega
  have hU' : U < 18446744073709551616 := by omega
  rw [hUd] at hz
  have eZ : IntKind.u64.wrap Z = Z := by rw [IntKind.wrap_u64]; omega
  have CG : ∀ w, Calls Tryd.prog 15 #[.int .u64 U, .int .i64 0, .int .i64 N] w fun e w' => e = .returned (.int .u64 Z) ∧ w = w' := by
    intro w
    by_cases hN0 : N = 0
    · subst hN0
      have : Z = 0 := by rw [Nat.pow_zero, Nat.mod_one] at hz; omega
      rw [this]
      exact get_out U 0 0 w (by omega)
    · have hg : Z = (getN U 0 N : Nat) := by unfold getN; rw [Nat.pow_zero, Nat.div_one, ← hz]; omega
      rw [hg]
      exact get_in U 0 N N w hU' (by omega) (by omega) (by omega) (by omega)
  have c1 := Lib.hid c1
  have c2 := Lib.hid c2
  have c3 := Lib.hid c3
  have c4 := Lib.hid c4
  have CG := Lib.hid CG
  clear hz hUd hU'
  go_enter Tryd.func5, Tryd.ntmps5
  go_wp2_with (first | (go_at_call 22; refine (shl_to _ _ P 0 _ c1.out).mono ?_; rintro e w' ⟨rfl, rfl⟩) | (go_at_call 23; refine (shr_to _ _ X 0 _ c2.out).mono ?_; rintro e w' ⟨rfl, rfl⟩) | (go_at_call 24; refine (mul_to _ _ Y 0 _ x0 x1 (by omega) (by omega) c3.out).mono ?_; rintro e w' ⟨rfl, rfl⟩) | (go_at_call 18; refine (sub_to _ _ Z 0 _ h0 h0' y0 y1 c4.out).mono ?_; rintro e w' ⟨rfl, rfl⟩) | (go_at_call 15; refine (CG.out _).mono ?_; rintro e w' ⟨rfl, rfl⟩) | (go_at_call 25; refine (rtext_any _ _ (by omega) (by omega)).mono ?_; rintro e w' ⟨rfl, rfl⟩) | (go_at_call 26; refine (text_any _ (by omega) (by omega) _ HT.out).mono ?_; rintro e w' ⟨rfl, hb1⟩) | (go_at_call 16; refine (awake_after w _ HT.out (by assumption)).mono ?_; rintro e w' ⟨rfl, hb⟩))
  go_ret
  exact ⟨rfl, hb⟩
end Go.Proofs.YtlfiaompjbdcgaaDoor
