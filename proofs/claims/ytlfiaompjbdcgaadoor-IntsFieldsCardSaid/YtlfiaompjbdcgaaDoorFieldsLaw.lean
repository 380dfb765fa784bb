/-
  THE WALK of the law IntsFields: bits are read and written where they stand, and nothing beside them.
-/
import Derived.Test.YtlfiaompjbdcgaaDoorFields
import Derived.Test.YtlfiaompjbdcgaaDoorAfter
namespace Go.Proofs.YtlfiaompjbdcgaaDoor
open Go.RowKit
set_option linter.unusedVariables false

theorem rget_out (W : Nat) (at_ n : Int) (w : World) (h : ¬ (0 ≤ at_ ∧ at_ ≤ 63 ∧ 1 ≤ n)) :
    Calls Tryd.prog 40 #[.int .u64 W, .int .i64 at_, .int .i64 n] w fun e w' => e = .returned (.int .u64 0) ∧ w = w' := by
  by_cases h1 : at_ < 0
  · go_enter Tryd.func40, Tryd.ntmps40
    go_wp2
    all_goals go_ret
    all_goals exact ⟨rfl, rfl⟩
  by_cases h2 : 63 < at_
  · have h3 : 0 ≤ at_ := by omega
    go_enter Tryd.func40, Tryd.ntmps40
    go_wp2
    all_goals go_ret
    all_goals exact ⟨rfl, rfl⟩
  have h3 : n < 1 := by omega
  have d1 : decide (at_ < 0) = false := by simp; omega
  have d2 : decide (63 < at_) = false := by simp; omega
  go_enter Tryd.func40, Tryd.ntmps40
  go_wp2
  all_goals go_ret
  all_goals exact ⟨rfl, rfl⟩
theorem rset_out (W V : Nat) (at_ n : Int) (w : World) (h : ¬ (0 ≤ at_ ∧ at_ ≤ 63 ∧ 1 ≤ n)) :
    Calls Tryd.prog 41 #[.int .u64 W, .int .i64 at_, .int .i64 n, .int .u64 V] w fun e w' => e = .returned (.int .u64 W) ∧ w = w' := by
  by_cases h1 : at_ < 0
  · go_enter Tryd.func41, Tryd.ntmps41
    go_wp2
    all_goals go_ret
    all_goals exact ⟨rfl, rfl⟩
  by_cases h2 : 63 < at_
  · have h3 : 0 ≤ at_ := by omega
    go_enter Tryd.func41, Tryd.ntmps41
    go_wp2
    all_goals go_ret
    all_goals exact ⟨rfl, rfl⟩
  have h3 : n < 1 := by omega
  have d1 : decide (at_ < 0) = false := by simp; omega
  have d2 : decide (63 < at_) = false := by simp; omega
  go_enter Tryd.func41, Tryd.ntmps41
  go_wp2
  all_goals go_ret
  all_goals exact ⟨rfl, rfl⟩

theorem intsFields_walk (a0 : Int) (a1 : Int) (a2 : Int) (a3 : Int) (w : World) (w0 : (Lit.int .u64 a0).wf = true) (w1 : (Lit.int .i64 a1).wf = true) (w2 : (Lit.int .i64 a2).wf = true) (w3 : (Lit.int .u64 a3).wf = true) (hL : laidMetH Tryd.prog Rows.intsFieldsRow.laid w) :
    Calls Tryd.prog 10 #[.int .u64 a0, .int .i64 a1, .int .i64 a2, .int .u64 a3] w fun e w' => e = .returned (.bool true) ∧ Below w.heap.size w w' := by
  have HT := Lib.hid (tab_of hL (by kernel_rfl))
  obtain ⟨h0, h0'⟩ := bdu64 w0
  obtain ⟨h1, h1'⟩ := bd64 w1
  obtain ⟨h2, h2'⟩ := bd64 w2
  obtain ⟨h3, h3'⟩ := bdu64 w3
  clear hL w0 w1 w2 w3
  obtain ⟨W, rfl⟩ := Int.eq_ofNat_of_zero_le h0
  obtain ⟨V, rfl⟩ := Int.eq_ofNat_of_zero_le h3
  have hW : W < 18446744073709551616 := by omega
  have hV : V < 18446744073709551616 := by omega
  clear h0 h0' h3 h3'
  by_cases hin : 0 ≤ a1 ∧ a1 ≤ 63 ∧ 1 ≤ a2
  · obtain ⟨g1, g2, g3⟩ := hin
    obtain ⟨A, rfl⟩ := Int.eq_ofNat_of_zero_le g1
    have hA : A ≤ 63 := by omega
    obtain ⟨k, hk⟩ : ∃ k : Nat, (k : Int) = min a2 (64 - A) := ⟨(min a2 (64 - (A : Int))).toNat, by omega⟩
    have hS := @setN_lt W A k V 64 hW (by omega)
    have hG := getN_lt W A k
    have hG2 : getN W A k < 18446744073709551616 := Nat.lt_of_lt_of_le hG (Nat.pow_le_pow_right (by omega) (show k ≤ 64 by omega))
    have C1 := fun w => set_in W V A k a2 w hW hV hA g3 h2' hk
    have C2 := fun w => get_in W A k a2 w hW hA g3 h2' hk
    have C3 := fun w => rget_in W A k a2 w hW hA g3 h2' hk
    have C4 := fun w => rset_in W V A k a2 w hW hV hA g3 h2' hk
    have C5 := fun w => get_in (setN W A k V) A k a2 w hS hA g3 h2' hk
    have C6 := fun w => rget_in V 0 k (min a2 (64 - A)) w hV (by omega) (by omega) (by omega) (by omega)
    have C7 := fun w => set_in (setN W A k V) (getN W A k) A k a2 w hS hG2 hA g3 h2' hk
    rw [get_set] at C5
    rw [set_get] at C7
    rw [show ((0 : Nat) : Int) = 0 from rfl] at C6
    generalize setN W A k V = S at *
    generalize getN W A k = G at *
    generalize getN V 0 k = D at *
    have C1 := Lib.hid C1
    have C2 := Lib.hid C2
    have C3 := Lib.hid C3
    have C4 := Lib.hid C4
    have C5 := Lib.hid C5
    have C6 := Lib.hid C6
    have C7 := Lib.hid C7
    have d1 : decide ((A : Int) < 0) = false := by simp
    have d2 : decide (63 < (A : Int)) = false := by simp; omega
    have d3 : decide (a2 < 1) = false := by simp; omega
    clear hk hS hG hG2 g1
    have tokS : True := trivial
    have tokG : True := trivial
    have tokH : True := trivial
    have tokR : True := trivial
    go_enter Tryd.func10, Tryd.ntmps10
    go_wp2_with (first | (go_at_call 14; have _t := tokS; refine (C1.out _).mono ?_; rintro e w' ⟨rfl, nq1, rfl⟩; clear _t tokS) | (go_at_call 14; refine (C7.out _).mono ?_; rintro e w' ⟨rfl, nq2, rfl⟩) | (go_at_call 15; have _t := tokG; refine (C2.out _).mono ?_; rintro e w' ⟨rfl, rfl⟩; clear _t tokG) | (go_at_call 15; have _t := tokH; refine (C5.out _).mono ?_; rintro e w' ⟨rfl, rfl⟩; clear _t tokH) | (go_at_call 15; refine (C2.out _).mono ?_; rintro e w' ⟨rfl, rfl⟩) | (go_at_call 40; have _t := tokR; refine (C3.out _).mono ?_; rintro e w' ⟨rfl, rfl⟩; clear _t tokR) | (go_at_call 40; refine (C6.out _).mono ?_; rintro e w' ⟨rfl, rfl⟩) | (go_at_call 41; refine (C4.out _).mono ?_; rintro e w' ⟨rfl, rfl⟩) | (go_at_call 16; refine (awake_q w _ (HT.out)).mono ?_; rintro e w' ⟨rfl, hb⟩))
    go_ret
    exact ⟨rfl, hb⟩
  · have H := Lib.hid hin
    by_cases k1 : a1 < 0
    · clear hin
      go_enter Tryd.func10, Tryd.ntmps10
      go_wp2_with (first | (go_at_call 14; refine (set_out _ _ _ _ _ H.out).mono ?_; rintro e w' ⟨rfl, rfl⟩) | (go_at_call 15; refine (get_out _ _ _ _ H.out).mono ?_; rintro e w' ⟨rfl, rfl⟩) | (go_at_call 40; refine (rget_out _ _ _ _ H.out).mono ?_; rintro e w' ⟨rfl, rfl⟩) | (go_at_call 41; refine (rset_out _ _ _ _ _ H.out).mono ?_; rintro e w' ⟨rfl, rfl⟩) | (go_at_call 16; refine (awake_any _ (HT.out)).mono ?_; rintro e w' ⟨rfl, hb⟩))
      go_ret
      exact ⟨rfl, hb⟩
    · have d1 : decide (a1 < 0) = false := by simp; omega
      by_cases k2 : 63 < a1
      · clear hin
        go_enter Tryd.func10, Tryd.ntmps10
        go_wp2_with (first | (go_at_call 14; refine (set_out _ _ _ _ _ H.out).mono ?_; rintro e w' ⟨rfl, rfl⟩) | (go_at_call 15; refine (get_out _ _ _ _ H.out).mono ?_; rintro e w' ⟨rfl, rfl⟩) | (go_at_call 40; refine (rget_out _ _ _ _ H.out).mono ?_; rintro e w' ⟨rfl, rfl⟩) | (go_at_call 41; refine (rset_out _ _ _ _ _ H.out).mono ?_; rintro e w' ⟨rfl, rfl⟩) | (go_at_call 16; refine (awake_any _ (HT.out)).mono ?_; rintro e w' ⟨rfl, hb⟩))
        go_ret
        exact ⟨rfl, hb⟩
      · have d2 : decide (63 < a1) = false := by simp; omega
        have k3 : a2 < 1 := by omega
        clear hin k1 k2
        go_enter Tryd.func10, Tryd.ntmps10
        go_wp2_with (first | (go_at_call 14; refine (set_out _ _ _ _ _ H.out).mono ?_; rintro e w' ⟨rfl, rfl⟩) | (go_at_call 15; refine (get_out _ _ _ _ H.out).mono ?_; rintro e w' ⟨rfl, rfl⟩) | (go_at_call 40; refine (rget_out _ _ _ _ H.out).mono ?_; rintro e w' ⟨rfl, rfl⟩) | (go_at_call 41; refine (rset_out _ _ _ _ _ H.out).mono ?_; rintro e w' ⟨rfl, rfl⟩) | (go_at_call 16; refine (awake_any _ (HT.out)).mono ?_; rintro e w' ⟨rfl, hb⟩))
        go_ret
        exact ⟨rfl, hb⟩
end Go.Proofs.YtlfiaompjbdcgaaDoor
