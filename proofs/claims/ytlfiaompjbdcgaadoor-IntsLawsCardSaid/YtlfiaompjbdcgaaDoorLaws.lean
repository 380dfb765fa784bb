/-
  THE WALK of the law IntsLaws: what is added is taken away again, a product goes either way, a rest is smaller than its divisor.
-/
import Derived.Test.YtlfiaompjbdcgaaDoorShift
import Derived.Test.YtlfiaompjbdcgaaDoorTo
namespace Go.Proofs.YtlfiaompjbdcgaaDoor
open Go.RowKit
set_option linter.unusedVariables false
theorem rest_bd (a c : Int) (hc : c ≠ 0) : (0 < c → -c < a.tmod c ∧ a.tmod c < c) ∧ (c < 0 → c < a.tmod c ∧ a.tmod c < -c) := by
  have h1 := Int.natAbs_tmod a c
  have h2 : a.natAbs % c.natAbs < c.natAbs := Nat.mod_lt _ (by omega)
  constructor <;> intro _ <;> omega
theorem rest_sign (a c : Int) : (0 ≤ a → 0 ≤ a.tmod c) ∧ (a < 0 → a.tmod c ≤ 0) := by
  constructor
  · intro h; exact Int.tmod_nonneg c h
  · intro h; have h2 := Int.tmod_nonneg c (show 0 ≤ -a by omega); rw [Int.neg_tmod] at h2; omega
theorem prod_div {a b : Int} (ha : -9223372036854775808 ≤ a) (ha' : a ≤ 9223372036854775807) (hb : b ≠ 0) : divV (a * b) b = a ∧ divE (a * b) b = 0 := by
  unfold divV divE; rw [if_neg hb, if_neg hb, Int.mul_tdiv_cancel _ hb]; exact ov_in ha ha'
set_option maxRecDepth 200000 in
set_option maxHeartbeats 4000000 in
theorem intsLaws_walk (a0 : Int) (a1 : Int) (a2 : Int) (w : World) (w0 : (Lit.int .i64 a0).wf = true) (w1 : (Lit.int .i64 a1).wf = true) (w2 : (Lit.int .i64 a2).wf = true) (hL : laidMetH Tryd.prog Rows.intsLawsRow.laid w) :
    Calls Tryd.prog 13 #[.int .i64 a0, .int .i64 a1, .int .i64 a2] w fun e w' => e = .returned (.bool true) ∧ Below w.heap.size w w' := by
  have HT := Lib.hid (tab_of hL (by kernel_rfl))
  obtain ⟨h0, h0'⟩ := bd64 w0
  obtain ⟨h1, h1'⟩ := bd64 w1
  obtain ⟨h2, h2'⟩ := bd64 w2
  clear hL w0 w1 w2
  rcases ovE_or (a0 + a1) with hs | hs
  · obtain ⟨s1, s2, s3⟩ := ov_zero hs
    obtain ⟨S, hS⟩ : ∃ S, S = a0 + a1 := ⟨_, rfl⟩
    have HS := Lib.hid (show ovV (a0 + a1) = S ∧ ovE (a0 + a1) = 0 from ⟨by rw [s1, hS], hs⟩)
    rw [← hS] at s2 s3
    have HD := Lib.hid (show ovV (S - a1) = a0 ∧ ovE (S - a1) = 0 by rw [hS, Int.add_sub_cancel]; exact ov_in h0 h0')
    clear hS s1 hs
    rcases ovE_or (a0 * a1) with hp | hp
    · obtain ⟨p1, p2, p3⟩ := ov_zero hp
      obtain ⟨P, hP⟩ : ∃ P, P = a0 * a1 := ⟨_, rfl⟩
      have HP := Lib.hid (show ovV (a0 * a1) = P ∧ ovE (a0 * a1) = 0 from ⟨by rw [p1, hP], hp⟩)
      rw [← hP] at p2 p3
      by_cases hb : a1 = 0
      · clear hP p1 hp
        have hbb : (a1 == 0) = true := by simpa using hb
        clear hb
        by_cases hz : a2 = 0
        · subst hz
          have HM := Lib.hid (mod_0 (a := a0) (b := 0) rfl)
          go_enter Tryd.func13, Tryd.ntmps13
          go_wp2_with (first | (go_at_call 17; refine (add_to _ _ S 0 _ (by omega) (by omega) (by omega) (by omega) (by first | exact HS.out | (rw [Int.add_comm]; exact HS.out))).mono ?_; rintro e w' ⟨rfl, rfl⟩) | (go_at_call 18; refine (sub_to _ _ a0 0 _ (by omega) (by omega) (by omega) (by omega) (HD.out)).mono ?_; rintro e w' ⟨rfl, rfl⟩) | (go_at_call 24; refine (mul_to _ _ P 0 _ (by omega) (by omega) (by omega) (by omega) (by first | exact HP.out | (rw [Int.mul_comm]; exact HP.out))).mono ?_; rintro e w' ⟨rfl, rfl⟩) | (go_at_call 21; refine (mod_to _ _ 0 18 _ (by omega) (by omega) (by omega) (by omega) (HM.out)).mono ?_; rintro e w' ⟨rfl, rfl⟩) | (go_at_call 16; refine (awake_any _ HT.out).mono ?_; rintro e w' ⟨rfl, hb⟩))
          go_ret
          exact ⟨rfl, hb⟩
        · obtain ⟨t1, t2⟩ := rest_bd a0 a2 hz
          obtain ⟨r1, r2⟩ := rest_sign a0 a2
          obtain ⟨M, hM⟩ : ∃ M, M = a0.tmod a2 := ⟨_, rfl⟩
          rw [← hM] at t1 t2 r1 r2
          have HM := Lib.hid (show modV a0 a2 = M ∧ modE a2 = 0 by rw [hM]; exact mod_f (ne_of hz))
          have zb := ne_of hz
          clear hM
          by_cases hs : 0 < a2
          · obtain ⟨t3, t4⟩ := t1 hs
            by_cases hp : 0 ≤ a0
            · have t5 := r1 hp
              clear r1 r2 t1 t2 hz
              go_enter Tryd.func13, Tryd.ntmps13
              go_wp2_with (first | (go_at_call 17; refine (add_to _ _ S 0 _ (by omega) (by omega) (by omega) (by omega) (by first | exact HS.out | (rw [Int.add_comm]; exact HS.out))).mono ?_; rintro e w' ⟨rfl, rfl⟩) | (go_at_call 18; refine (sub_to _ _ a0 0 _ (by omega) (by omega) (by omega) (by omega) (HD.out)).mono ?_; rintro e w' ⟨rfl, rfl⟩) | (go_at_call 24; refine (mul_to _ _ P 0 _ (by omega) (by omega) (by omega) (by omega) (by first | exact HP.out | (rw [Int.mul_comm]; exact HP.out))).mono ?_; rintro e w' ⟨rfl, rfl⟩) | (go_at_call 21; refine (mod_to _ _ M 0 _ (by omega) (by omega) (by omega) (by omega) (HM.out)).mono ?_; rintro e w' ⟨rfl, rfl⟩) | (go_at_call 16; refine (awake_any _ HT.out).mono ?_; rintro e w' ⟨rfl, hb⟩))
              all_goals go_ret
              all_goals exact ⟨rfl, hb⟩
            · have t5 := r2 (by omega)
              clear r1 r2 t1 t2 hz
              go_enter Tryd.func13, Tryd.ntmps13
              go_wp2_with (first | (go_at_call 17; refine (add_to _ _ S 0 _ (by omega) (by omega) (by omega) (by omega) (by first | exact HS.out | (rw [Int.add_comm]; exact HS.out))).mono ?_; rintro e w' ⟨rfl, rfl⟩) | (go_at_call 18; refine (sub_to _ _ a0 0 _ (by omega) (by omega) (by omega) (by omega) (HD.out)).mono ?_; rintro e w' ⟨rfl, rfl⟩) | (go_at_call 24; refine (mul_to _ _ P 0 _ (by omega) (by omega) (by omega) (by omega) (by first | exact HP.out | (rw [Int.mul_comm]; exact HP.out))).mono ?_; rintro e w' ⟨rfl, rfl⟩) | (go_at_call 21; refine (mod_to _ _ M 0 _ (by omega) (by omega) (by omega) (by omega) (HM.out)).mono ?_; rintro e w' ⟨rfl, rfl⟩) | (go_at_call 16; refine (awake_any _ HT.out).mono ?_; rintro e w' ⟨rfl, hb⟩))
              all_goals go_ret
              all_goals exact ⟨rfl, hb⟩
          · obtain ⟨t3, t4⟩ := t2 (by omega)
            by_cases hp : 0 ≤ a0
            · have t5 := r1 hp
              clear r1 r2 t1 t2 hz
              go_enter Tryd.func13, Tryd.ntmps13
              go_wp2_with (first | (go_at_call 17; refine (add_to _ _ S 0 _ (by omega) (by omega) (by omega) (by omega) (by first | exact HS.out | (rw [Int.add_comm]; exact HS.out))).mono ?_; rintro e w' ⟨rfl, rfl⟩) | (go_at_call 18; refine (sub_to _ _ a0 0 _ (by omega) (by omega) (by omega) (by omega) (HD.out)).mono ?_; rintro e w' ⟨rfl, rfl⟩) | (go_at_call 24; refine (mul_to _ _ P 0 _ (by omega) (by omega) (by omega) (by omega) (by first | exact HP.out | (rw [Int.mul_comm]; exact HP.out))).mono ?_; rintro e w' ⟨rfl, rfl⟩) | (go_at_call 21; refine (mod_to _ _ M 0 _ (by omega) (by omega) (by omega) (by omega) (HM.out)).mono ?_; rintro e w' ⟨rfl, rfl⟩) | (go_at_call 16; refine (awake_any _ HT.out).mono ?_; rintro e w' ⟨rfl, hb⟩))
              all_goals go_ret
              all_goals exact ⟨rfl, hb⟩
            · have t5 := r2 (by omega)
              clear r1 r2 t1 t2 hz
              go_enter Tryd.func13, Tryd.ntmps13
              go_wp2_with (first | (go_at_call 17; refine (add_to _ _ S 0 _ (by omega) (by omega) (by omega) (by omega) (by first | exact HS.out | (rw [Int.add_comm]; exact HS.out))).mono ?_; rintro e w' ⟨rfl, rfl⟩) | (go_at_call 18; refine (sub_to _ _ a0 0 _ (by omega) (by omega) (by omega) (by omega) (HD.out)).mono ?_; rintro e w' ⟨rfl, rfl⟩) | (go_at_call 24; refine (mul_to _ _ P 0 _ (by omega) (by omega) (by omega) (by omega) (by first | exact HP.out | (rw [Int.mul_comm]; exact HP.out))).mono ?_; rintro e w' ⟨rfl, rfl⟩) | (go_at_call 21; refine (mod_to _ _ M 0 _ (by omega) (by omega) (by omega) (by omega) (HM.out)).mono ?_; rintro e w' ⟨rfl, rfl⟩) | (go_at_call 16; refine (awake_any _ HT.out).mono ?_; rintro e w' ⟨rfl, hb⟩))
              all_goals go_ret
              all_goals exact ⟨rfl, hb⟩
      · have hq := prod_div h0 h0' hb
        rw [← hP] at hq
        have HQ := Lib.hid hq
        have hbb := ne_of hb
        clear hb hq hP p1 hp
        by_cases hz : a2 = 0
        · subst hz
          have HM := Lib.hid (mod_0 (a := a0) (b := 0) rfl)
          go_enter Tryd.func13, Tryd.ntmps13
          go_wp2_with (first | (go_at_call 17; refine (add_to _ _ S 0 _ (by omega) (by omega) (by omega) (by omega) (by first | exact HS.out | (rw [Int.add_comm]; exact HS.out))).mono ?_; rintro e w' ⟨rfl, rfl⟩) | (go_at_call 18; refine (sub_to _ _ a0 0 _ (by omega) (by omega) (by omega) (by omega) (HD.out)).mono ?_; rintro e w' ⟨rfl, rfl⟩) | (go_at_call 24; refine (mul_to _ _ P 0 _ (by omega) (by omega) (by omega) (by omega) (by first | exact HP.out | (rw [Int.mul_comm]; exact HP.out))).mono ?_; rintro e w' ⟨rfl, rfl⟩) | (go_at_call 20; refine (div_to _ _ a0 0 _ (by omega) (by omega) (by omega) (by omega) (HQ.out)).mono ?_; rintro e w' ⟨rfl, rfl⟩) | (go_at_call 21; refine (mod_to _ _ 0 18 _ (by omega) (by omega) (by omega) (by omega) (HM.out)).mono ?_; rintro e w' ⟨rfl, rfl⟩) | (go_at_call 16; refine (awake_any _ HT.out).mono ?_; rintro e w' ⟨rfl, hb⟩))
          go_ret
          exact ⟨rfl, hb⟩
        · obtain ⟨t1, t2⟩ := rest_bd a0 a2 hz
          obtain ⟨r1, r2⟩ := rest_sign a0 a2
          obtain ⟨M, hM⟩ : ∃ M, M = a0.tmod a2 := ⟨_, rfl⟩
          rw [← hM] at t1 t2 r1 r2
          have HM := Lib.hid (show modV a0 a2 = M ∧ modE a2 = 0 by rw [hM]; exact mod_f (ne_of hz))
          have zb := ne_of hz
          clear hM
          by_cases hs : 0 < a2
          · obtain ⟨t3, t4⟩ := t1 hs
            by_cases hp : 0 ≤ a0
            · have t5 := r1 hp
              clear r1 r2 t1 t2 hz
              go_enter Tryd.func13, Tryd.ntmps13
              go_wp2_with (first | (go_at_call 17; refine (add_to _ _ S 0 _ (by omega) (by omega) (by omega) (by omega) (by first | exact HS.out | (rw [Int.add_comm]; exact HS.out))).mono ?_; rintro e w' ⟨rfl, rfl⟩) | (go_at_call 18; refine (sub_to _ _ a0 0 _ (by omega) (by omega) (by omega) (by omega) (HD.out)).mono ?_; rintro e w' ⟨rfl, rfl⟩) | (go_at_call 24; refine (mul_to _ _ P 0 _ (by omega) (by omega) (by omega) (by omega) (by first | exact HP.out | (rw [Int.mul_comm]; exact HP.out))).mono ?_; rintro e w' ⟨rfl, rfl⟩) | (go_at_call 20; refine (div_to _ _ a0 0 _ (by omega) (by omega) (by omega) (by omega) (HQ.out)).mono ?_; rintro e w' ⟨rfl, rfl⟩) | (go_at_call 21; refine (mod_to _ _ M 0 _ (by omega) (by omega) (by omega) (by omega) (HM.out)).mono ?_; rintro e w' ⟨rfl, rfl⟩) | (go_at_call 16; refine (awake_any _ HT.out).mono ?_; rintro e w' ⟨rfl, hb⟩))
              all_goals go_ret
              all_goals exact ⟨rfl, hb⟩
            · have t5 := r2 (by omega)
              clear r1 r2 t1 t2 hz
              go_enter Tryd.func13, Tryd.ntmps13
              go_wp2_with (first | (go_at_call 17; refine (add_to _ _ S 0 _ (by omega) (by omega) (by omega) (by omega) (by first | exact HS.out | (rw [Int.add_comm]; exact HS.out))).mono ?_; rintro e w' ⟨rfl, rfl⟩) | (go_at_call 18; refine (sub_to _ _ a0 0 _ (by omega) (by omega) (by omega) (by omega) (HD.out)).mono ?_; rintro e w' ⟨rfl, rfl⟩) | (go_at_call 24; refine (mul_to _ _ P 0 _ (by omega) (by omega) (by omega) (by omega) (by first | exact HP.out | (rw [Int.mul_comm]; exact HP.out))).mono ?_; rintro e w' ⟨rfl, rfl⟩) | (go_at_call 20; refine (div_to _ _ a0 0 _ (by omega) (by omega) (by omega) (by omega) (HQ.out)).mono ?_; rintro e w' ⟨rfl, rfl⟩) | (go_at_call 21; refine (mod_to _ _ M 0 _ (by omega) (by omega) (by omega) (by omega) (HM.out)).mono ?_; rintro e w' ⟨rfl, rfl⟩) | (go_at_call 16; refine (awake_any _ HT.out).mono ?_; rintro e w' ⟨rfl, hb⟩))
              all_goals go_ret
              all_goals exact ⟨rfl, hb⟩
          · obtain ⟨t3, t4⟩ := t2 (by omega)
            by_cases hp : 0 ≤ a0
            · have t5 := r1 hp
              clear r1 r2 t1 t2 hz
              go_enter Tryd.func13, Tryd.ntmps13
              go_wp2_with (first | (go_at_call 17; refine (add_to _ _ S 0 _ (by omega) (by omega) (by omega) (by omega) (by first | exact HS.out | (rw [Int.add_comm]; exact HS.out))).mono ?_; rintro e w' ⟨rfl, rfl⟩) | (go_at_call 18; refine (sub_to _ _ a0 0 _ (by omega) (by omega) (by omega) (by omega) (HD.out)).mono ?_; rintro e w' ⟨rfl, rfl⟩) | (go_at_call 24; refine (mul_to _ _ P 0 _ (by omega) (by omega) (by omega) (by omega) (by first | exact HP.out | (rw [Int.mul_comm]; exact HP.out))).mono ?_; rintro e w' ⟨rfl, rfl⟩) | (go_at_call 20; refine (div_to _ _ a0 0 _ (by omega) (by omega) (by omega) (by omega) (HQ.out)).mono ?_; rintro e w' ⟨rfl, rfl⟩) | (go_at_call 21; refine (mod_to _ _ M 0 _ (by omega) (by omega) (by omega) (by omega) (HM.out)).mono ?_; rintro e w' ⟨rfl, rfl⟩) | (go_at_call 16; refine (awake_any _ HT.out).mono ?_; rintro e w' ⟨rfl, hb⟩))
              all_goals go_ret
              all_goals exact ⟨rfl, hb⟩
            · have t5 := r2 (by omega)
              clear r1 r2 t1 t2 hz
              go_enter Tryd.func13, Tryd.ntmps13
              go_wp2_with (first | (go_at_call 17; refine (add_to _ _ S 0 _ (by omega) (by omega) (by omega) (by omega) (by first | exact HS.out | (rw [Int.add_comm]; exact HS.out))).mono ?_; rintro e w' ⟨rfl, rfl⟩) | (go_at_call 18; refine (sub_to _ _ a0 0 _ (by omega) (by omega) (by omega) (by omega) (HD.out)).mono ?_; rintro e w' ⟨rfl, rfl⟩) | (go_at_call 24; refine (mul_to _ _ P 0 _ (by omega) (by omega) (by omega) (by omega) (by first | exact HP.out | (rw [Int.mul_comm]; exact HP.out))).mono ?_; rintro e w' ⟨rfl, rfl⟩) | (go_at_call 20; refine (div_to _ _ a0 0 _ (by omega) (by omega) (by omega) (by omega) (HQ.out)).mono ?_; rintro e w' ⟨rfl, rfl⟩) | (go_at_call 21; refine (mod_to _ _ M 0 _ (by omega) (by omega) (by omega) (by omega) (HM.out)).mono ?_; rintro e w' ⟨rfl, rfl⟩) | (go_at_call 16; refine (awake_any _ HT.out).mono ?_; rintro e w' ⟨rfl, hb⟩))
              all_goals go_ret
              all_goals exact ⟨rfl, hb⟩
    · have HP := Lib.hid (show ovV (a0 * a1) = 0 ∧ ovE (a0 * a1) = 17 from ⟨(ov_seventeen hp).1, hp⟩)
      clear hp
      by_cases hz : a2 = 0
      · subst hz
        have HM := Lib.hid (mod_0 (a := a0) (b := 0) rfl)
        go_enter Tryd.func13, Tryd.ntmps13
        go_wp2_with (first | (go_at_call 17; refine (add_to _ _ S 0 _ (by omega) (by omega) (by omega) (by omega) (by first | exact HS.out | (rw [Int.add_comm]; exact HS.out))).mono ?_; rintro e w' ⟨rfl, rfl⟩) | (go_at_call 18; refine (sub_to _ _ a0 0 _ (by omega) (by omega) (by omega) (by omega) (HD.out)).mono ?_; rintro e w' ⟨rfl, rfl⟩) | (go_at_call 24; refine (mul_to _ _ 0 17 _ (by omega) (by omega) (by omega) (by omega) (by first | exact HP.out | (rw [Int.mul_comm]; exact HP.out))).mono ?_; rintro e w' ⟨rfl, rfl⟩) | (go_at_call 21; refine (mod_to _ _ 0 18 _ (by omega) (by omega) (by omega) (by omega) (HM.out)).mono ?_; rintro e w' ⟨rfl, rfl⟩) | (go_at_call 16; refine (awake_any _ HT.out).mono ?_; rintro e w' ⟨rfl, hb⟩))
        go_ret
        exact ⟨rfl, hb⟩
      · obtain ⟨t1, t2⟩ := rest_bd a0 a2 hz
        obtain ⟨r1, r2⟩ := rest_sign a0 a2
        obtain ⟨M, hM⟩ : ∃ M, M = a0.tmod a2 := ⟨_, rfl⟩
        rw [← hM] at t1 t2 r1 r2
        have HM := Lib.hid (show modV a0 a2 = M ∧ modE a2 = 0 by rw [hM]; exact mod_f (ne_of hz))
        have zb := ne_of hz
        clear hM
        by_cases hs : 0 < a2
        · obtain ⟨t3, t4⟩ := t1 hs
          by_cases hp : 0 ≤ a0
          · have t5 := r1 hp
            clear r1 r2 t1 t2 hz
            go_enter Tryd.func13, Tryd.ntmps13
            go_wp2_with (first | (go_at_call 17; refine (add_to _ _ S 0 _ (by omega) (by omega) (by omega) (by omega) (by first | exact HS.out | (rw [Int.add_comm]; exact HS.out))).mono ?_; rintro e w' ⟨rfl, rfl⟩) | (go_at_call 18; refine (sub_to _ _ a0 0 _ (by omega) (by omega) (by omega) (by omega) (HD.out)).mono ?_; rintro e w' ⟨rfl, rfl⟩) | (go_at_call 24; refine (mul_to _ _ 0 17 _ (by omega) (by omega) (by omega) (by omega) (by first | exact HP.out | (rw [Int.mul_comm]; exact HP.out))).mono ?_; rintro e w' ⟨rfl, rfl⟩) | (go_at_call 21; refine (mod_to _ _ M 0 _ (by omega) (by omega) (by omega) (by omega) (HM.out)).mono ?_; rintro e w' ⟨rfl, rfl⟩) | (go_at_call 16; refine (awake_any _ HT.out).mono ?_; rintro e w' ⟨rfl, hb⟩))
            all_goals go_ret
            all_goals exact ⟨rfl, hb⟩
          · have t5 := r2 (by omega)
            clear r1 r2 t1 t2 hz
            go_enter Tryd.func13, Tryd.ntmps13
            go_wp2_with (first | (go_at_call 17; refine (add_to _ _ S 0 _ (by omega) (by omega) (by omega) (by omega) (by first | exact HS.out | (rw [Int.add_comm]; exact HS.out))).mono ?_; rintro e w' ⟨rfl, rfl⟩) | (go_at_call 18; refine (sub_to _ _ a0 0 _ (by omega) (by omega) (by omega) (by omega) (HD.out)).mono ?_; rintro e w' ⟨rfl, rfl⟩) | (go_at_call 24; refine (mul_to _ _ 0 17 _ (by omega) (by omega) (by omega) (by omega) (by first | exact HP.out | (rw [Int.mul_comm]; exact HP.out))).mono ?_; rintro e w' ⟨rfl, rfl⟩) | (go_at_call 21; refine (mod_to _ _ M 0 _ (by omega) (by omega) (by omega) (by omega) (HM.out)).mono ?_; rintro e w' ⟨rfl, rfl⟩) | (go_at_call 16; refine (awake_any _ HT.out).mono ?_; rintro e w' ⟨rfl, hb⟩))
            all_goals go_ret
            all_goals exact ⟨rfl, hb⟩
        · obtain ⟨t3, t4⟩ := t2 (by omega)
          by_cases hp : 0 ≤ a0
          · have t5 := r1 hp
            clear r1 r2 t1 t2 hz
            go_enter Tryd.func13, Tryd.ntmps13
            go_wp2_with (first | (go_at_call 17; refine (add_to _ _ S 0 _ (by omega) (by omega) (by omega) (by omega) (by first | exact HS.out | (rw [Int.add_comm]; exact HS.out))).mono ?_; rintro e w' ⟨rfl, rfl⟩) | (go_at_call 18; refine (sub_to _ _ a0 0 _ (by omega) (by omega) (by omega) (by omega) (HD.out)).mono ?_; rintro e w' ⟨rfl, rfl⟩) | (go_at_call 24; refine (mul_to _ _ 0 17 _ (by omega) (by omega) (by omega) (by omega) (by first | exact HP.out | (rw [Int.mul_comm]; exact HP.out))).mono ?_; rintro e w' ⟨rfl, rfl⟩) | (go_at_call 21; refine (mod_to _ _ M 0 _ (by omega) (by omega) (by omega) (by omega) (HM.out)).mono ?_; rintro e w' ⟨rfl, rfl⟩) | (go_at_call 16; refine (awake_any _ HT.out).mono ?_; rintro e w' ⟨rfl, hb⟩))
            all_goals go_ret
            all_goals exact ⟨rfl, hb⟩
          · have t5 := r2 (by omega)
            clear r1 r2 t1 t2 hz
            go_enter Tryd.func13, Tryd.ntmps13
            go_wp2_with (first | (go_at_call 17; refine (add_to _ _ S 0 _ (by omega) (by omega) (by omega) (by omega) (by first | exact HS.out | (rw [Int.add_comm]; exact HS.out))).mono ?_; rintro e w' ⟨rfl, rfl⟩) | (go_at_call 18; refine (sub_to _ _ a0 0 _ (by omega) (by omega) (by omega) (by omega) (HD.out)).mono ?_; rintro e w' ⟨rfl, rfl⟩) | (go_at_call 24; refine (mul_to _ _ 0 17 _ (by omega) (by omega) (by omega) (by omega) (by first | exact HP.out | (rw [Int.mul_comm]; exact HP.out))).mono ?_; rintro e w' ⟨rfl, rfl⟩) | (go_at_call 21; refine (mod_to _ _ M 0 _ (by omega) (by omega) (by omega) (by omega) (HM.out)).mono ?_; rintro e w' ⟨rfl, rfl⟩) | (go_at_call 16; refine (awake_any _ HT.out).mono ?_; rintro e w' ⟨rfl, hb⟩))
            all_goals go_ret
            all_goals exact ⟨rfl, hb⟩
  · have HS := Lib.hid (show ovV (a0 + a1) = 0 ∧ ovE (a0 + a1) = 17 from ⟨(ov_seventeen hs).1, hs⟩)
    clear hs
    rcases ovE_or (a0 * a1) with hp | hp
    · obtain ⟨p1, p2, p3⟩ := ov_zero hp
      obtain ⟨P, hP⟩ : ∃ P, P = a0 * a1 := ⟨_, rfl⟩
      have HP := Lib.hid (show ovV (a0 * a1) = P ∧ ovE (a0 * a1) = 0 from ⟨by rw [p1, hP], hp⟩)
      rw [← hP] at p2 p3
      by_cases hb : a1 = 0
      · clear hP p1 hp
        have hbb : (a1 == 0) = true := by simpa using hb
        clear hb
        by_cases hz : a2 = 0
        · subst hz
          have HM := Lib.hid (mod_0 (a := a0) (b := 0) rfl)
          go_enter Tryd.func13, Tryd.ntmps13
          go_wp2_with (first | (go_at_call 17; refine (add_to _ _ 0 17 _ (by omega) (by omega) (by omega) (by omega) (by first | exact HS.out | (rw [Int.add_comm]; exact HS.out))).mono ?_; rintro e w' ⟨rfl, rfl⟩) | (go_at_call 24; refine (mul_to _ _ P 0 _ (by omega) (by omega) (by omega) (by omega) (by first | exact HP.out | (rw [Int.mul_comm]; exact HP.out))).mono ?_; rintro e w' ⟨rfl, rfl⟩) | (go_at_call 21; refine (mod_to _ _ 0 18 _ (by omega) (by omega) (by omega) (by omega) (HM.out)).mono ?_; rintro e w' ⟨rfl, rfl⟩) | (go_at_call 16; refine (awake_any _ HT.out).mono ?_; rintro e w' ⟨rfl, hb⟩))
          go_ret
          exact ⟨rfl, hb⟩
        · obtain ⟨t1, t2⟩ := rest_bd a0 a2 hz
          obtain ⟨r1, r2⟩ := rest_sign a0 a2
          obtain ⟨M, hM⟩ : ∃ M, M = a0.tmod a2 := ⟨_, rfl⟩
          rw [← hM] at t1 t2 r1 r2
          have HM := Lib.hid (show modV a0 a2 = M ∧ modE a2 = 0 by rw [hM]; exact mod_f (ne_of hz))
          have zb := ne_of hz
          clear hM
          by_cases hs : 0 < a2
          · obtain ⟨t3, t4⟩ := t1 hs
            by_cases hp : 0 ≤ a0
            · have t5 := r1 hp
              clear r1 r2 t1 t2 hz
              go_enter Tryd.func13, Tryd.ntmps13
              go_wp2_with (first | (go_at_call 17; refine (add_to _ _ 0 17 _ (by omega) (by omega) (by omega) (by omega) (by first | exact HS.out | (rw [Int.add_comm]; exact HS.out))).mono ?_; rintro e w' ⟨rfl, rfl⟩) | (go_at_call 24; refine (mul_to _ _ P 0 _ (by omega) (by omega) (by omega) (by omega) (by first | exact HP.out | (rw [Int.mul_comm]; exact HP.out))).mono ?_; rintro e w' ⟨rfl, rfl⟩) | (go_at_call 21; refine (mod_to _ _ M 0 _ (by omega) (by omega) (by omega) (by omega) (HM.out)).mono ?_; rintro e w' ⟨rfl, rfl⟩) | (go_at_call 16; refine (awake_any _ HT.out).mono ?_; rintro e w' ⟨rfl, hb⟩))
              all_goals go_ret
              all_goals exact ⟨rfl, hb⟩
            · have t5 := r2 (by omega)
              clear r1 r2 t1 t2 hz
              go_enter Tryd.func13, Tryd.ntmps13
              go_wp2_with (first | (go_at_call 17; refine (add_to _ _ 0 17 _ (by omega) (by omega) (by omega) (by omega) (by first | exact HS.out | (rw [Int.add_comm]; exact HS.out))).mono ?_; rintro e w' ⟨rfl, rfl⟩) | (go_at_call 24; refine (mul_to _ _ P 0 _ (by omega) (by omega) (by omega) (by omega) (by first | exact HP.out | (rw [Int.mul_comm]; exact HP.out))).mono ?_; rintro e w' ⟨rfl, rfl⟩) | (go_at_call 21; refine (mod_to _ _ M 0 _ (by omega) (by omega) (by omega) (by omega) (HM.out)).mono ?_; rintro e w' ⟨rfl, rfl⟩) | (go_at_call 16; refine (awake_any _ HT.out).mono ?_; rintro e w' ⟨rfl, hb⟩))
              all_goals go_ret
              all_goals exact ⟨rfl, hb⟩
          · obtain ⟨t3, t4⟩ := t2 (by omega)
            by_cases hp : 0 ≤ a0
            · have t5 := r1 hp
              clear r1 r2 t1 t2 hz
              go_enter Tryd.func13, Tryd.ntmps13
              go_wp2_with (first | (go_at_call 17; refine (add_to _ _ 0 17 _ (by omega) (by omega) (by omega) (by omega) (by first | exact HS.out | (rw [Int.add_comm]; exact HS.out))).mono ?_; rintro e w' ⟨rfl, rfl⟩) | (go_at_call 24; refine (mul_to _ _ P 0 _ (by omega) (by omega) (by omega) (by omega) (by first | exact HP.out | (rw [Int.mul_comm]; exact HP.out))).mono ?_; rintro e w' ⟨rfl, rfl⟩) | (go_at_call 21; refine (mod_to _ _ M 0 _ (by omega) (by omega) (by omega) (by omega) (HM.out)).mono ?_; rintro e w' ⟨rfl, rfl⟩) | (go_at_call 16; refine (awake_any _ HT.out).mono ?_; rintro e w' ⟨rfl, hb⟩))
              all_goals go_ret
              all_goals exact ⟨rfl, hb⟩
            · have t5 := r2 (by omega)
              clear r1 r2 t1 t2 hz
              go_enter Tryd.func13, Tryd.ntmps13
              go_wp2_with (first | (go_at_call 17; refine (add_to _ _ 0 17 _ (by omega) (by omega) (by omega) (by omega) (by first | exact HS.out | (rw [Int.add_comm]; exact HS.out))).mono ?_; rintro e w' ⟨rfl, rfl⟩) | (go_at_call 24; refine (mul_to _ _ P 0 _ (by omega) (by omega) (by omega) (by omega) (by first | exact HP.out | (rw [Int.mul_comm]; exact HP.out))).mono ?_; rintro e w' ⟨rfl, rfl⟩) | (go_at_call 21; refine (mod_to _ _ M 0 _ (by omega) (by omega) (by omega) (by omega) (HM.out)).mono ?_; rintro e w' ⟨rfl, rfl⟩) | (go_at_call 16; refine (awake_any _ HT.out).mono ?_; rintro e w' ⟨rfl, hb⟩))
              all_goals go_ret
              all_goals exact ⟨rfl, hb⟩
      · have hq := prod_div h0 h0' hb
        rw [← hP] at hq
        have HQ := Lib.hid hq
        have hbb := ne_of hb
        clear hb hq hP p1 hp
        by_cases hz : a2 = 0
        · subst hz
          have HM := Lib.hid (mod_0 (a := a0) (b := 0) rfl)
          go_enter Tryd.func13, Tryd.ntmps13
          go_wp2_with (first | (go_at_call 17; refine (add_to _ _ 0 17 _ (by omega) (by omega) (by omega) (by omega) (by first | exact HS.out | (rw [Int.add_comm]; exact HS.out))).mono ?_; rintro e w' ⟨rfl, rfl⟩) | (go_at_call 24; refine (mul_to _ _ P 0 _ (by omega) (by omega) (by omega) (by omega) (by first | exact HP.out | (rw [Int.mul_comm]; exact HP.out))).mono ?_; rintro e w' ⟨rfl, rfl⟩) | (go_at_call 20; refine (div_to _ _ a0 0 _ (by omega) (by omega) (by omega) (by omega) (HQ.out)).mono ?_; rintro e w' ⟨rfl, rfl⟩) | (go_at_call 21; refine (mod_to _ _ 0 18 _ (by omega) (by omega) (by omega) (by omega) (HM.out)).mono ?_; rintro e w' ⟨rfl, rfl⟩) | (go_at_call 16; refine (awake_any _ HT.out).mono ?_; rintro e w' ⟨rfl, hb⟩))
          go_ret
          exact ⟨rfl, hb⟩
        · obtain ⟨t1, t2⟩ := rest_bd a0 a2 hz
          obtain ⟨r1, r2⟩ := rest_sign a0 a2
          obtain ⟨M, hM⟩ : ∃ M, M = a0.tmod a2 := ⟨_, rfl⟩
          rw [← hM] at t1 t2 r1 r2
          have HM := Lib.hid (show modV a0 a2 = M ∧ modE a2 = 0 by rw [hM]; exact mod_f (ne_of hz))
          have zb := ne_of hz
          clear hM
          by_cases hs : 0 < a2
          · obtain ⟨t3, t4⟩ := t1 hs
            by_cases hp : 0 ≤ a0
            · have t5 := r1 hp
              clear r1 r2 t1 t2 hz
              go_enter Tryd.func13, Tryd.ntmps13
              go_wp2_with (first | (go_at_call 17; refine (add_to _ _ 0 17 _ (by omega) (by omega) (by omega) (by omega) (by first | exact HS.out | (rw [Int.add_comm]; exact HS.out))).mono ?_; rintro e w' ⟨rfl, rfl⟩) | (go_at_call 24; refine (mul_to _ _ P 0 _ (by omega) (by omega) (by omega) (by omega) (by first | exact HP.out | (rw [Int.mul_comm]; exact HP.out))).mono ?_; rintro e w' ⟨rfl, rfl⟩) | (go_at_call 20; refine (div_to _ _ a0 0 _ (by omega) (by omega) (by omega) (by omega) (HQ.out)).mono ?_; rintro e w' ⟨rfl, rfl⟩) | (go_at_call 21; refine (mod_to _ _ M 0 _ (by omega) (by omega) (by omega) (by omega) (HM.out)).mono ?_; rintro e w' ⟨rfl, rfl⟩) | (go_at_call 16; refine (awake_any _ HT.out).mono ?_; rintro e w' ⟨rfl, hb⟩))
              all_goals go_ret
              all_goals exact ⟨rfl, hb⟩
            · have t5 := r2 (by omega)
              clear r1 r2 t1 t2 hz
              go_enter Tryd.func13, Tryd.ntmps13
              go_wp2_with (first | (go_at_call 17; refine (add_to _ _ 0 17 _ (by omega) (by omega) (by omega) (by omega) (by first | exact HS.out | (rw [Int.add_comm]; exact HS.out))).mono ?_; rintro e w' ⟨rfl, rfl⟩) | (go_at_call 24; refine (mul_to _ _ P 0 _ (by omega) (by omega) (by omega) (by omega) (by first | exact HP.out | (rw [Int.mul_comm]; exact HP.out))).mono ?_; rintro e w' ⟨rfl, rfl⟩) | (go_at_call 20; refine (div_to _ _ a0 0 _ (by omega) (by omega) (by omega) (by omega) (HQ.out)).mono ?_; rintro e w' ⟨rfl, rfl⟩) | (go_at_call 21; refine (mod_to _ _ M 0 _ (by omega) (by omega) (by omega) (by omega) (HM.out)).mono ?_; rintro e w' ⟨rfl, rfl⟩) | (go_at_call 16; refine (awake_any _ HT.out).mono ?_; rintro e w' ⟨rfl, hb⟩))
              all_goals go_ret
              all_goals exact ⟨rfl, hb⟩
          · obtain ⟨t3, t4⟩ := t2 (by omega)
            by_cases hp : 0 ≤ a0
            · have t5 := r1 hp
              clear r1 r2 t1 t2 hz
              go_enter Tryd.func13, Tryd.ntmps13
              go_wp2_with (first | (go_at_call 17; refine (add_to _ _ 0 17 _ (by omega) (by omega) (by omega) (by omega) (by first | exact HS.out | (rw [Int.add_comm]; exact HS.out))).mono ?_; rintro e w' ⟨rfl, rfl⟩) | (go_at_call 24; refine (mul_to _ _ P 0 _ (by omega) (by omega) (by omega) (by omega) (by first | exact HP.out | (rw [Int.mul_comm]; exact HP.out))).mono ?_; rintro e w' ⟨rfl, rfl⟩) | (go_at_call 20; refine (div_to _ _ a0 0 _ (by omega) (by omega) (by omega) (by omega) (HQ.out)).mono ?_; rintro e w' ⟨rfl, rfl⟩) | (go_at_call 21; refine (mod_to _ _ M 0 _ (by omega) (by omega) (by omega) (by omega) (HM.out)).mono ?_; rintro e w' ⟨rfl, rfl⟩) | (go_at_call 16; refine (awake_any _ HT.out).mono ?_; rintro e w' ⟨rfl, hb⟩))
              all_goals go_ret
              all_goals exact ⟨rfl, hb⟩
            · have t5 := r2 (by omega)
              clear r1 r2 t1 t2 hz
              go_enter Tryd.func13, Tryd.ntmps13
              go_wp2_with (first | (go_at_call 17; refine (add_to _ _ 0 17 _ (by omega) (by omega) (by omega) (by omega) (by first | exact HS.out | (rw [Int.add_comm]; exact HS.out))).mono ?_; rintro e w' ⟨rfl, rfl⟩) | (go_at_call 24; refine (mul_to _ _ P 0 _ (by omega) (by omega) (by omega) (by omega) (by first | exact HP.out | (rw [Int.mul_comm]; exact HP.out))).mono ?_; rintro e w' ⟨rfl, rfl⟩) | (go_at_call 20; refine (div_to _ _ a0 0 _ (by omega) (by omega) (by omega) (by omega) (HQ.out)).mono ?_; rintro e w' ⟨rfl, rfl⟩) | (go_at_call 21; refine (mod_to _ _ M 0 _ (by omega) (by omega) (by omega) (by omega) (HM.out)).mono ?_; rintro e w' ⟨rfl, rfl⟩) | (go_at_call 16; refine (awake_any _ HT.out).mono ?_; rintro e w' ⟨rfl, hb⟩))
              all_goals go_ret
              all_goals exact ⟨rfl, hb⟩
    · have HP := Lib.hid (show ovV (a0 * a1) = 0 ∧ ovE (a0 * a1) = 17 from ⟨(ov_seventeen hp).1, hp⟩)
      clear hp
      by_cases hz : a2 = 0
      · subst hz
        have HM := Lib.hid (mod_0 (a := a0) (b := 0) rfl)
        go_enter Tryd.func13, Tryd.ntmps13
        go_wp2_with (first | (go_at_call 17; refine (add_to _ _ 0 17 _ (by omega) (by omega) (by omega) (by omega) (by first | exact HS.out | (rw [Int.add_comm]; exact HS.out))).mono ?_; rintro e w' ⟨rfl, rfl⟩) | (go_at_call 24; refine (mul_to _ _ 0 17 _ (by omega) (by omega) (by omega) (by omega) (by first | exact HP.out | (rw [Int.mul_comm]; exact HP.out))).mono ?_; rintro e w' ⟨rfl, rfl⟩) | (go_at_call 21; refine (mod_to _ _ 0 18 _ (by omega) (by omega) (by omega) (by omega) (HM.out)).mono ?_; rintro e w' ⟨rfl, rfl⟩) | (go_at_call 16; refine (awake_any _ HT.out).mono ?_; rintro e w' ⟨rfl, hb⟩))
        go_ret
        exact ⟨rfl, hb⟩
      · obtain ⟨t1, t2⟩ := rest_bd a0 a2 hz
        obtain ⟨r1, r2⟩ := rest_sign a0 a2
        obtain ⟨M, hM⟩ : ∃ M, M = a0.tmod a2 := ⟨_, rfl⟩
        rw [← hM] at t1 t2 r1 r2
        have HM := Lib.hid (show modV a0 a2 = M ∧ modE a2 = 0 by rw [hM]; exact mod_f (ne_of hz))
        have zb := ne_of hz
        clear hM
        by_cases hs : 0 < a2
        · obtain ⟨t3, t4⟩ := t1 hs
          by_cases hp : 0 ≤ a0
          · have t5 := r1 hp
            clear r1 r2 t1 t2 hz
            go_enter Tryd.func13, Tryd.ntmps13
            go_wp2_with (first | (go_at_call 17; refine (add_to _ _ 0 17 _ (by omega) (by omega) (by omega) (by omega) (by first | exact HS.out | (rw [Int.add_comm]; exact HS.out))).mono ?_; rintro e w' ⟨rfl, rfl⟩) | (go_at_call 24; refine (mul_to _ _ 0 17 _ (by omega) (by omega) (by omega) (by omega) (by first | exact HP.out | (rw [Int.mul_comm]; exact HP.out))).mono ?_; rintro e w' ⟨rfl, rfl⟩) | (go_at_call 21; refine (mod_to _ _ M 0 _ (by omega) (by omega) (by omega) (by omega) (HM.out)).mono ?_; rintro e w' ⟨rfl, rfl⟩) | (go_at_call 16; refine (awake_any _ HT.out).mono ?_; rintro e w' ⟨rfl, hb⟩))
            all_goals go_ret
            all_goals exact ⟨rfl, hb⟩
          · have t5 := r2 (by omega)
            clear r1 r2 t1 t2 hz
            go_enter Tryd.func13, Tryd.ntmps13
            go_wp2_with (first | (go_at_call 17; refine (add_to _ _ 0 17 _ (by omega) (by omega) (by omega) (by omega) (by first | exact HS.out | (rw [Int.add_comm]; exact HS.out))).mono ?_; rintro e w' ⟨rfl, rfl⟩) | (go_at_call 24; refine (mul_to _ _ 0 17 _ (by omega) (by omega) (by omega) (by omega) (by first | exact HP.out | (rw [Int.mul_comm]; exact HP.out))).mono ?_; rintro e w' ⟨rfl, rfl⟩) | (go_at_call 21; refine (mod_to _ _ M 0 _ (by omega) (by omega) (by omega) (by omega) (HM.out)).mono ?_; rintro e w' ⟨rfl, rfl⟩) | (go_at_call 16; refine (awake_any _ HT.out).mono ?_; rintro e w' ⟨rfl, hb⟩))
            all_goals go_ret
            all_goals exact ⟨rfl, hb⟩
        · obtain ⟨t3, t4⟩ := t2 (by omega)
          by_cases hp : 0 ≤ a0
          · have t5 := r1 hp
            clear r1 r2 t1 t2 hz
            go_enter Tryd.func13, Tryd.ntmps13
            go_wp2_with (first | (go_at_call 17; refine (add_to _ _ 0 17 _ (by omega) (by omega) (by omega) (by omega) (by first | exact HS.out | (rw [Int.add_comm]; exact HS.out))).mono ?_; rintro e w' ⟨rfl, rfl⟩) | (go_at_call 24; refine (mul_to _ _ 0 17 _ (by omega) (by omega) (by omega) (by omega) (by first | exact HP.out | (rw [Int.mul_comm]; exact HP.out))).mono ?_; rintro e w' ⟨rfl, rfl⟩) | (go_at_call 21; refine (mod_to _ _ M 0 _ (by omega) (by omega) (by omega) (by omega) (HM.out)).mono ?_; rintro e w' ⟨rfl, rfl⟩) | (go_at_call 16; refine (awake_any _ HT.out).mono ?_; rintro e w' ⟨rfl, hb⟩))
            all_goals go_ret
            all_goals exact ⟨rfl, hb⟩
          · have t5 := r2 (by omega)
            clear r1 r2 t1 t2 hz
            go_enter Tryd.func13, Tryd.ntmps13
            go_wp2_with (first | (go_at_call 17; refine (add_to _ _ 0 17 _ (by omega) (by omega) (by omega) (by omega) (by first | exact HS.out | (rw [Int.add_comm]; exact HS.out))).mono ?_; rintro e w' ⟨rfl, rfl⟩) | (go_at_call 24; refine (mul_to _ _ 0 17 _ (by omega) (by omega) (by omega) (by omega) (by first | exact HP.out | (rw [Int.mul_comm]; exact HP.out))).mono ?_; rintro e w' ⟨rfl, rfl⟩) | (go_at_call 21; refine (mod_to _ _ M 0 _ (by omega) (by omega) (by omega) (by omega) (HM.out)).mono ?_; rintro e w' ⟨rfl, rfl⟩) | (go_at_call 16; refine (awake_any _ HT.out).mono ?_; rintro e w' ⟨rfl, hb⟩))
            all_goals go_ret
            all_goals exact ⟨rfl, hb⟩
end Go.Proofs.YtlfiaompjbdcgaaDoor
