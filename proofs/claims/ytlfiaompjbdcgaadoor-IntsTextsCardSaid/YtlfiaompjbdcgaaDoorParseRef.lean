/-
  THE CONTRACT of the document's own Parse: the number that a text tells, or the error.
-/
import Derived.Test.YtlfiaompjbdcgaaDoorParse
import Derived.Test.YtlfiaompjbdcgaaDoorRef
namespace Go.Proofs.YtlfiaompjbdcgaaDoor
open Go.RowKit
set_option linter.unusedVariables false
theorem pf_num {l : List UInt8} (h : isNum (bod l) = false) : pV l = 0 ∧ pE l = 3 := by
  unfold pV pE; rw [h]; exact ⟨rfl, rfl⟩
theorem pt_num {l : List UInt8} (h : isNum (bod l) = true) : pV l = ovV (sgn (isNeg l) (val 0 (bod l))) ∧ pE l = ovE (sgn (isNeg l) (val 0 (bod l))) := by
  unfold pV pE; rw [h]; exact ⟨rfl, rfl⟩
theorem bod_neg (s : ByteArray) (h0 : 0 < s.size) (h : (((s[0]'h0).toNat : Int) == 45) = true) : isNeg s.data.toList = true ∧ bod s.data.toList = (s.extract 1 s.size).data.toList := by
  rw [← ba_get s h0] at h
  have hl := ba_len s
  rw [Lib.extract_data]
  cases hs : s.data.toList with
  | nil => rw [hs] at hl; simp at hl; omega
  | cons c r =>
    simp only [hs, List.getElem_cons_zero] at h
    have hc : c = 45 := by
      have := WalkArith.int_eq h
      exact UInt8.toNat_inj.1 (by rw [show (45 : UInt8).toNat = 45 from rfl]; omega)
    subst hc
    have hn : isNeg (45 :: r) = true := by simp [isNeg]
    refine ⟨hn, ?_⟩
    unfold bod; rw [hn, if_pos rfl]
    rw [hs] at hl; simp at hl
    simp [← hl]
theorem bod_pos (s : ByteArray) (h0 : 0 < s.size) (h : (((s[0]'h0).toNat : Int) == 45) = false) : isNeg s.data.toList = false ∧ bod s.data.toList = s.data.toList := by
  rw [← ba_get s h0] at h
  have hl := ba_len s
  cases hs : s.data.toList with
  | nil => rw [hs] at hl; simp at hl; omega
  | cons c r =>
    simp only [hs, List.getElem_cons_zero] at h
    have hc : c ≠ 45 := by intro e; subst e; simp at h
    have hn : isNeg (c :: r) = false := by simp [isNeg, hc]
    exact ⟨hn, by unfold bod; rw [hn]; rfl⟩
theorem sgn_ten (n : Bool) (v : Nat) : sgn n v * 10 = sgn n (v * 10) := by cases n <;> simp [sgn] <;> omega
theorem sgn_out {n : Bool} {v m : Nat} (h : v ≤ m) (ho : sgn n v < -9223372036854775808 ∨ 9223372036854775807 < sgn n v) : sgn n m < -9223372036854775808 ∨ 9223372036854775807 < sgn n m := by
  cases n <;> simp only [sgn, if_true, if_false, Bool.false_eq_true] at * <;> omega
theorem rparse_neg (s : ByteArray) (w : World) (hs : s.size ≤ 100) (h0 : 0 < s.size) (h1 : (((s[0]'h0).toNat : Int) == 45) = true) :
    Calls Tryd.prog 46 #[.string s] w fun e w' => e = .returned (.tuple #[.int .i64 (pV s.data.toList), .int .i64 (pE s.data.toList)]) ∧ w = w' := by
  have hbo := bod_neg s h0 h1
  have hp1 := @pf_num s.data.toList
  have hp2 := @pt_num s.data.toList
  rw [hbo.2] at hp1 hp2
  rw [hbo.1] at hp2
  have HPF := Lib.hid hp1
  have HPT := Lib.hid hp2
  clear hp1 hp2 hbo
  have hbs : (s.extract 1 s.size).size ≤ 100 := by rw [ByteArray.size_extract]; omega
  go_enter Tryd.func46, Tryd.ntmps46
  go_wp2
  generalize s.extract 1 s.size = b at *
  go_loop [5] (fun i => ∃ k : Nat, k ≤ b.size ∧ i = .int .i64 k ∧ Hid ((b.data.toList.take k).all dig = true)) (fun i => b.size - (intOf i).toNat)
  case atStart => exact ⟨0, Nat.zero_le _, rfl, rfl⟩
  case round =>
    obtain ⟨k, hk, rfl, hd⟩ := hrel
    by_cases hlt : k < b.size
    · have HB : Hid (dig (b[k]) = false → pV s.data.toList = 0 ∧ pE s.data.toList = 3) := by
        intro h; rw [← ba_get b hlt] at h; exact HPF.out (not_num _ h)
      have HG : Hid (dig (b[k]) = true → (b.data.toList.take (k + 1)).all dig = true) := by
        intro h; rw [← ba_get b hlt] at h; exact all_step _ hd.out h
      go_wp2
      all_goals first
        | (go_round
           case rel => exact ⟨k + 1, by omega, by go_num, HG.out (dig_is.2 (by omega))⟩
           case measure => simp [intOf]; omega)
        | (go_ret2
           exact ⟨two (HB.out (by simp only [dig, Bool.and_eq_false_iff, decide_eq_false_iff_not]; omega)), rfl⟩)
    · have hkn : k = b.size := by omega
      have HE : Hid (isNum b.data.toList = !b.toList.isEmpty) := by
        have h := hd.out
        rw [hkn, ← ba_len, List.take_length] at h
        show _ = _
        rw [isNum, h, Bool.and_true, ba_empty]
      clear hkn hd
      cases hem : b.toList.isEmpty
      · have HN : Hid (isNum b.data.toList = true) := by have := HE.out; rw [hem] at this; exact this
        have HT := Lib.hid (HPT.out HN.out)
        clear HE HPF HPT
        go_wp2
        go_loop [6, 7] (fun x i => ∃ (k : Nat) (v : Int), k ≤ b.size ∧ i = .int .i64 k ∧ x = .int .i64 v ∧ -9223372036854775808 ≤ v ∧ v ≤ 9223372036854775807 ∧ Hid (v = sgn true (val 0 (b.data.toList.take k)))) (fun _ i => b.size - (intOf i).toNat)
        case atStart => exact ⟨0, 0, Nat.zero_le _, rfl, rfl, by omega, by omega, (by show _ = _; rw [List.take_zero, val_nil]; rfl)⟩
        case round =>
          obtain ⟨k, v, hk, rfl, rfl, hv, hv', Hv⟩ := hrel
          by_cases hlt : k < b.size
          · obtain ⟨D, hD9, HD, hD⟩ : ∃ D : Nat, D ≤ 9 ∧ Hid (b[k].toNat - 48 = D) ∧ IntKind.u8.wrap ((b[k].toNat : Int) - 48) = (D : Int) := by
              have := @dig_at b.data.toList k (by rw [ba_len]; exact hlt) HN.out
              rw [ba_get b hlt] at this
              exact ⟨b[k].toNat - 48, by omega, rfl, by rw [IntKind.wrap_u8]; omega⟩
            have hp := @val_part b.data.toList k (by rw [ba_len]; exact hlt)
            have ht := @val_take b.data.toList k (by rw [ba_len]; exact hlt)
            rw [ba_get b hlt, HD.out] at ht
            by_cases o1 : -9223372036854775808 ≤ v * 10 ∧ v * 10 ≤ 9223372036854775807
            · have g1 := ov_in o1.1 o1.2
              obtain ⟨g1, g2⟩ := g1
              obtain ⟨o1, o2⟩ := o1
              have hw : v * 10 + -(D : Int) = sgn true (val 0 (b.data.toList.take (k + 1))) := by
                have := Hv.out; rw [this, ht, sgn_ten]; simp [sgn]; try omega
              by_cases o3 : -9223372036854775808 ≤ v * 10 + -(D : Int) ∧ v * 10 + -(D : Int) ≤ 9223372036854775807
              · have q1 := ov_in o3.1 o3.2
                obtain ⟨q1, q2⟩ := q1
                obtain ⟨o3, o4⟩ := o3
                have HW := Lib.hid hw
                clear hw hp ht
                go_wp2_with (first | (go_at_call 31; refine (rmul_any _ _ _ (by omega) (by omega) (by omega) (by omega)).mono ?_; rintro e w' ⟨rfl, rfl⟩) | (go_at_call 27; refine (radd_any _ _ _ (by omega) (by omega) (by omega) (by omega)).mono ?_; rintro e w' ⟨rfl, rfl⟩))
                go_round
                case rel => exact ⟨k + 1, v * 10 + -(D : Int), by omega, by go_num, rfl, o3, o4, HW.out⟩
                case measure => simp [intOf]; omega
              · obtain ⟨q1, q2⟩ := @ov_out (v * 10 + -(D : Int)) (by omega)
                have HF : Hid (pV s.data.toList = 0 ∧ pE s.data.toList = 17) := by
                  have h := HT.out; show _ ∧ _
                  rw [h.1, h.2]; exact ov_out (sgn_out hp.2 (by rw [← hw]; omega))
                clear hw hp ht o3
                go_wp2_with (first | (go_at_call 31; refine (rmul_any _ _ _ (by omega) (by omega) (by omega) (by omega)).mono ?_; rintro e w' ⟨rfl, rfl⟩) | (go_at_call 27; refine (radd_any _ _ _ (by omega) (by omega) (by omega) (by omega)).mono ?_; rintro e w' ⟨rfl, rfl⟩))
                go_ret2
                exact ⟨two HF.out, rfl⟩
            · obtain ⟨q1, q2⟩ := @ov_out (v * 10) (by omega)
              have HF : Hid (pV s.data.toList = 0 ∧ pE s.data.toList = 17) := by
                have h := HT.out; show _ ∧ _
                rw [h.1, h.2]; exact ov_out (sgn_out hp.1 (by rw [← sgn_ten, ← Hv.out]; omega))
              clear hp ht o1
              go_wp2_with (first | (go_at_call 31; refine (rmul_any _ _ _ (by omega) (by omega) (by omega) (by omega)).mono ?_; rintro e w' ⟨rfl, rfl⟩) | (go_at_call 27; refine (radd_any _ _ _ (by omega) (by omega) (by omega) (by omega)).mono ?_; rintro e w' ⟨rfl, rfl⟩))
              go_ret2
              exact ⟨two HF.out, rfl⟩
          · have hkn : k = b.size := by omega
            have HF : Hid (pV s.data.toList = v ∧ pE s.data.toList = 0) := by
              have h := HT.out; have h2 := Hv.out
              rw [hkn, ← ba_len, List.take_length] at h2
              show _ ∧ _
              rw [h.1, h.2, ← h2]; exact ov_in hv hv'
            clear hkn
            go_wp2
            go_ret2
            exact ⟨two HF.out, rfl⟩
      · have HF : Hid (pV s.data.toList = 0 ∧ pE s.data.toList = 3) := HPF.out (by rw [HE.out, hem]; rfl)
        go_wp2
        go_ret2
        exact ⟨two HF.out, rfl⟩
theorem rparse_pos (s : ByteArray) (w : World) (hs : s.size ≤ 100) (h0 : 0 < s.size) (h1 : (((s[0]'h0).toNat : Int) == 45) = false) :
    Calls Tryd.prog 46 #[.string s] w fun e w' => e = .returned (.tuple #[.int .i64 (pV s.data.toList), .int .i64 (pE s.data.toList)]) ∧ w = w' := by
  have hbo := bod_pos s h0 h1
  have hp1 := @pf_num s.data.toList
  have hp2 := @pt_num s.data.toList
  rw [hbo.2] at hp1 hp2
  rw [hbo.1] at hp2
  have HPF := Lib.hid hp1
  have HPT := Lib.hid hp2
  clear hp1 hp2 hbo
  go_enter Tryd.func46, Tryd.ntmps46
  go_wp2
  go_loop [5] (fun i => ∃ k : Nat, k ≤ s.size ∧ i = .int .i64 k ∧ Hid ((s.data.toList.take k).all dig = true)) (fun i => s.size - (intOf i).toNat)
  case atStart => exact ⟨0, Nat.zero_le _, rfl, rfl⟩
  case round =>
    obtain ⟨k, hk, rfl, hd⟩ := hrel
    by_cases hlt : k < s.size
    · have HB : Hid (dig (s[k]) = false → pV s.data.toList = 0 ∧ pE s.data.toList = 3) := by
        intro h; rw [← ba_get s hlt] at h; exact HPF.out (not_num _ h)
      have HG : Hid (dig (s[k]) = true → (s.data.toList.take (k + 1)).all dig = true) := by
        intro h; rw [← ba_get s hlt] at h; exact all_step _ hd.out h
      go_wp2
      all_goals first
        | (go_round
           case rel => exact ⟨k + 1, by omega, by go_num, HG.out (dig_is.2 (by omega))⟩
           case measure => simp [intOf]; omega)
        | (go_ret2
           exact ⟨two (HB.out (by simp only [dig, Bool.and_eq_false_iff, decide_eq_false_iff_not]; omega)), rfl⟩)
    · have hkn : k = s.size := by omega
      have HE : Hid (isNum s.data.toList = !s.toList.isEmpty) := by
        have h := hd.out
        rw [hkn, ← ba_len, List.take_length] at h
        show _ = _
        rw [isNum, h, Bool.and_true, ba_empty]
      clear hkn hd
      cases hem : s.toList.isEmpty
      · have HN : Hid (isNum s.data.toList = true) := by have := HE.out; rw [hem] at this; exact this
        have HT := Lib.hid (HPT.out HN.out)
        clear HE HPF HPT
        go_wp2
        go_loop [6, 7] (fun x i => ∃ (k : Nat) (v : Int), k ≤ s.size ∧ i = .int .i64 k ∧ x = .int .i64 v ∧ -9223372036854775808 ≤ v ∧ v ≤ 9223372036854775807 ∧ Hid (v = sgn false (val 0 (s.data.toList.take k)))) (fun _ i => s.size - (intOf i).toNat)
        case atStart => exact ⟨0, 0, Nat.zero_le _, rfl, rfl, by omega, by omega, (by show _ = _; rw [List.take_zero, val_nil]; rfl)⟩
        case round =>
          obtain ⟨k, v, hk, rfl, rfl, hv, hv', Hv⟩ := hrel
          by_cases hlt : k < s.size
          · obtain ⟨D, hD9, HD, hD⟩ : ∃ D : Nat, D ≤ 9 ∧ Hid (s[k].toNat - 48 = D) ∧ IntKind.u8.wrap ((s[k].toNat : Int) - 48) = (D : Int) := by
              have := @dig_at s.data.toList k (by rw [ba_len]; exact hlt) HN.out
              rw [ba_get s hlt] at this
              exact ⟨s[k].toNat - 48, by omega, rfl, by rw [IntKind.wrap_u8]; omega⟩
            have hp := @val_part s.data.toList k (by rw [ba_len]; exact hlt)
            have ht := @val_take s.data.toList k (by rw [ba_len]; exact hlt)
            rw [ba_get s hlt, HD.out] at ht
            by_cases o1 : -9223372036854775808 ≤ v * 10 ∧ v * 10 ≤ 9223372036854775807
            · have g1 := ov_in o1.1 o1.2
              obtain ⟨g1, g2⟩ := g1
              obtain ⟨o1, o2⟩ := o1
              have hw : v * 10 + (D : Int) = sgn false (val 0 (s.data.toList.take (k + 1))) := by
                have := Hv.out; rw [this, ht, sgn_ten]; simp [sgn]; try omega
              by_cases o3 : -9223372036854775808 ≤ v * 10 + (D : Int) ∧ v * 10 + (D : Int) ≤ 9223372036854775807
              · have q1 := ov_in o3.1 o3.2
                obtain ⟨q1, q2⟩ := q1
                obtain ⟨o3, o4⟩ := o3
                have HW := Lib.hid hw
                clear hw hp ht
                go_wp2_with (first | (go_at_call 31; refine (rmul_any _ _ _ (by omega) (by omega) (by omega) (by omega)).mono ?_; rintro e w' ⟨rfl, rfl⟩) | (go_at_call 27; refine (radd_any _ _ _ (by omega) (by omega) (by omega) (by omega)).mono ?_; rintro e w' ⟨rfl, rfl⟩))
                go_round
                case rel => exact ⟨k + 1, v * 10 + (D : Int), by omega, by go_num, rfl, o3, o4, HW.out⟩
                case measure => simp [intOf]; omega
              · obtain ⟨q1, q2⟩ := @ov_out (v * 10 + (D : Int)) (by omega)
                have HF : Hid (pV s.data.toList = 0 ∧ pE s.data.toList = 17) := by
                  have h := HT.out; show _ ∧ _
                  rw [h.1, h.2]; exact ov_out (sgn_out hp.2 (by rw [← hw]; omega))
                clear hw hp ht o3
                go_wp2_with (first | (go_at_call 31; refine (rmul_any _ _ _ (by omega) (by omega) (by omega) (by omega)).mono ?_; rintro e w' ⟨rfl, rfl⟩) | (go_at_call 27; refine (radd_any _ _ _ (by omega) (by omega) (by omega) (by omega)).mono ?_; rintro e w' ⟨rfl, rfl⟩))
                go_ret2
                exact ⟨two HF.out, rfl⟩
            · obtain ⟨q1, q2⟩ := @ov_out (v * 10) (by omega)
              have HF : Hid (pV s.data.toList = 0 ∧ pE s.data.toList = 17) := by
                have h := HT.out; show _ ∧ _
                rw [h.1, h.2]; exact ov_out (sgn_out hp.1 (by rw [← sgn_ten, ← Hv.out]; omega))
              clear hp ht o1
              go_wp2_with (first | (go_at_call 31; refine (rmul_any _ _ _ (by omega) (by omega) (by omega) (by omega)).mono ?_; rintro e w' ⟨rfl, rfl⟩) | (go_at_call 27; refine (radd_any _ _ _ (by omega) (by omega) (by omega) (by omega)).mono ?_; rintro e w' ⟨rfl, rfl⟩))
              go_ret2
              exact ⟨two HF.out, rfl⟩
          · have hkn : k = s.size := by omega
            have HF : Hid (pV s.data.toList = v ∧ pE s.data.toList = 0) := by
              have h := HT.out; have h2 := Hv.out
              rw [hkn, ← ba_len, List.take_length] at h2
              show _ ∧ _
              rw [h.1, h.2, ← h2]; exact ov_in hv hv'
            clear hkn
            go_wp2
            go_ret2
            exact ⟨two HF.out, rfl⟩
      · have HF : Hid (pV s.data.toList = 0 ∧ pE s.data.toList = 3) := HPF.out (by rw [HE.out, hem]; rfl)
        go_wp2
        go_ret2
        exact ⟨two HF.out, rfl⟩
end Go.Proofs.YtlfiaompjbdcgaaDoor
