/-
  THE WALK of the law TableLongest.
-/
import Derived.Test.YtaabdpfhpolcgaaGreatBLong
namespace Go.Proofs.YtaabdpfhpolcgaaGreat
open Go.RowKit
set_option linter.unusedVariables false
set_option linter.unusedSimpArgs false
set_option maxHeartbeats 4000000 in
set_option maxRecDepth 100000 in
theorem long_tt (x : Int) (w : World) : Calls Tryz.prog 3 #[.int .i64 x, .bool true, .bool true] w fun e w' => e = .returned (.bool true) ∧ Below w.heap.size w w' := by
  have CM2 := Lib.hid (fun w => long_make (x := 28674) (p := 28674) rfl (by omega) (rfl : _ = wd2) w)
  have CM3 := Lib.hid (fun w => long_make (x := 28675) (p := 28675) rfl (by omega) (rfl : _ = wd3) w)
  have W2 := Lib.hid with_long2
  have W3 := Lib.hid (with_long3 true)
  have EC : Hid (checkP (lT true true) = 0) := check_long true true
  have l2 : wd2 < 4294967296 := by decide
  have l3 : wd3 < 4294967296 := by decide
  have L2 : Hid (∀ y ∈ [wd2], y < 4294967296) := fun y hy => by simp at hy; subst hy; exact l2
  have L3 : Hid (∀ y ∈ [wd3], y < 4294967296) := fun y hy => by simp at hy; subst hy; exact l3
  have hand := and_31 x
  obtain ⟨n, hn⟩ : ∃ n : Nat, x % 32 = (n : Int) := ⟨(x % 32).toNat, by omega⟩
  have hn32 : n < 32 := by omega
  rw [hn] at hand
  have hnI : (n : Int) < 32 := by omega
  have HEL := Lib.hid (els_long true true n hn32)
  have HSG := Lib.hid (sgs_long n hn32)
  obtain ⟨E, hE⟩ : ∃ E, xw true true n = E := ⟨_, rfl⟩
  rw [hE] at HEL
  have HE := Lib.hid hE
  clear hn l2 l3 hE
  go_enter Tryz.func3, Tryz.ntmps3
  go_wp2_with (first
    | (go_at_call 9; refine (root_any _).mono ?_; rintro e w1 ⟨p, rfl, ht, hb⟩; have HT := Lib.hid (ht.mono (G := anyB) fun _ _ => trivial); have HB := Lib.hid hb; clear ht hb)
    | (go_at_call 10; (with_reducible refine (CM2.out _).mono ?_); rintro e w2 ⟨⟨Am2, cm2, rfl, hm⟩, hb⟩; have hB := (alloc_below w1 (.cells (iv [97, 97]).toArray 3)); have HM2 := Lib.hid hm; have HI2 := Lib.hid ((ofs_new (w := w1) [97, 97]).below hb (Nat.le_refl _)); have HT2 := Lib.hid ((HT.out.below hB (Nat.le_refl _)).below hb (Nat.le_refl _)); have HB2 := Lib.hid (HB.out.trans ((hB.trans (hb.mono hB.size)).mono HB.out.size)); clear hm hb hB)
    | (go_at_call 12; refine (with_ok (L' := lT true false) (fun _ _ => trivial) HT2.out HI2.out HM2.out L2.out (by simp) (by simp) W2.out lT_two.symm).mono ?_; rintro e w3 ⟨⟨p3, rfl, ht⟩, hb⟩; have HT3 := Lib.hid ht; have HB3 := Lib.hid (HB2.out.trans (hb.mono HB2.out.size)); clear ht hb HT2 HI2 HM2 HB2)
    | (go_at_call 10; (with_reducible refine (CM3.out _).mono ?_); rintro e w4 ⟨⟨Am4, cm4, rfl, hm⟩, hb⟩; have hB := (alloc_below w3 (.cells (iv [97, 97, 97]).toArray 3)); have HM4 := Lib.hid hm; have HI4 := Lib.hid ((ofs_new (w := w3) [97, 97, 97]).below hb (Nat.le_refl _)); have HT4 := Lib.hid ((HT3.out.below hB (Nat.le_refl _)).below hb (Nat.le_refl _)); have HB4 := Lib.hid (HB3.out.trans ((hB.trans (hb.mono hB.size)).mono HB3.out.size)); clear hm hb hB)
    | (go_at_call 12; refine (with_ok (L := lT true false) (L' := lT true true) (fun _ _ => trivial) HT4.out HI4.out HM4.out L3.out (by simp) (by simp) W3.out (lT_three true).symm).mono ?_; rintro e w5 ⟨⟨p5, rfl, ht⟩, hb⟩; have HT5 := Lib.hid ht; have HB5 := Lib.hid (HB4.out.trans (hb.mono HB4.out.size)); clear ht hb HT4 HI4 HM4 HB4))
  have HTT : Hid (TabAt anyB w5 _ (lT true true)) := HT5.out
  have HBB := HB5
  go_loopw [13, 14] (fun t i wr => ∃ (bs : ByteArray) (k : Nat), k ≤ n ∧ t = .string bs ∧ i = .int .i64 (k : Nat) ∧ Hid (bs.data.toList = List.replicate k 97) ∧ Hid (Below w5.heap.size w5 wr)) (fun _ i _ => n - (intOf i).toNat)
  case atStart => exact ⟨_, 0, Nat.zero_le _, rfl, rfl, rfl, Below.refl _ _⟩
  case round =>
    obtain ⟨bs, k, hk, rfl, rfl, HS, HW⟩ := hrel
    have hsz : bs.size = k := by have := congrArg List.length HS.out; simpa using this
    have HSZ := Lib.hid hsz
    by_cases hlt : k < n
    · have hkI : (k : Int) < (n : Int) := by omega
      have hmx : bs.size + (⟨#[97]⟩ : ByteArray).size ≤ maxLen := by rw [hsz]; show k + 1 ≤ maxLen; simp only [maxLen]; omega
      have HN := Lib.hid (rep_snoc bs HS.out)
      clear hlt
      go_wp2
      go_roundw
      case rel => exact ⟨_, k + 1, by omega, rfl, by go_num, HN.out, HW.out⟩
      case measure => simp [intOf]; omega
    · obtain rfl : k = n := by omega
      clear hlt hsz
      have HEL2 : Hid (elsP (lT true true) (T2.sgs bs.data.toList) = E) := by show _ = _; rw [HS.out, HSG.out]; exact HEL.out
      have HBS : Hid (bs.size ≤ 100000) := by have := HSZ.out; show _ ≤ _; omega
      have HTW := Lib.hid (HTT.out.below HW.out (Nat.le_refl _))
      go_wp2_with (go_at_call 13; refine (elements_any HTW.out bs HBS.out).mono ?_; rintro e w6 ⟨v6, rfl, ho, hb⟩; rw [HEL2.out] at ho; obtain ⟨A6, c6, rfl⟩ := ho.form; have HO6 := Lib.hid (ho.rd (F := anyB) fun _ _ => trivial); have HT6 := Lib.hid (HTW.out.below hb (Nat.le_refl _)); have HW6 := Lib.hid (HW.out.trans (hb.mono HW.out.size)); clear ho hb)
      go_loopw [16, 17] (fun u v wr => ∃ a m : Nat, m ≤ k ∧ u = .int .i64 (a : Nat) ∧ v = .int .i64 (m : Nat) ∧ a + m ≤ k ∧ a ≤ E.length ∧ Hid (E.drop a = xw true true m) ∧ Hid (Below w6.heap.size w6 wr)) (fun _ v _ => (intOf v).toNat)
      case atStart => exact ⟨0, k, Nat.le_refl _, rfl, rfl, by omega, Nat.zero_le _, by show E.drop 0 = _; rw [List.drop_zero]; exact HE.out.symm, Below.refl _ _⟩
      case round =>
        obtain ⟨a, m, hm, rfl, rfl, ham, hae, HX, HV⟩ := hrel
        by_cases hlt : 0 < m
        · have hx := HX.out
          rw [xw_step true true hlt] at hx
          have hmI : (0 : Int) < (m : Int) := by omega
          have haI : (a : Int) + (m : Int) < 32 := by omega
          by_cases h33 : 3 ≤ m
          · rw [if_pos ⟨rfl, h33⟩] at hx
            have hm3 : (3 : Int) ≤ (m : Int) := by omega
            obtain ⟨h1, h2, h3⟩ := drop_head hx
            obtain ⟨g, o, rfl, c0⟩ := (HO6.out.below HV.out (Nat.le_refl _)).at h1
            have HD := Lib.hid h2
            have h3I : (a : Int) < (E.length : Int) := by omega
            have h3J : ¬ (E.length : Int) ≤ (a : Int) := by omega
            have hla : ¬ E.length ≤ a := by omega
            have CW := Lib.hid (fun w => weight1_is (x := wd3) (p := 28675) (by decide) (by decide) w)
            obtain ⟨wd, hwd⟩ : ∃ wd, wd3 = wd := ⟨_, rfl⟩
            rw [hwd] at c0 CW
            clear hx h1 h2 hwd hlt
            go_wp2_with (go_at_call 14; refine (CW.out _).mono ?_; rintro e w' ⟨rfl, rfl⟩)
            go_roundw
            case rel => exact ⟨a + 1, m - 3, by omega, by go_num, by go_num, by omega, by omega, HD.out, HV.out⟩
            case measure => simp [intOf]; omega
          · rw [if_neg (fun h => h33 h.2)] at hx
            have hm3 : ¬ (3 : Int) ≤ (m : Int) := by omega
            by_cases h22 : 2 ≤ m
            · rw [if_pos ⟨rfl, h22⟩] at hx
              have hm2 : (2 : Int) ≤ (m : Int) := by omega
              obtain ⟨h1, h2, h3⟩ := drop_head hx
              obtain ⟨g, o, rfl, c0⟩ := (HO6.out.below HV.out (Nat.le_refl _)).at h1
              have HD := Lib.hid h2
              have h3I : (a : Int) < (E.length : Int) := by omega
              have h3J : ¬ (E.length : Int) ≤ (a : Int) := by omega
              have hla : ¬ E.length ≤ a := by omega
              have CW := Lib.hid (fun w => weight1_is (x := wd2) (p := 28674) (by decide) (by decide) w)
              obtain ⟨wd, hwd⟩ : ∃ wd, wd2 = wd := ⟨_, rfl⟩
              rw [hwd] at c0 CW
              clear hx h1 h2 hwd hlt
              go_wp2_with (go_at_call 14; refine (CW.out _).mono ?_; rintro e w' ⟨rfl, rfl⟩)
              go_roundw
              case rel => exact ⟨a + 1, m - 2, by omega, by go_num, by go_num, by omega, by omega, HD.out, HV.out⟩
              case measure => simp [intOf]; omega
            · rw [if_neg (fun h => h22 h.2)] at hx
              have hm2 : ¬ (2 : Int) ≤ (m : Int) := by omega
              obtain ⟨h1, h2, h3⟩ := drop_head hx
              obtain ⟨g, o, rfl, c0⟩ := (HO6.out.below HV.out (Nat.le_refl _)).at h1
              have HD := Lib.hid h2
              have h3I : (a : Int) < (E.length : Int) := by omega
              have h3J : ¬ (E.length : Int) ≤ (a : Int) := by omega
              have hla : ¬ E.length ≤ a := by omega
              have CW := Lib.hid (fun w => weight1_is (x := letW 97) (p := 256) (by decide) (by decide) w)
              obtain ⟨wd, hwd⟩ : ∃ wd, letW 97 = wd := ⟨_, rfl⟩
              rw [hwd] at c0 CW
              clear hx h1 h2 hwd hlt
              go_wp2_with (go_at_call 14; refine (CW.out _).mono ?_; rintro e w' ⟨rfl, rfl⟩)
              go_roundw
              case rel => exact ⟨a + 1, m - 1, by omega, by go_num, by go_num, by omega, by omega, HD.out, HV.out⟩
              case measure => simp [intOf]; omega
        · obtain rfl : m = 0 := by omega
          have hx := HX.out
          rw [xw_zero, List.drop_eq_nil_iff] at hx
          have hlen : E.length = a := by omega
          rw [hlen]
          clear hx hlen hae ham hlt
          go_wp2_with (first | (go_at_call 15; refine (check_any (HT6.out.below HV.out (Nat.le_refl _)) EC.out).mono ?_; rintro e w7 ⟨rfl, hb⟩; have HB7 := Lib.hid (HV.out.trans (hb.mono HV.out.size)); clear hb) | (go_at_call 16; refine (awake_any _).mono ?_; rintro e w8 ⟨rfl, hb⟩; have HB8 := Lib.hid (HB7.out.trans (hb.mono HB7.out.size)); clear hb))
          go_ret
          have h1 := HBB.out.trans (HW6.out.mono HBB.out.size)
          exact ⟨rfl, h1.trans (HB8.out.mono h1.size)⟩
set_option maxHeartbeats 4000000 in
set_option maxRecDepth 100000 in
theorem long_tf (x : Int) (w : World) : Calls Tryz.prog 3 #[.int .i64 x, .bool true, .bool false] w fun e w' => e = .returned (.bool true) ∧ Below w.heap.size w w' := by
  have CM2 := Lib.hid (fun w => long_make (x := 28674) (p := 28674) rfl (by omega) (rfl : _ = wd2) w)
  have CM3 := Lib.hid (fun w => long_make (x := 28675) (p := 28675) rfl (by omega) (rfl : _ = wd3) w)
  have W2 := Lib.hid with_long2
  have W3 := Lib.hid (with_long3 true)
  have EC : Hid (checkP (lT true false) = 0) := check_long true false
  have l2 : wd2 < 4294967296 := by decide
  have l3 : wd3 < 4294967296 := by decide
  have L2 : Hid (∀ y ∈ [wd2], y < 4294967296) := fun y hy => by simp at hy; subst hy; exact l2
  have L3 : Hid (∀ y ∈ [wd3], y < 4294967296) := fun y hy => by simp at hy; subst hy; exact l3
  have hand := and_31 x
  obtain ⟨n, hn⟩ : ∃ n : Nat, x % 32 = (n : Int) := ⟨(x % 32).toNat, by omega⟩
  have hn32 : n < 32 := by omega
  rw [hn] at hand
  have hnI : (n : Int) < 32 := by omega
  have HEL := Lib.hid (els_long true false n hn32)
  have HSG := Lib.hid (sgs_long n hn32)
  obtain ⟨E, hE⟩ : ∃ E, xw true false n = E := ⟨_, rfl⟩
  rw [hE] at HEL
  have HE := Lib.hid hE
  clear hn l2 l3 hE
  go_enter Tryz.func3, Tryz.ntmps3
  go_wp2_with (first
    | (go_at_call 9; refine (root_any _).mono ?_; rintro e w1 ⟨p, rfl, ht, hb⟩; have HT := Lib.hid (ht.mono (G := anyB) fun _ _ => trivial); have HB := Lib.hid hb; clear ht hb)
    | (go_at_call 10; (with_reducible refine (CM2.out _).mono ?_); rintro e w2 ⟨⟨Am2, cm2, rfl, hm⟩, hb⟩; have hB := (alloc_below w1 (.cells (iv [97, 97]).toArray 3)); have HM2 := Lib.hid hm; have HI2 := Lib.hid ((ofs_new (w := w1) [97, 97]).below hb (Nat.le_refl _)); have HT2 := Lib.hid ((HT.out.below hB (Nat.le_refl _)).below hb (Nat.le_refl _)); have HB2 := Lib.hid (HB.out.trans ((hB.trans (hb.mono hB.size)).mono HB.out.size)); clear hm hb hB)
    | (go_at_call 12; refine (with_ok (L' := lT true false) (fun _ _ => trivial) HT2.out HI2.out HM2.out L2.out (by simp) (by simp) W2.out lT_two.symm).mono ?_; rintro e w3 ⟨⟨p3, rfl, ht⟩, hb⟩; have HT3 := Lib.hid ht; have HB3 := Lib.hid (HB2.out.trans (hb.mono HB2.out.size)); clear ht hb HT2 HI2 HM2 HB2))
  have HTT : Hid (TabAt anyB w3 _ (lT true false)) := HT3.out
  have HBB := HB3
  go_loopw [13, 14] (fun t i wr => ∃ (bs : ByteArray) (k : Nat), k ≤ n ∧ t = .string bs ∧ i = .int .i64 (k : Nat) ∧ Hid (bs.data.toList = List.replicate k 97) ∧ Hid (Below w3.heap.size w3 wr)) (fun _ i _ => n - (intOf i).toNat)
  case atStart => exact ⟨_, 0, Nat.zero_le _, rfl, rfl, rfl, Below.refl _ _⟩
  case round =>
    obtain ⟨bs, k, hk, rfl, rfl, HS, HW⟩ := hrel
    have hsz : bs.size = k := by have := congrArg List.length HS.out; simpa using this
    have HSZ := Lib.hid hsz
    by_cases hlt : k < n
    · have hkI : (k : Int) < (n : Int) := by omega
      have hmx : bs.size + (⟨#[97]⟩ : ByteArray).size ≤ maxLen := by rw [hsz]; show k + 1 ≤ maxLen; simp only [maxLen]; omega
      have HN := Lib.hid (rep_snoc bs HS.out)
      clear hlt
      go_wp2
      go_roundw
      case rel => exact ⟨_, k + 1, by omega, rfl, by go_num, HN.out, HW.out⟩
      case measure => simp [intOf]; omega
    · obtain rfl : k = n := by omega
      clear hlt hsz
      have HEL2 : Hid (elsP (lT true false) (T2.sgs bs.data.toList) = E) := by show _ = _; rw [HS.out, HSG.out]; exact HEL.out
      have HBS : Hid (bs.size ≤ 100000) := by have := HSZ.out; show _ ≤ _; omega
      have HTW := Lib.hid (HTT.out.below HW.out (Nat.le_refl _))
      go_wp2_with (go_at_call 13; refine (elements_any HTW.out bs HBS.out).mono ?_; rintro e w6 ⟨v6, rfl, ho, hb⟩; rw [HEL2.out] at ho; obtain ⟨A6, c6, rfl⟩ := ho.form; have HO6 := Lib.hid (ho.rd (F := anyB) fun _ _ => trivial); have HT6 := Lib.hid (HTW.out.below hb (Nat.le_refl _)); have HW6 := Lib.hid (HW.out.trans (hb.mono HW.out.size)); clear ho hb)
      go_loopw [16, 17] (fun u v wr => ∃ a m : Nat, m ≤ k ∧ u = .int .i64 (a : Nat) ∧ v = .int .i64 (m : Nat) ∧ a + m ≤ k ∧ a ≤ E.length ∧ Hid (E.drop a = xw true false m) ∧ Hid (Below w6.heap.size w6 wr)) (fun _ v _ => (intOf v).toNat)
      case atStart => exact ⟨0, k, Nat.le_refl _, rfl, rfl, by omega, Nat.zero_le _, by show E.drop 0 = _; rw [List.drop_zero]; exact HE.out.symm, Below.refl _ _⟩
      case round =>
        obtain ⟨a, m, hm, rfl, rfl, ham, hae, HX, HV⟩ := hrel
        by_cases hlt : 0 < m
        · have hx := HX.out
          rw [xw_step true false hlt] at hx
          have hmI : (0 : Int) < (m : Int) := by omega
          have haI : (a : Int) + (m : Int) < 32 := by omega
          rw [if_neg (fun h => Bool.noConfusion h.1)] at hx
          by_cases h22 : 2 ≤ m
          · rw [if_pos ⟨rfl, h22⟩] at hx
            have hm2 : (2 : Int) ≤ (m : Int) := by omega
            obtain ⟨h1, h2, h3⟩ := drop_head hx
            obtain ⟨g, o, rfl, c0⟩ := (HO6.out.below HV.out (Nat.le_refl _)).at h1
            have HD := Lib.hid h2
            have h3I : (a : Int) < (E.length : Int) := by omega
            have h3J : ¬ (E.length : Int) ≤ (a : Int) := by omega
            have hla : ¬ E.length ≤ a := by omega
            have CW := Lib.hid (fun w => weight1_is (x := wd2) (p := 28674) (by decide) (by decide) w)
            obtain ⟨wd, hwd⟩ : ∃ wd, wd2 = wd := ⟨_, rfl⟩
            rw [hwd] at c0 CW
            clear hx h1 h2 hwd hlt
            go_wp2_with (go_at_call 14; refine (CW.out _).mono ?_; rintro e w' ⟨rfl, rfl⟩)
            go_roundw
            case rel => exact ⟨a + 1, m - 2, by omega, by go_num, by go_num, by omega, by omega, HD.out, HV.out⟩
            case measure => simp [intOf]; omega
          · rw [if_neg (fun h => h22 h.2)] at hx
            have hm2 : ¬ (2 : Int) ≤ (m : Int) := by omega
            obtain ⟨h1, h2, h3⟩ := drop_head hx
            obtain ⟨g, o, rfl, c0⟩ := (HO6.out.below HV.out (Nat.le_refl _)).at h1
            have HD := Lib.hid h2
            have h3I : (a : Int) < (E.length : Int) := by omega
            have h3J : ¬ (E.length : Int) ≤ (a : Int) := by omega
            have hla : ¬ E.length ≤ a := by omega
            have CW := Lib.hid (fun w => weight1_is (x := letW 97) (p := 256) (by decide) (by decide) w)
            obtain ⟨wd, hwd⟩ : ∃ wd, letW 97 = wd := ⟨_, rfl⟩
            rw [hwd] at c0 CW
            clear hx h1 h2 hwd hlt
            go_wp2_with (go_at_call 14; refine (CW.out _).mono ?_; rintro e w' ⟨rfl, rfl⟩)
            go_roundw
            case rel => exact ⟨a + 1, m - 1, by omega, by go_num, by go_num, by omega, by omega, HD.out, HV.out⟩
            case measure => simp [intOf]; omega
        · obtain rfl : m = 0 := by omega
          have hx := HX.out
          rw [xw_zero, List.drop_eq_nil_iff] at hx
          have hlen : E.length = a := by omega
          rw [hlen]
          clear hx hlen hae ham hlt
          go_wp2_with (first | (go_at_call 15; refine (check_any (HT6.out.below HV.out (Nat.le_refl _)) EC.out).mono ?_; rintro e w7 ⟨rfl, hb⟩; have HB7 := Lib.hid (HV.out.trans (hb.mono HV.out.size)); clear hb) | (go_at_call 16; refine (awake_any _).mono ?_; rintro e w8 ⟨rfl, hb⟩; have HB8 := Lib.hid (HB7.out.trans (hb.mono HB7.out.size)); clear hb))
          go_ret
          have h1 := HBB.out.trans (HW6.out.mono HBB.out.size)
          exact ⟨rfl, h1.trans (HB8.out.mono h1.size)⟩
set_option maxHeartbeats 4000000 in
set_option maxRecDepth 100000 in
theorem long_ft (x : Int) (w : World) : Calls Tryz.prog 3 #[.int .i64 x, .bool false, .bool true] w fun e w' => e = .returned (.bool true) ∧ Below w.heap.size w w' := by
  have CM2 := Lib.hid (fun w => long_make (x := 28674) (p := 28674) rfl (by omega) (rfl : _ = wd2) w)
  have CM3 := Lib.hid (fun w => long_make (x := 28675) (p := 28675) rfl (by omega) (rfl : _ = wd3) w)
  have W2 := Lib.hid with_long2
  have W3 := Lib.hid (with_long3 false)
  have EC : Hid (checkP (lT false true) = 3) := check_long false true
  have l2 : wd2 < 4294967296 := by decide
  have l3 : wd3 < 4294967296 := by decide
  have L2 : Hid (∀ y ∈ [wd2], y < 4294967296) := fun y hy => by simp at hy; subst hy; exact l2
  have L3 : Hid (∀ y ∈ [wd3], y < 4294967296) := fun y hy => by simp at hy; subst hy; exact l3
  have hand := and_31 x
  obtain ⟨n, hn⟩ : ∃ n : Nat, x % 32 = (n : Int) := ⟨(x % 32).toNat, by omega⟩
  have hn32 : n < 32 := by omega
  rw [hn] at hand
  have hnI : (n : Int) < 32 := by omega
  have HEL := Lib.hid (els_long false true n hn32)
  have HSG := Lib.hid (sgs_long n hn32)
  obtain ⟨E, hE⟩ : ∃ E, xw false true n = E := ⟨_, rfl⟩
  rw [hE] at HEL
  have HE := Lib.hid hE
  clear hn l2 l3 hE
  go_enter Tryz.func3, Tryz.ntmps3
  go_wp2_with (first
    | (go_at_call 9; refine (root_any _).mono ?_; rintro e w1 ⟨p, rfl, ht, hb⟩; have HT : Hid (TabAt anyB w1 p (lT false false)) := (by rw [lT_none]; exact ht.mono (G := anyB) fun _ _ => trivial); have HB := Lib.hid hb; clear ht hb)
    | (go_at_call 10; (with_reducible refine (CM3.out _).mono ?_); rintro e w4 ⟨⟨Am4, cm4, rfl, hm⟩, hb⟩; have hB := (alloc_below w1 (.cells (iv [97, 97, 97]).toArray 3)); have HM4 := Lib.hid hm; have HI4 := Lib.hid ((ofs_new (w := w1) [97, 97, 97]).below hb (Nat.le_refl _)); have HT4 := Lib.hid ((HT.out.below hB (Nat.le_refl _)).below hb (Nat.le_refl _)); have HB4 := Lib.hid (HB.out.trans ((hB.trans (hb.mono hB.size)).mono HB.out.size)); clear hm hb hB)
    | (go_at_call 12; refine (with_ok (L := lT false false) (L' := lT false true) (fun _ _ => trivial) HT4.out HI4.out HM4.out L3.out (by simp) (by simp) W3.out (lT_three false).symm).mono ?_; rintro e w5 ⟨⟨p5, rfl, ht⟩, hb⟩; have HT5 := Lib.hid ht; have HB5 := Lib.hid (HB4.out.trans (hb.mono HB4.out.size)); clear ht hb HT4 HI4 HM4 HB4))
  have HTT : Hid (TabAt anyB w5 _ (lT false true)) := HT5.out
  have HBB := HB5
  go_loopw [13, 14] (fun t i wr => ∃ (bs : ByteArray) (k : Nat), k ≤ n ∧ t = .string bs ∧ i = .int .i64 (k : Nat) ∧ Hid (bs.data.toList = List.replicate k 97) ∧ Hid (Below w5.heap.size w5 wr)) (fun _ i _ => n - (intOf i).toNat)
  case atStart => exact ⟨_, 0, Nat.zero_le _, rfl, rfl, rfl, Below.refl _ _⟩
  case round =>
    obtain ⟨bs, k, hk, rfl, rfl, HS, HW⟩ := hrel
    have hsz : bs.size = k := by have := congrArg List.length HS.out; simpa using this
    have HSZ := Lib.hid hsz
    by_cases hlt : k < n
    · have hkI : (k : Int) < (n : Int) := by omega
      have hmx : bs.size + (⟨#[97]⟩ : ByteArray).size ≤ maxLen := by rw [hsz]; show k + 1 ≤ maxLen; simp only [maxLen]; omega
      have HN := Lib.hid (rep_snoc bs HS.out)
      clear hlt
      go_wp2
      go_roundw
      case rel => exact ⟨_, k + 1, by omega, rfl, by go_num, HN.out, HW.out⟩
      case measure => simp [intOf]; omega
    · obtain rfl : k = n := by omega
      clear hlt hsz
      have HEL2 : Hid (elsP (lT false true) (T2.sgs bs.data.toList) = E) := by show _ = _; rw [HS.out, HSG.out]; exact HEL.out
      have HBS : Hid (bs.size ≤ 100000) := by have := HSZ.out; show _ ≤ _; omega
      have HTW := Lib.hid (HTT.out.below HW.out (Nat.le_refl _))
      go_wp2_with (go_at_call 13; refine (elements_any HTW.out bs HBS.out).mono ?_; rintro e w6 ⟨v6, rfl, ho, hb⟩; rw [HEL2.out] at ho; obtain ⟨A6, c6, rfl⟩ := ho.form; have HO6 := Lib.hid (ho.rd (F := anyB) fun _ _ => trivial); have HT6 := Lib.hid (HTW.out.below hb (Nat.le_refl _)); have HW6 := Lib.hid (HW.out.trans (hb.mono HW.out.size)); clear ho hb)
      go_loopw [16, 17] (fun u v wr => ∃ a m : Nat, m ≤ k ∧ u = .int .i64 (a : Nat) ∧ v = .int .i64 (m : Nat) ∧ a + m ≤ k ∧ a ≤ E.length ∧ Hid (E.drop a = xw false true m) ∧ Hid (Below w6.heap.size w6 wr)) (fun _ v _ => (intOf v).toNat)
      case atStart => exact ⟨0, k, Nat.le_refl _, rfl, rfl, by omega, Nat.zero_le _, by show E.drop 0 = _; rw [List.drop_zero]; exact HE.out.symm, Below.refl _ _⟩
      case round =>
        obtain ⟨a, m, hm, rfl, rfl, ham, hae, HX, HV⟩ := hrel
        by_cases hlt : 0 < m
        · have hx := HX.out
          rw [xw_step false true hlt] at hx
          have hmI : (0 : Int) < (m : Int) := by omega
          have haI : (a : Int) + (m : Int) < 32 := by omega
          by_cases h33 : 3 ≤ m
          · rw [if_pos ⟨rfl, h33⟩] at hx
            have hm3 : (3 : Int) ≤ (m : Int) := by omega
            obtain ⟨h1, h2, h3⟩ := drop_head hx
            obtain ⟨g, o, rfl, c0⟩ := (HO6.out.below HV.out (Nat.le_refl _)).at h1
            have HD := Lib.hid h2
            have h3I : (a : Int) < (E.length : Int) := by omega
            have h3J : ¬ (E.length : Int) ≤ (a : Int) := by omega
            have hla : ¬ E.length ≤ a := by omega
            have CW := Lib.hid (fun w => weight1_is (x := wd3) (p := 28675) (by decide) (by decide) w)
            obtain ⟨wd, hwd⟩ : ∃ wd, wd3 = wd := ⟨_, rfl⟩
            rw [hwd] at c0 CW
            clear hx h1 h2 hwd hlt
            go_wp2_with (go_at_call 14; refine (CW.out _).mono ?_; rintro e w' ⟨rfl, rfl⟩)
            go_roundw
            case rel => exact ⟨a + 1, m - 3, by omega, by go_num, by go_num, by omega, by omega, HD.out, HV.out⟩
            case measure => simp [intOf]; omega
          · rw [if_neg (fun h => h33 h.2)] at hx
            have hm3 : ¬ (3 : Int) ≤ (m : Int) := by omega
            rw [if_neg (fun h => Bool.noConfusion h.1)] at hx
            obtain ⟨h1, h2, h3⟩ := drop_head hx
            obtain ⟨g, o, rfl, c0⟩ := (HO6.out.below HV.out (Nat.le_refl _)).at h1
            have HD := Lib.hid h2
            have h3I : (a : Int) < (E.length : Int) := by omega
            have h3J : ¬ (E.length : Int) ≤ (a : Int) := by omega
            have hla : ¬ E.length ≤ a := by omega
            have CW := Lib.hid (fun w => weight1_is (x := letW 97) (p := 256) (by decide) (by decide) w)
            obtain ⟨wd, hwd⟩ : ∃ wd, letW 97 = wd := ⟨_, rfl⟩
            rw [hwd] at c0 CW
            clear hx h1 h2 hwd hlt
            go_wp2_with (go_at_call 14; refine (CW.out _).mono ?_; rintro e w' ⟨rfl, rfl⟩)
            go_roundw
            case rel => exact ⟨a + 1, m - 1, by omega, by go_num, by go_num, by omega, by omega, HD.out, HV.out⟩
            case measure => simp [intOf]; omega
        · obtain rfl : m = 0 := by omega
          have hx := HX.out
          rw [xw_zero, List.drop_eq_nil_iff] at hx
          have hlen : E.length = a := by omega
          rw [hlen]
          clear hx hlen hae ham hlt
          go_wp2_with (first | (go_at_call 15; refine (check_any (HT6.out.below HV.out (Nat.le_refl _)) EC.out).mono ?_; rintro e w7 ⟨rfl, hb⟩; have HB7 := Lib.hid (HV.out.trans (hb.mono HV.out.size)); clear hb) | (go_at_call 16; refine (awake_any _).mono ?_; rintro e w8 ⟨rfl, hb⟩; have HB8 := Lib.hid (HB7.out.trans (hb.mono HB7.out.size)); clear hb))
          go_ret
          have h1 := HBB.out.trans (HW6.out.mono HBB.out.size)
          exact ⟨rfl, h1.trans (HB8.out.mono h1.size)⟩
set_option maxHeartbeats 4000000 in
set_option maxRecDepth 100000 in
theorem long_ff (x : Int) (w : World) : Calls Tryz.prog 3 #[.int .i64 x, .bool false, .bool false] w fun e w' => e = .returned (.bool true) ∧ Below w.heap.size w w' := by
  have CM2 := Lib.hid (fun w => long_make (x := 28674) (p := 28674) rfl (by omega) (rfl : _ = wd2) w)
  have CM3 := Lib.hid (fun w => long_make (x := 28675) (p := 28675) rfl (by omega) (rfl : _ = wd3) w)
  have W2 := Lib.hid with_long2
  have W3 := Lib.hid (with_long3 false)
  have EC : Hid (checkP (lT false false) = 0) := check_long false false
  have l2 : wd2 < 4294967296 := by decide
  have l3 : wd3 < 4294967296 := by decide
  have L2 : Hid (∀ y ∈ [wd2], y < 4294967296) := fun y hy => by simp at hy; subst hy; exact l2
  have L3 : Hid (∀ y ∈ [wd3], y < 4294967296) := fun y hy => by simp at hy; subst hy; exact l3
  have hand := and_31 x
  obtain ⟨n, hn⟩ : ∃ n : Nat, x % 32 = (n : Int) := ⟨(x % 32).toNat, by omega⟩
  have hn32 : n < 32 := by omega
  rw [hn] at hand
  have hnI : (n : Int) < 32 := by omega
  have HEL := Lib.hid (els_long false false n hn32)
  have HSG := Lib.hid (sgs_long n hn32)
  obtain ⟨E, hE⟩ : ∃ E, xw false false n = E := ⟨_, rfl⟩
  rw [hE] at HEL
  have HE := Lib.hid hE
  clear hn l2 l3 hE
  go_enter Tryz.func3, Tryz.ntmps3
  go_wp2_with (first
    | (go_at_call 9; refine (root_any _).mono ?_; rintro e w1 ⟨p, rfl, ht, hb⟩; have HT : Hid (TabAt anyB w1 p (lT false false)) := (by rw [lT_none]; exact ht.mono (G := anyB) fun _ _ => trivial); have HB := Lib.hid hb; clear ht hb))
  have HTT : Hid (TabAt anyB w1 _ (lT false false)) := HT.out
  have HBB := HB
  go_loopw [13, 14] (fun t i wr => ∃ (bs : ByteArray) (k : Nat), k ≤ n ∧ t = .string bs ∧ i = .int .i64 (k : Nat) ∧ Hid (bs.data.toList = List.replicate k 97) ∧ Hid (Below w1.heap.size w1 wr)) (fun _ i _ => n - (intOf i).toNat)
  case atStart => exact ⟨_, 0, Nat.zero_le _, rfl, rfl, rfl, Below.refl _ _⟩
  case round =>
    obtain ⟨bs, k, hk, rfl, rfl, HS, HW⟩ := hrel
    have hsz : bs.size = k := by have := congrArg List.length HS.out; simpa using this
    have HSZ := Lib.hid hsz
    by_cases hlt : k < n
    · have hkI : (k : Int) < (n : Int) := by omega
      have hmx : bs.size + (⟨#[97]⟩ : ByteArray).size ≤ maxLen := by rw [hsz]; show k + 1 ≤ maxLen; simp only [maxLen]; omega
      have HN := Lib.hid (rep_snoc bs HS.out)
      clear hlt
      go_wp2
      go_roundw
      case rel => exact ⟨_, k + 1, by omega, rfl, by go_num, HN.out, HW.out⟩
      case measure => simp [intOf]; omega
    · obtain rfl : k = n := by omega
      clear hlt hsz
      have HEL2 : Hid (elsP (lT false false) (T2.sgs bs.data.toList) = E) := by show _ = _; rw [HS.out, HSG.out]; exact HEL.out
      have HBS : Hid (bs.size ≤ 100000) := by have := HSZ.out; show _ ≤ _; omega
      have HTW := Lib.hid (HTT.out.below HW.out (Nat.le_refl _))
      go_wp2_with (go_at_call 13; refine (elements_any HTW.out bs HBS.out).mono ?_; rintro e w6 ⟨v6, rfl, ho, hb⟩; rw [HEL2.out] at ho; obtain ⟨A6, c6, rfl⟩ := ho.form; have HO6 := Lib.hid (ho.rd (F := anyB) fun _ _ => trivial); have HT6 := Lib.hid (HTW.out.below hb (Nat.le_refl _)); have HW6 := Lib.hid (HW.out.trans (hb.mono HW.out.size)); clear ho hb)
      go_loopw [16, 17] (fun u v wr => ∃ a m : Nat, m ≤ k ∧ u = .int .i64 (a : Nat) ∧ v = .int .i64 (m : Nat) ∧ a + m ≤ k ∧ a ≤ E.length ∧ Hid (E.drop a = xw false false m) ∧ Hid (Below w6.heap.size w6 wr)) (fun _ v _ => (intOf v).toNat)
      case atStart => exact ⟨0, k, Nat.le_refl _, rfl, rfl, by omega, Nat.zero_le _, by show E.drop 0 = _; rw [List.drop_zero]; exact HE.out.symm, Below.refl _ _⟩
      case round =>
        obtain ⟨a, m, hm, rfl, rfl, ham, hae, HX, HV⟩ := hrel
        by_cases hlt : 0 < m
        · have hx := HX.out
          rw [xw_step false false hlt] at hx
          have hmI : (0 : Int) < (m : Int) := by omega
          have haI : (a : Int) + (m : Int) < 32 := by omega
          rw [if_neg (fun h => Bool.noConfusion h.1)] at hx
          rw [if_neg (fun h => Bool.noConfusion h.1)] at hx
          obtain ⟨h1, h2, h3⟩ := drop_head hx
          obtain ⟨g, o, rfl, c0⟩ := (HO6.out.below HV.out (Nat.le_refl _)).at h1
          have HD := Lib.hid h2
          have h3I : (a : Int) < (E.length : Int) := by omega
          have h3J : ¬ (E.length : Int) ≤ (a : Int) := by omega
          have hla : ¬ E.length ≤ a := by omega
          have CW := Lib.hid (fun w => weight1_is (x := letW 97) (p := 256) (by decide) (by decide) w)
          obtain ⟨wd, hwd⟩ : ∃ wd, letW 97 = wd := ⟨_, rfl⟩
          rw [hwd] at c0 CW
          clear hx h1 h2 hwd hlt
          go_wp2_with (go_at_call 14; refine (CW.out _).mono ?_; rintro e w' ⟨rfl, rfl⟩)
          go_roundw
          case rel => exact ⟨a + 1, m - 1, by omega, by go_num, by go_num, by omega, by omega, HD.out, HV.out⟩
          case measure => simp [intOf]; omega
        · obtain rfl : m = 0 := by omega
          have hx := HX.out
          rw [xw_zero, List.drop_eq_nil_iff] at hx
          have hlen : E.length = a := by omega
          rw [hlen]
          clear hx hlen hae ham hlt
          go_wp2_with (first | (go_at_call 15; refine (check_any (HT6.out.below HV.out (Nat.le_refl _)) EC.out).mono ?_; rintro e w7 ⟨rfl, hb⟩; have HB7 := Lib.hid (HV.out.trans (hb.mono HV.out.size)); clear hb) | (go_at_call 16; refine (awake_any _).mono ?_; rintro e w8 ⟨rfl, hb⟩; have HB8 := Lib.hid (HB7.out.trans (hb.mono HB7.out.size)); clear hb))
          go_ret
          have h1 := HBB.out.trans (HW6.out.mono HBB.out.size)
          exact ⟨rfl, h1.trans (HB8.out.mono h1.size)⟩
theorem tableLongest_walk (x : Int) (two three : Bool) (w : World) (h0 : (Lit.int .i64 x).wf = true) : Calls Tryz.prog 3 #[.int .i64 x, .bool two, .bool three] w fun e w' => e = .returned (.bool true) ∧ Below w.heap.size w w' := by
  cases two <;> cases three
  · exact long_ff x w
  · exact long_ft x w
  · exact long_tf x w
  · exact long_tt x w
end Go.Proofs.YtaabdpfhpolcgaaGreat
