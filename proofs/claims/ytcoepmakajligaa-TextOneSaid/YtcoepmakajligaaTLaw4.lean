/-
  THE WALK of the law TextOne.
-/
import Derived.Test.YtcoepmakajligaaTLaw1
import Derived.Laws.Runes
namespace Go.Proofs.Ytcoepmakajligaa
open Go.RowKit
set_option linter.unusedVariables false
set_option linter.unusedSimpArgs false
theorem enc_one {c : Int} (h : isPt c = true) : Utf8.encode c = ⟨(one c.toNat).toArray⟩ := by
  have hb := isPt_iff.1 h
  have hv : Utf8.valid c = true := by unfold Utf8.valid; simp; omega
  unfold Utf8.encode
  simp only [hv, if_true]
  by_cases h1 : c.toNat < 128
  · rw [if_pos h1, one_1 h1]
  rw [if_neg h1]
  by_cases h2 : c.toNat < 2048
  · rw [if_pos h2, one_2 h1 h2]
  rw [if_neg h2]
  by_cases h3 : c.toNat < 65536
  · rw [if_pos h3, one_3 h2 h3]
  · rw [if_neg h3, one_4 h3 (by omega)]
theorem sgs_byte (x : UInt8) : sgs [x] = [if x.toNat < 128 then (x.toNat : Int) else 1114112 + x.toNat] := by
  have e : ∀ k, (dec [x]).2 = k → 1 ≤ k → sgs [x] = [((dec [x]).1 : Int)] := fun k hk h1 => by
    rw [sgs_cons (by simp), hk, List.drop_of_length_le (by simp; omega), sgs_nil]
  by_cases h : x.toNat < 128
  · have hd : dec [x] = (x.toNat, 1) := by unfold dec; rw [gb_cons0, if_pos h]
    rw [e 1 (by rw [hd]) (by omega), hd, if_pos h]
  · have hd : dec [x] = (1114112 + x.toNat, 1) := by
      have := dec_bad (l := [x]) (by rw [gb_cons0]; omega) (not2 (by simp)) (not3 (by simp)) (not4 (by simp))
      rw [this, gb_cons0]
    rw [e 1 (by rw [hd]) (by omega), hd, if_neg h]; simp
theorem sgs_one {c : Int} (h : isSg c = true) : sgs (one c.toNat) = [c] := by
  by_cases hp : isPt c = true
  · have hb := isPt_iff.1 hp
    have hc : ((c.toNat : Nat) : Int) = c := pt_cast hp
    have hd := dec_one (c := c.toNat) (by rw [hc]; exact hp) []
    rw [List.append_nil] at hd
    have hne : one c.toNat ≠ [] := by
      intro e; have := one_len c.toNat; rw [e] at this; simp at this
    rw [sgs_cons hne, hd, List.drop_length, sgs_nil, hc]
  · have hb : 1114240 ≤ c ∧ c ≤ 1114367 := by simpa [isSg, hp] using h
    rw [one_raw (by omega), sgs_byte, to_ofNat (by omega), if_neg (by omega)]
    congr 1; omega
theorem byt_one_yes {c : Int} (h : isSg c = true) : bytL [c] = one c.toNat ∧ bytE [c] = 0 := by
  have hj : joinS [c] = one c.toNat := by simp [joinS]
  have := byt_good (l := [c]) (by simp [h]) (by rw [hj, sgs_one h]; simp)
  rw [hj] at this; exact this
theorem byt_one_no {c : Int} (h : isSg c = false) : (⟨(bytL [c]).toArray⟩ : ByteArray) = ⟨#[]⟩ ∧ bytE [c] = 1 := by
  have := byt_arg (l := [c]) (k := 0) (by simp) (by simpa using h)
  rw [this.1]; exact ⟨rfl, this.2⟩
theorem sg_no {c : Int} (h : c < 0 ∨ (55296 ≤ c ∧ c ≤ 57343) ∨ (1114112 ≤ c ∧ c ≤ 1114239) ∨ 1114367 < c) : isSg c = false := by
  unfold isSg isPt; simp; omega
/-- What the rest of the law asks of the byte, as one place. -/
structure ByteIs (n : Nat) (T : ByteArray) (x : Int) : Prop where
  conv : ∀ w : World, (convert 41 9 (.slice (some ⟨w.heap.size, 0, none⟩) 1 1)).run Try.prog (w.alloc (.cells #[.int .u8 (n : Int)] 5)) = .ok (.string T) (w.alloc (.cells #[.int .u8 (n : Int)] 5))
  size : T.size ≤ 1000000
  signs : sgs T.data.toList = [x]
theorem byte_is (n : Nat) (hn : n < 256) : ByteIs n ⟨#[UInt8.ofNat n]⟩ (if n < 128 then (n : Int) else 1114112 + n) := by
  refine ⟨fun w => conv_1 w n hn, by show 1 ≤ _; omega, ?_⟩
  have := sgs_byte (UInt8.ofNat n)
  rw [to_ofNat hn] at this
  exact this
set_option maxHeartbeats 1000000 in
set_option maxRecDepth 200000 in
theorem one_no (c : Int) (n : Nat) (T : ByteArray) (x : Int) (w : World) (H : Hid (ByteIs n T x)) (hs : Hid (isSg c = false)) (hn : n < 256)
    (hx : if n < 128 then x = n else x = 1114112 + n)
    (h : c < 0 ∨ (55296 ≤ c ∧ c ≤ 57343) ∨ (1114112 ≤ c ∧ c ≤ 1114239) ∨ 1114367 < c) :
    Calls Try.prog 8 #[.int .i64 c, .int .u8 n] w fun e w' => e = .returned (.bool true) ∧ Below w.heap.size w w' := by
  have k1 := H.out.conv
  have CS := Lib.hid (fun w => signs_is H.out.signs H.out.size w)
  have HB := Lib.hid (byt_one_no hs.out)
  have HC1 : Hid ([c].length ≤ 200000) := by show 1 ≤ _; omega
  by_cases hn1 : n < 128
  · rw [if_pos hn1] at hx
    subst hx
    rcases h with h | ⟨h, h'⟩ | ⟨h, h'⟩ | h
    all_goals
      go_enter Try.func8, Try.ntmps8
      go_wp2_with (first
        | (go_at_call 11; refine (bytes_is HB.out HC1.out _ _ (rd_new w [c]) (by simp)).mono ?_; rintro e w1 ⟨rfl, hb1⟩)
        | (go_at_call 10; refine (CS.out _).mono ?_; rintro e w2 ⟨v2, rfl, ho2, hb2⟩; obtain ⟨g, cc, rfl, hbl, hc⟩ := ho2.at_ Nat.one_pos; have c1 := hc 0 _ rfl; clear hc)
        | (go_at_call 9; refine (awake_any _).mono ?_; rintro e w5 ⟨rfl, hb5⟩))
      go_ret
      have hA := ((Below.refl w.heap.size w).alloc (Nat.le_refl _) _).trans (hb1.mono (by simp))
      have hB := ((Below.refl w1.heap.size w1).alloc (Nat.le_refl _) _).trans (hb2.mono (by simp))
      exact ⟨rfl, hA.trans ((hB.trans (hb5.mono hB.size)).mono hA.size)⟩
  · rw [if_neg hn1] at hx
    subst hx
    rcases h with h | ⟨h, h'⟩ | ⟨h, h'⟩ | h
    all_goals
      go_enter Try.func8, Try.ntmps8
      go_wp2_with (first
        | (go_at_call 11; refine (bytes_is HB.out HC1.out _ _ (rd_new w [c]) (by simp)).mono ?_; rintro e w1 ⟨rfl, hb1⟩)
        | (go_at_call 10; refine (CS.out _).mono ?_; rintro e w2 ⟨v2, rfl, ho2, hb2⟩; obtain ⟨g, cc, rfl, hbl, hc⟩ := ho2.at_ Nat.one_pos; have c1 := hc 0 _ rfl; clear hc)
        | (go_at_call 9; refine (awake_any _).mono ?_; rintro e w5 ⟨rfl, hb5⟩))
      go_ret
      have hA := ((Below.refl w.heap.size w).alloc (Nat.le_refl _) _).trans (hb1.mono (by simp))
      have hB := ((Below.refl w1.heap.size w1).alloc (Nat.le_refl _) _).trans (hb2.mono (by simp))
      exact ⟨rfl, hA.trans ((hB.trans (hb5.mono hB.size)).mono hA.size)⟩
set_option maxHeartbeats 1000000 in
set_option maxRecDepth 200000 in
theorem one_raw_ (c : Int) (n : Nat) (T S : ByteArray) (x : Int) (w : World) (H : Hid (ByteIs n T x)) (HB : Hid ((⟨(bytL [c]).toArray⟩ : ByteArray) = S ∧ bytE [c] = 0)) (hn : n < 256)
    (hx : if n < 128 then x = n else x = 1114112 + n)
    (h : 1114240 ≤ c) (h' : c ≤ 1114367) :
    Calls Try.prog 8 #[.int .i64 c, .int .u8 n] w fun e w' => e = .returned (.bool true) ∧ Below w.heap.size w w' := by
  have k1 := H.out.conv
  have CS := Lib.hid (fun w => signs_is H.out.signs H.out.size w)
  have HC1 : Hid ([c].length ≤ 200000) := by show 1 ≤ _; omega
  by_cases hn1 : n < 128
  · rw [if_pos hn1] at hx
    subst hx
    all_goals
      go_enter Try.func8, Try.ntmps8
      go_wp2_with (first
        | (go_at_call 11; refine (bytes_is HB.out HC1.out _ _ (rd_new w [c]) (by simp)).mono ?_; rintro e w1 ⟨rfl, hb1⟩)
        | (go_at_call 10; refine (CS.out _).mono ?_; rintro e w2 ⟨v2, rfl, ho2, hb2⟩; obtain ⟨g, cc, rfl, hbl, hc⟩ := ho2.at_ Nat.one_pos; have c1 := hc 0 _ rfl; clear hc)
        | (go_at_call 9; refine (awake_any _).mono ?_; rintro e w5 ⟨rfl, hb5⟩))
      go_ret
      have hA := ((Below.refl w.heap.size w).alloc (Nat.le_refl _) _).trans (hb1.mono (by simp))
      have hB := ((Below.refl w1.heap.size w1).alloc (Nat.le_refl _) _).trans (hb2.mono (by simp))
      exact ⟨rfl, hA.trans ((hB.trans (hb5.mono hB.size)).mono hA.size)⟩
  · rw [if_neg hn1] at hx
    subst hx
    all_goals
      go_enter Try.func8, Try.ntmps8
      go_wp2_with (first
        | (go_at_call 11; refine (bytes_is HB.out HC1.out _ _ (rd_new w [c]) (by simp)).mono ?_; rintro e w1 ⟨rfl, hb1⟩)
        | (go_at_call 10; refine (CS.out _).mono ?_; rintro e w2 ⟨v2, rfl, ho2, hb2⟩; obtain ⟨g, cc, rfl, hbl, hc⟩ := ho2.at_ Nat.one_pos; have c1 := hc 0 _ rfl; clear hc)
        | (go_at_call 9; refine (awake_any _).mono ?_; rintro e w5 ⟨rfl, hb5⟩))
      go_ret
      have hA := ((Below.refl w.heap.size w).alloc (Nat.le_refl _) _).trans (hb1.mono (by simp))
      have hB := ((Below.refl w1.heap.size w1).alloc (Nat.le_refl _) _).trans (hb2.mono (by simp))
      exact ⟨rfl, hA.trans ((hB.trans (hb5.mono hB.size)).mono hA.size)⟩
/-- How many bytes the first k tests tell. -/
@[irreducible] def cnt (c : Int) (k : Nat) : Int := 1 + (if 0 < k ∧ 127 < c then 1 else 0) + (if 1 < k ∧ 2047 < c then 1 else 0) + (if 2 < k ∧ 65535 < c then 1 else 0)
theorem cnt_0 (c : Int) : cnt c 0 = 1 := by simp [cnt]
theorem cnt_1 {c : Int} : cnt c 1 = cnt c 0 + if 127 < c then 1 else 0 := by simp [cnt]
theorem cnt_2 {c : Int} : cnt c 2 = cnt c 1 + if 2047 < c then 1 else 0 := by simp [cnt]
theorem cnt_3 {c : Int} : cnt c 3 = cnt c 2 + if 65535 < c then 1 else 0 := by simp [cnt]
theorem cnt_bd (c : Int) (k : Nat) : 1 ≤ cnt c k ∧ cnt c k ≤ 4 := by unfold cnt; (repeat' split) <;> omega
set_option maxHeartbeats 1000000 in
set_option maxRecDepth 200000 in
theorem one_good (c : Int) (n : Nat) (T S : ByteArray) (x : Int) (z : Nat) (w : World) (H : Hid (ByteIs n T x)) (HB : Hid ((⟨(bytL [c]).toArray⟩ : ByteArray) = S ∧ bytE [c] = 0)) (hn : n < 256)
    (hx : if n < 128 then x = n else x = 1114112 + n) (he : Utf8.encode c = S) (hz : S.size = z) (hcnt : cnt c 3 = z)
    (h0 : 0 ≤ c) (h1 : c ≤ 1114111) (h : c < 55296 ∨ 57343 < c) :
    Calls Try.prog 8 #[.int .i64 c, .int .u8 n] w fun e w' => e = .returned (.bool true) ∧ Below w.heap.size w w' := by
  have k1 := H.out.conv
  have CS := Lib.hid (fun w => signs_is H.out.signs H.out.size w)
  have HC1 : Hid ([c].length ≤ 200000) := by show 1 ≤ _; omega
  have HCN := Lib.hid hcnt
  have hsz : (S.size : Int) = z := by rw [hz]
  have HZ := Lib.hid hz
  clear hcnt hz
  rcases h with h | h
  all_goals
    go_enter Try.func8, Try.ntmps8
    go_wp2_with (first
      | (go_at_call 11; refine (bytes_is HB.out HC1.out _ _ (rd_new w [c]) (by simp)).mono ?_; rintro e w1 ⟨rfl, hb1⟩))
    go_loop [9, 50] (fun m i => ∃ k : Nat, k ≤ 3 ∧ i = .int .i64 k ∧ m = .int .i64 (cnt c k)) (fun _ i => 3 - (intOf i).toNat)
    case atStart => exact ⟨0, by omega, rfl, by rw [cnt_0]⟩
    case round =>
      obtain ⟨k, hk, rfl, rfl⟩ := hrel
      obtain ⟨hcb, hcb'⟩ := cnt_bd c k
      rcases (show k = 0 ∨ k = 1 ∨ k = 2 ∨ k = 3 by omega) with rfl | rfl | rfl | rfl
      · by_cases hc : 127 < c
        · go_wp2
          go_round
          case rel => exact ⟨1, by omega, by go_num, by rw [cnt_1, if_pos hc]⟩
          case measure => simp [intOf]
        · go_wp2
          go_round
          case rel => exact ⟨1, by omega, by go_num, by rw [cnt_1, if_neg hc, Int.add_zero]⟩
          case measure => simp [intOf]
      · by_cases hc : 2047 < c
        · go_wp2
          go_round
          case rel => exact ⟨2, by omega, by go_num, by rw [cnt_2, if_pos hc]⟩
          case measure => simp [intOf]
        · go_wp2
          go_round
          case rel => exact ⟨2, by omega, by go_num, by rw [cnt_2, if_neg hc, Int.add_zero]⟩
          case measure => simp [intOf]
      · by_cases hc : 65535 < c
        · go_wp2
          go_round
          case rel => exact ⟨3, by omega, by go_num, by rw [cnt_3, if_pos hc]⟩
          case measure => simp [intOf]
        · go_wp2
          go_round
          case rel => exact ⟨3, by omega, by go_num, by rw [cnt_3, if_neg hc, Int.add_zero]⟩
          case measure => simp [intOf]
      · have hz3 := HCN.out
        have k2 := H.out.conv (w1.alloc (.cells #[.int .i64 127, .int .i64 2047, .int .i64 65535] 3))
        rw [World.size_alloc] at k2
        by_cases hn1 : n < 128
        · rw [if_pos hn1] at hx
          subst hx
          go_wp2_with (first
            | (go_at_call 10; refine (CS.out _).mono ?_; rintro e w2 ⟨v2, rfl, ho2, hb2⟩; obtain ⟨g, cc, rfl, hbl, hc⟩ := ho2.at_ Nat.one_pos; have c1 := hc 0 _ rfl; clear hc)
            | (go_at_call 9; refine (awake_any _).mono ?_; rintro e w5 ⟨rfl, hb5⟩))
          go_ret
          have hA := ((Below.refl w.heap.size w).alloc (Nat.le_refl _) _).trans (hb1.mono (by simp))
          have hB := (((Below.refl w1.heap.size w1).alloc (Nat.le_refl _) _).alloc (by simp) _).trans (hb2.mono (by simp; omega))
          exact ⟨rfl, hA.trans ((hB.trans (hb5.mono hB.size)).mono hA.size)⟩
        · rw [if_neg hn1] at hx
          subst hx
          go_wp2_with (first
            | (go_at_call 10; refine (CS.out _).mono ?_; rintro e w2 ⟨v2, rfl, ho2, hb2⟩; obtain ⟨g, cc, rfl, hbl, hc⟩ := ho2.at_ Nat.one_pos; have c1 := hc 0 _ rfl; clear hc)
            | (go_at_call 9; refine (awake_any _).mono ?_; rintro e w5 ⟨rfl, hb5⟩))
          go_ret
          have hA := ((Below.refl w.heap.size w).alloc (Nat.le_refl _) _).trans (hb1.mono (by simp))
          have hB := (((Below.refl w1.heap.size w1).alloc (Nat.le_refl _) _).alloc (by simp) _).trans (hb2.mono (by simp; omega))
          exact ⟨rfl, hA.trans ((hB.trans (hb5.mono hB.size)).mono hA.size)⟩
theorem cnt_len {c : Int} (h : isPt c = true) : cnt c 3 = ((one c.toNat).length : Nat) := by
  have hb := isPt_iff.1 h
  rw [cnt_3, cnt_2, cnt_1, cnt_0]
  by_cases h1 : c.toNat < 128
  · rw [one_1 h1, if_neg (by omega), if_neg (by omega), if_neg (by omega)]; rfl
  by_cases h2 : c.toNat < 2048
  · rw [one_2 h1 h2, if_pos (by omega), if_neg (by omega), if_neg (by omega)]; rfl
  by_cases h3 : c.toNat < 65536
  · rw [one_3 h2 h3, if_pos (by omega), if_pos (by omega), if_neg (by omega)]; rfl
  · rw [one_4 h3 (by omega), if_pos (by omega), if_pos (by omega), if_pos (by omega)]; rfl
theorem textOne_walk (a0 a1 : Int) (w : World) (w0 : (Lit.int .i64 a0).wf = true) (w1 : 0 ≤ a1 ∧ a1 ≤ 255) :
    Calls Try.prog 8 #[.int .i64 a0, .int .u8 a1] w fun e w' => e = .returned (.bool true) ∧ Below w.heap.size w w' := by
  obtain ⟨n, rfl⟩ := Int.eq_ofNat_of_zero_le w1.1
  have hn : n < 256 := by omega
  have H := byte_is n hn
  have hx : if n < 128 then (if n < 128 then (n : Int) else 1114112 + n) = n else (if n < 128 then (n : Int) else 1114112 + n) = 1114112 + n := by
    split <;> simp
  by_cases hp : isPt a0 = true
  · have hb := isPt_iff.1 hp
    have hs : isSg a0 = true := by simp [isSg, hp]
    have hy := byt_one_yes hs
    exact one_good a0 n _ ⟨(one a0.toNat).toArray⟩ _ (one a0.toNat).length w H ⟨by rw [hy.1], hy.2⟩ hn hx (enc_one hp) (by show (one a0.toNat).toArray.size = _; simp) (cnt_len hp) hb.1 hb.2.1 hb.2.2
  · by_cases hs : isSg a0 = true
    · have hb : 1114240 ≤ a0 ∧ a0 ≤ 1114367 := by simpa [isSg, hp] using hs
      have hy := byt_one_yes hs
      exact one_raw_ a0 n _ ⟨(one a0.toNat).toArray⟩ _ w H ⟨by rw [hy.1], hy.2⟩ hn hx hb.1 hb.2
    · refine one_no a0 n _ _ w H (Lib.hid (by simpa using hs)) hn hx ?_
      have h1 : ¬ (0 ≤ a0 ∧ a0 ≤ 1114111 ∧ (a0 < 55296 ∨ 57343 < a0)) := fun h => hp (isPt_iff.2 h)
      have h2 : ¬ (1114240 ≤ a0 ∧ a0 ≤ 1114367) := fun h => hs (by simp [isSg, h])
      omega
end Go.Proofs.Ytcoepmakajligaa
