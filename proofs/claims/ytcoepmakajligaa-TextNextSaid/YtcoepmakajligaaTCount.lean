/-
  THE CONTRACTS of how many signs a text has and of whether it is all code points.
-/
import Derived.Test.YtcoepmakajligaaTFirst
namespace Go.Proofs.Ytcoepmakajligaa
open Go.RowKit
set_option linter.unusedVariables false
set_option linter.unusedSimpArgs false
theorem ext_list (s : ByteArray) (a b : Nat) : (s.extract a b).data.toList = (s.data.toList.take b).drop a := by
  rw [ByteArray.data_extract, Array.toList_extract, List.extract_eq_take_drop, List.drop_take]
theorem ext_drop (s : ByteArray) (p : Nat) : (s.extract p s.size).data.toList = s.data.toList.drop p := by
  rw [ext_list, ← ba_len, List.take_length]
theorem ext_take (s : ByteArray) (p : Nat) : (s.extract 0 p).data.toList = s.data.toList.take p := by
  rw [ext_list, List.drop_zero]
theorem first_at {s : ByteArray} {p : Nat} {D : Nat × Nat} (hp : p < s.size) (hs : s.size ≤ maxLen) (hD : dec (s.data.toList.drop p) = D) (w : World) :
    Calls Try.prog 24 #[.string (s.extract p s.size)] w fun e w' => e = .returned (.tuple #[.int .i64 D.1, .int .i64 D.2]) ∧ w = w' := by
  have h := first_any (s.extract p s.size) w (by rw [ByteArray.size_extract]; omega) (by rw [ByteArray.size_extract]; omega)
  rw [ext_drop, hD] at h
  exact h
set_option maxRecDepth 200000 in
theorem count_any (s : ByteArray) (w : World) (hs : s.size ≤ maxLen) :
    Calls Try.prog 14 #[.string s] w fun e w' => e = .returned (.int .i64 ((sgs s.data.toList).length : Nat)) ∧ w = w' := by
  have PN := Lib.hid (fun k => pos_next k s.data.toList)
  have PL := Lib.hid (fun k => pos_len k s.data.toList)
  have PE := Lib.hid (fun k => pos_le k s.data.toList)
  have SL := Lib.hid (sgs_len s.data.toList)
  obtain ⟨N, hN⟩ : ∃ N, (sgs s.data.toList).length = N := ⟨_, rfl⟩
  rw [hN] at PL SL ⊢
  simp only [ba_len] at PN PL PE SL
  clear hN
  have hm : s.size ≤ 9223372036854775807 := by have : maxLen = 9223372036854775807 := by decide
                                               omega
  go_enter Try.func14, Try.ntmps14
  go_wp2
  go_loop [3, 4] (fun n i => ∃ k p : Nat, k ≤ N ∧ n = .int .i64 k ∧ i = .int .i64 p ∧ Hid (pos k s.data.toList = p)) (fun _ i => s.size - (intOf i).toNat)
  case atStart => exact ⟨0, 0, by omega, rfl, rfl, rfl⟩
  case round =>
    obtain ⟨k, p, hk, rfl, rfl, hp⟩ := hrel
    have h1 := PN.out k
    have h2 := PL.out k
    have h3 := PE.out (k + 1)
    have h4 := PE.out k
    have h5 := SL.out
    rw [hp.out] at h1 h2 h4
    by_cases hlt : p < s.size
    · have h1' := h1 hlt
      obtain ⟨D, hD⟩ : ∃ D, dec (s.data.toList.drop p) = D := ⟨_, rfl⟩
      have hpos := dec_pos (s.data.toList.drop p)
      rw [hD] at h1' hpos
      have HD := Lib.hid hD
      have H1 := Lib.hid h1'
      rw [h1'] at h3
      have hkN := h2.1 hlt
      clear h1 h1' h2 hD hp
      go_wp2_with (first
        | (go_at_call 24; refine (first_at hlt hs HD.out _).mono ?_; rintro e w' ⟨rfl, rfl⟩))
      refine ⟨⟨k + 1, p + D.2, by omega, rfl, rfl, H1.out⟩, ?_⟩
      simp [intOf]; omega
    · have hkN : k = N := by
        by_cases h : k < N
        · exact absurd (h2.2 h) hlt
        · omega
      clear h1 h2 h3 h4
      go_wp2
      go_ret
      exact ⟨rfl, rfl⟩
/-- Whether all signs are code points. -/
def vl (l : List UInt8) : Bool := (sgs l).all fun c => decide (c ≤ 1114111)
theorem vl_no {l : List UInt8} {k : Nat} (hk : pos k l < l.length) (h : 1114111 < ((dec (l.drop (pos k l))).1 : Int)) : vl l = false := by
  unfold vl
  rw [sgs_at k l hk, List.all_append, List.all_cons, decide_eq_false (by omega), Bool.false_and, Bool.and_false]
theorem vl_next {l : List UInt8} {k : Nat} (hk : pos k l < l.length) (h : ¬ 1114111 < ((dec (l.drop (pos k l))).1 : Int)) (ha : ((sgs l).take k).all (fun c => decide (c ≤ 1114111)) = true) :
    ((sgs l).take (k + 1)).all (fun c => decide (c ≤ 1114111)) = true := by
  have hkl := (pos_len k l).1 hk
  have he : (sgs l)[k] = ((dec (l.drop (pos k l))).1 : Int) := by
    have := sgs_at k l hk
    rw [List.getElem_of_eq this, List.getElem_append_right (by rw [List.length_take]; omega)]
    simp [List.length_take, Nat.min_eq_left (Nat.le_of_lt hkl)]
  rw [List.take_succ_eq_append_getElem hkl, List.all_append, ha, he]
  simp; omega
theorem vl_all {l : List UInt8} {k : Nat} (hk : ¬ pos k l < l.length) (ha : ((sgs l).take k).all (fun c => decide (c ≤ 1114111)) = true) : vl l = true := by
  have h := mt (pos_len k l).2 hk
  unfold vl
  rw [List.take_of_length_le (by omega)] at ha
  exact ha
set_option maxRecDepth 200000 in
theorem valid_any (s : ByteArray) (w : World) (hs : s.size ≤ maxLen) :
    Calls Try.prog 15 #[.string s] w fun e w' => e = .returned (.bool (vl s.data.toList)) ∧ w = w' := by
  have PN := Lib.hid (fun k => pos_next k s.data.toList)
  have PE := Lib.hid (fun k => pos_le k s.data.toList)
  have V1 := Lib.hid (fun k => @vl_no s.data.toList k)
  have V2 := Lib.hid (fun k => @vl_next s.data.toList k)
  have V3 := Lib.hid (fun k => @vl_all s.data.toList k)
  obtain ⟨V, hV⟩ : ∃ V, vl s.data.toList = V := ⟨_, rfl⟩
  rw [hV] at V1 V3 ⊢
  simp only [ba_len] at PN PE V1 V2 V3
  clear hV
  have hm : s.size ≤ 9223372036854775807 := by have : maxLen = 9223372036854775807 := by decide
                                               omega
  go_enter Try.func15, Try.ntmps15
  go_wp2
  go_loop [3] (fun i => ∃ k p : Nat, i = .int .i64 p ∧ Hid (pos k s.data.toList = p) ∧ Hid (((sgs s.data.toList).take k).all (fun c => decide (c ≤ 1114111)) = true)) (fun i => s.size - (intOf i).toNat)
  case atStart => exact ⟨0, 0, rfl, rfl, rfl⟩
  case round =>
    obtain ⟨k, p, rfl, hp, HA⟩ := hrel
    have h1 := PN.out k
    have h3 := PE.out (k + 1)
    have h4 := PE.out k
    have v1 := V1.out k
    have v2 := V2.out k
    have v3 := V3.out k
    rw [hp.out] at h1 h4 v1 v2 v3
    by_cases hlt : p < s.size
    · have h1' := h1 hlt
      obtain ⟨D, hD⟩ : ∃ D, dec (s.data.toList.drop p) = D := ⟨_, rfl⟩
      have hpos := dec_pos (s.data.toList.drop p)
      rw [hD] at h1' hpos v1 v2
      have HD := Lib.hid hD
      have H1 := Lib.hid h1'
      rw [h1'] at h3
      have W1 := Lib.hid (v1 hlt)
      have W2 := Lib.hid (fun h => v2 hlt h HA.out)
      clear h1 h1' hD hp v1 v2 v3
      by_cases hc : 1114111 < (D.1 : Int)
      · have hv := W1.out hc
        go_wp2_with (first
          | (go_at_call 24; refine (first_at hlt hs HD.out _).mono ?_; rintro e w' ⟨rfl, rfl⟩))
        all_goals go_ret
        all_goals exact ⟨by rw [hv]; rfl, rfl⟩
      · have hv := Lib.hid (W2.out (by omega))
        go_wp2_with (first
          | (go_at_call 24; refine (first_at hlt hs HD.out _).mono ?_; rintro e w' ⟨rfl, rfl⟩))
        refine ⟨⟨k + 1, p + D.2, rfl, H1.out, hv.out⟩, ?_⟩
        simp [intOf]; omega
    · have hv := v3 hlt HA.out
      clear h1 h3 h4 v1 v2 v3
      go_wp2
      go_ret
      exact ⟨rfl, rfl⟩
end Go.Proofs.Ytcoepmakajligaa
