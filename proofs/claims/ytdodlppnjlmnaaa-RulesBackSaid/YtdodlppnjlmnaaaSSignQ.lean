/-
  THE CONTRACT of the document's Sign: it writes nothing and makes nothing.
-/
import Derived.Test.YtdodlppnjlmnaaaT2D
namespace Go.Proofs.Ytdodlppnjlmnaaa.T2
open Go.RowKit
set_option linter.unusedVariables false
set_option linter.unusedSimpArgs false
set_option maxRecDepth 200000 in
theorem rsignq_1 (s : ByteArray) (w : World) (h0 : 0 < s.size) (hs : s.size ≤ maxLen) (hx : gb s.data.toList 0 < 224 ∨ 244 < gb s.data.toList 0) :
    Calls Try.prog 32 #[.string s] w fun e w' => e = .returned (.tuple #[.int .i64 (dec s.data.toList).1, .int .i64 (dec s.data.toList).2]) ∧ ∃ m, w' = w.drewN m := by
  obtain ⟨l, hl⟩ : ∃ l, s.data.toList = l := ⟨_, rfl⟩
  have HG : ∀ (k : Nat) (h : k < s.size), (s[k]'h).toNat = gb l k := fun k h => by rw [← hl]; exact (gb_ba s h).symm
  have hll : l.length = s.size := by rw [← hl, ba_len]
  rw [hl] at hx ⊢
  clear hl
  have hl : 0 < l.length := by omega
  have b0 := gb_lt l 0
  have b1 := gb_lt l 1
  have DC := Lib.hid (dec_cases (l := l) (by intro e; subst e; simp at hl))
  obtain ⟨D, hD⟩ : ∃ D, dec l = D := ⟨_, rfl⟩
  rw [hD] at DC ⊢
  clear hD hl
  go_enter Try.func32, Try.ntmps32
  go_wp2_with (go_at_call 46; refine (rtail_at _ _).mono ?_; rintro e w' ⟨rfl, rfl⟩)
  all_goals go_ret2
  all_goals (have dc := DC.out; clear DC)
  all_goals refine ⟨?_, ⟨0, rfl⟩⟩
  all_goals (simp only [is2_iff, is3_iff, is4_iff, Bool.eq_false_iff, ne_eq, isT_iff, v2_eq] at *)
  all_goals (rcases dc with ⟨h, e⟩ | ⟨h, e⟩ | ⟨h, e⟩ | ⟨h, e⟩ | ⟨h, g2, g3, g4, e⟩ <;> rw [e] <;> clear e <;> first | omega | (refine two_of ?_ ?_ <;> simp only [wrap64] <;> omega))
set_option maxRecDepth 200000 in
theorem rsignq_3 (s : ByteArray) (w : World) (h0 : 0 < s.size) (hs : s.size ≤ maxLen) (hx : 224 ≤ gb s.data.toList 0 ∧ gb s.data.toList 0 ≤ 239) :
    Calls Try.prog 32 #[.string s] w fun e w' => e = .returned (.tuple #[.int .i64 (dec s.data.toList).1, .int .i64 (dec s.data.toList).2]) ∧ ∃ m, w' = w.drewN m := by
  obtain ⟨l, hl⟩ : ∃ l, s.data.toList = l := ⟨_, rfl⟩
  have HG : ∀ (k : Nat) (h : k < s.size), (s[k]'h).toNat = gb l k := fun k h => by rw [← hl]; exact (gb_ba s h).symm
  have hll : l.length = s.size := by rw [← hl, ba_len]
  rw [hl] at hx ⊢
  clear hl
  have hl : 0 < l.length := by omega
  have b0 := gb_lt l 0
  have b1 := gb_lt l 1
  have b2 := gb_lt l 2
  have DC := Lib.hid (dec_cases (l := l) (by intro e; subst e; simp at hl))
  obtain ⟨D, hD⟩ : ∃ D, dec l = D := ⟨_, rfl⟩
  rw [hD] at DC ⊢
  clear hD hl
  go_enter Try.func32, Try.ntmps32
  go_wp2_with (go_at_call 46; refine (rtail_at _ _).mono ?_; rintro e w' ⟨rfl, rfl⟩)
  all_goals first
    | (go_ret2; (have dc := DC.out; clear DC); refine ⟨?_, ⟨0, rfl⟩⟩
       (simp only [is2_iff, is3_iff, is4_iff, Bool.eq_false_iff, ne_eq, isT_iff] at *)
       (rcases dc with ⟨h, e⟩ | ⟨h, e⟩ | ⟨h, e⟩ | ⟨h, e⟩ | ⟨h, g2, g3, g4, e⟩ <;> rw [e] <;> clear e <;> first | omega | (refine two_of ?_ ?_ <;> simp only [wrap64] <;> omega)))
    | skip
  go_quiet (fail)
  go_wp2
  all_goals go_ret2
  all_goals (have dc := DC.out; clear DC)
  all_goals refine ⟨?_, ⟨_, rfl⟩⟩
  all_goals (simp only [is2_iff, is3_iff, is4_iff, Bool.eq_false_iff, ne_eq, isT_iff, v3_eq, v4_eq] at *)
  all_goals (rcases dc with ⟨h, e⟩ | ⟨h, e⟩ | ⟨h, e⟩ | ⟨h, e⟩ | ⟨h, g2, g3, g4, e⟩ <;> rw [e] <;> clear e <;> first | omega | (refine two_of ?_ ?_ <;> simp only [wrap64] <;> omega))
set_option maxRecDepth 200000 in
theorem rsignq_4 (s : ByteArray) (w : World) (h0 : 0 < s.size) (hs : s.size ≤ maxLen) (hx : 240 ≤ gb s.data.toList 0 ∧ gb s.data.toList 0 ≤ 244) :
    Calls Try.prog 32 #[.string s] w fun e w' => e = .returned (.tuple #[.int .i64 (dec s.data.toList).1, .int .i64 (dec s.data.toList).2]) ∧ ∃ m, w' = w.drewN m := by
  obtain ⟨l, hl⟩ : ∃ l, s.data.toList = l := ⟨_, rfl⟩
  have HG : ∀ (k : Nat) (h : k < s.size), (s[k]'h).toNat = gb l k := fun k h => by rw [← hl]; exact (gb_ba s h).symm
  have hll : l.length = s.size := by rw [← hl, ba_len]
  rw [hl] at hx ⊢
  clear hl
  have hl : 0 < l.length := by omega
  have b0 := gb_lt l 0
  have b1 := gb_lt l 1
  have b2 := gb_lt l 2
  have b3 := gb_lt l 3
  have DC := Lib.hid (dec_cases (l := l) (by intro e; subst e; simp at hl))
  obtain ⟨D, hD⟩ : ∃ D, dec l = D := ⟨_, rfl⟩
  rw [hD] at DC ⊢
  clear hD hl
  go_enter Try.func32, Try.ntmps32
  go_wp2_with (go_at_call 46; refine (rtail_at _ _).mono ?_; rintro e w' ⟨rfl, rfl⟩)
  all_goals first
    | (go_ret2; (have dc := DC.out; clear DC); refine ⟨?_, ⟨0, rfl⟩⟩
       (simp only [is2_iff, is3_iff, is4_iff, Bool.eq_false_iff, ne_eq, isT_iff] at *)
       (rcases dc with ⟨h, e⟩ | ⟨h, e⟩ | ⟨h, e⟩ | ⟨h, e⟩ | ⟨h, g2, g3, g4, e⟩ <;> rw [e] <;> clear e <;> first | omega | (refine two_of ?_ ?_ <;> simp only [wrap64] <;> omega)))
    | skip
  go_quiet (fail)
  go_wp2
  all_goals go_ret2
  all_goals (have dc := DC.out; clear DC)
  all_goals refine ⟨?_, ⟨_, rfl⟩⟩
  all_goals (simp only [is2_iff, is3_iff, is4_iff, Bool.eq_false_iff, ne_eq, isT_iff, v3_eq, v4_eq] at *)
  all_goals (rcases dc with ⟨h, e⟩ | ⟨h, e⟩ | ⟨h, e⟩ | ⟨h, e⟩ | ⟨h, g2, g3, g4, e⟩ <;> rw [e] <;> clear e <;> first | omega | (refine two_of ?_ ?_ <;> simp only [wrap64] <;> omega))
theorem rfirstq_any (s : ByteArray) (w : World) (h0 : 0 < s.size) (hs : s.size ≤ maxLen) :
    Calls Try.prog 32 #[.string s] w fun e w' => e = .returned (.tuple #[.int .i64 (dec s.data.toList).1, .int .i64 (dec s.data.toList).2]) ∧ ∃ m, w' = w.drewN m := by
  by_cases h3 : 224 ≤ gb s.data.toList 0 ∧ gb s.data.toList 0 ≤ 239
  · exact rsignq_3 s w h0 hs h3
  · by_cases h4 : 240 ≤ gb s.data.toList 0 ∧ gb s.data.toList 0 ≤ 244
    · exact rsignq_4 s w h0 hs h4
    · exact rsignq_1 s w h0 hs (by omega)
end Go.Proofs.Ytdodlppnjlmnaaa.T2
