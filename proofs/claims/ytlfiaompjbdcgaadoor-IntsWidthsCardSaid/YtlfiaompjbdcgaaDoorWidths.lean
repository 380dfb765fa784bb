/-
  THE CONTRACTS of the document's own Wrap and Fit, and THE WALK of the law IntsWidths: narrow numbers see the lowest bits.
-/
import Derived.Test.YtlfiaompjbdcgaaDoorLaid
import Derived.Test.YtlfiaompjbdcgaaDoorRef
namespace Go.Proofs.YtlfiaompjbdcgaaDoor
open Go.RowKit
set_option linter.unusedVariables false

theorem tmod_em {x m : Int} (hm : 0 < m) : x.tmod m = if 0 ≤ x then x % m else -((-x) % m) := by
  split
  · rename_i h; exact Int.tmod_eq_emod_of_nonneg h
  · rename_i h
    have := Int.neg_tmod (-x) m; rw [Int.neg_neg] at this
    rw [this, Int.tmod_eq_emod_of_nonneg (by omega)]
theorem rwrap_any (a b : Int) (sg : Bool) (w : World) (ha : -9223372036854775808 ≤ a) (ha' : a ≤ 9223372036854775807) :
    Calls Tryd.prog 39 #[.int .i64 a, .int .i64 b, .bool sg] w fun e w' => e = .returned (.int .i64 (wrapP a b sg)) ∧ w = w' := by
  by_cases h1 : b = 1
  · subst h1
    have ht : -256 < a.tmod 256 ∧ a.tmod 256 < 256 := by rw [tmod_em (by omega)]; split <;> omega
    have HT := Lib.hid (tmod_em (x := a) (m := 256) (by omega))
    obtain ⟨t1, t2⟩ := ht
    cases sg
    all_goals
      go_enter Tryd.func39, Tryd.ntmps39
      go_wp2
      all_goals go_ret
      all_goals refine ⟨one ?_, rfl⟩
      all_goals have HT := HT.out
      all_goals simp only [wrapP]
      all_goals split at HT <;> simp_all <;> omega
  by_cases h2 : b = 2
  · subst h2
    have ht : -65536 < a.tmod 65536 ∧ a.tmod 65536 < 65536 := by rw [tmod_em (by omega)]; split <;> omega
    have HT := Lib.hid (tmod_em (x := a) (m := 65536) (by omega))
    obtain ⟨t1, t2⟩ := ht
    cases sg
    all_goals
      go_enter Tryd.func39, Tryd.ntmps39
      go_wp2
      all_goals go_ret
      all_goals refine ⟨one ?_, rfl⟩
      all_goals have HT := HT.out
      all_goals simp only [wrapP]
      all_goals split at HT <;> simp_all <;> omega
  by_cases h4 : b = 4
  · subst h4
    have ht : -4294967296 < a.tmod 4294967296 ∧ a.tmod 4294967296 < 4294967296 := by rw [tmod_em (by omega)]; split <;> omega
    have HT := Lib.hid (tmod_em (x := a) (m := 4294967296) (by omega))
    obtain ⟨t1, t2⟩ := ht
    cases sg
    all_goals
      go_enter Tryd.func39, Tryd.ntmps39
      go_wp2
      all_goals go_ret
      all_goals refine ⟨one ?_, rfl⟩
      all_goals have HT := HT.out
      all_goals simp only [wrapP]
      all_goals split at HT <;> simp_all <;> omega
  have g1 : (b != 1) = true := by simpa using h1
  have g2 : (b != 2) = true := by simpa using h2
  have g4 : (b != 4) = true := by simpa using h4
  go_enter Tryd.func39, Tryd.ntmps39
  go_wp2
  all_goals go_ret
  all_goals exact ⟨one (by simp only [wrapP]; rw [if_neg h1, if_neg h2, if_neg h4]), rfl⟩
theorem rfit_any (a b : Int) (sg : Bool) (w : World) (ha : -9223372036854775808 ≤ a) (ha' : a ≤ 9223372036854775807) :
    Calls Tryd.prog 38 #[.int .i64 a, .int .i64 b, .bool sg] w fun e w' => e = .returned (.tuple #[.int .i64 (fitV a b sg), .int .i64 (fitE a b sg)]) ∧ w = w' := by
  go_enter Tryd.func38, Tryd.ntmps38
  go_wp2_with (go_at_call 39; refine (rwrap_any a b sg _ ha ha').mono ?_; rintro e w' ⟨rfl, rfl⟩)
  all_goals go_ret2
  · exact ⟨two (fit_t (by assumption)), rfl⟩
  · exact ⟨two (fit_f (by assumption)), rfl⟩
theorem wrapP_wrapP (x s : Int) (g h : Bool) : wrapP (wrapP x s g) s h = wrapP x s h := by
  unfold wrapP
  by_cases h1 : s = 1
  · cases g <;> cases h <;> simp [h1] <;> omega
  by_cases h2 : s = 2
  · cases g <;> cases h <;> simp [h2] <;> omega
  by_cases h4 : s = 4
  · cases g <;> cases h <;> simp [h4] <;> omega
  simp [h1, h2, h4]
theorem intsWidths_walk (a0 : Int) (a1 : Int) (a2 : Bool) (w : World) (w0 : (Lit.int .i64 a0).wf = true) (w1 : (Lit.int .i64 a1).wf = true) (hL : laidMetH Tryd.prog Rows.intsWidthsRow.laid w) :
    Calls Tryd.prog 9 #[.int .i64 a0, .int .i64 a1, .bool a2] w fun e w' => e = .returned (.bool true) ∧ Below w.heap.size w w' := by
  have HT := Lib.hid (tab_of hL (by kernel_rfl))
  obtain ⟨h0, h0'⟩ := bd64 w0
  clear hL w0 w1
  have e1 := wrapP_wrapP a0 a1 a2 a2
  have e2 := wrapP_wrapP a0 a1 (!a2) a2
  cases a2
  all_goals
    simp only [Bool.not_false, Bool.not_true] at e1 e2
    go_enter Tryd.func9, Tryd.ntmps9
    go_wp2_with (first | (go_at_call 36; refine (wrap_any _ _ _ _).mono ?_; rintro e w' ⟨rfl, rfl⟩) | (go_at_call 37; refine (fit_any _ _ _ _).mono ?_; rintro e w' ⟨rfl, rfl⟩) | (go_at_call 38; refine (rfit_any _ _ _ _ h0 h0').mono ?_; rintro e w' ⟨rfl, rfl⟩) | (go_at_call 39; refine (rwrap_any _ _ _ _ h0 h0').mono ?_; rintro e w' ⟨rfl, rfl⟩) | (go_at_call 30; refine (same_eq _ _ _).mono ?_; rintro e w' ⟨rfl, rfl⟩) | (go_at_call 16; refine (awake_any _ HT.out).mono ?_; rintro e w' ⟨rfl, hb⟩))
    go_ret
    exact ⟨rfl, hb⟩
end Go.Proofs.YtlfiaompjbdcgaaDoor
