/-
  WHAT THE DOCUMENT FIXES, OF THE ELEMENTS: the given example answers true.
-/
import Derived.Test.YtobfcinnggbkcaaEParse
namespace Go.Proofs.Ytobfcinnggbkcaa
open Go.RowKit
set_option linter.unusedVariables false
set_option linter.unusedSimpArgs false
theorem aw_make (w : World) : Calls Try.prog 7 #[.int .i64 256, .int .i64 32, .int .i64 2, .bool false] w fun r w' => r = .returned (.tuple #[.int .u32 16785412, .int .i64 0]) ∧ w = w' := make_d 256 32 2 false (by omega) (by omega) (by omega) w
theorem aw_body : (⟨(91 :: ((if false = true then [42] else []) ++ body 256 32 2)).toArray⟩ : ByteArray) = ⟨#[91, 48, 49, 48, 48, 46, 50, 48, 46, 48, 50, 93]⟩ := by
  rw [body_eq]
  unfold hx
  rfl
theorem aw_text (w : World) : Calls Try.prog 14 #[.int .u32 16785412] w fun r w' => r = .returned (.string ⟨#[91, 48, 49, 48, 48, 46, 50, 48, 46, 48, 50, 93]⟩) ∧ Below w.heap.size w w' := by
  have h := text_any 16785412 256 32 2 false (by omega) (show _ = _ by omega) (show _ = _ by omega) (show _ = _ by omega) (show _ = _ by simp) w
  rw [aw_body] at h
  exact h
theorem aw_weight (w : World) : Calls Try.prog 10 #[.int .u32 16785412, .int .i64 1] w fun r w' => r = .returned (.int .i64 256) ∧ w = w' := weight_1' (e := 16785412) (p := 256) (by omega) (by omega) w
set_option maxRecDepth 200000 in
theorem awake_any (w : World) : Calls Try.prog 8 #[] w fun e w' => e = .returned (.bool true) ∧ Below w.heap.size w w' := by
  go_enter Try.func8, Try.ntmps8
  go_wp2_with (first
    | (go_at_call 7; refine (aw_make _).mono ?_; rintro e w' ⟨rfl, rfl⟩)
    | (go_at_call 14; refine (aw_text _).mono ?_; rintro e w1 ⟨rfl, hb1⟩)
    | (go_at_call 10; refine (aw_weight _).mono ?_; rintro e w' ⟨rfl, rfl⟩))
  go_ret
  exact ⟨rfl, hb1⟩
end Go.Proofs.Ytobfcinnggbkcaa
