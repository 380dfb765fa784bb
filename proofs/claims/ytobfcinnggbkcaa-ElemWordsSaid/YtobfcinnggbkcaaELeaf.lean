/-
  THE CONTRACTS of the small functions of package elem, and of what of ints they call.
-/
import Derived.Test.YtobfcinnggbkcaaProg
import Derived.Test.YtobfcinnggbkcaaEPure
import Derived.Test.YtobfcinnggbkcaaEBits
import Derived.Lib.Hide
import Derived.Deep.QuietTactic
import Derived.BigQuiet
namespace Go.Proofs.Ytobfcinnggbkcaa
open Go.RowKit
set_option linter.unusedVariables false
set_option linter.unusedSimpArgs false
theorem place_any (l : Int) (w : World) : Calls Try.prog 19 #[.int .i64 l] w fun e w' => e = .returned (.tuple #[.int .i64 (if l = 1 then 16 else if l = 2 then 8 else if l = 3 then 1 else 0), .int .i64 (if l = 1 then 16 else if l = 2 then 8 else if l = 3 then 7 else 0)]) ∧ w = w' := by
  by_cases h1 : l = 1
  · subst h1
    go_enter Try.func19, Try.ntmps19
    go_wp2
    go_ret2
    exact ⟨rfl, rfl⟩
  by_cases h2 : l = 2
  · subst h2
    go_enter Try.func19, Try.ntmps19
    go_wp2
    go_ret2
    exact ⟨rfl, rfl⟩
  by_cases h3 : l = 3
  · subst h3
    go_enter Try.func19, Try.ntmps19
    go_wp2
    go_ret2
    exact ⟨rfl, rfl⟩
  have g1 : (l == 1) = false := by simpa using h1
  have g2 : (l == 2) = false := by simpa using h2
  have g3 : (l == 3) = false := by simpa using h3
  rw [if_neg h1, if_neg h2, if_neg h3, if_neg h1, if_neg h2, if_neg h3]
  clear h1 h2 h3
  go_enter Try.func19, Try.ntmps19
  go_wp2
  go_ret2
  exact ⟨rfl, rfl⟩
theorem mask_16 (w : World) : Calls Try.prog 25 #[.int .i64 0, .int .i64 16] w fun e w' => e = .returned (.int .u64 ((2 ^ 16 - 1 : Nat) : Int)) ∧ w = w' := by
  go_enter Try.func25, Try.ntmps25
  go_wp2
  go_ret
  exact ⟨rfl, rfl⟩
theorem mask_8 (w : World) : Calls Try.prog 25 #[.int .i64 0, .int .i64 8] w fun e w' => e = .returned (.int .u64 ((2 ^ 8 - 1 : Nat) : Int)) ∧ w = w' := by
  go_enter Try.func25, Try.ntmps25
  go_wp2
  go_ret
  exact ⟨rfl, rfl⟩
theorem mask_7 (w : World) : Calls Try.prog 25 #[.int .i64 0, .int .i64 7] w fun e w' => e = .returned (.int .u64 ((2 ^ 7 - 1 : Nat) : Int)) ∧ w = w' := by
  go_enter Try.func25, Try.ntmps25
  go_wp2
  go_ret
  exact ⟨rfl, rfl⟩
theorem mask_0 (w : World) : Calls Try.prog 25 #[.int .i64 0, .int .i64 0] w fun e w' => e = .returned (.int .u64 0) ∧ w = w' := by
  go_enter Try.func25, Try.ntmps25
  go_wp2
  go_ret
  exact ⟨rfl, rfl⟩
theorem get_16 (x : Nat) (hx : x < 18446744073709551616) (w : World) : Calls Try.prog 20 #[.int .u64 x, .int .i64 0, .int .i64 16] w fun e w' => e = .returned (.int .u64 ((x % 65536 : Nat) : Int)) ∧ w = w' := by
  have h := Lib.hid (and64 16 (by omega) hx)
  go_enter Try.func20, Try.ntmps20
  go_wp2_with (go_at_call 25; refine (mask_16 _).mono ?_; rintro e w' ⟨rfl, rfl⟩)
  go_ret
  exact ⟨one h.out.symm, rfl⟩
theorem get_8 (x : Nat) (hx : x < 18446744073709551616) (w : World) : Calls Try.prog 20 #[.int .u64 x, .int .i64 0, .int .i64 8] w fun e w' => e = .returned (.int .u64 ((x % 256 : Nat) : Int)) ∧ w = w' := by
  have h := Lib.hid (and64 8 (by omega) hx)
  go_enter Try.func20, Try.ntmps20
  go_wp2_with (go_at_call 25; refine (mask_8 _).mono ?_; rintro e w' ⟨rfl, rfl⟩)
  go_ret
  exact ⟨one h.out.symm, rfl⟩
theorem get_7 (x : Nat) (hx : x < 18446744073709551616) (w : World) : Calls Try.prog 20 #[.int .u64 x, .int .i64 0, .int .i64 7] w fun e w' => e = .returned (.int .u64 ((x % 128 : Nat) : Int)) ∧ w = w' := by
  have h := Lib.hid (and64 7 (by omega) hx)
  go_enter Try.func20, Try.ntmps20
  go_wp2_with (go_at_call 25; refine (mask_7 _).mono ?_; rintro e w' ⟨rfl, rfl⟩)
  go_ret
  exact ⟨one h.out.symm, rfl⟩
theorem get_0 (x : Nat) (hx : x < 18446744073709551616) (w : World) : Calls Try.prog 20 #[.int .u64 x, .int .i64 0, .int .i64 0] w fun e w' => e = .returned (.int .u64 0) ∧ w = w' := by
  go_enter Try.func20, Try.ntmps20
  go_wp2_with (go_at_call 25; refine (mask_0 _).mono ?_; rintro e w' ⟨rfl, rfl⟩)
  go_ret
  exact ⟨rfl, rfl⟩
end Go.Proofs.Ytobfcinnggbkcaa
