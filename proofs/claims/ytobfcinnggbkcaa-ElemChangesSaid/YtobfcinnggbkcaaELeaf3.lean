/-
  THE CONTRACTS of one weight changed.
-/
import Derived.Test.YtobfcinnggbkcaaELeaf2
namespace Go.Proofs.Ytobfcinnggbkcaa
open Go.RowKit
set_option linter.unusedVariables false
set_option linter.unusedSimpArgs false
theorem getW_16 (x : Int) (w : World) : Calls Try.prog 20 #[.int .u64 (IntKind.u64.wrap x), .int .i64 0, .int .i64 16] w fun e w' => e = .returned (.int .u64 (x % 65536)) ∧ w = w' := by
  have e : IntKind.u64.wrap x % 65536 = x % 65536 := by rw [IntKind.wrap_u64]; omega
  rw [← e]; exact getI_16 (by rw [IntKind.wrap_u64]; omega) (by rw [IntKind.wrap_u64]; omega) w
theorem getW_8 (x : Int) (w : World) : Calls Try.prog 20 #[.int .u64 (IntKind.u64.wrap x), .int .i64 0, .int .i64 8] w fun e w' => e = .returned (.int .u64 (x % 256)) ∧ w = w' := by
  have e : IntKind.u64.wrap x % 256 = x % 256 := by rw [IntKind.wrap_u64]; omega
  rw [← e]; exact getI_8 (by rw [IntKind.wrap_u64]; omega) (by rw [IntKind.wrap_u64]; omega) w
theorem getW_7 (x : Int) (w : World) : Calls Try.prog 20 #[.int .u64 (IntKind.u64.wrap x), .int .i64 0, .int .i64 7] w fun e w' => e = .returned (.int .u64 (x % 128)) ∧ w = w' := by
  have e : IntKind.u64.wrap x % 128 = x % 128 := by rw [IntKind.wrap_u64]; omega
  rw [← e]; exact getI_7 (by rw [IntKind.wrap_u64]; omega) (by rw [IntKind.wrap_u64]; omega) w
theorem getW_0 (x : Int) (w : World) : Calls Try.prog 20 #[.int .u64 (IntKind.u64.wrap x), .int .i64 0, .int .i64 0] w fun e w' => e = .returned (.int .u64 0) ∧ w = w' :=
  getI_0 (by rw [IntKind.wrap_u64]; omega) (by rw [IntKind.wrap_u64]; omega) w
theorem with_1 (e : Nat) (v : Int) (he : e < 4294967296) (hv : -9223372036854775808 ≤ v) (hv' : v ≤ 9223372036854775807) (w : World) :
    Calls Try.prog 18 #[.int .u32 e, .int .i64 1, .int .i64 v] w fun r w' => r = .returned (.int .u32 ((v % 65536) * 65536 + e % 65536)) ∧ w = w' := by
  go_enter Try.func18, Try.ntmps18
  go_wp2_with (first
    | (go_at_call 19; refine (place_1 _).mono ?_; rintro e w' ⟨rfl, rfl⟩)
    | (go_at_call 10; refine (weight_1 _ he _).mono ?_; rintro e w' ⟨rfl, rfl⟩)
    | (go_at_call 20; refine (getW_16 _ _).mono ?_; rintro e w' ⟨rfl, rfl⟩))
  go_ret
  exact ⟨one (put_1 he), rfl⟩
theorem with_2 (e : Nat) (v : Int) (he : e < 4294967296) (hv : -9223372036854775808 ≤ v) (hv' : v ≤ 9223372036854775807) (w : World) :
    Calls Try.prog 18 #[.int .u32 e, .int .i64 2, .int .i64 v] w fun r w' => r = .returned (.int .u32 (e / 65536 * 65536 + (v % 256) * 256 + e % 256)) ∧ w = w' := by
  go_enter Try.func18, Try.ntmps18
  go_wp2_with (first
    | (go_at_call 19; refine (place_2 _).mono ?_; rintro e w' ⟨rfl, rfl⟩)
    | (go_at_call 10; refine (weight_2 _ he _).mono ?_; rintro e w' ⟨rfl, rfl⟩)
    | (go_at_call 20; refine (getW_8 _ _).mono ?_; rintro e w' ⟨rfl, rfl⟩))
  go_ret
  exact ⟨one (put_2 he), rfl⟩
theorem with_3 (e : Nat) (v : Int) (he : e < 4294967296) (hv : -9223372036854775808 ≤ v) (hv' : v ≤ 9223372036854775807) (w : World) :
    Calls Try.prog 18 #[.int .u32 e, .int .i64 3, .int .i64 v] w fun r w' => r = .returned (.int .u32 (e / 256 * 256 + (v % 128) * 2 + e % 2)) ∧ w = w' := by
  go_enter Try.func18, Try.ntmps18
  go_wp2_with (first
    | (go_at_call 19; refine (place_3 _).mono ?_; rintro e w' ⟨rfl, rfl⟩)
    | (go_at_call 10; refine (weight_3 _ he _).mono ?_; rintro e w' ⟨rfl, rfl⟩)
    | (go_at_call 20; refine (getW_7 _ _).mono ?_; rintro e w' ⟨rfl, rfl⟩))
  go_ret
  exact ⟨one (put_3 he), rfl⟩
theorem with_0 (e : Nat) (v : Int) {l : Int} (h : ¬ l = 1 ∧ ¬ l = 2 ∧ ¬ l = 3) (he : e < 4294967296) (hv : -9223372036854775808 ≤ v) (hv' : v ≤ 9223372036854775807) (w : World) :
    Calls Try.prog 18 #[.int .u32 e, .int .i64 l, .int .i64 v] w fun r w' => r = .returned (.int .u32 e) ∧ w = w' := by
  have H := Lib.hid h; clear h
  go_enter Try.func18, Try.ntmps18
  go_wp2_with (first
    | (go_at_call 19; refine (place_0 H.out _).mono ?_; rintro e w' ⟨rfl, rfl⟩)
    | (go_at_call 10; refine (weight_0 _ H.out he _).mono ?_; rintro e w' ⟨rfl, rfl⟩)
    | (go_at_call 20; refine (getW_0 _ _).mono ?_; rintro e w' ⟨rfl, rfl⟩))
  go_ret
  exact ⟨one (put_0 he), rfl⟩
end Go.Proofs.Ytobfcinnggbkcaa
