/-
  THE CONTRACTS of an element's weights, and of one weight changed.
-/
import Derived.Test.YtobfcinnggbkcaaELeaf
namespace Go.Proofs.Ytobfcinnggbkcaa
open Go.RowKit
set_option linter.unusedVariables false
set_option linter.unusedSimpArgs false
theorem getI_16 {x : Int} (h0 : 0 ≤ x) (hx : x < 18446744073709551616) (w : World) : Calls Try.prog 20 #[.int .u64 x, .int .i64 0, .int .i64 16] w fun e w' => e = .returned (.int .u64 (x % 65536)) ∧ w = w' := by
  obtain ⟨n, rfl⟩ := Int.eq_ofNat_of_zero_le h0
  exact get_16 n (by omega) w
theorem getI_8 {x : Int} (h0 : 0 ≤ x) (hx : x < 18446744073709551616) (w : World) : Calls Try.prog 20 #[.int .u64 x, .int .i64 0, .int .i64 8] w fun e w' => e = .returned (.int .u64 (x % 256)) ∧ w = w' := by
  obtain ⟨n, rfl⟩ := Int.eq_ofNat_of_zero_le h0
  exact get_8 n (by omega) w
theorem getI_7 {x : Int} (h0 : 0 ≤ x) (hx : x < 18446744073709551616) (w : World) : Calls Try.prog 20 #[.int .u64 x, .int .i64 0, .int .i64 7] w fun e w' => e = .returned (.int .u64 (x % 128)) ∧ w = w' := by
  obtain ⟨n, rfl⟩ := Int.eq_ofNat_of_zero_le h0
  exact get_7 n (by omega) w
theorem getI_0 {x : Int} (h0 : 0 ≤ x) (hx : x < 18446744073709551616) (w : World) : Calls Try.prog 20 #[.int .u64 x, .int .i64 0, .int .i64 0] w fun e w' => e = .returned (.int .u64 0) ∧ w = w' := by
  obtain ⟨n, rfl⟩ := Int.eq_ofNat_of_zero_le h0
  exact get_0 n (by omega) w
theorem place_1 (w : World) : Calls Try.prog 19 #[.int .i64 1] w fun e w' => e = .returned (.tuple #[.int .i64 16, .int .i64 16]) ∧ w = w' := place_any 1 w
theorem place_2 (w : World) : Calls Try.prog 19 #[.int .i64 2] w fun e w' => e = .returned (.tuple #[.int .i64 8, .int .i64 8]) ∧ w = w' := place_any 2 w
theorem place_3 (w : World) : Calls Try.prog 19 #[.int .i64 3] w fun e w' => e = .returned (.tuple #[.int .i64 1, .int .i64 7]) ∧ w = w' := place_any 3 w
theorem place_0 {l : Int} (h : ¬ l = 1 ∧ ¬ l = 2 ∧ ¬ l = 3) (w : World) : Calls Try.prog 19 #[.int .i64 l] w fun e w' => e = .returned (.tuple #[.int .i64 0, .int .i64 0]) ∧ w = w' := by
  have := place_any l w
  rw [if_neg h.1, if_neg h.2.1, if_neg h.2.2, if_neg h.1, if_neg h.2.1, if_neg h.2.2] at this
  exact this
theorem weight_1 (e : Nat) (he : e < 4294967296) (w : World) : Calls Try.prog 10 #[.int .u32 e, .int .i64 1] w fun r w' => r = .returned (.int .i64 ((e / 65536 : Nat) : Int)) ∧ w = w' := by
  go_enter Try.func10, Try.ntmps10
  go_wp2_with (first
    | (go_at_call 19; refine (place_1 _).mono ?_; rintro e w' ⟨rfl, rfl⟩)
    | (go_at_call 20; refine (getI_16 (by omega) (by omega) _).mono ?_; rintro e w' ⟨rfl, rfl⟩))
  go_ret
  exact ⟨one (by omega), rfl⟩
theorem weight_2 (e : Nat) (he : e < 4294967296) (w : World) : Calls Try.prog 10 #[.int .u32 e, .int .i64 2] w fun r w' => r = .returned (.int .i64 ((e / 256 % 256 : Nat) : Int)) ∧ w = w' := by
  go_enter Try.func10, Try.ntmps10
  go_wp2_with (first
    | (go_at_call 19; refine (place_2 _).mono ?_; rintro e w' ⟨rfl, rfl⟩)
    | (go_at_call 20; refine (getI_8 (by omega) (by omega) _).mono ?_; rintro e w' ⟨rfl, rfl⟩))
  go_ret
  exact ⟨one (by omega), rfl⟩
theorem weight_3 (e : Nat) (he : e < 4294967296) (w : World) : Calls Try.prog 10 #[.int .u32 e, .int .i64 3] w fun r w' => r = .returned (.int .i64 ((e / 2 % 128 : Nat) : Int)) ∧ w = w' := by
  go_enter Try.func10, Try.ntmps10
  go_wp2_with (first
    | (go_at_call 19; refine (place_3 _).mono ?_; rintro e w' ⟨rfl, rfl⟩)
    | (go_at_call 20; refine (getI_7 (by omega) (by omega) _).mono ?_; rintro e w' ⟨rfl, rfl⟩))
  go_ret
  exact ⟨one (by omega), rfl⟩
theorem weight_0 (e : Nat) {l : Int} (h : ¬ l = 1 ∧ ¬ l = 2 ∧ ¬ l = 3) (he : e < 4294967296) (w : World) : Calls Try.prog 10 #[.int .u32 e, .int .i64 l] w fun r w' => r = .returned (.int .i64 0) ∧ w = w' := by
  have H := Lib.hid h; clear h
  go_enter Try.func10, Try.ntmps10
  go_wp2_with (first
    | (go_at_call 19; refine (place_0 H.out _).mono ?_; rintro e w' ⟨rfl, rfl⟩)
    | (go_at_call 20; refine (getI_0 (by omega) (by omega) _).mono ?_; rintro e w' ⟨rfl, rfl⟩))
  go_ret
  exact ⟨rfl, rfl⟩
theorem var_any (e : Nat) (b : Bool) (he : e < 4294967296) (hb : (e % 2 = 1) = (b = true)) (w : World) : Calls Try.prog 11 #[.int .u32 e] w fun r w' => r = .returned (.bool b) ∧ w = w' := by
  have h := Lib.hid (and32 1 (by omega) he)
  have HB := Lib.hid hb
  clear hb
  go_enter Try.func11, Try.ntmps11
  go_wp2
  go_ret
  refine ⟨bool_of ?_, rfl⟩
  have h1 : bits .and .u32 (e : Int) 1 = ((e % 2 : Nat) : Int) := h.out
  have hb := HB.out
  rw [h1]
  cases b <;> simp at hb ⊢ <;> omega
end Go.Proofs.Ytobfcinnggbkcaa
