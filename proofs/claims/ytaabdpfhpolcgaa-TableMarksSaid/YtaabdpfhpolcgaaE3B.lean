/-
  CARRIED by carry.py out of the templates of an earlier stage: XELeaf XELeaf2 XELeaf3 XEOk.
-/
import Derived.Test.YtaabdpfhpolcgaaProg
import Derived.Test.YtaabdpfhpolcgaaE3A
import Derived.Lib.Hide
import Derived.Deep.QuietTactic
import Derived.BigQuiet
namespace Go.Proofs.Ytaabdpfhpolcgaa.E3
open Go.RowKit
set_option linter.unusedVariables false
set_option linter.unusedSimpArgs false
theorem place_any (l : Int) (w : World) : Calls Try.prog 15 #[.int .i64 l] w fun e w' => e = .returned (.tuple #[.int .i64 (if l = 1 then 16 else if l = 2 then 8 else if l = 3 then 1 else 0), .int .i64 (if l = 1 then 16 else if l = 2 then 8 else if l = 3 then 7 else 0)]) ∧ w = w' := by
  by_cases h1 : l = 1
  · subst h1
    go_enter Try.func15, Try.ntmps15
    go_wp2
    go_ret2
    exact ⟨rfl, rfl⟩
  by_cases h2 : l = 2
  · subst h2
    go_enter Try.func15, Try.ntmps15
    go_wp2
    go_ret2
    exact ⟨rfl, rfl⟩
  by_cases h3 : l = 3
  · subst h3
    go_enter Try.func15, Try.ntmps15
    go_wp2
    go_ret2
    exact ⟨rfl, rfl⟩
  have g1 : (l == 1) = false := by simpa using h1
  have g2 : (l == 2) = false := by simpa using h2
  have g3 : (l == 3) = false := by simpa using h3
  rw [if_neg h1, if_neg h2, if_neg h3, if_neg h1, if_neg h2, if_neg h3]
  clear h1 h2 h3
  go_enter Try.func15, Try.ntmps15
  go_wp2
  go_ret2
  exact ⟨rfl, rfl⟩
theorem mask_16 (w : World) : Calls Try.prog 36 #[.int .i64 0, .int .i64 16] w fun e w' => e = .returned (.int .u64 ((2 ^ 16 - 1 : Nat) : Int)) ∧ w = w' := by
  go_enter Try.func36, Try.ntmps36
  go_wp2
  go_ret
  exact ⟨rfl, rfl⟩
theorem mask_8 (w : World) : Calls Try.prog 36 #[.int .i64 0, .int .i64 8] w fun e w' => e = .returned (.int .u64 ((2 ^ 8 - 1 : Nat) : Int)) ∧ w = w' := by
  go_enter Try.func36, Try.ntmps36
  go_wp2
  go_ret
  exact ⟨rfl, rfl⟩
theorem mask_7 (w : World) : Calls Try.prog 36 #[.int .i64 0, .int .i64 7] w fun e w' => e = .returned (.int .u64 ((2 ^ 7 - 1 : Nat) : Int)) ∧ w = w' := by
  go_enter Try.func36, Try.ntmps36
  go_wp2
  go_ret
  exact ⟨rfl, rfl⟩
theorem mask_0 (w : World) : Calls Try.prog 36 #[.int .i64 0, .int .i64 0] w fun e w' => e = .returned (.int .u64 0) ∧ w = w' := by
  go_enter Try.func36, Try.ntmps36
  go_wp2
  go_ret
  exact ⟨rfl, rfl⟩
theorem get_16 (x : Nat) (hx : x < 18446744073709551616) (w : World) : Calls Try.prog 16 #[.int .u64 x, .int .i64 0, .int .i64 16] w fun e w' => e = .returned (.int .u64 ((x % 65536 : Nat) : Int)) ∧ w = w' := by
  have h := Lib.hid (and64 16 (by omega) hx)
  go_enter Try.func16, Try.ntmps16
  go_wp2_with (go_at_call 36; refine (mask_16 _).mono ?_; rintro e w' ⟨rfl, rfl⟩)
  go_ret
  exact ⟨one h.out.symm, rfl⟩
theorem get_8 (x : Nat) (hx : x < 18446744073709551616) (w : World) : Calls Try.prog 16 #[.int .u64 x, .int .i64 0, .int .i64 8] w fun e w' => e = .returned (.int .u64 ((x % 256 : Nat) : Int)) ∧ w = w' := by
  have h := Lib.hid (and64 8 (by omega) hx)
  go_enter Try.func16, Try.ntmps16
  go_wp2_with (go_at_call 36; refine (mask_8 _).mono ?_; rintro e w' ⟨rfl, rfl⟩)
  go_ret
  exact ⟨one h.out.symm, rfl⟩
theorem get_7 (x : Nat) (hx : x < 18446744073709551616) (w : World) : Calls Try.prog 16 #[.int .u64 x, .int .i64 0, .int .i64 7] w fun e w' => e = .returned (.int .u64 ((x % 128 : Nat) : Int)) ∧ w = w' := by
  have h := Lib.hid (and64 7 (by omega) hx)
  go_enter Try.func16, Try.ntmps16
  go_wp2_with (go_at_call 36; refine (mask_7 _).mono ?_; rintro e w' ⟨rfl, rfl⟩)
  go_ret
  exact ⟨one h.out.symm, rfl⟩
theorem get_0 (x : Nat) (hx : x < 18446744073709551616) (w : World) : Calls Try.prog 16 #[.int .u64 x, .int .i64 0, .int .i64 0] w fun e w' => e = .returned (.int .u64 0) ∧ w = w' := by
  go_enter Try.func16, Try.ntmps16
  go_wp2_with (go_at_call 36; refine (mask_0 _).mono ?_; rintro e w' ⟨rfl, rfl⟩)
  go_ret
  exact ⟨rfl, rfl⟩
end Go.Proofs.Ytaabdpfhpolcgaa.E3
namespace Go.Proofs.Ytaabdpfhpolcgaa.E3
open Go.RowKit
set_option linter.unusedVariables false
set_option linter.unusedSimpArgs false
theorem getI_16 {x : Int} (h0 : 0 ≤ x) (hx : x < 18446744073709551616) (w : World) : Calls Try.prog 16 #[.int .u64 x, .int .i64 0, .int .i64 16] w fun e w' => e = .returned (.int .u64 (x % 65536)) ∧ w = w' := by
  obtain ⟨n, rfl⟩ := Int.eq_ofNat_of_zero_le h0
  exact get_16 n (by omega) w
theorem getI_8 {x : Int} (h0 : 0 ≤ x) (hx : x < 18446744073709551616) (w : World) : Calls Try.prog 16 #[.int .u64 x, .int .i64 0, .int .i64 8] w fun e w' => e = .returned (.int .u64 (x % 256)) ∧ w = w' := by
  obtain ⟨n, rfl⟩ := Int.eq_ofNat_of_zero_le h0
  exact get_8 n (by omega) w
theorem getI_7 {x : Int} (h0 : 0 ≤ x) (hx : x < 18446744073709551616) (w : World) : Calls Try.prog 16 #[.int .u64 x, .int .i64 0, .int .i64 7] w fun e w' => e = .returned (.int .u64 (x % 128)) ∧ w = w' := by
  obtain ⟨n, rfl⟩ := Int.eq_ofNat_of_zero_le h0
  exact get_7 n (by omega) w
theorem getI_0 {x : Int} (h0 : 0 ≤ x) (hx : x < 18446744073709551616) (w : World) : Calls Try.prog 16 #[.int .u64 x, .int .i64 0, .int .i64 0] w fun e w' => e = .returned (.int .u64 0) ∧ w = w' := by
  obtain ⟨n, rfl⟩ := Int.eq_ofNat_of_zero_le h0
  exact get_0 n (by omega) w
theorem place_1 (w : World) : Calls Try.prog 15 #[.int .i64 1] w fun e w' => e = .returned (.tuple #[.int .i64 16, .int .i64 16]) ∧ w = w' := place_any 1 w
theorem place_2 (w : World) : Calls Try.prog 15 #[.int .i64 2] w fun e w' => e = .returned (.tuple #[.int .i64 8, .int .i64 8]) ∧ w = w' := place_any 2 w
theorem place_3 (w : World) : Calls Try.prog 15 #[.int .i64 3] w fun e w' => e = .returned (.tuple #[.int .i64 1, .int .i64 7]) ∧ w = w' := place_any 3 w
theorem place_0 {l : Int} (h : ¬ l = 1 ∧ ¬ l = 2 ∧ ¬ l = 3) (w : World) : Calls Try.prog 15 #[.int .i64 l] w fun e w' => e = .returned (.tuple #[.int .i64 0, .int .i64 0]) ∧ w = w' := by
  have := place_any l w
  rw [if_neg h.1, if_neg h.2.1, if_neg h.2.2, if_neg h.1, if_neg h.2.1, if_neg h.2.2] at this
  exact this
theorem weight_1 (e : Nat) (he : e < 4294967296) (w : World) : Calls Try.prog 7 #[.int .u32 e, .int .i64 1] w fun r w' => r = .returned (.int .i64 ((e / 65536 : Nat) : Int)) ∧ w = w' := by
  go_enter Try.func7, Try.ntmps7
  go_wp2_with (first
    | (go_at_call 15; refine (place_1 _).mono ?_; rintro e w' ⟨rfl, rfl⟩)
    | (go_at_call 16; refine (getI_16 (by omega) (by omega) _).mono ?_; rintro e w' ⟨rfl, rfl⟩))
  go_ret
  exact ⟨one (by omega), rfl⟩
theorem weight_2 (e : Nat) (he : e < 4294967296) (w : World) : Calls Try.prog 7 #[.int .u32 e, .int .i64 2] w fun r w' => r = .returned (.int .i64 ((e / 256 % 256 : Nat) : Int)) ∧ w = w' := by
  go_enter Try.func7, Try.ntmps7
  go_wp2_with (first
    | (go_at_call 15; refine (place_2 _).mono ?_; rintro e w' ⟨rfl, rfl⟩)
    | (go_at_call 16; refine (getI_8 (by omega) (by omega) _).mono ?_; rintro e w' ⟨rfl, rfl⟩))
  go_ret
  exact ⟨one (by omega), rfl⟩
theorem weight_3 (e : Nat) (he : e < 4294967296) (w : World) : Calls Try.prog 7 #[.int .u32 e, .int .i64 3] w fun r w' => r = .returned (.int .i64 ((e / 2 % 128 : Nat) : Int)) ∧ w = w' := by
  go_enter Try.func7, Try.ntmps7
  go_wp2_with (first
    | (go_at_call 15; refine (place_3 _).mono ?_; rintro e w' ⟨rfl, rfl⟩)
    | (go_at_call 16; refine (getI_7 (by omega) (by omega) _).mono ?_; rintro e w' ⟨rfl, rfl⟩))
  go_ret
  exact ⟨one (by omega), rfl⟩
theorem weight_0 (e : Nat) {l : Int} (h : ¬ l = 1 ∧ ¬ l = 2 ∧ ¬ l = 3) (he : e < 4294967296) (w : World) : Calls Try.prog 7 #[.int .u32 e, .int .i64 l] w fun r w' => r = .returned (.int .i64 0) ∧ w = w' := by
  have H := Lib.hid h; clear h
  go_enter Try.func7, Try.ntmps7
  go_wp2_with (first
    | (go_at_call 15; refine (place_0 H.out _).mono ?_; rintro e w' ⟨rfl, rfl⟩)
    | (go_at_call 16; refine (getI_0 (by omega) (by omega) _).mono ?_; rintro e w' ⟨rfl, rfl⟩))
  go_ret
  exact ⟨rfl, rfl⟩
theorem var_any (e : Nat) (b : Bool) (he : e < 4294967296) (hb : (e % 2 = 1) = (b = true)) (w : World) : Calls Try.prog 37 #[.int .u32 e] w fun r w' => r = .returned (.bool b) ∧ w = w' := by
  have h := Lib.hid (and32 1 (by omega) he)
  have HB := Lib.hid hb
  clear hb
  go_enter Try.func37, Try.ntmps37
  go_wp2
  go_ret
  refine ⟨bool_of ?_, rfl⟩
  have h1 : bits .and .u32 (e : Int) 1 = ((e % 2 : Nat) : Int) := h.out
  have hb := HB.out
  rw [h1]
  cases b <;> simp at hb ⊢ <;> omega
end Go.Proofs.Ytaabdpfhpolcgaa.E3
namespace Go.Proofs.Ytaabdpfhpolcgaa.E3
open Go.RowKit
set_option linter.unusedVariables false
set_option linter.unusedSimpArgs false
theorem getW_16 (x : Int) (w : World) : Calls Try.prog 16 #[.int .u64 (IntKind.u64.wrap x), .int .i64 0, .int .i64 16] w fun e w' => e = .returned (.int .u64 (x % 65536)) ∧ w = w' := by
  have e : IntKind.u64.wrap x % 65536 = x % 65536 := by rw [IntKind.wrap_u64]; omega
  rw [← e]; exact getI_16 (by rw [IntKind.wrap_u64]; omega) (by rw [IntKind.wrap_u64]; omega) w
theorem getW_8 (x : Int) (w : World) : Calls Try.prog 16 #[.int .u64 (IntKind.u64.wrap x), .int .i64 0, .int .i64 8] w fun e w' => e = .returned (.int .u64 (x % 256)) ∧ w = w' := by
  have e : IntKind.u64.wrap x % 256 = x % 256 := by rw [IntKind.wrap_u64]; omega
  rw [← e]; exact getI_8 (by rw [IntKind.wrap_u64]; omega) (by rw [IntKind.wrap_u64]; omega) w
theorem getW_7 (x : Int) (w : World) : Calls Try.prog 16 #[.int .u64 (IntKind.u64.wrap x), .int .i64 0, .int .i64 7] w fun e w' => e = .returned (.int .u64 (x % 128)) ∧ w = w' := by
  have e : IntKind.u64.wrap x % 128 = x % 128 := by rw [IntKind.wrap_u64]; omega
  rw [← e]; exact getI_7 (by rw [IntKind.wrap_u64]; omega) (by rw [IntKind.wrap_u64]; omega) w
theorem getW_0 (x : Int) (w : World) : Calls Try.prog 16 #[.int .u64 (IntKind.u64.wrap x), .int .i64 0, .int .i64 0] w fun e w' => e = .returned (.int .u64 0) ∧ w = w' :=
  getI_0 (by rw [IntKind.wrap_u64]; omega) (by rw [IntKind.wrap_u64]; omega) w
theorem with_1 (e : Nat) (v : Int) (he : e < 4294967296) (hv : -9223372036854775808 ≤ v) (hv' : v ≤ 9223372036854775807) (w : World) :
    Calls Try.prog 47 #[.int .u32 e, .int .i64 1, .int .i64 v] w fun r w' => r = .returned (.int .u32 ((v % 65536) * 65536 + e % 65536)) ∧ w = w' := by
  go_enter Try.func47, Try.ntmps47
  go_wp2_with (first
    | (go_at_call 15; refine (place_1 _).mono ?_; rintro e w' ⟨rfl, rfl⟩)
    | (go_at_call 7; refine (weight_1 _ he _).mono ?_; rintro e w' ⟨rfl, rfl⟩)
    | (go_at_call 16; refine (getW_16 _ _).mono ?_; rintro e w' ⟨rfl, rfl⟩))
  go_ret
  exact ⟨one (put_1 he), rfl⟩
theorem with_2 (e : Nat) (v : Int) (he : e < 4294967296) (hv : -9223372036854775808 ≤ v) (hv' : v ≤ 9223372036854775807) (w : World) :
    Calls Try.prog 47 #[.int .u32 e, .int .i64 2, .int .i64 v] w fun r w' => r = .returned (.int .u32 (e / 65536 * 65536 + (v % 256) * 256 + e % 256)) ∧ w = w' := by
  go_enter Try.func47, Try.ntmps47
  go_wp2_with (first
    | (go_at_call 15; refine (place_2 _).mono ?_; rintro e w' ⟨rfl, rfl⟩)
    | (go_at_call 7; refine (weight_2 _ he _).mono ?_; rintro e w' ⟨rfl, rfl⟩)
    | (go_at_call 16; refine (getW_8 _ _).mono ?_; rintro e w' ⟨rfl, rfl⟩))
  go_ret
  exact ⟨one (put_2 he), rfl⟩
theorem with_3 (e : Nat) (v : Int) (he : e < 4294967296) (hv : -9223372036854775808 ≤ v) (hv' : v ≤ 9223372036854775807) (w : World) :
    Calls Try.prog 47 #[.int .u32 e, .int .i64 3, .int .i64 v] w fun r w' => r = .returned (.int .u32 (e / 256 * 256 + (v % 128) * 2 + e % 2)) ∧ w = w' := by
  go_enter Try.func47, Try.ntmps47
  go_wp2_with (first
    | (go_at_call 15; refine (place_3 _).mono ?_; rintro e w' ⟨rfl, rfl⟩)
    | (go_at_call 7; refine (weight_3 _ he _).mono ?_; rintro e w' ⟨rfl, rfl⟩)
    | (go_at_call 16; refine (getW_7 _ _).mono ?_; rintro e w' ⟨rfl, rfl⟩))
  go_ret
  exact ⟨one (put_3 he), rfl⟩
theorem with_0 (e : Nat) (v : Int) {l : Int} (h : ¬ l = 1 ∧ ¬ l = 2 ∧ ¬ l = 3) (he : e < 4294967296) (hv : -9223372036854775808 ≤ v) (hv' : v ≤ 9223372036854775807) (w : World) :
    Calls Try.prog 47 #[.int .u32 e, .int .i64 l, .int .i64 v] w fun r w' => r = .returned (.int .u32 e) ∧ w = w' := by
  have H := Lib.hid h; clear h
  go_enter Try.func47, Try.ntmps47
  go_wp2_with (first
    | (go_at_call 15; refine (place_0 H.out _).mono ?_; rintro e w' ⟨rfl, rfl⟩)
    | (go_at_call 7; refine (weight_0 _ H.out he _).mono ?_; rintro e w' ⟨rfl, rfl⟩)
    | (go_at_call 16; refine (getW_0 _ _).mono ?_; rintro e w' ⟨rfl, rfl⟩))
  go_ret
  exact ⟨one (put_0 he), rfl⟩
end Go.Proofs.Ytaabdpfhpolcgaa.E3
namespace Go.Proofs.Ytaabdpfhpolcgaa.E3
open Go.RowKit
set_option linter.unusedVariables false
set_option linter.unusedSimpArgs false
def okP (p s t : Nat) (v : Bool) : Bool := (decide (p = 0) || !decide (s = 0) && !decide (t = 0)) && (decide (s = 0) || !decide (t = 0)) && (!v || !decide (p = 0))
theorem weight_1' {e p : Nat} (h : e / 65536 = p) (he : e < 4294967296) (w : World) : Calls Try.prog 7 #[.int .u32 e, .int .i64 1] w fun r w' => r = .returned (.int .i64 p) ∧ w = w' := by
  rw [← h]; exact weight_1 e he w
theorem weight_2' {e p : Nat} (h : e / 256 % 256 = p) (he : e < 4294967296) (w : World) : Calls Try.prog 7 #[.int .u32 e, .int .i64 2] w fun r w' => r = .returned (.int .i64 p) ∧ w = w' := by
  rw [← h]; exact weight_2 e he w
theorem weight_3' {e p : Nat} (h : e / 2 % 128 = p) (he : e < 4294967296) (w : World) : Calls Try.prog 7 #[.int .u32 e, .int .i64 3] w fun r w' => r = .returned (.int .i64 p) ∧ w = w' := by
  rw [← h]; exact weight_3 e he w
theorem ok_any (e : Nat) (p s t : Nat) (v : Bool) (he : e < 4294967296) (hp : Hid (e / 65536 = p)) (hs : Hid (e / 256 % 256 = s)) (ht : Hid (e / 2 % 128 = t)) (hv : Hid ((e % 2 = 1) = (v = true))) (w : World) :
    Calls Try.prog 71 #[.int .u32 e] w fun r w' => r = .returned (.bool (okP p s t v)) ∧ w = w' := by
  go_enter Try.func71, Try.ntmps71
  go_wp2_with (first
    | (go_at_call 7; with_reducible refine (weight_1' hp.out he _).mono ?_; rintro e w' ⟨rfl, rfl⟩)
    | (go_at_call 7; with_reducible refine (weight_2' hs.out he _).mono ?_; rintro e w' ⟨rfl, rfl⟩)
    | (go_at_call 7; with_reducible refine (weight_3' ht.out he _).mono ?_; rintro e w' ⟨rfl, rfl⟩)
    | (go_at_call 37; refine (var_any _ v he hv.out _).mono ?_; rintro e w' ⟨rfl, rfl⟩))
  all_goals go_ret
  all_goals (refine ⟨bool_of ?_, rfl⟩; unfold okP; simp [*])
end Go.Proofs.Ytaabdpfhpolcgaa.E3
