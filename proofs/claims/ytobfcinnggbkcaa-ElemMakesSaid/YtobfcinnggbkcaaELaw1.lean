/-
  THE WALK of the law ElemMakes.
-/
import Derived.Test.YtobfcinnggbkcaaEAwake
import Derived.Deep.RegionHeld3
namespace Go.Proofs.Ytobfcinnggbkcaa
open Go.RowKit
set_option linter.unusedVariables false
set_option linter.unusedSimpArgs false
theorem make_bad (p s t : Int) (v : Bool) (hp : -9223372036854775808 ≤ p ∧ p ≤ 9223372036854775807) (hs : -9223372036854775808 ≤ s ∧ s ≤ 9223372036854775807) (ht : -9223372036854775808 ≤ t ∧ t ≤ 9223372036854775807)
    (h : (p < 0 ∨ 65535 < p) ∨ (s < 0 ∨ 255 < s) ∨ (t < 0 ∨ 127 < t)) (w : World) :
    Calls Try.prog 7 #[.int .i64 p, .int .i64 s, .int .i64 t, .bool v] w fun r w' => r = .returned (.tuple #[.int .u32 0, .int .i64 1]) ∧ w = w' := by
  by_cases h1 : p < 0 ∨ 65535 < p
  · exact make_a p s t v hp.1 hp.2 h1 w
  obtain ⟨p, rfl⟩ := Int.eq_ofNat_of_zero_le (show 0 ≤ p by omega)
  by_cases h2 : s < 0 ∨ 255 < s
  · exact make_b p s t v (by omega) hs.1 hs.2 h2 w
  obtain ⟨s, rfl⟩ := Int.eq_ofNat_of_zero_le (show 0 ≤ s by omega)
  exact make_c p s t v (by omega) (by omega) ht.1 ht.2 (by omega) w
set_option maxHeartbeats 1000000 in
set_option maxRecDepth 200000 in
theorem makes_bad (p s t : Int) (v : Bool) (w : World) (hp : -9223372036854775808 ≤ p ∧ p ≤ 9223372036854775807) (hs : -9223372036854775808 ≤ s ∧ s ≤ 9223372036854775807) (ht : -9223372036854775808 ≤ t ∧ t ≤ 9223372036854775807)
    (h : (p < 0 ∨ 65535 < p) ∨ (s < 0 ∨ 255 < s) ∨ (t < 0 ∨ 127 < t)) :
    Calls Try.prog 3 #[.int .i64 p, .int .i64 s, .int .i64 t, .bool v] w fun e w' => e = .returned (.bool true) ∧ Below w.heap.size w w' := by
  have HC := Lib.hid (fun w => make_bad p s t v hp hs ht h w)
  have fin : ∀ {b : Bool}, b = true → b = true := fun h => h
  by_cases d1 : 0 ≤ p
  · by_cases d2 : p ≤ 65535
    · by_cases d3 : 0 ≤ s
      · by_cases d4 : s ≤ 255
        · by_cases d5 : 0 ≤ t
          · have d6 : decide (t ≤ 127) = false := by simp; omega
            clear hp hs ht h
            go_enter Try.func3, Try.ntmps3
            go_wp2_with (first
              | (go_at_call 7; refine (HC.out _).mono ?_; rintro e w' ⟨rfl, rfl⟩)
              | (go_at_call 8; refine (awake_any _).mono ?_; rintro e w1 ⟨rfl, hb1⟩))
            go_ret
            exact ⟨rfl, hb1⟩
          · have d6 : decide (0 ≤ t) = false := by simpa using d5
            clear hp hs ht h d5
            go_enter Try.func3, Try.ntmps3
            go_wp2_with (first
              | (go_at_call 7; refine (HC.out _).mono ?_; rintro e w' ⟨rfl, rfl⟩)
              | (go_at_call 8; refine (awake_any _).mono ?_; rintro e w1 ⟨rfl, hb1⟩))
            go_ret
            exact ⟨rfl, hb1⟩
        · have d6 : decide (s ≤ 255) = false := by simpa using d4
          clear hp hs ht h d4
          go_enter Try.func3, Try.ntmps3
          go_wp2_with (first
            | (go_at_call 7; refine (HC.out _).mono ?_; rintro e w' ⟨rfl, rfl⟩)
            | (go_at_call 8; refine (awake_any _).mono ?_; rintro e w1 ⟨rfl, hb1⟩))
          go_ret
          exact ⟨rfl, hb1⟩
      · have d6 : decide (0 ≤ s) = false := by simpa using d3
        clear hp hs ht h d3
        go_enter Try.func3, Try.ntmps3
        go_wp2_with (first
          | (go_at_call 7; refine (HC.out _).mono ?_; rintro e w' ⟨rfl, rfl⟩)
          | (go_at_call 8; refine (awake_any _).mono ?_; rintro e w1 ⟨rfl, hb1⟩))
        go_ret
        exact ⟨rfl, hb1⟩
    · have d6 : decide (p ≤ 65535) = false := by simpa using d2
      clear hp hs ht h d2
      go_enter Try.func3, Try.ntmps3
      go_wp2_with (first
        | (go_at_call 7; refine (HC.out _).mono ?_; rintro e w' ⟨rfl, rfl⟩)
        | (go_at_call 8; refine (awake_any _).mono ?_; rintro e w1 ⟨rfl, hb1⟩))
      go_ret
      exact ⟨rfl, hb1⟩
  · have d6 : decide (0 ≤ p) = false := by simpa using d1
    clear hp hs ht h d1
    go_enter Try.func3, Try.ntmps3
    go_wp2_with (first
      | (go_at_call 7; refine (HC.out _).mono ?_; rintro e w' ⟨rfl, rfl⟩)
      | (go_at_call 8; refine (awake_any _).mono ?_; rintro e w1 ⟨rfl, hb1⟩))
    go_ret
    exact ⟨rfl, hb1⟩
end Go.Proofs.Ytobfcinnggbkcaa
