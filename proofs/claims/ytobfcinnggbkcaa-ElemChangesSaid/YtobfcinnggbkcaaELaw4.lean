/-
  THE WALK of the law ElemChanges.
-/
import Derived.Test.YtobfcinnggbkcaaELaw3
namespace Go.Proofs.Ytobfcinnggbkcaa
open Go.RowKit
set_option linter.unusedVariables false
set_option linter.unusedSimpArgs false
set_option maxHeartbeats 1000000 in
set_option maxRecDepth 200000 in
theorem changes_1 (n : Nat) (c : Int) (w : World) (hn : n < 4294967296) (hc : -9223372036854775808 ≤ c) (hc' : c ≤ 9223372036854775807) :
    Calls Try.prog 5 #[.int .u32 n, .int .i64 1, .int .i64 c] w fun e w' => e = .returned (.bool true) ∧ Below w.heap.size w w' := by
  obtain ⟨p, s, t, v, g1, g2, g3, g4, hp, hs, ht, -⟩ := parts_of hn
  obtain ⟨x, hx⟩ := Int.eq_ofNat_of_zero_le (show 0 ≤ c % 65536 by omega)
  have hx' : x < 65536 := by omega
  obtain ⟨m, hm⟩ : ∃ m, mk x s t (if v then 1 else 0) = m := ⟨_, rfl⟩
  have H1 : Hid (c % 65536 * 65536 + (n : Int) % 65536 = m) := by
    show _ = _; rw [← hm]; unfold mk
    cases v <;> simp at g4 ⊢ <;> omega
  have hand : bits .and .i64 c 65535 = x := by rw [← hx]; exact and_i64_k 16 (by omega) c
  have G1 := Lib.hid g1
  have G2 := Lib.hid g2
  have G3 := Lib.hid g3
  have G4 := Lib.hid g4
  have HM := Lib.hid hm
  clear g1 g2 g3 g4 hm hx
  go_enter Try.func5, Try.ntmps5
  go_wp2_with (first
    | (go_at_call 18; refine (with_1' H1 hn hc hc' _).mono ?_; rintro e w' ⟨rfl, rfl⟩)
    | (go_at_call 16; refine (rof_any n p s t v hn G1 G2 G3 G4 _).mono ?_; rintro e w1 ⟨rfl, hb1⟩)
    | (go_at_call 9; refine (rword_is hx' hs ht HM.out _).mono ?_; rintro e w2 ⟨rfl, hb2⟩)
    | (go_at_call 8; refine (awake_any _).mono ?_; rintro e w3 ⟨rfl, hb3⟩))
  go_ret
  exact ⟨rfl, below_kept (below_kept (hb1.alloc hb1.size _) (Nat.le_refl _) hb2) (Nat.le_refl _) hb3⟩
set_option maxHeartbeats 1000000 in
set_option maxRecDepth 200000 in
theorem changes_2 (n : Nat) (c : Int) (w : World) (hn : n < 4294967296) (hc : -9223372036854775808 ≤ c) (hc' : c ≤ 9223372036854775807) :
    Calls Try.prog 5 #[.int .u32 n, .int .i64 2, .int .i64 c] w fun e w' => e = .returned (.bool true) ∧ Below w.heap.size w w' := by
  obtain ⟨p, s, t, v, g1, g2, g3, g4, hp, hs, ht, -⟩ := parts_of hn
  obtain ⟨x, hx⟩ := Int.eq_ofNat_of_zero_le (show 0 ≤ c % 256 by omega)
  have hx' : x < 256 := by omega
  obtain ⟨m, hm⟩ : ∃ m, mk p x t (if v then 1 else 0) = m := ⟨_, rfl⟩
  have H1 : Hid ((n : Int) / 65536 * 65536 + c % 256 * 256 + (n : Int) % 256 = m) := by
    show _ = _; rw [← hm]; unfold mk
    cases v <;> simp at g4 ⊢ <;> omega
  have hand : bits .and .i64 c 255 = x := by rw [← hx]; exact and_i64_k 8 (by omega) c
  have G1 := Lib.hid g1
  have G2 := Lib.hid g2
  have G3 := Lib.hid g3
  have G4 := Lib.hid g4
  have HM := Lib.hid hm
  clear g1 g2 g3 g4 hm hx
  go_enter Try.func5, Try.ntmps5
  go_wp2_with (first
    | (go_at_call 18; refine (with_2' H1 hn hc hc' _).mono ?_; rintro e w' ⟨rfl, rfl⟩)
    | (go_at_call 16; refine (rof_any n p s t v hn G1 G2 G3 G4 _).mono ?_; rintro e w1 ⟨rfl, hb1⟩)
    | (go_at_call 9; refine (rword_is hp hx' ht HM.out _).mono ?_; rintro e w2 ⟨rfl, hb2⟩)
    | (go_at_call 8; refine (awake_any _).mono ?_; rintro e w3 ⟨rfl, hb3⟩))
  go_ret
  exact ⟨rfl, below_kept (below_kept (hb1.alloc hb1.size _) (Nat.le_refl _) hb2) (Nat.le_refl _) hb3⟩
set_option maxHeartbeats 1000000 in
set_option maxRecDepth 200000 in
theorem changes_3 (n : Nat) (c : Int) (w : World) (hn : n < 4294967296) (hc : -9223372036854775808 ≤ c) (hc' : c ≤ 9223372036854775807) :
    Calls Try.prog 5 #[.int .u32 n, .int .i64 3, .int .i64 c] w fun e w' => e = .returned (.bool true) ∧ Below w.heap.size w w' := by
  obtain ⟨p, s, t, v, g1, g2, g3, g4, hp, hs, ht, -⟩ := parts_of hn
  obtain ⟨x, hx⟩ := Int.eq_ofNat_of_zero_le (show 0 ≤ c % 128 by omega)
  have hx' : x < 128 := by omega
  obtain ⟨m, hm⟩ : ∃ m, mk p s x (if v then 1 else 0) = m := ⟨_, rfl⟩
  have H1 : Hid ((n : Int) / 256 * 256 + c % 128 * 2 + (n : Int) % 2 = m) := by
    show _ = _; rw [← hm]; unfold mk
    cases v <;> simp at g4 ⊢ <;> omega
  have hand : bits .and .i64 c 127 = x := by rw [← hx]; exact and_i64_k 7 (by omega) c
  have G1 := Lib.hid g1
  have G2 := Lib.hid g2
  have G3 := Lib.hid g3
  have G4 := Lib.hid g4
  have HM := Lib.hid hm
  clear g1 g2 g3 g4 hm hx
  go_enter Try.func5, Try.ntmps5
  go_wp2_with (first
    | (go_at_call 18; refine (with_3' H1 hn hc hc' _).mono ?_; rintro e w' ⟨rfl, rfl⟩)
    | (go_at_call 16; refine (rof_any n p s t v hn G1 G2 G3 G4 _).mono ?_; rintro e w1 ⟨rfl, hb1⟩)
    | (go_at_call 9; refine (rword_is hp hs hx' HM.out _).mono ?_; rintro e w2 ⟨rfl, hb2⟩)
    | (go_at_call 8; refine (awake_any _).mono ?_; rintro e w3 ⟨rfl, hb3⟩))
  go_ret
  exact ⟨rfl, below_kept (below_kept (hb1.alloc hb1.size _) (Nat.le_refl _) hb2) (Nat.le_refl _) hb3⟩
set_option maxHeartbeats 1000000 in
set_option maxRecDepth 200000 in
theorem changes_0 (n : Nat) (l c : Int) (w : World) (hl : ¬ l = 1 ∧ ¬ l = 2 ∧ ¬ l = 3) (hn : n < 4294967296) (hc : -9223372036854775808 ≤ c) (hc' : c ≤ 9223372036854775807) :
    Calls Try.prog 5 #[.int .u32 n, .int .i64 l, .int .i64 c] w fun e w' => e = .returned (.bool true) ∧ Below w.heap.size w w' := by
  obtain ⟨p, s, t, v, g1, g2, g3, g4, hp, hs, ht, -⟩ := parts_of hn
  have hm : mk p s t (if v then 1 else 0) = n := by
    unfold mk; cases v <;> simp at g4 ⊢ <;> omega
  have l1 : (l == 1) = false := by simpa using hl.1
  have l2 : (l == 2) = false := by simpa using hl.2.1
  have l3 : (l == 3) = false := by simpa using hl.2.2
  have HL := Lib.hid hl
  have G1 := Lib.hid g1
  have G2 := Lib.hid g2
  have G3 := Lib.hid g3
  have G4 := Lib.hid g4
  have HM := Lib.hid hm
  clear g1 g2 g3 g4 hm hl
  go_enter Try.func5, Try.ntmps5
  go_wp2_with (first
    | (go_at_call 18; refine (with_0 n c HL.out hn hc hc' _).mono ?_; rintro e w' ⟨rfl, rfl⟩)
    | (go_at_call 16; refine (rof_any n p s t v hn G1 G2 G3 G4 _).mono ?_; rintro e w1 ⟨rfl, hb1⟩)
    | (go_at_call 9; refine (rword_is hp hs ht HM.out _).mono ?_; rintro e w2 ⟨rfl, hb2⟩)
    | (go_at_call 8; refine (awake_any _).mono ?_; rintro e w3 ⟨rfl, hb3⟩))
  go_ret
  exact ⟨rfl, below_kept (below_kept (hb1.alloc hb1.size _) (Nat.le_refl _) hb2) (Nat.le_refl _) hb3⟩
theorem elemChanges_walk (a0 a1 a2 : Int) (w : World) (w0 : 0 ≤ a0 ∧ a0 ≤ 4294967295) (w1 : -9223372036854775808 ≤ a1 ∧ a1 ≤ 9223372036854775807) (w2 : -9223372036854775808 ≤ a2 ∧ a2 ≤ 9223372036854775807) :
    Calls Try.prog 5 #[.int .u32 a0, .int .i64 a1, .int .i64 a2] w fun e w' => e = .returned (.bool true) ∧ Below w.heap.size w w' := by
  obtain ⟨n, rfl⟩ := Int.eq_ofNat_of_zero_le w0.1
  by_cases h1 : a1 = 1
  · subst h1; exact changes_1 n a2 w (by omega) w2.1 w2.2
  by_cases h2 : a1 = 2
  · subst h2; exact changes_2 n a2 w (by omega) w2.1 w2.2
  by_cases h3 : a1 = 3
  · subst h3; exact changes_3 n a2 w (by omega) w2.1 w2.2
  exact changes_0 n a1 a2 w ⟨h1, h2, h3⟩ (by omega) w2.1 w2.2
end Go.Proofs.Ytobfcinnggbkcaa
