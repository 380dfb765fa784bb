/-
  THE WALK of the law ElemWords.
-/
import Derived.Test.YtobfcinnggbkcaaELaw2
namespace Go.Proofs.Ytobfcinnggbkcaa
open Go.RowKit
set_option linter.unusedVariables false
set_option linter.unusedSimpArgs false
theorem weight_00 (e : Nat) (he : e < 4294967296) (w : World) : Calls Try.prog 10 #[.int .u32 e, .int .i64 0] w fun r w' => r = .returned (.int .i64 0) ∧ w = w' := weight_0 e (by omega) he w
theorem weight_04 (e : Nat) (he : e < 4294967296) (w : World) : Calls Try.prog 10 #[.int .u32 e, .int .i64 4] w fun r w' => r = .returned (.int .i64 0) ∧ w = w' := weight_0 e (by omega) he w
theorem parse_yes {s : ByteArray} {n : Nat} (h : prs s.data.toList = some n) (hs : s.size ≤ 1000000) (w : World) :
    Calls Try.prog 17 #[.string s] w fun e w' => e = .returned (.tuple #[.int .u32 n, .int .i64 0]) ∧ Below w.heap.size w w' :=
  (parse_any s (some n) h hs w).mono fun e w' ⟨h1, h2⟩ => ⟨h1, h2⟩
theorem parse_no {s : ByteArray} (h : prs s.data.toList = none) (hs : s.size ≤ 1000000) (w : World) :
    Calls Try.prog 17 #[.string s] w fun e w' => e = .returned (.tuple #[.int .u32 0, .int .i64 3]) ∧ Below w.heap.size w w' :=
  (parse_any s none h hs w).mono fun e w' ⟨h1, h2⟩ => ⟨h1, h2⟩
/-- The parts of a word, each under a name. -/
theorem parts_of {n : Nat} (hn : n < 4294967296) : ∃ (p s t : Nat) (v : Bool), n / 65536 = p ∧ n / 256 % 256 = s ∧ n / 2 % 128 = t ∧ (n % 2 = 1) = (v = true) ∧ p < 65536 ∧ s < 256 ∧ t < 128 ∧ etext n = 91 :: ((if v then [42] else []) ++ body p s t) := by
  refine ⟨_, _, _, decide (n % 2 = 1), rfl, rfl, rfl, by simp, by omega, by omega, by omega, ?_⟩
  unfold etext
  simp
theorem etext_size (n : Nat) : (⟨(etext n).toArray⟩ : ByteArray).size ≤ 13 := by
  rw [ba_size, etext_len]; split <;> omega
set_option maxHeartbeats 4000000 in
set_option maxRecDepth 200000 in
theorem words_any (n : Nat) (w : World) (hn : n < 4294967296) :
    Calls Try.prog 4 #[.int .u32 n] w fun e w' => e = .returned (.bool true) ∧ Below w.heap.size w w' := by
  obtain ⟨p, s, t, v, g1, g2, g3, g4, hp, hs, ht, hT1⟩ := parts_of hn
  have G1 := Lib.hid g1
  have G2 := Lib.hid g2
  have G3 := Lib.hid g3
  have G4 := Lib.hid g4
  obtain ⟨T, hT0⟩ : ∃ T, (⟨(91 :: ((if v then [42] else []) ++ body p s t)).toArray⟩ : ByteArray) = T := ⟨_, rfl⟩
  have hT := Lib.hid hT0
  rw [← hT1] at hT0
  have hTs := etext_size n
  rw [hT0] at hTs
  have hpr : prs T.data.toList = some n := by rw [← hT0]; exact prs_text hn
  have CP := Lib.hid (fun w => parse_yes hpr (by omega) w)
  obtain ⟨k, hk⟩ : ∃ k, okP p s t v = k := ⟨_, rfl⟩
  have CO := Lib.hid (fun w => ok_any n p s t v hn g1 g2 g3 g4 w)
  have CR := Lib.hid (fun w => rok_any p s t v w)
  rw [hk] at CO CR
  have tok : True := trivial
  clear g1 g2 g3 g4 hk hT0 hT1 hpr
  go_enter Try.func4, Try.ntmps4
  go_wp2_with (first
    | (go_at_call 16; refine (rof_any n p s t v hn G1 G2 G3 G4 _).mono ?_; rintro e w1 ⟨rfl, hb1⟩)
    | (go_at_call 14; have _t := tok; refine (text_is hT hn G1 G2 G3 G4 _).mono ?_; rintro e w2 ⟨rfl, hb2⟩; clear _t tok)
    | (go_at_call 17; refine (CP.out _).mono ?_; rintro e w3 ⟨rfl, hb3⟩))
  have HI := inB_new w1 p s t v
  have h0 := Lib.hid (cell_kept hb3 (cell_kept hb2 HI.c0))
  have h1 := Lib.hid (cell_kept hb3 (cell_kept hb2 HI.c1))
  have h2 := Lib.hid (cell_kept hb3 (cell_kept hb2 HI.c2))
  have h3 := Lib.hid (cell_kept hb3 (cell_kept hb2 HI.c3))
  have HB : Hid (Below w.heap.size w w3) := by
    have hA : Below w.heap.size w (w1.alloc (.cells #[.int .i64 p, .int .i64 s, .int .i64 t, .bool v] 29)) := hb1.alloc hb1.size _
    exact below_kept (below_kept hA (Nat.le_refl _) hb2) (Nat.le_refl _) hb3
  clear HI hb1 hb2 hb3
  go_region_held3 (fun w' => w'.cell? ⟨w1.heap.size, 0, none⟩ = some (.int .i64 p) ∧ w'.cell? ⟨w1.heap.size, 1, none⟩ = some (.int .i64 s) ∧ w'.cell? ⟨w1.heap.size, 2, none⟩ = some (.int .i64 t) ∧ w'.cell? ⟨w1.heap.size, 3, none⟩ = some (.bool v) ∧ Below w.heap.size w w')
    (first
      | exact ⟨h0.out, h1.out, h2.out, h3.out, HB.out.drew⟩
      | (refine held_kept ?_ hb; assumption)
      | assumption)
    (first
      | (go_at_call 10; (with_reducible refine (weight_1' G1.out hn _).mono ?_); rintro e w' ⟨rfl, rfl⟩)
      | (go_at_call 10; (with_reducible refine (weight_2' G2.out hn _).mono ?_); rintro e w' ⟨rfl, rfl⟩)
      | (go_at_call 10; (with_reducible refine (weight_3' G3.out hn _).mono ?_); rintro e w' ⟨rfl, rfl⟩)
      | (go_at_call 10; (with_reducible refine (weight_00 n hn _).mono ?_); rintro e w' ⟨rfl, rfl⟩)
      | (go_at_call 10; (with_reducible refine (weight_04 n hn _).mono ?_); rintro e w' ⟨rfl, rfl⟩)
      | (go_at_call 11; refine (var_any _ v hn G4.out _).mono ?_; rintro e w' ⟨rfl, rfl⟩)
      | (go_at_call 12; refine (CO.out _).mono ?_; rintro e w' ⟨rfl, rfl⟩)
      | (go_at_call 13; refine (CR.out _).mono ?_; rintro e w' ⟨rfl, hb⟩)
      | (go_at_call 14; refine (text_is hT hn G1 G2 G3 G4 _).mono ?_; rintro e w' ⟨rfl, hb⟩)
      | (go_at_call 15; refine (rtext_is hT hp hs ht _).mono ?_; rintro e w' ⟨rfl, hb⟩)
      | (go_at_call 8; refine (awake_any _).mono ?_; rintro e w' ⟨rfl, hb⟩))
  go_wp2
  go_ret
  rename_i hH
  exact ⟨rfl, hH.2.2.2.2⟩
theorem elemWords_walk (a0 : Int) (w : World) (w0 : 0 ≤ a0 ∧ a0 ≤ 4294967295) :
    Calls Try.prog 4 #[.int .u32 a0] w fun e w' => e = .returned (.bool true) ∧ Below w.heap.size w w' := by
  obtain ⟨n, rfl⟩ := Int.eq_ofNat_of_zero_le w0.1
  exact words_any n w (by omega)
end Go.Proofs.Ytobfcinnggbkcaa
