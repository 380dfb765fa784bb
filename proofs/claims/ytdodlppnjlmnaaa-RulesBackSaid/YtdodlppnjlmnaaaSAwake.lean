/-
  THE CONTRACT of layer 6's awake.
-/
import Derived.Test.YtdodlppnjlmnaaaSSame
import Derived.Test.YtdodlppnjlmnaaaSParse
namespace Go.Proofs.Ytdodlppnjlmnaaa
open Go.RowKit
set_option linter.unusedVariables false
set_option linter.unusedSimpArgs false
abbrev AW1 : ByteArray := ⟨#[38, 99, 32, 60, 99, 104]⟩
abbrev AW2 : ByteArray := ⟨#[60, 97]⟩
theorem aw1 : parse AW1.data.toList = ([⟨1, [99], []⟩, ⟨2, [99, 104], []⟩], 0, 0) := by decide +kernel
theorem aw2 : parse AW2.data.toList = ([], 0, 10) := by decide +kernel
/-- Parse's answer with the slice written out. -/
theorem par_form {s : ByteArray} (w : World) (hs : s.size ≤ 1000000) {l : List RV} {at' E : Nat} (hR : parse s.data.toList = (l, at', E)) :
    Calls Try.prog 7 #[.string s] w fun e w' => (∃ (A : Option Addr) (n c : Nat), e = .returned (.tuple #[.slice A n c, .int .i64 (at' : Nat), .int .i64 (E : Nat)]) ∧ n = l.length ∧ RdRs w' (.slice A n c) l) ∧ Below w.heap.size w w' := by
  refine (par_any w hs hR).mono fun e w' hh => ?_
  obtain ⟨⟨v, rfl, hr⟩, hb⟩ := hh
  obtain ⟨A, c, rfl⟩ := hr.form
  exact ⟨⟨A, _, c, rfl, rfl, hr⟩, hb⟩
theorem aw1_any (w : World) : Calls Try.prog 7 #[.string AW1] w fun e w' => (∃ (g o c : Nat) (vs : Value), e = .returned (.tuple #[.slice (some ⟨g, o, none⟩) 2 c, .int .i64 0, .int .i64 0]) ∧ 2 ≤ c ∧ w'.cell? ⟨g, o + 3, none⟩ = some (.int .i64 2) ∧ w'.cell? ⟨g, o + 3 + 1, none⟩ = some vs ∧ RdI anyB w' vs [99, 104]) ∧ Below w.heap.size w w' := by
  refine (par_form (s := AW1) w (by decide) aw1).mono fun e w' hh => ?_
  obtain ⟨⟨A, n, c, rfl, rfl, hr⟩, hb⟩ := hh
  obtain ⟨g, o, vs, ve, rfl, d0, d1, d2, s1, s2⟩ := hr.at (k := 1) (x := ⟨2, [99, 104], []⟩) rfl
  exact ⟨⟨g, o, c, vs, rfl, hr.cap, d0, d1, s1⟩, hb⟩
theorem same_of {w w' : World} {v : Value} {l : List Int} (h : RdI anyB w v l) (hl : l.length ≤ 1000000) (hb : Below w.heap.size w w') {u : Value} (hu : RdI anyB w' u l) : Calls Try.prog 14 #[v, u] w' fun e w'' => e = .returned (.bool true) ∧ ∃ m, w'' = w'.drewN m :=
  sameq_is (h.below hb (Nat.le_refl _)) hu hl (beq_self_eq_true l) w' (Below.refl _ _)
set_option maxRecDepth 100000 in
set_option maxHeartbeats 1000000 in
theorem awake_any (w : World) : Calls Try.prog 6 #[] w fun e w' => e = .returned (.bool true) ∧ Below w.heap.size w w' := by
  have H1 := Lib.hid aw1_any
  have H2 := Lib.hid (fun w => par_form (s := AW2) w (by decide) aw2)
  have tok : True := trivial
  go_enter Try.func6, Try.ntmps6
  go_wp2_with (first
    | (go_at_call 7; have _t := tok; refine (H1.out _).mono ?_; rintro e w1 ⟨⟨g, o, c, vs, rfl, hc, e0, e1, hr⟩, hb⟩; have HR1 := Lib.hid hr; have HB1 := Lib.hid hb; have E0 := Lib.hid e0; have E1 := Lib.hid e1; have hcI : (2 : Int) ≤ (c : Int) := (by omega); clear hr hb e0 e1; clear _t tok)
    | (go_at_call 7; refine (H2.out _).mono ?_; rintro e w2 ⟨⟨A2, n2, c2, rfl, -, -⟩, hb⟩; have d0 := cell_call hb E0.out; have d1 := cell_call hb E1.out; have HR2 := Lib.hid (RdI.below HR1.out hb (Nat.le_refl _)); have HB2 := Lib.hid (HB1.out.trans (hb.mono HB1.out.size)); clear hb)
    | (go_at_call 14; refine (same_of HR2.out (by decide) (alloc_below w2 (.cells #[.int .i64 99, .int .i64 104] 3)) (RdF.new w2 [.int .i64 99, .int .i64 104] 3 (Nat.le_refl 2))).mono ?_; rintro e w3 ⟨rfl, m, rfl⟩))
  go_ret
  exact ⟨rfl, (HB2.out.alloc HB2.out.size _).trans (below_drewN _ m |>.mono (by have := HB2.out.size; simp; omega))⟩
end Go.Proofs.Ytdodlppnjlmnaaa
