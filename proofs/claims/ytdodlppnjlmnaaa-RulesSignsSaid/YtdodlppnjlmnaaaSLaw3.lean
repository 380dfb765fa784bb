/-
  THE LAW RulesSigns, WALKED.
-/
import Derived.Test.YtdodlppnjlmnaaaSText
import Derived.Deep.CutRange
namespace Go.Proofs.Ytdodlppnjlmnaaa
open Go.RowKit
set_option linter.unusedVariables false
set_option linter.unusedSimpArgs false
open T2 (gb dec one isSg isPt sgs)
def sL (a b c : Int) : List RV := [⟨1, [a], []⟩, ⟨3, [b, c], [a, b, c]⟩]
def sW1 (w : World) (a : Int) : World := w.alloc (.cells #[.int .i64 a] 3)
def sW2 (w : World) (a b c : Int) : World := (sW1 w a).alloc (.cells #[.int .i64 b, .int .i64 c] 3)
def sW3 (w : World) (a b c : Int) : World := (sW2 w a b c).alloc (.cells #[.int .i64 a, .int .i64 b, .int .i64 c] 3)
def sW4 (w : World) (a b c : Int) : World := (sW3 w a b c).alloc (.cells #[.int .i64 1, .slice (some ⟨w.heap.size, 0, none⟩) 1 1, .slice none 0 0, .int .i64 3, .slice (some ⟨w.heap.size + 1, 0, none⟩) 2 2, .slice (some ⟨w.heap.size + 2, 0, none⟩) 3 3] 43)
theorem sW1_size (w : World) (a : Int) : (sW1 w a).heap.size = w.heap.size + 1 := by simp [sW1]
theorem sW2_size (w : World) (a b c : Int) : (sW2 w a b c).heap.size = w.heap.size + 2 := by simp [sW2, sW1]
theorem sW3_size (w : World) (a b c : Int) : (sW3 w a b c).heap.size = w.heap.size + 3 := by simp [sW3, sW2, sW1]
theorem sW4_below (w : World) (a b c : Int) : Below w.heap.size w (sW4 w a b c) :=
  (((alloc_below w _).alloc (by simp only [World.size_alloc]; omega) _).alloc (by simp only [World.size_alloc]; omega) _).alloc (by simp only [World.size_alloc]; omega) _
structure SF (w W : World) (a b c : Int) : Prop where
  rs : RdRs W (.slice (some ⟨w.heap.size + 3, 0, none⟩) 2 2) (sL a b c)
  c1 : W.cell? ⟨w.heap.size + 3, 1, none⟩ = some (.slice (some ⟨w.heap.size, 0, none⟩) 1 1)
  c4 : W.cell? ⟨w.heap.size + 3, 4, none⟩ = some (.slice (some ⟨w.heap.size + 1, 0, none⟩) 2 2)
  c5 : W.cell? ⟨w.heap.size + 3, 5, none⟩ = some (.slice (some ⟨w.heap.size + 2, 0, none⟩) 3 3)
  r1 : RdI anyB W (.slice (some ⟨w.heap.size, 0, none⟩) 1 1) [a]
  r2 : RdI anyB W (.slice (some ⟨w.heap.size + 1, 0, none⟩) 2 2) [b, c]
  r3 : RdI anyB W (.slice (some ⟨w.heap.size + 2, 0, none⟩) 3 3) [a, b, c]
theorem SF.below {w W W' : World} {a b c : Int} (h : SF w W a b c) (hb : Below W.heap.size W W') : SF w W' a b c :=
  ⟨h.rs.below hb (Nat.le_refl _), cell_call hb h.c1, cell_call hb h.c4, cell_call hb h.c5, RdI.below h.r1 hb (Nat.le_refl _), RdI.below h.r2 hb (Nat.le_refl _), RdI.below h.r3 hb (Nat.le_refl _)⟩
theorem SF.new (w : World) (a b c : Int) : SF w (sW4 w a b c) a b c := by
  have b2 : Below (sW1 w a).heap.size (sW1 w a) (sW2 w a b c) := alloc_below _ _
  have b3 : Below (sW2 w a b c).heap.size (sW2 w a b c) (sW3 w a b c) := alloc_below _ _
  have b4 : Below (sW3 w a b c).heap.size (sW3 w a b c) (sW4 w a b c) := alloc_below _ _
  have r1 : RdI anyB (sW1 w a) (.slice (some ⟨w.heap.size, 0, none⟩) 1 1) [a] := RdF.new w [.int .i64 a] 3 (Nat.le_refl 1)
  have r2 : RdI anyB (sW2 w a b c) (.slice (some ⟨w.heap.size + 1, 0, none⟩) 2 2) [b, c] := by
    have := RdF.new (sW1 w a) [.int .i64 b, .int .i64 c] 3 (Nat.le_refl 2)
    rw [sW1_size] at this; exact this
  have r3 : RdI anyB (sW3 w a b c) (.slice (some ⟨w.heap.size + 2, 0, none⟩) 3 3) [a, b, c] := by
    have := RdF.new (sW2 w a b c) [.int .i64 a, .int .i64 b, .int .i64 c] 3 (Nat.le_refl 3)
    rw [sW2_size] at this; exact this
  have r1 := RdI.below (RdI.below (RdI.below r1 b2 (Nat.le_refl _)) b3 (Nat.le_refl _)) b4 (Nat.le_refl _)
  have r2 := RdI.below (RdI.below r2 b3 (Nat.le_refl _)) b4 (Nat.le_refl _)
  have r3 := RdI.below r3 b4 (Nat.le_refl _)
  have hn := heap_alloc_new (sW3 w a b c) (.cells #[.int .i64 1, .slice (some ⟨w.heap.size, 0, none⟩) 1 1, .slice none 0 0, .int .i64 3, .slice (some ⟨w.heap.size + 1, 0, none⟩) 2 2, .slice (some ⟨w.heap.size + 2, 0, none⟩) 3 3] 43)
  rw [sW3_size] at hn
  have hd : RdF anyB (sW4 w a b c) (.slice (some ⟨w.heap.size + 3, 0, none⟩) 2 2) 2 (rcells [⟨1, .slice (some ⟨w.heap.size, 0, none⟩) 1 1, .slice none 0 0, [a], []⟩, ⟨3, .slice (some ⟨w.heap.size + 1, 0, none⟩) 2 2, .slice (some ⟨w.heap.size + 2, 0, none⟩) 3 3, [b, c], [a, b, c]⟩]) := by
    have := RdF.new (sW3 w a b c) (rcells [⟨1, .slice (some ⟨w.heap.size, 0, none⟩) 1 1, .slice none 0 0, [a], []⟩, ⟨3, .slice (some ⟨w.heap.size + 1, 0, none⟩) 2 2, .slice (some ⟨w.heap.size + 2, 0, none⟩) 3 3, [b, c], [a, b, c]⟩]) 43 (Nat.le_refl 2)
    rw [sW3_size] at this; exact this
  refine ⟨⟨[⟨1, .slice (some ⟨w.heap.size, 0, none⟩) 1 1, .slice none 0 0, [a], []⟩, ⟨3, .slice (some ⟨w.heap.size + 1, 0, none⟩) 2 2, .slice (some ⟨w.heap.size + 2, 0, none⟩) 3 3, [b, c], [a, b, c]⟩], rfl, hd, fun m hm => ?_⟩, cell_of_row _ _ 1 _ _ _ hn, cell_of_row _ _ 4 _ _ _ hn, cell_of_row _ _ 5 _ _ _ hn, r1, r2, r3⟩
  simp only [List.mem_cons, List.not_mem_nil, or_false] at hm
  rcases hm with rfl | rfl
  · exact ⟨r1, RdF.nil _ _⟩
  · exact ⟨r2, r3⟩
theorem signs_parse {s : ByteArray} {a b c : Int} (hp : parse s.data.toList = (sL a b c, 0, 0)) (hs : s.size ≤ 1000000) (w : World) :
    Calls Try.prog 7 #[.string s] w fun e w' => (∃ (g o c9 : Nat) (B1 : Option Addr) (m1 d1 : Nat) (B2 : Option Addr) (m2 d2 : Nat) (B3 : Option Addr) (m3 d3 : Nat), e = .returned (.tuple #[.slice (some ⟨g, o, none⟩) 2 c9, .int .i64 0, .int .i64 0]) ∧ 2 ≤ c9 ∧ w'.cell? ⟨g, o + 1, none⟩ = some (.slice B1 m1 d1) ∧ w'.cell? ⟨g, o + 3 + 1, none⟩ = some (.slice B2 m2 d2) ∧ w'.cell? ⟨g, o + 3 + 2, none⟩ = some (.slice B3 m3 d3) ∧
      RdI anyB w' (.slice B1 m1 d1) [a] ∧ RdI anyB w' (.slice B2 m2 d2) [b, c] ∧ RdI anyB w' (.slice B3 m3 d3) [a, b, c]) ∧ Below w.heap.size w w' := by
  refine (par_form w hs hp).mono fun e w' hh => ?_
  obtain ⟨⟨A, n, c9, rfl, rfl, hr⟩, hb⟩ := hh
  refine ⟨?_, hb⟩
  obtain ⟨g, o, A1, n1, c1, A2, n2, c2, e1, -, d1, -, r1, -, -, -⟩ := hr.at' (k := 0) (x := ⟨1, [a], []⟩) rfl
  subst e1
  obtain ⟨g', o', A3, n3, c3, A4, n4, c4, e2, -, d3, d4, r3, r4, -, -⟩ := hr.at' (k := 1) (x := ⟨3, [b, c], [a, b, c]⟩) rfl
  cases e2
  exact ⟨g, o, c9, A1, n1, c1, A3, n3, c3, A4, n4, c4, rfl, hr.cap, by simpa using d1, by simpa using d3, by simpa using d4, r1, r3, r4⟩
set_option maxRecDepth 100000 in
theorem signs_bad {a b c : Int} (hbad : (isPt a && isPt b && isPt c) = false) (w : World) : Calls Try.prog 5 #[.int .i64 a, .int .i64 b, .int .i64 c] w fun e w' => e = .returned (.bool true) ∧ Below w.heap.size w w' := by
  have HA := Lib.hid awake_any
  have HI := Lib.hid (fun (x : Int) (q : Bool) (h : isSg x = q) (w : World) => (by have := T2.rsign_any x w; rw [h] at this; exact this : Calls Try.prog 13 #[.int .i64 x] w fun e w' => e = .returned (.bool q) ∧ w = w'))
  have key : ∀ x : Int, isSg x = true → ¬ (1114111 : Int) < x → isPt x = true := fun x h h2 => by
    rcases sg_ways h with hp | hr
    · exact hp
    · omega
  obtain ⟨qa, ha⟩ : ∃ q, isSg a = q := ⟨_, rfl⟩
  obtain ⟨qb, hb⟩ : ∃ q, isSg b = q := ⟨_, rfl⟩
  obtain ⟨qc, hc⟩ : ∃ q, isSg c = q := ⟨_, rfl⟩
  have HIA := Lib.hid (HI.out a qa ha)
  have HIB := Lib.hid (HI.out b qb hb)
  have HIC := Lib.hid (HI.out c qc hc)
  have hor : qa = false ∨ (qa = true ∧ qb = false) ∨ (qa = true ∧ qb = true ∧ qc = false) ∨ (qa = true ∧ qb = true ∧ qc = true ∧ ((1114111 : Int) < a ∨ (¬ (1114111 : Int) < a ∧ (1114111 : Int) < b) ∨ (¬ (1114111 : Int) < a ∧ ¬ (1114111 : Int) < b ∧ (1114111 : Int) < c))) := by
    cases qa with
    | false => exact .inl rfl
    | true =>
      cases qb with
      | false => exact .inr (.inl ⟨rfl, rfl⟩)
      | true =>
        cases qc with
        | false => exact .inr (.inr (.inl ⟨rfl, rfl, rfl⟩))
        | true =>
          refine .inr (.inr (.inr ⟨rfl, rfl, rfl, ?_⟩))
          by_cases h1 : (1114111 : Int) < a
          · exact .inl h1
          · by_cases h2 : (1114111 : Int) < b
            · exact .inr (.inl ⟨h1, h2⟩)
            · by_cases h3 : (1114111 : Int) < c
              · exact .inr (.inr ⟨h1, h2, h3⟩)
              · rw [key a ha h1, key b hb h2, key c hc h3] at hbad
                cases hbad
  clear ha hb hc key hbad HI
  have ta : True := trivial
  have tb : True := trivial
  rcases hor with rfl | ⟨rfl, rfl⟩ | ⟨rfl, rfl, rfl⟩ | ⟨rfl, rfl, rfl, h1 | ⟨h1, h2⟩ | ⟨h1, h2, h3⟩⟩
  · go_enter Try.func5, Try.ntmps5
    go_wp2_with (first
      | (go_at_call 13; have _t := ta; refine (HIA.out _).mono ?_; rintro e w' ⟨rfl, rfl⟩; clear _t ta)
      | (go_at_call 13; have _t := tb; refine (HIB.out _).mono ?_; rintro e w' ⟨rfl, rfl⟩; clear _t tb)
      | (go_at_call 13; refine (HIC.out _).mono ?_; rintro e w' ⟨rfl, rfl⟩)
      | (go_at_call 6; refine (HA.out _).mono ?_; rintro e w1 ⟨rfl, hb⟩))
    go_ret
    exact ⟨rfl, hb⟩
  · go_enter Try.func5, Try.ntmps5
    go_wp2_with (first
      | (go_at_call 13; have _t := ta; refine (HIA.out _).mono ?_; rintro e w' ⟨rfl, rfl⟩; clear _t ta)
      | (go_at_call 13; have _t := tb; refine (HIB.out _).mono ?_; rintro e w' ⟨rfl, rfl⟩; clear _t tb)
      | (go_at_call 13; refine (HIC.out _).mono ?_; rintro e w' ⟨rfl, rfl⟩)
      | (go_at_call 6; refine (HA.out _).mono ?_; rintro e w1 ⟨rfl, hb⟩))
    go_ret
    exact ⟨rfl, hb⟩
  · go_enter Try.func5, Try.ntmps5
    go_wp2_with (first
      | (go_at_call 13; have _t := ta; refine (HIA.out _).mono ?_; rintro e w' ⟨rfl, rfl⟩; clear _t ta)
      | (go_at_call 13; have _t := tb; refine (HIB.out _).mono ?_; rintro e w' ⟨rfl, rfl⟩; clear _t tb)
      | (go_at_call 13; refine (HIC.out _).mono ?_; rintro e w' ⟨rfl, rfl⟩)
      | (go_at_call 6; refine (HA.out _).mono ?_; rintro e w1 ⟨rfl, hb⟩))
    go_ret
    exact ⟨rfl, hb⟩
  · go_enter Try.func5, Try.ntmps5
    go_wp2_with (first
      | (go_at_call 13; have _t := ta; refine (HIA.out _).mono ?_; rintro e w' ⟨rfl, rfl⟩; clear _t ta)
      | (go_at_call 13; have _t := tb; refine (HIB.out _).mono ?_; rintro e w' ⟨rfl, rfl⟩; clear _t tb)
      | (go_at_call 13; refine (HIC.out _).mono ?_; rintro e w' ⟨rfl, rfl⟩)
      | (go_at_call 6; refine (HA.out _).mono ?_; rintro e w1 ⟨rfl, hb⟩))
    go_ret
    exact ⟨rfl, hb⟩
  · go_enter Try.func5, Try.ntmps5
    go_wp2_with (first
      | (go_at_call 13; have _t := ta; refine (HIA.out _).mono ?_; rintro e w' ⟨rfl, rfl⟩; clear _t ta)
      | (go_at_call 13; have _t := tb; refine (HIB.out _).mono ?_; rintro e w' ⟨rfl, rfl⟩; clear _t tb)
      | (go_at_call 13; refine (HIC.out _).mono ?_; rintro e w' ⟨rfl, rfl⟩)
      | (go_at_call 6; refine (HA.out _).mono ?_; rintro e w1 ⟨rfl, hb⟩))
    go_ret
    exact ⟨rfl, hb⟩
  · go_enter Try.func5, Try.ntmps5
    go_wp2_with (first
      | (go_at_call 13; have _t := ta; refine (HIA.out _).mono ?_; rintro e w' ⟨rfl, rfl⟩; clear _t ta)
      | (go_at_call 13; have _t := tb; refine (HIB.out _).mono ?_; rintro e w' ⟨rfl, rfl⟩; clear _t tb)
      | (go_at_call 13; refine (HIC.out _).mono ?_; rintro e w' ⟨rfl, rfl⟩)
      | (go_at_call 6; refine (HA.out _).mono ?_; rintro e w1 ⟨rfl, hb⟩))
    go_ret
    exact ⟨rfl, hb⟩
set_option maxRecDepth 100000 in
set_option maxHeartbeats 4000000 in
theorem signs_ok {a b c : Int} (ha : isPt a = true) (hb : isPt b = true) (hc : isPt c = true) (w : World) (hM : MaxL w) : Calls Try.prog 5 #[.int .i64 a, .int .i64 b, .int .i64 c] w fun e w' => e = .returned (.bool true) ∧ Below w.heap.size w w' := by
  have sg : ∀ {x : Int}, isPt x = true → isSg x = true := fun h => by unfold T2.isSg; rw [h]; rfl
  have HIA := Lib.hid (fun (w : World) => (by have := T2.rsign_any a w; rw [sg ha] at this; exact this : Calls Try.prog 13 #[.int .i64 a] w fun e w' => e = .returned (.bool true) ∧ w = w'))
  have HIB := Lib.hid (fun (w : World) => (by have := T2.rsign_any b w; rw [sg hb] at this; exact this : Calls Try.prog 13 #[.int .i64 b] w fun e w' => e = .returned (.bool true) ∧ w = w'))
  have HIC := Lib.hid (fun (w : World) => (by have := T2.rsign_any c w; rw [sg hc] at this; exact this : Calls Try.prog 13 #[.int .i64 c] w fun e w' => e = .returned (.bool true) ∧ w = w'))
  have hgd : good (sL a b c) = true := signs_good ha hb hc
  have hpr : parse (txt (sL a b c)) = (sL a b c, 0, 0) := signs_back ha hb hc
  have hrs : RVs (sL a b c) := ⟨by simp [sL], fun x hx => by simp only [sL, List.mem_cons, List.not_mem_nil, or_false] at hx; rcases hx with rfl | rfl <;> simp⟩
  obtain ⟨t, ht⟩ : ∃ t : ByteArray, t.data.toList = txt (sL a b c) := ⟨⟨(txt (sL a b c)).toArray⟩, rfl⟩
  have htl : t.size ≤ 1000000 := by
    have h1 := textW_len hrs
    rw [textW_ok (sL a b c) (by simp only [good, Bool.and_eq_true] at hgd; exact hgd.1.1), ← ht, T2.ba_len] at h1
    omega
  have HF := Lib.hid (SF.new w a b c)
  have HB := Lib.hid (sW4_below w a b c)
  have HT := Lib.hid (text_any HF.out.rs hrs (hM.below HB.out (Nat.le_refl _)) (t := t) (r := 0) (by rw [if_pos hgd]; exact ht) (by rw [if_pos hgd]))
  have HP := Lib.hid (fun (w : World) => signs_parse (s := t) (by rw [ht]; exact hpr) htl w)
  have HA := Lib.hid awake_any
  have ha2 := T2.isPt_iff.1 ha
  have hb2 := T2.isPt_iff.1 hb
  have hc2 := T2.isPt_iff.1 hc
  have i1 : ¬ (1114111 : Int) < a := by omega
  have i2 : ¬ (1114111 : Int) < b := by omega
  have i3 : ¬ (1114111 : Int) < c := by omega
  have ta : True := trivial
  have tb : True := trivial
  clear ha hb hc ha2 hb2 hc2 hM sg hgd hpr hrs ht htl
  go_enter Try.func5, Try.ntmps5
  go_upto_region 4 with (first
    | (go_at_call 13; have _t := ta; refine (HIA.out _).mono ?_; rintro e w' ⟨rfl, rfl⟩; clear _t ta)
    | (go_at_call 13; have _t := tb; refine (HIB.out _).mono ?_; rintro e w' ⟨rfl, rfl⟩; clear _t tb)
    | (go_at_call 13; refine (HIC.out _).mono ?_; rintro e w' ⟨rfl, rfl⟩))
  change Code.wp _ _ _ _ (sW4 w a b c)
  generalize sW4 w a b c = w4 at HF HB HT ⊢
  go_wp2_with (first
    | (go_at_call 10; refine HT.out.mono ?_; rintro e w5 ⟨rfl, hb5⟩; have HF5 := Lib.hid (HF.out.below hb5); have HB5 := Lib.hid (HB.out.trans (hb5.mono HB.out.size)); clear hb5)
    | (go_at_call 7; refine (HP.out _).mono ?_; rintro e w6 ⟨⟨g, o, c9, B1, m1, d1, B2, m2, d2, B3, m3, d3, rfl, hc9, e1, e2, e3, s1, s2, s3⟩, hb6⟩; have HF6 := Lib.hid (HF5.out.below hb6); have HB6 := Lib.hid (HB5.out.trans (hb6.mono HB5.out.size)); have HS1 := Lib.hid s1; have HS2 := Lib.hid s2; have HS3 := Lib.hid s3; have HE1 := Lib.hid e1; have HE2 := Lib.hid e2; have HE3 := Lib.hid e3; have hcI : (2 : Int) ≤ (c9 : Int) := (by omega); clear hb6 s1 s2 s3 e1 e2 e3))
  obtain ⟨S, hS0⟩ : ∃ S : World → Prop, S = fun w' => w'.cell? ⟨g, o + 1, none⟩ = some (.slice B1 m1 d1) ∧ w'.cell? ⟨g, o + 3 + 1, none⟩ = some (.slice B2 m2 d2) ∧ w'.cell? ⟨g, o + 3 + 2, none⟩ = some (.slice B3 m3 d3) ∧ w'.cell? ⟨w.heap.size + 3, 1, none⟩ = some (.slice (some ⟨w.heap.size, 0, none⟩) 1 1) ∧ w'.cell? ⟨w.heap.size + 3, 4, none⟩ = some (.slice (some ⟨w.heap.size + 1, 0, none⟩) 2 2) ∧ w'.cell? ⟨w.heap.size + 3, 5, none⟩ = some (.slice (some ⟨w.heap.size + 2, 0, none⟩) 3 3) := ⟨_, rfl⟩
  have hS := Lib.hid hS0
  have HSx : Hid (∀ w', Below w6.heap.size w6 w' → S w') := fun w' hb => by rw [hS0]; exact ⟨cell_call hb HE1.out, cell_call hb HE2.out, cell_call hb HE3.out, cell_call hb HF6.out.c1, cell_call hb HF6.out.c4, cell_call hb HF6.out.c5⟩
  clear hS0
  have HBz : Hid (Below w6.heap.size w6 w6.drew) := below_drewN w6 1
  have HSz := Lib.hid (HSx.out _ HBz.out)
  refine R4.till_region (m := 51) (S := S) (by kernel_rfl) ?_
  generalize w6.drew = wz at HBz HSz ⊢
  refine R4.till_slot (i := 0) (d := 62) (v := ?_) rfl (by kernel_rfl) (by kernel_rfl) (by omega) (by kernel_rfl) (by kernel_rfl) (fun _ _ _ h => h) (Or.inl ⟨by rfl, ?_⟩) HSz.out ?_
  rotate_left
  · intro w' hSw; rw [hS.out] at hSw; obtain ⟨s1, s2, s3, s4, s5, s6⟩ := hSw; go_simp <;> with_reducible rfl
  try simp only [List.setIfInBounds_toArray, List.set_cons_zero, List.set_cons_succ]
  refine R4.till_slot (i := 1) (d := 63) (v := ?_) rfl (by kernel_rfl) (by kernel_rfl) (by omega) (by kernel_rfl) (by kernel_rfl) (fun _ _ _ h => h) (Or.inl ⟨by rfl, ?_⟩) HSz.out ?_
  rotate_left
  · intro w' hSw; rw [hS.out] at hSw; obtain ⟨s1, s2, s3, s4, s5, s6⟩ := hSw; go_simp <;> with_reducible rfl
  try simp only [List.setIfInBounds_toArray, List.set_cons_zero, List.set_cons_succ]
  refine R4.till_slot (i := 2) (d := 64) (v := ?_) rfl (by kernel_rfl) (by kernel_rfl) (by omega) (by kernel_rfl) (by kernel_rfl) (fun _ _ _ h => h) (Or.inl ⟨by rfl, ?_⟩) HSz.out ?_
  rotate_left
  · intro w' hSw; rw [hS.out] at hSw; obtain ⟨s1, s2, s3, s4, s5, s6⟩ := hSw; go_simp <;> with_reducible rfl
  try simp only [List.setIfInBounds_toArray, List.set_cons_zero, List.set_cons_succ]
  refine R4.till_slot (i := 3) (d := 65) (v := ?_) rfl (by kernel_rfl) (by kernel_rfl) (by omega) (by kernel_rfl) (by kernel_rfl) (fun _ _ _ h => h) (Or.inl ⟨by rfl, ?_⟩) HSz.out ?_
  rotate_left
  · intro w' hSw; rw [hS.out] at hSw; obtain ⟨s1, s2, s3, s4, s5, s6⟩ := hSw; go_simp <;> with_reducible rfl
  try simp only [List.setIfInBounds_toArray, List.set_cons_zero, List.set_cons_succ]
  refine R4.till_slot (i := 4) (d := 66) (v := ?_) rfl (by kernel_rfl) (by kernel_rfl) (by omega) (by kernel_rfl) (by kernel_rfl) (fun _ _ _ h => h) (Or.inl ⟨by rfl, ?_⟩) HSz.out ?_
  rotate_left
  · intro w' hSw; rw [hS.out] at hSw; obtain ⟨s1, s2, s3, s4, s5, s6⟩ := hSw; go_simp <;> with_reducible rfl
  try simp only [List.setIfInBounds_toArray, List.set_cons_zero, List.set_cons_succ]
  refine R4.till_slot (i := 5) (d := 67) (v := ?_) rfl (by kernel_rfl) (by kernel_rfl) (by omega) (by kernel_rfl) (by kernel_rfl) (fun _ _ _ h => h) (Or.inl ⟨by rfl, ?_⟩) HSz.out ?_
  rotate_left
  · intro w' hSw; rw [hS.out] at hSw; obtain ⟨s1, s2, s3, s4, s5, s6⟩ := hSw; go_simp <;> with_reducible rfl
  try simp only [List.setIfInBounds_toArray, List.set_cons_zero, List.set_cons_succ]
  refine R4.till_slot (i := 6) (d := 68) (v := ?_) rfl (by kernel_rfl) (by kernel_rfl) (by omega) (by kernel_rfl) (by kernel_rfl) (fun _ _ _ h => h) (Or.inl ⟨by rfl, ?_⟩) HSz.out ?_
  rotate_left
  · intro w' hSw; rw [hS.out] at hSw; obtain ⟨s1, s2, s3, s4, s5, s6⟩ := hSw; go_simp <;> with_reducible rfl
  try simp only [List.setIfInBounds_toArray, List.set_cons_zero, List.set_cons_succ]
  refine R4.till_slot (i := 7) (d := 69) (v := ?_) rfl (by kernel_rfl) (by kernel_rfl) (by omega) (by kernel_rfl) (by kernel_rfl) (fun _ _ _ h => h) (Or.inl ⟨by rfl, ?_⟩) HSz.out ?_
  rotate_left
  · intro w' hSw; rw [hS.out] at hSw; obtain ⟨s1, s2, s3, s4, s5, s6⟩ := hSw; go_simp <;> with_reducible rfl
  try simp only [List.setIfInBounds_toArray, List.set_cons_zero, List.set_cons_succ]
  refine R4.till_slot (i := 8) (d := 70) (v := ?_) rfl (by kernel_rfl) (by kernel_rfl) (by omega) (by kernel_rfl) (by kernel_rfl) (fun _ _ _ h => h) (Or.inl ⟨by rfl, ?_⟩) HSz.out ?_
  rotate_left
  · intro w' hSw; rw [hS.out] at hSw; obtain ⟨s1, s2, s3, s4, s5, s6⟩ := hSw; go_simp <;> with_reducible rfl
  try simp only [List.setIfInBounds_toArray, List.set_cons_zero, List.set_cons_succ]
  refine R4.till_slot (i := 9) (d := 71) (v := ?_) rfl (by kernel_rfl) (by kernel_rfl) (by omega) (by kernel_rfl) (by kernel_rfl) (fun _ _ _ h => h) (Or.inl ⟨by rfl, ?_⟩) HSz.out ?_
  rotate_left
  · intro w' hSw; rw [hS.out] at hSw; obtain ⟨s1, s2, s3, s4, s5, s6⟩ := hSw; go_simp <;> with_reducible rfl
  try simp only [List.setIfInBounds_toArray, List.set_cons_zero, List.set_cons_succ]
  refine R4.till_slot (i := 10) (d := 72) (v := ?_) rfl (by kernel_rfl) (by kernel_rfl) (by omega) (by kernel_rfl) (by kernel_rfl) (fun _ _ _ h => h) (Or.inl ⟨by rfl, ?_⟩) HSz.out ?_
  rotate_left
  · intro w' hSw; rw [hS.out] at hSw; obtain ⟨s1, s2, s3, s4, s5, s6⟩ := hSw; go_simp <;> with_reducible rfl
  try simp only [List.setIfInBounds_toArray, List.set_cons_zero, List.set_cons_succ]
  refine R4.till_slot (i := 11) (d := 73) (v := ?_) rfl (by kernel_rfl) (by kernel_rfl) (by omega) (by kernel_rfl) (by kernel_rfl) (fun _ _ _ h => h) (Or.inl ⟨by rfl, ?_⟩) HSz.out ?_
  rotate_left
  · intro w' hSw; rw [hS.out] at hSw; obtain ⟨s1, s2, s3, s4, s5, s6⟩ := hSw; go_simp <;> with_reducible rfl
  try simp only [List.setIfInBounds_toArray, List.set_cons_zero, List.set_cons_succ]
  refine R4.till_slot (i := 12) (d := 74) (v := ?_) rfl (by kernel_rfl) (by kernel_rfl) (by omega) (by kernel_rfl) (by kernel_rfl) (fun _ _ _ h => h) (Or.inl ⟨by rfl, ?_⟩) HSz.out ?_
  rotate_left
  · intro w' hSw; rw [hS.out] at hSw; obtain ⟨s1, s2, s3, s4, s5, s6⟩ := hSw; go_simp <;> with_reducible rfl
  try simp only [List.setIfInBounds_toArray, List.set_cons_zero, List.set_cons_succ]
  refine R4.till_slot (i := 13) (d := 75) (v := ?_) rfl (by kernel_rfl) (by kernel_rfl) (by omega) (by kernel_rfl) (by kernel_rfl) (fun _ _ _ h => h) (Or.inl ⟨by rfl, ?_⟩) HSz.out ?_
  rotate_left
  · intro w' hSw; rw [hS.out] at hSw; obtain ⟨s1, s2, s3, s4, s5, s6⟩ := hSw; go_simp <;> with_reducible rfl
  try simp only [List.setIfInBounds_toArray, List.set_cons_zero, List.set_cons_succ]
  refine R4.till_slot (i := 14) (d := 76) (v := ?_) rfl (by kernel_rfl) (by kernel_rfl) (by omega) (by kernel_rfl) (by kernel_rfl) (fun _ _ _ h => h) (Or.inl ⟨by rfl, ?_⟩) HSz.out ?_
  rotate_left
  · intro w' hSw; rw [hS.out] at hSw; obtain ⟨s1, s2, s3, s4, s5, s6⟩ := hSw; go_simp <;> with_reducible rfl
  try simp only [List.setIfInBounds_toArray, List.set_cons_zero, List.set_cons_succ]
  refine R4.till_slot (i := 15) (d := 77) (v := ?_) rfl (by kernel_rfl) (by kernel_rfl) (by omega) (by kernel_rfl) (by kernel_rfl) (fun _ _ _ h => h) (Or.inl ⟨by rfl, ?_⟩) HSz.out ?_
  rotate_left
  · intro w' hSw; rw [hS.out] at hSw; obtain ⟨s1, s2, s3, s4, s5, s6⟩ := hSw; go_simp <;> with_reducible rfl
  try simp only [List.setIfInBounds_toArray, List.set_cons_zero, List.set_cons_succ]
  refine R4.till_slot (i := 16) (d := 78) (v := ?_) rfl (by kernel_rfl) (by kernel_rfl) (by omega) (by kernel_rfl) (by kernel_rfl) (fun _ _ _ h => h) (Or.inl ⟨by rfl, ?_⟩) HSz.out ?_
  rotate_left
  · intro w' hSw; rw [hS.out] at hSw; obtain ⟨s1, s2, s3, s4, s5, s6⟩ := hSw; go_simp <;> with_reducible rfl
  try simp only [List.setIfInBounds_toArray, List.set_cons_zero, List.set_cons_succ]
  refine R4.till_slot (i := 17) (d := 79) (v := ?_) rfl (by kernel_rfl) (by kernel_rfl) (by omega) (by kernel_rfl) (by kernel_rfl) (fun _ _ _ h => h) (Or.inl ⟨by rfl, ?_⟩) HSz.out ?_
  rotate_left
  · intro w' hSw; rw [hS.out] at hSw; obtain ⟨s1, s2, s3, s4, s5, s6⟩ := hSw; go_simp <;> with_reducible rfl
  try simp only [List.setIfInBounds_toArray, List.set_cons_zero, List.set_cons_succ]
  refine R4.till_slot (i := 18) (d := 80) (v := ?_) rfl (by kernel_rfl) (by kernel_rfl) (by omega) (by kernel_rfl) (by kernel_rfl) (fun _ _ _ h => h) (Or.inl ⟨by rfl, ?_⟩) HSz.out ?_
  rotate_left
  · intro w' hSw; rw [hS.out] at hSw; obtain ⟨s1, s2, s3, s4, s5, s6⟩ := hSw; go_simp <;> with_reducible rfl
  try simp only [List.setIfInBounds_toArray, List.set_cons_zero, List.set_cons_succ]
  refine R4.till_slot (i := 19) (d := 81) (v := ?_) rfl (by kernel_rfl) (by kernel_rfl) (by omega) (by kernel_rfl) (by kernel_rfl) (fun _ _ _ h => h) (Or.inl ⟨by rfl, ?_⟩) HSz.out ?_
  rotate_left
  · intro w' hSw; rw [hS.out] at hSw; obtain ⟨s1, s2, s3, s4, s5, s6⟩ := hSw; go_simp <;> with_reducible rfl
  try simp only [List.setIfInBounds_toArray, List.set_cons_zero, List.set_cons_succ]
  refine R4.till_slot (i := 20) (d := 82) (v := ?_) rfl (by kernel_rfl) (by kernel_rfl) (by omega) (by kernel_rfl) (by kernel_rfl) (fun _ _ _ h => h) (Or.inl ⟨by rfl, ?_⟩) HSz.out ?_
  rotate_left
  · intro w' hSw; rw [hS.out] at hSw; obtain ⟨s1, s2, s3, s4, s5, s6⟩ := hSw; go_simp <;> with_reducible rfl
  try simp only [List.setIfInBounds_toArray, List.set_cons_zero, List.set_cons_succ]
  refine R4.till_slot (i := 21) (d := 83) (v := ?_) rfl (by kernel_rfl) (by kernel_rfl) (by omega) (by kernel_rfl) (by kernel_rfl) (fun _ _ _ h => h) (Or.inl ⟨by rfl, ?_⟩) HSz.out ?_
  rotate_left
  · intro w' hSw; rw [hS.out] at hSw; obtain ⟨s1, s2, s3, s4, s5, s6⟩ := hSw; go_simp <;> with_reducible rfl
  try simp only [List.setIfInBounds_toArray, List.set_cons_zero, List.set_cons_succ]
  refine R4.till_slot (i := 22) (d := 84) (v := ?_) rfl (by kernel_rfl) (by kernel_rfl) (by omega) (by kernel_rfl) (by kernel_rfl) (fun _ _ _ h => h) (Or.inl ⟨by rfl, ?_⟩) HSz.out ?_
  rotate_left
  · intro w' hSw; rw [hS.out] at hSw; obtain ⟨s1, s2, s3, s4, s5, s6⟩ := hSw; go_simp <;> with_reducible rfl
  try simp only [List.setIfInBounds_toArray, List.set_cons_zero, List.set_cons_succ]
  refine R4.till_slot (i := 23) (d := 85) (v := ?_) rfl (by kernel_rfl) (by kernel_rfl) (by omega) (by kernel_rfl) (by kernel_rfl) (fun _ _ _ h => h) (Or.inl ⟨by rfl, ?_⟩) HSz.out ?_
  rotate_left
  · intro w' hSw; rw [hS.out] at hSw; obtain ⟨s1, s2, s3, s4, s5, s6⟩ := hSw; go_simp <;> with_reducible rfl
  try simp only [List.setIfInBounds_toArray, List.set_cons_zero, List.set_cons_succ]
  refine R4.till_one (i := 24) rfl (by kernel_rfl) (by omega) (fun K hK => ?_)
  have HK := Lib.hid hK
  clear hK
  go_simp
  go_at_call 14
  (with_reducible refine (sameq_is HS1.out HF6.out.r1 (by simp) (beq_self_eq_true _) wz HBz.out).mono ?_)
  rintro e v1 ⟨rfl, k1, rfl⟩
  have HBz1 := Lib.hid (HBz.out.trans ((below_drewN wz k1).mono HBz.out.size))
  have HSz1 := Lib.hid (HSx.out _ HBz1.out)
  refine HK.out _ _ HSz1.out ?_
  clear HK K
  generalize wz.drewN k1 = u1 at HBz1 HSz1 ⊢
  try simp only [List.setIfInBounds_toArray, List.set_cons_zero, List.set_cons_succ]
  refine R4.till_slot (i := 25) (d := 87) (v := ?_) rfl (by kernel_rfl) (by kernel_rfl) (by omega) (by kernel_rfl) (by kernel_rfl) (fun _ _ _ h => h) (Or.inl ⟨by rfl, ?_⟩) HSz1.out ?_
  rotate_left
  · intro w' hSw; rw [hS.out] at hSw; obtain ⟨s1, s2, s3, s4, s5, s6⟩ := hSw; go_simp <;> with_reducible rfl
  try simp only [List.setIfInBounds_toArray, List.set_cons_zero, List.set_cons_succ]
  refine R4.till_slot (i := 26) (d := 88) (v := ?_) rfl (by kernel_rfl) (by kernel_rfl) (by omega) (by kernel_rfl) (by kernel_rfl) (fun _ _ _ h => h) (Or.inl ⟨by rfl, ?_⟩) HSz1.out ?_
  rotate_left
  · intro w' hSw; rw [hS.out] at hSw; obtain ⟨s1, s2, s3, s4, s5, s6⟩ := hSw; go_simp <;> with_reducible rfl
  try simp only [List.setIfInBounds_toArray, List.set_cons_zero, List.set_cons_succ]
  refine R4.till_slot (i := 27) (d := 89) (v := ?_) rfl (by kernel_rfl) (by kernel_rfl) (by omega) (by kernel_rfl) (by kernel_rfl) (fun _ _ _ h => h) (Or.inl ⟨by rfl, ?_⟩) HSz1.out ?_
  rotate_left
  · intro w' hSw; rw [hS.out] at hSw; obtain ⟨s1, s2, s3, s4, s5, s6⟩ := hSw; go_simp <;> with_reducible rfl
  try simp only [List.setIfInBounds_toArray, List.set_cons_zero, List.set_cons_succ]
  refine R4.till_slot (i := 28) (d := 90) (v := ?_) rfl (by kernel_rfl) (by kernel_rfl) (by omega) (by kernel_rfl) (by kernel_rfl) (fun _ _ _ h => h) (Or.inl ⟨by rfl, ?_⟩) HSz1.out ?_
  rotate_left
  · intro w' hSw; rw [hS.out] at hSw; obtain ⟨s1, s2, s3, s4, s5, s6⟩ := hSw; go_simp <;> with_reducible rfl
  try simp only [List.setIfInBounds_toArray, List.set_cons_zero, List.set_cons_succ]
  refine R4.till_slot (i := 29) (d := 91) (v := ?_) rfl (by kernel_rfl) (by kernel_rfl) (by omega) (by kernel_rfl) (by kernel_rfl) (fun _ _ _ h => h) (Or.inl ⟨by rfl, ?_⟩) HSz1.out ?_
  rotate_left
  · intro w' hSw; rw [hS.out] at hSw; obtain ⟨s1, s2, s3, s4, s5, s6⟩ := hSw; go_simp <;> with_reducible rfl
  try simp only [List.setIfInBounds_toArray, List.set_cons_zero, List.set_cons_succ]
  refine R4.till_slot (i := 30) (d := 92) (v := ?_) rfl (by kernel_rfl) (by kernel_rfl) (by omega) (by kernel_rfl) (by kernel_rfl) (fun _ _ _ h => h) (Or.inl ⟨by rfl, ?_⟩) HSz1.out ?_
  rotate_left
  · intro w' hSw; rw [hS.out] at hSw; obtain ⟨s1, s2, s3, s4, s5, s6⟩ := hSw; go_simp <;> with_reducible rfl
  try simp only [List.setIfInBounds_toArray, List.set_cons_zero, List.set_cons_succ]
  refine R4.till_slot (i := 31) (d := 93) (v := ?_) rfl (by kernel_rfl) (by kernel_rfl) (by omega) (by kernel_rfl) (by kernel_rfl) (fun _ _ _ h => h) (Or.inl ⟨by rfl, ?_⟩) HSz1.out ?_
  rotate_left
  · intro w' hSw; rw [hS.out] at hSw; obtain ⟨s1, s2, s3, s4, s5, s6⟩ := hSw; go_simp <;> with_reducible rfl
  try simp only [List.setIfInBounds_toArray, List.set_cons_zero, List.set_cons_succ]
  refine R4.till_slot (i := 32) (d := 94) (v := ?_) rfl (by kernel_rfl) (by kernel_rfl) (by omega) (by kernel_rfl) (by kernel_rfl) (fun _ _ _ h => h) (Or.inl ⟨by rfl, ?_⟩) HSz1.out ?_
  rotate_left
  · intro w' hSw; rw [hS.out] at hSw; obtain ⟨s1, s2, s3, s4, s5, s6⟩ := hSw; go_simp <;> with_reducible rfl
  try simp only [List.setIfInBounds_toArray, List.set_cons_zero, List.set_cons_succ]
  refine R4.till_slot (i := 33) (d := 95) (v := ?_) rfl (by kernel_rfl) (by kernel_rfl) (by omega) (by kernel_rfl) (by kernel_rfl) (fun _ _ _ h => h) (Or.inl ⟨by rfl, ?_⟩) HSz1.out ?_
  rotate_left
  · intro w' hSw; rw [hS.out] at hSw; obtain ⟨s1, s2, s3, s4, s5, s6⟩ := hSw; go_simp <;> with_reducible rfl
  try simp only [List.setIfInBounds_toArray, List.set_cons_zero, List.set_cons_succ]
  refine R4.till_slot (i := 34) (d := 96) (v := ?_) rfl (by kernel_rfl) (by kernel_rfl) (by omega) (by kernel_rfl) (by kernel_rfl) (fun _ _ _ h => h) (Or.inl ⟨by rfl, ?_⟩) HSz1.out ?_
  rotate_left
  · intro w' hSw; rw [hS.out] at hSw; obtain ⟨s1, s2, s3, s4, s5, s6⟩ := hSw; go_simp <;> with_reducible rfl
  try simp only [List.setIfInBounds_toArray, List.set_cons_zero, List.set_cons_succ]
  refine R4.till_one (i := 35) rfl (by kernel_rfl) (by omega) (fun K hK => ?_)
  have HK := Lib.hid hK
  clear hK
  go_simp
  go_at_call 14
  (with_reducible refine (sameq_is HS2.out HF6.out.r2 (by simp) (beq_self_eq_true _) u1 HBz1.out).mono ?_)
  rintro e v2 ⟨rfl, k2, rfl⟩
  have HBz2 := Lib.hid (HBz1.out.trans ((below_drewN u1 k2).mono HBz1.out.size))
  have HSz2 := Lib.hid (HSx.out _ HBz2.out)
  refine HK.out _ _ HSz2.out ?_
  clear HK K
  generalize u1.drewN k2 = u2 at HBz2 HSz2 ⊢
  try simp only [List.setIfInBounds_toArray, List.set_cons_zero, List.set_cons_succ]
  refine R4.till_slot (i := 36) (d := 98) (v := ?_) rfl (by kernel_rfl) (by kernel_rfl) (by omega) (by kernel_rfl) (by kernel_rfl) (fun _ _ _ h => h) (Or.inl ⟨by rfl, ?_⟩) HSz2.out ?_
  rotate_left
  · intro w' hSw; rw [hS.out] at hSw; obtain ⟨s1, s2, s3, s4, s5, s6⟩ := hSw; go_simp <;> with_reducible rfl
  try simp only [List.setIfInBounds_toArray, List.set_cons_zero, List.set_cons_succ]
  refine R4.till_slot (i := 37) (d := 99) (v := ?_) rfl (by kernel_rfl) (by kernel_rfl) (by omega) (by kernel_rfl) (by kernel_rfl) (fun _ _ _ h => h) (Or.inl ⟨by rfl, ?_⟩) HSz2.out ?_
  rotate_left
  · intro w' hSw; rw [hS.out] at hSw; obtain ⟨s1, s2, s3, s4, s5, s6⟩ := hSw; go_simp <;> with_reducible rfl
  try simp only [List.setIfInBounds_toArray, List.set_cons_zero, List.set_cons_succ]
  refine R4.till_slot (i := 38) (d := 100) (v := ?_) rfl (by kernel_rfl) (by kernel_rfl) (by omega) (by kernel_rfl) (by kernel_rfl) (fun _ _ _ h => h) (Or.inl ⟨by rfl, ?_⟩) HSz2.out ?_
  rotate_left
  · intro w' hSw; rw [hS.out] at hSw; obtain ⟨s1, s2, s3, s4, s5, s6⟩ := hSw; go_simp <;> with_reducible rfl
  try simp only [List.setIfInBounds_toArray, List.set_cons_zero, List.set_cons_succ]
  refine R4.till_slot (i := 39) (d := 101) (v := ?_) rfl (by kernel_rfl) (by kernel_rfl) (by omega) (by kernel_rfl) (by kernel_rfl) (fun _ _ _ h => h) (Or.inl ⟨by rfl, ?_⟩) HSz2.out ?_
  rotate_left
  · intro w' hSw; rw [hS.out] at hSw; obtain ⟨s1, s2, s3, s4, s5, s6⟩ := hSw; go_simp <;> with_reducible rfl
  try simp only [List.setIfInBounds_toArray, List.set_cons_zero, List.set_cons_succ]
  refine R4.till_slot (i := 40) (d := 102) (v := ?_) rfl (by kernel_rfl) (by kernel_rfl) (by omega) (by kernel_rfl) (by kernel_rfl) (fun _ _ _ h => h) (Or.inl ⟨by rfl, ?_⟩) HSz2.out ?_
  rotate_left
  · intro w' hSw; rw [hS.out] at hSw; obtain ⟨s1, s2, s3, s4, s5, s6⟩ := hSw; go_simp <;> with_reducible rfl
  try simp only [List.setIfInBounds_toArray, List.set_cons_zero, List.set_cons_succ]
  refine R4.till_slot (i := 41) (d := 103) (v := ?_) rfl (by kernel_rfl) (by kernel_rfl) (by omega) (by kernel_rfl) (by kernel_rfl) (fun _ _ _ h => h) (Or.inl ⟨by rfl, ?_⟩) HSz2.out ?_
  rotate_left
  · intro w' hSw; rw [hS.out] at hSw; obtain ⟨s1, s2, s3, s4, s5, s6⟩ := hSw; go_simp <;> with_reducible rfl
  try simp only [List.setIfInBounds_toArray, List.set_cons_zero, List.set_cons_succ]
  refine R4.till_slot (i := 42) (d := 104) (v := ?_) rfl (by kernel_rfl) (by kernel_rfl) (by omega) (by kernel_rfl) (by kernel_rfl) (fun _ _ _ h => h) (Or.inl ⟨by rfl, ?_⟩) HSz2.out ?_
  rotate_left
  · intro w' hSw; rw [hS.out] at hSw; obtain ⟨s1, s2, s3, s4, s5, s6⟩ := hSw; go_simp <;> with_reducible rfl
  try simp only [List.setIfInBounds_toArray, List.set_cons_zero, List.set_cons_succ]
  refine R4.till_slot (i := 43) (d := 105) (v := ?_) rfl (by kernel_rfl) (by kernel_rfl) (by omega) (by kernel_rfl) (by kernel_rfl) (fun _ _ _ h => h) (Or.inl ⟨by rfl, ?_⟩) HSz2.out ?_
  rotate_left
  · intro w' hSw; rw [hS.out] at hSw; obtain ⟨s1, s2, s3, s4, s5, s6⟩ := hSw; go_simp <;> with_reducible rfl
  try simp only [List.setIfInBounds_toArray, List.set_cons_zero, List.set_cons_succ]
  refine R4.till_slot (i := 44) (d := 106) (v := ?_) rfl (by kernel_rfl) (by kernel_rfl) (by omega) (by kernel_rfl) (by kernel_rfl) (fun _ _ _ h => h) (Or.inl ⟨by rfl, ?_⟩) HSz2.out ?_
  rotate_left
  · intro w' hSw; rw [hS.out] at hSw; obtain ⟨s1, s2, s3, s4, s5, s6⟩ := hSw; go_simp <;> with_reducible rfl
  try simp only [List.setIfInBounds_toArray, List.set_cons_zero, List.set_cons_succ]
  refine R4.till_slot (i := 45) (d := 107) (v := ?_) rfl (by kernel_rfl) (by kernel_rfl) (by omega) (by kernel_rfl) (by kernel_rfl) (fun _ _ _ h => h) (Or.inl ⟨by rfl, ?_⟩) HSz2.out ?_
  rotate_left
  · intro w' hSw; rw [hS.out] at hSw; obtain ⟨s1, s2, s3, s4, s5, s6⟩ := hSw; go_simp <;> with_reducible rfl
  try simp only [List.setIfInBounds_toArray, List.set_cons_zero, List.set_cons_succ]
  refine R4.till_one (i := 46) rfl (by kernel_rfl) (by omega) (fun K hK => ?_)
  have HK := Lib.hid hK
  clear hK
  go_simp
  go_at_call 14
  (with_reducible refine (sameq_is HS3.out HF6.out.r3 (by simp) (beq_self_eq_true _) u2 HBz2.out).mono ?_)
  rintro e v3 ⟨rfl, k3, rfl⟩
  have HBz3 := Lib.hid (HBz2.out.trans ((below_drewN u2 k3).mono HBz2.out.size))
  have HSz3 := Lib.hid (HSx.out _ HBz3.out)
  refine HK.out _ _ HSz3.out ?_
  clear HK K
  generalize u2.drewN k3 = u3 at HBz3 HSz3 ⊢
  try simp only [List.setIfInBounds_toArray, List.set_cons_zero, List.set_cons_succ]
  refine R4.till_slot (i := 47) (d := 109) (v := ?_) rfl (by kernel_rfl) (by kernel_rfl) (by omega) (by kernel_rfl) (by kernel_rfl) (fun _ _ _ h => h) (Or.inl ⟨by rfl, ?_⟩) HSz3.out ?_
  rotate_left
  · intro w' hSw; rw [hS.out] at hSw; obtain ⟨s1, s2, s3, s4, s5, s6⟩ := hSw; go_simp <;> with_reducible rfl
  try simp only [List.setIfInBounds_toArray, List.set_cons_zero, List.set_cons_succ]
  refine R4.till_slot (i := 48) (d := 110) (v := ?_) rfl (by kernel_rfl) (by kernel_rfl) (by omega) (by kernel_rfl) (by kernel_rfl) (fun _ _ _ h => h) (Or.inl ⟨by rfl, ?_⟩) HSz3.out ?_
  rotate_left
  · intro w' hSw; rw [hS.out] at hSw; obtain ⟨s1, s2, s3, s4, s5, s6⟩ := hSw; go_simp <;> with_reducible rfl
  try simp only [List.setIfInBounds_toArray, List.set_cons_zero, List.set_cons_succ]
  refine R4.till_one (i := 49) rfl (by kernel_rfl) (by omega) (fun K hK => ?_)
  have HK := Lib.hid hK
  clear hK
  go_simp
  go_at_call 6
  (with_reducible refine (HA.out u3).mono ?_)
  rintro e wA ⟨rfl, hbA⟩
  have HBA := Lib.hid (HBz3.out.trans (hbA.mono HBz3.out.size))
  clear hbA
  have HSA := Lib.hid (HSx.out _ HBA.out)
  refine HK.out _ _ HSA.out ?_
  clear HK K
  try simp only [List.setIfInBounds_toArray, List.set_cons_zero, List.set_cons_succ]
  refine R4.till_slot (i := 50) (d := 112) (v := ?_) rfl (by kernel_rfl) (by kernel_rfl) (by omega) (by kernel_rfl) (by kernel_rfl) (fun _ _ _ h => h) (Or.inl ⟨by rfl, ?_⟩) HSA.out ?_
  rotate_left
  · intro w' hSw; rw [hS.out] at hSw; obtain ⟨s1, s2, s3, s4, s5, s6⟩ := hSw; go_simp <;> with_reducible rfl
  try simp only [List.setIfInBounds_toArray, List.set_cons_zero, List.set_cons_succ]
  refine R4.till_tail (k := 51) (by omega) (by kernel_rfl) (by kernel_rfl) ?_
  simp only [List.drop_succ_cons, List.drop_zero]
  go_wp2
  go_ret
  exact ⟨rfl, HB6.out.trans (HBA.out.mono HB6.out.size)⟩
theorem rulesSigns_walk (a0 a1 a2 : Int) (w : World) (hM : MaxL w) : Calls Try.prog 5 #[.int .i64 a0, .int .i64 a1, .int .i64 a2] w fun e w' => e = .returned (.bool true) ∧ Below w.heap.size w w' := by
  by_cases h : (isPt a0 && isPt a1 && isPt a2) = true
  · simp only [Bool.and_eq_true] at h
    exact signs_ok h.1.1 h.1.2 h.2 w hM
  · exact signs_bad (by simpa using h) w
end Go.Proofs.Ytdodlppnjlmnaaa
