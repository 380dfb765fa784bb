/-
  WHAT THE DOCUMENT FIXES: the contract of awake.
-/
import Derived.Test.YtaabdpfhpolcgaaBCheck
namespace Go.Proofs.Ytaabdpfhpolcgaa
open Go.RowKit
set_option linter.unusedVariables false
set_option linter.unusedSimpArgs false
theorem body_1 : (⟨(91 :: ((if false = true then [42] else []) ++ E3.body 256 32 2)).toArray⟩ : ByteArray) = ⟨#[91, 48, 49, 48, 48, 46, 50, 48, 46, 48, 50, 93]⟩ := by
  rw [E3.body_eq]; unfold E3.hx; rfl
theorem body_2 : (⟨(91 :: ((if false = true then [42] else []) ++ E3.body 264 32 2)).toArray⟩ : ByteArray) = ⟨#[91, 48, 49, 48, 56, 46, 50, 48, 46, 48, 50, 93]⟩ := by
  rw [E3.body_eq]; unfold E3.hx; rfl
theorem body_3 : (⟨(91 :: ((if false = true then [42] else []) ++ E3.body 0 36 2)).toArray⟩ : ByteArray) = ⟨#[91, 48, 48, 48, 48, 46, 50, 52, 46, 48, 50, 93]⟩ := by
  rw [E3.body_eq]; unfold E3.hx; rfl
theorem aw_text1 (w : World) : Calls Try.prog 17 #[.int .u32 16785412] w fun r w' => r = .returned (.string ⟨#[91, 48, 49, 48, 48, 46, 50, 48, 46, 48, 50, 93]⟩) ∧ Below w.heap.size w w' := by
  have h := E3.text_any 16785412 256 32 2 false (by omega) (show _ = _ by omega) (show _ = _ by omega) (show _ = _ by omega) (show _ = _ by simp) w
  rw [body_1] at h
  exact h
theorem aw_text2 (w : World) : Calls Try.prog 17 #[.int .u32 17309700] w fun r w' => r = .returned (.string ⟨#[91, 48, 49, 48, 56, 46, 50, 48, 46, 48, 50, 93]⟩) ∧ Below w.heap.size w w' := by
  have h := E3.text_any 17309700 264 32 2 false (by omega) (show _ = _ by omega) (show _ = _ by omega) (show _ = _ by omega) (show _ = _ by simp) w
  rw [body_2] at h
  exact h
theorem aw_text3 (w : World) : Calls Try.prog 17 #[.int .u32 9220] w fun r w' => r = .returned (.string ⟨#[91, 48, 48, 48, 48, 46, 50, 52, 46, 48, 50, 93]⟩) ∧ Below w.heap.size w w' := by
  have h := E3.text_any 9220 0 36 2 false (by omega) (show _ = _ by omega) (show _ = _ by omega) (show _ = _ by omega) (show _ = _ by simp) w
  rw [body_3] at h
  exact h
theorem els_ab : elsP rootP (T2.sgs (⟨#[97, 98]⟩ : ByteArray).data.toList) = [16785412, 17309700] := by decide +kernel
theorem els_e : elsP rootP (T2.sgs (⟨#[195, 169]⟩ : ByteArray).data.toList) = [18882564, 9220] := by decide +kernel
theorem check_root : checkP rootP = 0 := by decide +kernel
/-- Two elements in a new slice. -/
theorem ownE_two {B : Nat} {w : World} {v : Value} {x y : Nat} (h : OwnE B w v [x, y]) : ∃ g c, v = .slice (some ⟨g, 0, none⟩) 2 c ∧ w.cell? ⟨g, 0, none⟩ = some (.int .u32 (x : Int)) ∧ w.cell? ⟨g, 1, none⟩ = some (.int .u32 (y : Int)) ∧ B ≤ g ∧ g < w.heap.size := by
  obtain ⟨A, c, rfl, _, hr⟩ := R4.own_parts h
  obtain ⟨g, rfl, h1, h2, h3⟩ := hr (by simp)
  exact ⟨g, c, rfl, h3 0 _ rfl, h3 1 _ rfl, h1, h2⟩
theorem els_two {F : Nat → Prop} {w : World} {p : Nat} {L : List PE} (h : TabAt F w p L) (b : ByteArray) (hb : b.size ≤ 100000) {x y : Nat} (he : elsP L (T2.sgs b.data.toList) = [x, y]) :
    Calls Try.prog 5 #[.pointer (some ⟨p, 0, none⟩), .string b] w fun e w' => ∃ g c, e = .returned (.slice (some ⟨g, 0, none⟩) 2 c) ∧ w'.cell? ⟨g, 0, none⟩ = some (.int .u32 (x : Int)) ∧ w'.cell? ⟨g, 1, none⟩ = some (.int .u32 (y : Int)) ∧ Below w.heap.size w w' := by
  have := elements_any h b hb
  rw [he] at this
  refine this.mono fun e w' => ?_
  rintro ⟨v, rfl, ho, hb⟩
  obtain ⟨g, c, rfl, h1, h2, -, -⟩ := ownE_two ho
  exact ⟨g, c, rfl, h1, h2, hb⟩
theorem cell_call {w w' : World} {p : Addr} {u : Value} (hb : Below w.heap.size w w') (h : w.cell? p = some u) : w'.cell? p = some u := (hb.cell (cell_lt h)).trans h
set_option maxHeartbeats 1000000 in
set_option maxRecDepth 100000 in
theorem awake_any (w : World) : Calls Try.prog 8 #[] w fun e w' => e = .returned (.bool true) ∧ Below w.heap.size w w' := by
  have EA := Lib.hid els_ab
  have EE := Lib.hid els_e
  have EC := Lib.hid check_root
  have t1 : True := trivial
  have t2 : True := trivial
  have s1 : Hid ((⟨#[97, 98]⟩ : ByteArray).size ≤ 100000) := by show _ ≤ _; decide
  have s2 : Hid ((⟨#[195, 169]⟩ : ByteArray).size ≤ 100000) := by show _ ≤ _; decide
  go_enter Try.func8, Try.ntmps8
  go_wp2_with (first
    | (go_at_call 4; refine (root_any _).mono ?_; rintro e w1 ⟨p, rfl, ht, hb⟩; have HT := Lib.hid ht; have HB := Lib.hid hb; clear ht hb)
    | (go_at_call 5; have _t := t1; refine (els_two HT.out _ s1.out EA.out).mono ?_; rintro e w2 ⟨g1, c1, rfl, x1, x2, hb⟩; have HT2 := Lib.hid (HT.out.below hb (Nat.le_refl _)); have HB2 := Lib.hid (HB.out.trans (hb.mono HB.out.size)); clear hb _t t1)
    | (go_at_call 5; refine (els_two HT2.out _ s2.out EE.out).mono ?_; rintro e w3 ⟨g2, c2, rfl, y1, y2, hb⟩; have z1 := cell_call hb x1; have z2 := cell_call hb x2; have HT3 := Lib.hid (HT2.out.below hb (Nat.le_refl _)); have HB3 := Lib.hid (HB2.out.trans (hb.mono HB2.out.size)); clear hb x1 x2)
    | (go_at_call 17; (with_reducible refine (aw_text1 _).mono ?_); rintro e w4 ⟨rfl, hb⟩; have a2 := cell_call hb z2; have b2 := cell_call hb y2; have HT4 := Lib.hid (HT3.out.below hb (Nat.le_refl _)); have HB4 := Lib.hid (HB3.out.trans (hb.mono HB3.out.size)); clear hb z1 z2 y1 y2)
    | (go_at_call 17; (with_reducible refine (aw_text2 _).mono ?_); rintro e w5 ⟨rfl, hb⟩; have b3 := cell_call hb b2; have HT5 := Lib.hid (HT4.out.below hb (Nat.le_refl _)); have HB5 := Lib.hid (HB4.out.trans (hb.mono HB4.out.size)); clear hb a2 b2)
    | (go_at_call 17; (with_reducible refine (aw_text3 _).mono ?_); rintro e w6 ⟨rfl, hb⟩; have HT6 := Lib.hid (HT5.out.below hb (Nat.le_refl _)); have HB6 := Lib.hid (HB5.out.trans (hb.mono HB5.out.size)); clear hb b3)
    | (go_at_call 18; refine (check_any HT6.out EC.out).mono ?_; rintro e w7 ⟨rfl, hb⟩; have HB7 := Lib.hid (HB6.out.trans (hb.mono HB6.out.size)); clear hb))
  go_ret
  exact ⟨rfl, HB7.out⟩
end Go.Proofs.Ytaabdpfhpolcgaa
