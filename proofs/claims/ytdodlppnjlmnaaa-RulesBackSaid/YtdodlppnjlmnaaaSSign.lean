/-
  THE CONTRACTS of the program's sign, collect and sequence.
-/
import Derived.Test.YtdodlppnjlmnaaaSLeaf
import Derived.StillTailTactics
namespace Go.Proofs.Ytdodlppnjlmnaaa
open Go.RowKit
set_option linter.unusedVariables false
set_option linter.unusedSimpArgs false
open T2 (gb dec one isSg isPt sgs)
abbrev ESC : ByteArray := ⟨#[92]⟩
theorem esc_pre {s : ByteArray} {k : Nat} (hk : k < s.size) : ESC.data.toList.isPrefixOf (s.data.toList.drop k) = decide (gb s.data.toList k = 92) := by
  have hk' : k < s.data.toList.length := hk
  rw [List.drop_eq_getElem_cons hk']
  show ([92] : List UInt8).isPrefixOf _ = _
  rw [pre_cons, T2.gb_at hk']
  simp [List.isPrefixOf]
theorem sign_in {w : World} {g : Nat} {s : ByteArray} {k p : Nat} {b : Bool} {D : Nat × Nat} (h : RD TP w g s k) (hk : k < s.size) (hs : s.size ≤ 1000000) (hb : decide (gb s.data.toList k = 92) = b) (hp : (if b = true then k + 1 else k) = p) (hps : p < s.size) (hD : dec (s.data.toList.drop p) = D) :
    Calls Try.prog 43 #[.pointer (some ⟨g, 0, none⟩)] w fun e w' => e = .returned (.tuple #[.int .i64 (D.1 : Int), .bool true]) ∧ RD TP w' g s (p + D.2) ∧ Mv g w w' := by
  have HT := Lib.hid (take_any (p := ESC) h ((esc_pre hk).trans hb) (by omega) hs)
  have hne := drop_ne hps
  have hle := T2.dec_le hne
  rw [hD, List.length_drop, T2.ba_len] at hle
  obtain ⟨t, ht1, ht2, ht3⟩ := begin_at hps hs hD
  have HD := Lib.hid (fun w' (hr : RD TP w' g s p) => done_any hr (b := false) (decide_eq_false (by omega)) (by omega))
  have HB := Lib.hid ht3
  have HS := Lib.hid (signs_at (x := (D.1 : Int)) ht2 (by omega))
  have HP : Hid ((if b = true then k + ESC.size else k) = p) := hp
  have hpI : (p : Int) ≤ (s.size : Int) := by omega
  have htI : (t.size : Int) = (D.2 : Int) := by omega
  clear h hb hp ht2 ht3 hne hD
  go_enter Try.func43, Try.ntmps43
  go_wp2_with (first
    | (go_at_call 31; refine HT.out.mono ?_; rintro e w1 ⟨rfl, hr, hm⟩; rw [HP.out] at hr; have HR := Lib.hid hr; have HM := Lib.hid hm; clear hr hm)
    | (go_at_call 16; refine (HD.out _ HR.out).mono ?_; rintro e w2 ⟨rfl, m, rfl⟩))
  have HR2 := Lib.hid (HR.out.below (below_drewN w1 m) (Nat.le_refl _))
  have HM2 := Lib.hid (HM.out.trans (Mv.of_below (below_drewN w1 m)))
  generalize w1.drewN m = w2 at HR2 HM2 ⊢
  clear HR HM HD HT
  have c0 := HR2.out.c0
  have c1 := HR2.out.c1
  go_still_tail 9, (by kernel_rfl)
  change wpList _ _ _ _ _ w2.drew
  have HR3 := Lib.hid (HR2.out.below (below_drewN w2 1) (Nat.le_refl _))
  have HM3 := Lib.hid (HM2.out.trans (Mv.of_below (below_drewN w2 1)))
  change Hid (RD TP w2.drew g s p) at HR3
  change Hid (Mv g w w2.drew) at HM3
  generalize w2.drew = w3 at HR3 HM3 ⊢
  clear c0 c1 HR2 HM2
  go_wp2_with (first
    | (go_at_call 54; refine (HB.out _).mono ?_; rintro e w4 ⟨rfl, hb⟩; have HR4 := Lib.hid (HR3.out.below hb (Nat.le_refl _)); have HM4 := Lib.hid (HM3.out.trans (Mv.of_below hb)); have c1 := HR4.out.c1; have c2 := HR4.out.fz; clear hb)
    | (go_at_call 49; refine (HS.out _).mono ?_; rintro e w5 ⟨⟨g0, c, rfl, hc, c5⟩, hb⟩; have HB5 := Lib.hid hb; have hcI : (1 : Int) ≤ (c : Int) := (by omega); clear hb))
  go_ret2
  have hr4 : RD TP (w4.setCell ⟨g, 1, none⟩ (.int .i64 ((p : Int) + (D.2 : Int)))) g s (p + D.2) := HR4.out.set' (by omega)
  exact ⟨rfl, hr4.below HB5.out (Nat.le_refl _), (HM4.out.trans (Mv.set _ _)).trans (Mv.of_below HB5.out)⟩
/-- A backslash at the end. -/
theorem sign_out {w : World} {g : Nat} {s : ByteArray} {k : Nat} (h : RD TP w g s k) (hk : k + 1 = s.size) (hs : s.size ≤ 1000000) (hb : gb s.data.toList k = 92) :
    Calls Try.prog 43 #[.pointer (some ⟨g, 0, none⟩)] w fun e w' => e = .returned (.tuple #[.int .i64 0, .bool false]) ∧ RD TP w' g s (k + 1) ∧ Mv g w w' := by
  have HT := Lib.hid (take_any (p := ESC) (b := true) h ((esc_pre (by omega)).trans (decide_eq_true hb)) (by omega) hs)
  have HD := Lib.hid (fun w' (hr : RD TP w' g s (k + 1)) => done_any hr (b := true) (decide_eq_true (by omega)) (by omega))
  clear h hb
  go_enter Try.func43, Try.ntmps43
  go_wp2_with (first
    | (go_at_call 31; refine HT.out.mono ?_; rintro e w1 ⟨rfl, hr, hm⟩; have HR : Hid (RD TP w1 g s (k + 1)) := hr; have HM := Lib.hid hm; clear hr hm)
    | (go_at_call 16; refine (HD.out _ HR.out).mono ?_; rintro e w2 ⟨rfl, m, rfl⟩))
  go_ret2
  exact ⟨rfl, HR.out.below (below_drewN w1 m) (Nat.le_refl _), HM.out.trans (Mv.of_below (below_drewN w1 m))⟩
/-- A sign of a sequence that has not ended. -/
theorem sign_any {w : World} {g : Nat} {s : ByteArray} {k : Nat} (h : RD TP w g s k) (hk : k < s.size) (hs : s.size ≤ 1000000) {b : Bool} {x : Int} {n : Nat} (he : sg1 (s.data.toList.drop k) = (b, x, n)) :
    Calls Try.prog 43 #[.pointer (some ⟨g, 0, none⟩)] w fun e w' => e = .returned (.tuple #[.int .i64 x, .bool b]) ∧ RD TP w' g s (k + n) ∧ Mv g w w' := by
  have hl : (s.data.toList.drop k).length = s.size - k := by rw [List.length_drop, T2.ba_len]
  unfold sg1 at he
  rw [gb_drop, Nat.add_zero, hl, List.drop_drop] at he
  by_cases h92 : gb s.data.toList k = 92
  · rw [if_pos h92] at he
    by_cases h1 : s.size - k ≤ 1
    · rw [if_pos h1] at he
      cases he
      exact sign_out h (by omega) hs h92
    · rw [if_neg h1] at he
      cases he
      refine (sign_in h hk hs (decide_eq_true h92) rfl (by rw [if_pos rfl]; omega) rfl).mono fun e w' hh => ?_
      simp only [if_true, if_pos] at hh
      rw [← Nat.add_assoc]
      exact hh
  · rw [if_neg h92] at he
    cases he
    refine (sign_in h hk hs (decide_eq_false h92) rfl (by rw [if_neg (by simp)]; exact hk) rfl).mono fun e w' hh => ?_
    simp only [Bool.false_eq_true, if_false] at hh
    exact hh
end Go.Proofs.Ytdodlppnjlmnaaa
