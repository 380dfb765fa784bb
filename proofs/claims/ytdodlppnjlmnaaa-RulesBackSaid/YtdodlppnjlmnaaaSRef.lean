/-
  THE CONTRACTS of the document's reader: blank, rel, special.
-/
import Derived.Test.YtdodlppnjlmnaaaSWord
namespace Go.Proofs.Ytdodlppnjlmnaaa
open Go.RowKit
set_option linter.unusedVariables false
set_option linter.unusedSimpArgs false
open T2 (gb dec one isSg isPt sgs)
abbrev TD : TypeId := 53
set_option maxHeartbeats 1000000 in
theorem blank_any {w : World} {g : Nat} {s : ByteArray} {k : Nat} (h : RD TD w g s k) (hk : k ≤ s.size) (hs : s.size ≤ 1000000) :
    Calls Try.prog 18 #[.pointer (some ⟨g, 0, none⟩)] w fun e w' => e = .returned (.tuple #[]) ∧ RD TD w' g s (af s.data.toList k) ∧ Mv g w w' := by
  have HR := Lib.hid h
  obtain ⟨K, hK⟩ : ∃ K, af s.data.toList k = K := ⟨_, rfl⟩
  rw [hK]
  have HK := Lib.hid hK
  clear h hK
  go_enter Try.func18, Try.ntmps18
  go_wp2
  go_loopg [] (s.size - k) (fun n wr => ∃ j : Nat, j ≤ s.size ∧ n = s.size - j ∧ Hid (af s.data.toList j = K) ∧ Hid (RD TD wr g s j) ∧ Hid (Mv g w wr))
  case atStart => exact ⟨k, hk, rfl, HK.out, HR.out, Mv.refl _ _⟩
  case round =>
    obtain ⟨j, hj, rfl, HJ, HRJ, HM⟩ := hrel
    clear HR HK hk
    have c0 := HRJ.out.c0
    have c1 := HRJ.out.c1
    by_cases hlt : j < s.size
    · have hbx := T2.gb_lt s.data.toList j
      obtain ⟨x, hx⟩ : ∃ x, gb s.data.toList j = x := ⟨_, rfl⟩
      have hx2 : s[j].toNat = x := by rw [gb_s hlt, hx]
      rw [hx] at hbx
      have hltI : (j : Int) < (s.size : Int) := by omega
      by_cases hb : isBl x = true
      · have HB0 : Hid (isBl (gb s.data.toList j) = true) := by show _ = _; rw [hx, hb]
        have hor : x = 32 ∨ x = 10 := by unfold isBl at hb; simpa using hb
        clear hx hb
        rcases hor with rfl | rfl
        · go_wp2
          go_quiet (fail)
          have HW := Lib.hid (below_drewN wr nq)
          generalize wr.drewN nq = w1 at HW ⊢
          have hr1 := HRJ.out.below HW.out (Nat.le_refl _)
          clear c0 c1
          have c1 := hr1.c1
          have c2 := hr1.fz
          have HR1 := Lib.hid hr1
          have HM1 := Lib.hid (HM.out.trans (Mv.of_below HW.out))
          clear hr1 HRJ HM HW
          go_wp2
          go_roundg (s.size - (j + 1))
          case measure => omega
          case rel => exact ⟨j + 1, by omega, rfl, (blk_in (by exact hlt) HB0.out).symm.trans HJ.out, HR1.out.set' (by omega), HM1.out.trans (Mv.set _ _)⟩
        · go_wp2
          go_quiet (fail)
          have HW := Lib.hid (below_drewN wr nq)
          generalize wr.drewN nq = w1 at HW ⊢
          have hr1 := HRJ.out.below HW.out (Nat.le_refl _)
          clear c0 c1
          have c1 := hr1.c1
          have c2 := hr1.fz
          have HR1 := Lib.hid hr1
          have HM1 := Lib.hid (HM.out.trans (Mv.of_below HW.out))
          clear hr1 HRJ HM HW
          go_wp2
          go_roundg (s.size - (j + 1))
          case measure => omega
          case rel => exact ⟨j + 1, by omega, rfl, (blk_in (by exact hlt) HB0.out).symm.trans HJ.out, HR1.out.set' (by omega), HM1.out.trans (Mv.set _ _)⟩
      · have HB0 : Hid (isBl (gb s.data.toList j) = false) := by show _ = _; rw [hx]; simpa using hb
        have h32 : ((x : Int) == 32) = false := by unfold isBl at hb; simp at hb ⊢; omega
        have h10 : ((x : Int) == 10) = false := by unfold isBl at hb; simp at hb ⊢; omega
        clear hx hb
        go_wp2
        go_quiet (fail)
        have HW := Lib.hid (below_drewN wr nq)
        generalize wr.drewN nq = w1 at HW ⊢
        go_wp2
        have := HJ.out
        rw [blk_out HB0.out] at this
        exact bodyPost_end (v := .tuple #[]) (by simp [results, Try.results18, go_sem]) rfl ⟨rfl, by rw [← this]; exact HRJ.out.below HW.out (Nat.le_refl _), HM.out.trans (Mv.of_below HW.out)⟩
    · have hltI : ¬ (j : Int) < (s.size : Int) := by omega
      go_wp2
      go_quiet (fail)
      have HW := Lib.hid (below_drewN wr nq)
      generalize wr.drewN nq = w1 at HW ⊢
      go_wp2
      have := HJ.out
      rw [blk_end (by show s.size ≤ j; omega)] at this
      exact bodyPost_end (v := .tuple #[]) (by simp [results, Try.results18, go_sem]) rfl ⟨rfl, by rw [← this]; exact HRJ.out.below HW.out (Nat.le_refl _), HM.out.trans (Mv.of_below HW.out)⟩
theorem lts_next {l : List UInt8} {m : Nat} (h1 : 1 ≤ m) (h : m ≤ lts l) : (m < lts l ↔ m < 3 ∧ gb l m = 60) := by
  unfold lts at *
  by_cases c1 : gb l 1 = 60
  · rw [if_pos c1] at *
    by_cases c2 : gb l 2 = 60
    · rw [if_pos c2] at *
      obtain rfl | rfl | rfl : m = 1 ∨ m = 2 ∨ m = 3 := by omega
      · simp [c1]
      · simp [c2]
      · simp
    · rw [if_neg c2] at *
      obtain rfl | rfl : m = 1 ∨ m = 2 := by omega
      · simp [c1]
      · simp [c2]
  · rw [if_neg c1] at *
    obtain rfl : m = 1 := by omega
    simp [c1]
theorem rrel_other {w : World} {g : Nat} {s : ByteArray} {k : Nat} (h : RD TD w g s k) (hk : k < s.size) (hs : s.size ≤ 1000000) {r : Int} {c : Nat} (hR : (gb s.data.toList k = 38 ∧ r = 1 ∧ c = 1) ∨ (gb s.data.toList k = 61 ∧ r = 5 ∧ c = 1) ∨ (gb s.data.toList k ≠ 38 ∧ gb s.data.toList k ≠ 61 ∧ gb s.data.toList k ≠ 60 ∧ r = 0 ∧ c = 0)) :
    Calls Try.prog 19 #[.pointer (some ⟨g, 0, none⟩)] w fun e w' => e = .returned (.int .i64 r) ∧ RD TD w' g s (k + c) ∧ Mv g w w' := by
  have HR := Lib.hid h
  have c0 := h.c0
  have c1 := h.c1
  have hbx := T2.gb_lt s.data.toList k
  obtain ⟨x, hx⟩ : ∃ x, gb s.data.toList k = x := ⟨_, rfl⟩
  have hx2 : s[k].toNat = x := by rw [gb_s hk, hx]
  rw [hx] at hbx hR
  have hltI : (k : Int) < (s.size : Int) := by omega
  clear h hx
  rcases hR with ⟨rfl, rfl, rfl⟩ | ⟨rfl, rfl, rfl⟩ | ⟨h38, h61, h60, rfl, rfl⟩
  · go_enter Try.func19, Try.ntmps19
    go_wp2
    go_quiet (fail)
    have HW := Lib.hid (below_drewN w nq)
    generalize w.drewN nq = w1 at HW ⊢
    have HR1 := Lib.hid (HR.out.below HW.out (Nat.le_refl _))
    clear c0 c1
    have c1 := HR1.out.c1
    have c2 := HR1.out.fz
    go_wp2
    go_ret
    exact ⟨rfl, HR1.out.set' (by omega), (Mv.of_below HW.out).trans (Mv.set _ _)⟩
  · go_enter Try.func19, Try.ntmps19
    go_wp2
    go_quiet (fail)
    have HW := Lib.hid (below_drewN w nq)
    generalize w.drewN nq = w1 at HW ⊢
    have HR1 := Lib.hid (HR.out.below HW.out (Nat.le_refl _))
    clear c0 c1
    have c1 := HR1.out.c1
    have c2 := HR1.out.fz
    go_wp2
    go_ret
    exact ⟨rfl, HR1.out.set' (by omega), (Mv.of_below HW.out).trans (Mv.set _ _)⟩
  · have i38 : ((x : Int) == 38) = false := by simp; omega
    have i61 : ((x : Int) == 61) = false := by simp; omega
    have i60 : ((x : Int) == 60) = false := by simp; omega
    clear h38 h61 h60
    go_enter Try.func19, Try.ntmps19
    go_wp2
    go_quiet (fail)
    have HW := Lib.hid (below_drewN w nq)
    generalize w.drewN nq = w1 at HW ⊢
    have HR1 := Lib.hid (HR.out.below HW.out (Nat.le_refl _))
    go_wp2
    go_ret
    exact ⟨rfl, HR1.out, Mv.of_below HW.out⟩
set_option maxHeartbeats 1000000 in
theorem rrel_less {w : World} {g : Nat} {s : ByteArray} {k : Nat} (h : RD TD w g s k) (hk : k < s.size) (hs : s.size ≤ 1000000) (h60 : gb s.data.toList k = 60) {c : Nat} (hc : lts (s.data.toList.drop k) = c) :
    Calls Try.prog 19 #[.pointer (some ⟨g, 0, none⟩)] w fun e w' => e = .returned (.int .i64 (1 + (c : Int))) ∧ RD TD w' g s (k + c) ∧ Mv g w w' := by
  have HR := Lib.hid h
  have c0 := h.c0
  have c1 := h.c1
  have hx2 : s[k].toNat = 60 := by rw [gb_s hk, h60]
  have hltI : (k : Int) < (s.size : Int) := by omega
  have HN := Lib.hid (fun m (h1 : 1 ≤ m) (h2 : m ≤ c) => by have := lts_next (l := s.data.toList.drop k) h1 (by rw [hc]; exact h2); rw [hc, gb_drop] at this; exact this)
  have hc13 := lts_le (s.data.toList.drop k)
  rw [hc] at hc13
  clear h h60 hc
  go_enter Try.func19, Try.ntmps19
  go_wp2
  go_quiet (fail)
  have HW := Lib.hid (below_drewN w nq)
  generalize w.drewN nq = w1 at HW ⊢
  have HR1 := Lib.hid (HR.out.below HW.out (Nat.le_refl _))
  clear c0 c1
  go_wp2
  go_loopg [3] 2 (fun n v wr => ∃ m : Nat, v = .int .i64 (m : Nat) ∧ 1 ≤ m ∧ m ≤ c ∧ n = 3 - m ∧ Hid (RD TD wr g s k) ∧ Hid (Below w.heap.size w wr))
  case atStart => exact ⟨1, rfl, Nat.le_refl _, hc13.1, rfl, HR1.out, HW.out⟩
  case round =>
    obtain ⟨m, rfl, hm1, hmc, rfl, HRW, HB⟩ := hrel
    clear HR1 HW HR
    have c0 := HRW.out.c0
    have c1 := HRW.out.c1
    have hn := HN.out m hm1 hmc
    by_cases hlt : m < c
    · obtain ⟨hm3, h60⟩ := hn.1 hlt
      have hkm : k + m < s.size := by
        rcases Nat.lt_or_ge (k + m) s.data.toList.length with h4 | h4
        · exact h4
        · rw [gb_out h4] at h60; cases h60
      have hy : s[k + m].toNat = 60 := by rw [gb_s hkm, h60]
      have e1 : ((k : Int) + (m : Int)).toNat = k + m := by omega
      have i1 : (k : Int) + (m : Int) < (s.size : Int) := by omega
      have i3 : (m : Int) < 3 := by omega
      have i4 : (m : Int) ≤ 3 := by omega
      have ew : IntKind.i64.wrap ((k : Int) + (m : Int)) = (k : Int) + (m : Int) := IntWalk.i64_in _ (by omega)
      have i2 : (0 : Int) ≤ (k : Int) + (m : Int) := by omega
      clear hn h60
      go_wp2
      go_quiet (fail)
      have HW := Lib.hid (below_drewN wr nq)
      generalize wr.drewN nq = w2 at HW ⊢
      go_wp2
      go_roundg (3 - (m + 1))
      case measure => omega
      case rel => exact ⟨m + 1, by first | rfl | (congr 1), by omega, by omega, rfl, HRW.out.below HW.out (Nat.le_refl _), HB.out.trans (HW.out.mono HB.out.size)⟩
    · obtain rfl : m = c := by omega
      have hno : ¬ (m < 3 ∧ gb s.data.toList (k + m) = 60) := fun h => hlt (hn.2 h)
      have ew : IntKind.i64.wrap ((k : Int) + (m : Int)) = (k : Int) + (m : Int) := IntWalk.i64_in _ (by omega)
      have i2 : (0 : Int) ≤ (k : Int) + (m : Int) := by omega
      have hend : ∀ w2 : World, Below wr.heap.size wr w2 → (RD TD w2 g s k ∧ Mv g w w2) := fun w2 hb => ⟨HRW.out.below hb (Nat.le_refl _), (Mv.of_below HB.out).trans (Mv.of_below hb)⟩
      have HE := Lib.hid hend
      clear hend hn hlt
      by_cases h3 : m < 3
      · have i3 : (m : Int) < 3 := by omega
        have i4 : (m : Int) ≤ 3 := by omega
        by_cases hkm : k + m < s.size
        · have hy0 : gb s.data.toList (k + m) ≠ 60 := fun h => hno ⟨h3, h⟩
          obtain ⟨y, hy⟩ : ∃ y, gb s.data.toList (k + m) = y := ⟨_, rfl⟩
          have hy2 : s[k + m].toNat = y := by rw [gb_s hkm, hy]
          rw [hy] at hy0
          have i60 : ((y : Int) == 60) = false := by simp; omega
          have i1 : (k : Int) + (m : Int) < (s.size : Int) := by omega
          have e1 : ((k : Int) + (m : Int)).toNat = k + m := by omega
          clear hno hy hy0
          go_wp2
          go_quiet (fail)
          have HW := Lib.hid (below_drewN wr nq)
          generalize wr.drewN nq = w2 at HW ⊢
          have HE2 := Lib.hid (HE.out w2 HW.out)
          clear c0 c1
          have c1 := HE2.out.1.c1
          have c2 := HE2.out.1.fz
          go_wp2
          go_ret
          exact ⟨rfl, HE2.out.1.set' (by omega), HE2.out.2.trans (Mv.set _ _)⟩
        · have i1 : ¬ (k : Int) + (m : Int) < (s.size : Int) := by omega
          have i1b : decide ((k : Int) + (m : Int) < (s.size : Int)) = false := decide_eq_false i1
          clear hno
          go_wp2
          go_quiet (fail)
          have HW := Lib.hid (below_drewN wr nq)
          generalize wr.drewN nq = w2 at HW ⊢
          have HE2 := Lib.hid (HE.out w2 HW.out)
          clear c0 c1
          have c1 := HE2.out.1.c1
          have c2 := HE2.out.1.fz
          go_wp2
          go_ret
          exact ⟨rfl, HE2.out.1.set' (by omega), HE2.out.2.trans (Mv.set _ _)⟩
      · obtain rfl : m = 3 := by omega
        clear hno
        go_wp2
        go_quiet (fail)
        have HW := Lib.hid (below_drewN wr nq)
        generalize wr.drewN nq = w2 at HW ⊢
        have HE2 := Lib.hid (HE.out w2 HW.out)
        clear c0 c1
        have c1 := HE2.out.1.c1
        have c2 := HE2.out.1.fz
        go_wp2
        go_ret
        exact ⟨rfl, HE2.out.1.set' (by omega), HE2.out.2.trans (Mv.set _ _)⟩
theorem rrel_any {w : World} {g : Nat} {s : ByteArray} {k : Nat} (h : RD TD w g s k) (hk : k < s.size) (hs : s.size ≤ 1000000) {r c : Nat} (hR : relD (s.data.toList.drop k) = (r, c)) :
    Calls Try.prog 19 #[.pointer (some ⟨g, 0, none⟩)] w fun e w' => e = .returned (.int .i64 (r : Nat)) ∧ RD TD w' g s (k + c) ∧ Mv g w w' := by
  unfold relD at hR
  rw [gb_drop, Nat.add_zero] at hR
  by_cases h38 : gb s.data.toList k = 38
  · rw [if_pos h38] at hR; cases hR
    exact rrel_other h hk hs (.inl ⟨h38, rfl, rfl⟩)
  · rw [if_neg h38] at hR
    by_cases h61 : gb s.data.toList k = 61
    · rw [if_pos h61] at hR; cases hR
      exact rrel_other h hk hs (.inr (.inl ⟨h61, rfl, rfl⟩))
    · rw [if_neg h61] at hR
      by_cases h60 : gb s.data.toList k = 60
      · rw [if_pos h60] at hR; cases hR
        refine (rrel_less h hk hs h60 rfl).mono fun e w' hh => ?_
        rw [Int.natCast_add]
        exact hh
      · rw [if_neg h60] at hR; cases hR
        exact rrel_other h hk hs (.inr (.inr ⟨h38, h61, h60, rfl, rfl⟩))
def spcB (c : Int) : Bool := decide (c = 32) || decide (c = 10) || decide (c = 38) || decide (c = 60) || decide (c = 61) || decide (c = 47)
theorem special_any {c : Int} {b : Bool} (hb : spcB c = b) (w : World) : Calls Try.prog 33 #[.int .i64 c] w fun e w' => e = .returned (.bool b) ∧ w = w' := by
  subst hb
  go_enter Try.func33, Try.ntmps33
  go_wp2
  all_goals go_ret
  all_goals refine ⟨T2.bool_of ?_, rfl⟩
  all_goals unfold spcB
  all_goals (apply Bool.eq_iff_iff.2; simp_all)
theorem dec_en {l : List UInt8} (hl : l ≠ []) : spcB ((dec l).1 : Int) = isEn (gb l 0) ∧ (((dec l).1 : Int) = 92 ↔ gb l 0 = 92) ∧ (gb l 0 = 92 → dec l = (92, 1)) := by
  have hb := T2.gb_lt l 0
  have hi := T2.dec_sg hl
  have key : ∀ (v : Nat), 128 ≤ v → 128 ≤ gb l 0 → (spcB (v : Int) = isEn (gb l 0) ∧ ((v : Int) = 92 ↔ gb l 0 = 92)) := fun v h1 h2 => by
    constructor
    · unfold spcB isEn
      rw [decide_eq_false (by omega), decide_eq_false (by omega), decide_eq_false (by omega), decide_eq_false (by omega), decide_eq_false (by omega), decide_eq_false (by omega), decide_eq_false (by omega), decide_eq_false (by omega), decide_eq_false (by omega), decide_eq_false (by omega), decide_eq_false (by omega), decide_eq_false (by omega)]
    · omega
  rcases T2.dec_cases hl with ⟨h, e⟩ | ⟨h, e⟩ | ⟨h, e⟩ | ⟨h, e⟩ | ⟨h, _, _, _, e⟩
  · rw [e]; simp only
    refine ⟨?_, by omega, fun h92 => by rw [h92]⟩
    unfold spcB isEn
    have c : ∀ n : Nat, decide (((gb l 0 : Nat) : Int) = (n : Int)) = decide (gb l 0 = n) := fun n => by apply Bool.eq_iff_iff.2; simp; omega
    exact congr (congrArg _ (congr (congrArg _ (congr (congrArg _ (congr (congrArg _ (congr (congrArg _ (c 32)) (c 10))) (c 38))) (c 60))) (c 61))) (c 47)
  · have h' := T2.is2_iff.1 h
    rw [e]; simp only
    have := key (T2.v2 l) (by rw [T2.v2_eq]; omega) (by omega)
    exact ⟨this.1, this.2, fun h92 => by omega⟩
  · have h' := T2.is3_iff.1 h
    rw [e]; simp only
    have := key (T2.v3 l) (by omega) (by omega)
    exact ⟨this.1, this.2, fun h92 => by omega⟩
  · have h' := T2.is4_iff.1 h
    rw [e]; simp only
    have := key (T2.v4 l) (by omega) (by omega)
    exact ⟨this.1, this.2, fun h92 => by omega⟩
  · rw [e]; simp only
    have := key (1114112 + gb l 0) (by omega) (by omega)
    exact ⟨this.1, this.2, fun h92 => by omega⟩
end Go.Proofs.Ytdodlppnjlmnaaa
