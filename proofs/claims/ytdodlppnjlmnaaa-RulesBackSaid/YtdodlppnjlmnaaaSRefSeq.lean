/-
  THE CONTRACT of the document's seq.
-/
import Derived.Test.YtdodlppnjlmnaaaSRef
import Derived.Test.YtdodlppnjlmnaaaSSignQ
namespace Go.Proofs.Ytdodlppnjlmnaaa
open Go.RowKit
set_option linter.unusedVariables false
set_option linter.unusedSimpArgs false
open T2 (gb dec one isSg isPt sgs)
theorem rsign_at {s : ByteArray} {p : Nat} {D : Nat × Nat} (hp : p < s.size) (hs : s.size ≤ 1000000) (hD : dec (s.data.toList.drop p) = D) (w : World) :
    Calls Try.prog 32 #[.string (s.extract p s.size)] w fun e w' => e = .returned (.tuple #[.int .i64 (D.1 : Int), .int .i64 (D.2 : Int)]) ∧ ∃ m, w' = w.drewN m := by
  have h := T2.rfirstq_any (s.extract p s.size) w (by rw [ByteArray.size_extract]; omega) (by rw [ByteArray.size_extract]; have : maxLen = 9223372036854775807 := by decide
                                                                                              omega)
  rw [T2.ext_drop, hD] at h
  exact h
set_option maxRecDepth 100000 in
set_option maxHeartbeats 2000000 in
theorem rseq_any {w : World} {g : Nat} {s : ByteArray} {k : Nat} (h : RD TD w g s k) (hk : k ≤ s.size) (hs : s.size ≤ 1000000) {b : Bool} {l : List Int} {k' : Nat} (hR : seqD s.data.toList k = (b, l, k')) :
    Calls Try.prog 20 #[.pointer (some ⟨g, 0, none⟩)] w
      fun e w' => (∃ A n c, e = .returned (.tuple #[.slice A n c, .bool b]) ∧ (b = true → T2.OwnI w.heap.size w' (.slice A n c) l)) ∧ RD TD w' g s k' ∧ Mv g w w' := by
  have HT := Lib.hid (blank_any h hk hs)
  have hle := (af_le (L := s.data.toList) hk).2
  rw [T2.ba_len] at hle
  have HF : Hid (colD s.data.toList 3 [] (af s.data.toList k) = (b, l, k')) := hR
  have HG := Lib.hid h.lt
  obtain ⟨B, hB⟩ : ∃ B, w.heap.size = B := ⟨_, rfl⟩
  rw [hB] at HG ⊢
  have HBE := Lib.hid hB
  have HBW : Hid (∀ wr, Mv g w wr → B ≤ wr.heap.size) := fun wr hm => by have := hm.size; omega
  clear h hR hB
  go_enter Try.func20, Try.ntmps20
  go_wp2_with (go_at_call 18; refine HT.out.mono ?_; rintro e w1 ⟨rfl, hr, hm⟩; have HR := Lib.hid hr; have HM := Lib.hid hm; clear hr hm)
  go_loopg [4] 3 (fun n v wr => ∃ (acc : List Int) (j : Nat), acc.length + n = 3 ∧ j ≤ s.size ∧ Hid (colD s.data.toList n acc j = (b, l, k')) ∧ Hid (T2.OwnI B wr v acc) ∧ Hid (RD TD wr g s j) ∧ Hid (Mv g w wr))
  case atStart => exact ⟨[], _, rfl, hle, HF.out, T2.OwnI.nil _ _, HR.out, HM.out⟩
  case round =>
    obtain ⟨acc, j, hn, hj, HJ, HO, HRJ, HM⟩ := hrel
    clear HR HF hle HT
    obtain ⟨A, c, rfl, -⟩ := R4.own_parts HO.out
    obtain ⟨na, hna⟩ : ∃ m, acc.length = m := ⟨_, rfl⟩
    have HNA := Lib.hid hna
    rw [hna] at hn HO ⊢
    clear hna
    have c0 := HRJ.out.c0
    have c1 := HRJ.out.c1
    by_cases hlt : j < s.size
    · have hltI : (j : Int) < (s.size : Int) := by omega
      have hjl : (j : Int) ≤ (s.size : Int) := by omega
      obtain ⟨D, hD⟩ : ∃ D, dec (s.data.toList.drop j) = D := ⟨_, rfl⟩
      have HS := Lib.hid (rsign_at hlt hs hD)
      have hde := dec_en (drop_ne hlt)
      have hdle := T2.dec_le (drop_ne hlt)
      have hsg1 : sg1 (s.data.toList.drop j) = if gb s.data.toList j = 92 then (if s.size - j ≤ 1 then (false, 0, 1) else (true, ((dec (s.data.toList.drop (j + 1))).1 : Int), 1 + (dec (s.data.toList.drop (j + 1))).2)) else (true, (D.1 : Int), D.2) := by
        unfold sg1; rw [gb_drop, Nat.add_zero, hD, List.length_drop, T2.ba_len, List.drop_drop]
      rw [hD, gb_drop, Nat.add_zero] at hde
      rw [hD, List.length_drop, T2.ba_len] at hdle
      obtain ⟨hd1, hd2, hd3⟩ := hde
      obtain ⟨be, hbe⟩ : ∃ q, isEn (gb s.data.toList j) = q := ⟨_, rfl⟩
      rw [hbe] at hd1
      have HSP := Lib.hid (special_any hd1)
      have hen : endd (s.data.toList.drop j) = be := by rw [endd_iff, hbe, decide_eq_false (by rw [T2.ba_len]; omega)]; rfl
      have h9 := HJ.out
      clear hd1 hD
      go_wp2
      go_quiet (fail)
      have HW := Lib.hid (below_drewN wr nq)
      generalize wr.drewN nq = w2 at HW ⊢
      have HR2 := Lib.hid (HRJ.out.below HW.out (Nat.le_refl _))
      have HM2 := Lib.hid (HM.out.trans (Mv.of_below HW.out))
      have HO2 := Lib.hid (HO.out.below HW.out (Nat.le_refl _))
      clear HW HRJ HM HO c0 c1
      have c0 := HR2.out.c0
      have c1 := HR2.out.c1
      go_wp2
      go_quiet ((go_at_call 32; with_reducible exact Calls.quiet_of (HS.out _)))
      have HW := Lib.hid (below_drewN w2 nq)
      generalize w2.drewN nq = w3 at HW ⊢
      have HR3 := Lib.hid (HR2.out.below HW.out (Nat.le_refl _))
      have HM3 := Lib.hid (HM2.out.trans (Mv.of_below HW.out))
      have HO3 := Lib.hid (HO2.out.below HW.out (Nat.le_refl _))
      clear HW HR2 HM2 HO2 c0 c1
      have c0 := HR3.out.c0
      have c1 := HR3.out.c1
      cases be with
      | true =>
        have h9 : (decide (0 < na), acc, j) = (b, l, k') := by
          rw [← h9, ← HNA.out]
          cases gk <;> rw [colD, if_pos hen]
        have HJ2 := Lib.hid h9
        clear h9 HJ hsg1 hen hbe hd2 hd3 hdle
        go_wp2_with (go_at_call 33; refine (HSP.out _).mono ?_; rintro e w4 ⟨rfl, rfl⟩)
        go_ret2
        have h9 := HJ2.out
        injection h9 with h1 h2
        injection h2 with h2 h3
        subst h1 h2 h3
        exact ⟨⟨_, _, _, rfl, fun _ => HO3.out⟩, HR3.out, HM3.out⟩
      | false =>
        cases gk with
        | zero =>
          rw [colD, if_neg (by rw [hen]; simp)] at h9
          have HJ2 := Lib.hid h9
          obtain rfl : na = 3 := by omega
          clear h9 HJ hsg1 hen hbe hd2 hd3 hdle
          go_wp2_with (go_at_call 33; refine (HSP.out _).mono ?_; rintro e w4 ⟨rfl, rfl⟩)
          go_ret2
          have h9 := HJ2.out
          injection h9 with h1 h2
          injection h2 with h2 h3
          subst h1 h2 h3
          exact ⟨⟨_, _, _, rfl, fun h => by cases h⟩, HR3.out, HM3.out⟩
        | succ n =>
          rw [colD, if_neg (by rw [hen]; simp), hsg1] at h9
          have hn3 : ((na : Int) == 3) = false := by simp; omega
          have hn3' : ¬ na = 3 := by omega
          by_cases h92 : gb s.data.toList j = 92
          · obtain rfl := hd3 h92
            rw [if_pos h92] at h9
            have ew : IntKind.i64.wrap ((j : Int) + 1) = (j : Int) + 1 := IntWalk.i64_in _ (by omega)
            by_cases hl1 : s.size - j ≤ 1
            · rw [if_pos hl1] at h9
              simp only [Bool.false_eq_true, if_false] at h9
              have HJ2 := Lib.hid h9
              have i1 : (s.size : Int) ≤ (j : Int) + 1 := by omega
              clear h9 HJ hsg1 hen hbe hd2 hd3 hdle
              go_wp2_with (go_at_call 33; refine (HSP.out _).mono ?_; rintro e w4 ⟨rfl, rfl⟩)
              go_quiet (fail)
              have HW := Lib.hid (below_drewN w3 nq)
              generalize w3.drewN nq = w5 at HW ⊢
              have HR5 := Lib.hid (HR3.out.below HW.out (Nat.le_refl _))
              have HM5 := Lib.hid (HM3.out.trans (Mv.of_below HW.out))
              have HO5 := Lib.hid (HO3.out.below HW.out (Nat.le_refl _))
              clear HW HR3 HM3 HO3 c0 c1
              have c0 := HR5.out.c0
              have c1 := HR5.out.c1
              have c2 := HR5.out.fz
              go_wp2
              go_ret2
              have h9 := HJ2.out
              injection h9 with h1 h2
              injection h2 with h2 h3
              subst h1 h2 h3
              exact ⟨⟨_, _, _, rfl, fun h => by cases h⟩, HR5.out.set' (by omega), HM5.out.trans (Mv.set _ _)⟩
            · rw [if_neg hl1] at h9
              simp only [if_true] at h9
              have i1 : ¬ (s.size : Int) ≤ (j : Int) + 1 := by omega
              have i1b : decide ((s.size : Int) ≤ (j : Int) + 1) = false := decide_eq_false i1
              have hj1 : j + 1 < s.size := by omega
              obtain ⟨D2, hD2⟩ : ∃ D, dec (s.data.toList.drop (j + 1)) = D := ⟨_, rfl⟩
              have hdle2 := T2.dec_le (drop_ne hj1)
              rw [hD2, List.length_drop, T2.ba_len] at hdle2
              rw [hD2] at h9
              have HS2 := Lib.hid (rsign_at hj1 hs hD2)
              have HJ2 := Lib.hid h9
              have HL : Hid (acc.length + [(D2.1 : Int)].length ≤ 10000000) := by show _ ≤ _; rw [HNA.out, List.length_singleton]; omega
              have e1 : ((j : Int) + 1).toNat = j + 1 := by omega
              have i5 : (0 : Int) ≤ (j : Int) + 1 := by omega
              have i6 : (j : Int) + 1 ≤ (s.size : Int) := by omega
              have i7 : (D2.2 : Int) ≤ 1000000 := by omega
              clear h9 HJ hsg1 hen hbe hd2 hd3 hdle hD2
              go_wp2_with (go_at_call 33; refine (HSP.out _).mono ?_; rintro e w4 ⟨rfl, rfl⟩)
              go_quiet (fail)
              have HW := Lib.hid (below_drewN w3 nq)
              generalize w3.drewN nq = w5 at HW ⊢
              have HR5 := Lib.hid (HR3.out.below HW.out (Nat.le_refl _))
              have HM5 := Lib.hid (HM3.out.trans (Mv.of_below HW.out))
              have HO5 := Lib.hid (HO3.out.below HW.out (Nat.le_refl _))
              clear HW HR3 HM3 HO3 c0 c1
              have c0 := HR5.out.c0
              have c1 := HR5.out.c1
              go_wp2
              go_quiet ((go_at_call 32; with_reducible exact Calls.quiet_of (HS2.out _)))
              have HW := Lib.hid (below_drewN w5 nq)
              generalize w5.drewN nq = w6 at HW ⊢
              have HR6 := Lib.hid (HR5.out.below HW.out (Nat.le_refl _))
              have HM6 := Lib.hid (HM5.out.trans (Mv.of_below HW.out))
              have HO6 := Lib.hid (HO5.out.below HW.out (Nat.le_refl _))
              clear HW HR5 HM5 HO5 c0 c1
              have c0 := HR6.out.c0
              have c1 := HR6.out.c1
              go_wp2_with (first
                | (go_at_call 33; refine (HSP.out _).mono ?_; rintro e w4 ⟨rfl, rfl⟩)
                | (at_builtin; refine T2.pushI rfl (.tmp 76) (.tmp 78) rfl _ B _ _ [(D2.1 : Int)] 1 rfl HO6.out rfl (HBW.out _ HM6.out) HL.out ?_; intro v7 w7 ho7 hb7; have HO7 := Lib.hid ho7; have HB7 := Lib.hid hb7; have HR7 := Lib.hid (HR6.out.low hb7 HG.out); have HM7 := Lib.hid (HM6.out.low hb7 (Nat.le_of_eq HBE.out)); have d1 := HR7.out.c1; have d2 := HR7.out.fz; clear ho7 hb7))
              go_roundg n
              case measure => omega
              case rel => exact ⟨acc ++ [(D2.1 : Int)], j + (1 + D2.2), by rw [List.length_append, HNA.out, List.length_singleton]; omega, by omega, HJ2.out, own_mv HO7.out (Mv.set w7 _) HG.out, HR7.out.set' (by omega), HM7.out.trans (Mv.set _ _)⟩
          · rw [if_neg h92] at h9
            simp only [if_true] at h9
            have h92I : (((D.1 : Nat) : Int) == 92) = false := by simp only [beq_eq_false_iff_ne, ne_eq]; exact fun h => h92 (hd2.1 h)
            have h92N : ¬ D.1 = 92 := fun h => h92 (hd2.1 (by omega))
            have HJ2 := Lib.hid h9
            have HL : Hid (acc.length + [(D.1 : Int)].length ≤ 10000000) := by show _ ≤ _; rw [HNA.out, List.length_singleton]; omega
            have i7 : (D.2 : Int) ≤ 1000000 := by omega
            clear h9 HJ hsg1 hen hbe hd2 hd3
            go_wp2_with (first
              | (go_at_call 33; refine (HSP.out _).mono ?_; rintro e w4 ⟨rfl, rfl⟩)
              | (at_builtin; refine T2.pushI rfl (.tmp 76) (.tmp 78) rfl _ B _ _ [(D.1 : Int)] 1 rfl HO3.out rfl (HBW.out _ HM3.out) HL.out ?_; intro v7 w7 ho7 hb7; have HO7 := Lib.hid ho7; have HB7 := Lib.hid hb7; have HR7 := Lib.hid (HR3.out.low hb7 HG.out); have HM7 := Lib.hid (HM3.out.low hb7 (Nat.le_of_eq HBE.out)); have d1 := HR7.out.c1; have d2 := HR7.out.fz; clear ho7 hb7))
            go_roundg n
            case measure => omega
            case rel => exact ⟨acc ++ [(D.1 : Int)], j + D.2, by rw [List.length_append, HNA.out, List.length_singleton]; omega, by omega, HJ2.out, own_mv HO7.out (Mv.set w7 _) HG.out, HR7.out.set' (by omega), HM7.out.trans (Mv.set _ _)⟩
    · have hltI : ¬ (j : Int) < (s.size : Int) := by omega
      have h9 : (decide (0 < na), acc, j) = (b, l, k') := by
        rw [← HJ.out, ← HNA.out]
        have hen : endd (s.data.toList.drop j) = true := by rw [endd_iff, decide_eq_true (by rw [T2.ba_len]; omega)]; rfl
        cases gk <;> rw [colD, if_pos hen]
      have HJ2 := Lib.hid h9
      clear h9 HJ
      go_wp2
      go_quiet (fail)
      have HW := Lib.hid (below_drewN wr nq)
      generalize wr.drewN nq = w2 at HW ⊢
      have HR2 := Lib.hid (HRJ.out.below HW.out (Nat.le_refl _))
      have HM2 := Lib.hid (HM.out.trans (Mv.of_below HW.out))
      have HO2 := Lib.hid (HO.out.below HW.out (Nat.le_refl _))
      clear HW HRJ HM HO c0 c1
      have c0 := HR2.out.c0
      have c1 := HR2.out.c1
      go_wp2
      go_ret2
      have h9 := HJ2.out
      injection h9 with h1 h2
      injection h2 with h2 h3
      subst h1 h2 h3
      exact ⟨⟨_, _, _, rfl, fun _ => HO2.out⟩, HR2.out, HM2.out⟩
end Go.Proofs.Ytdodlppnjlmnaaa
