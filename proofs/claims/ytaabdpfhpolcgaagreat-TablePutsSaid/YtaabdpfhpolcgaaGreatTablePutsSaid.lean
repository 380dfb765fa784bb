/-
  THE LAW TablePuts HOLDS: for every input its call returns true, and each argument reads behind it as before. CONDITIONS: none.
  Ahead of it: the walk of the law.
-/
import Derived.Test.YtaabdpfhpolcgaaGreatBOff
import Derived.Test.YtaabdpfhpolcgaaGreatBRUse
import Derived.Test.YtaabdpfhpolcgaaGreatRows
import Derived.ProofKit
import Derived.OpenShut
import Derived.ShutString
import Derived.Carry
namespace Go.Proofs.YtaabdpfhpolcgaaGreat
open Go.RowKit
set_option linter.unusedVariables false
set_option linter.unusedSimpArgs false
set_option maxHeartbeats 8000000 in
set_option maxRecDepth 100000 in
theorem puts_any {w : World} {v sv : Value} {O : List PE} {s : List Int} (hO : RdT anyB w v O) (hOb : ∀ e ∈ O, I64 e.1 ∧ (∀ x ∈ e.2, x < 4294967296) ∧ e.1.length ≤ maxLen ∧ e.2.length ≤ maxLen) (hOl : O.length ≤ maxLen) (hs : RdI anyB w sv s) (hsI : I64 s) (hsl : s.length ≤ maxLen) :
    Calls Tryz.prog 6 #[v, sv] w fun e w' => e = .returned (.bool true) ∧ Below w.heap.size w w' := by
  obtain ⟨R0, hR0⟩ : ∃ R0, rootP = R0 := ⟨_, rfl⟩
  have hpos : 0 < R0.length := by rw [← hR0]; decide +kernel
  have HR0 := Lib.hid hR0
  obtain ⟨A0, c0, rfl⟩ := hO.form
  obtain ⟨As, cs, rfl⟩ := hs.form
  have HO := Lib.hid hO
  have HOB := Lib.hid hOb
  have HS := Lib.hid hs
  have HSI := Lib.hid hsI
  obtain ⟨n, hn⟩ : ∃ n, O.length = n := ⟨_, rfl⟩
  have HN := Lib.hid hn
  rw [hn] at HO hOl ⊢
  have hnI : (n : Int) ≤ 9223372036854775807 := by simp only [maxLen] at hOl; omega
  by_cases h10 : s.length ≤ 10
  case neg =>
    have h10I : (10 : Int) < (s.length : Int) := by omega
    clear hO hOb hOl hs hsI hsl hR0 hn h10
    go_enter Tryz.func6, Tryz.ntmps6
    go_wp2_with (first
      | (go_at_call 9; refine (root_any _).mono ?_; rintro e w1 ⟨p, rfl, ht, hb⟩; have HB1 := Lib.hid hb; clear ht hb)
      | (go_at_call 18; refine (rroot_any _).mono ?_; rintro e w2 ⟨⟨u, rfl, hu⟩, hb⟩; obtain ⟨Au, cu, rfl⟩ := hu.form; rw [HR0.out]; have hA := alloc_below w2 (.cells #[.slice Au R0.length cu] 42); have HB3 := Lib.hid ((HB1.out.trans (hb.mono HB1.out.size)).trans (hA.mono (HB1.out.trans (hb.mono HB1.out.size)).size)); clear hu hb hA)
      | (go_at_call 16; refine (awake_any _).mono ?_; rintro e w5 ⟨rfl, hb⟩; have HB5 := Lib.hid (HB3.out.trans (hb.mono HB3.out.size)); clear hb))
    go_ret
    exact ⟨rfl, HB5.out⟩
  case pos =>
    have h10I : ¬ (10 : Int) < (s.length : Int) := by omega
    have HS10 := Lib.hid h10
    clear hO hOb hOl hs hsI hsl hR0 hn h10
    go_enter Tryz.func6, Tryz.ntmps6
    go_wp2_with (first
      | (go_at_call 9; refine (root_any _).mono ?_; rintro e w1 ⟨p, rfl, ht, hb⟩; rw [HR0.out] at ht; have HT := Lib.hid ht.tight; have HB1 := Lib.hid hb; clear ht hb)
      | (go_at_call 18; refine (rroot_any _).mono ?_; rintro e w2 ⟨⟨u, rfl, hu⟩, hb⟩; rw [HR0.out] at hu; obtain ⟨Au, cu, rfl⟩ := hu.form; have hA := alloc_below w2 (.cells #[.slice Au R0.length cu] 42); have HB2 := Lib.hid (HB1.out.trans (hb.mono HB1.out.size)); have HSZ := Lib.hid hb.size; have HT3 := Lib.hid ((HT.out.below hb (Nat.le_refl _)).below hA (Nat.le_refl _)); have HU3 := Lib.hid (hu.below hA (Nat.le_refl _)); have HV3 := Lib.hid (heap_alloc_new w2 (.cells #[.slice Au R0.length cu] 42)); have HB3 := Lib.hid (HB2.out.trans (hA.mono HB2.out.size)); clear hu hb hA))
    have HPU : Hid (PU w w2.heap.size (.pointer (some ⟨p, 0, none⟩)) (w2.alloc (.cells #[.slice Au R0.length cu] 42))) := ⟨⟨p, R0, Au, cu, rfl, HT3.out.mono fun k hk => by have := HSZ.out; have := hk.2; omega, hpos, HV3.out, HU3.out⟩, HB3.out, HB2.out.size⟩
    obtain ⟨b6, hb6⟩ : ∃ b, w2.heap.size = b := ⟨_, rfl⟩
    rw [hb6] at HPU
    rw [show (({ block := w2.heap.size, off := 0 } : Addr)) = ⟨b6, 0, none⟩ by rw [hb6]]
    clear hb6 HT HB1 HB2 HSZ HT3 HU3 HV3 HB3 hpos
    generalize (w2.alloc (.cells #[.slice Au R0.length cu] 42)) = w3 at HPU ⊢
    go_loopw [5, 7] (fun t i wr => ∃ k : Nat, k ≤ n ∧ k ≤ 12 ∧ i = .int .i64 (k : Nat) ∧ Hid (PU w b6 t wr)) (fun _ i _ => 12 - (intOf i).toNat)
    case atStart => exact ⟨0, Nat.zero_le _, Nat.zero_le _, rfl, HPU.out⟩
    case round =>
      clear HPU
      obtain ⟨k, hk, hk12, rfl, HPU⟩ := hrel
      obtain ⟨wo, rfl⟩ : ∃ wo, wo = wr := ⟨_, rfl⟩
      obtain ⟨⟨p1, L, A6, c6, rfl, hT, hpos, hrow, hR⟩, hB, hlo⟩ := HPU.out
      have HT := Lib.hid hT
      have HROW := Lib.hid hrow
      have HR := Lib.hid hR
      have HB := Lib.hid hB
      have HG := Lib.hid hT.good
      obtain ⟨N, hN⟩ : ∃ N, L.length = N := ⟨_, rfl⟩
      have HLN := Lib.hid hN
      rw [hN] at HR HROW
      have HC6 : Hid (wo.cell? ⟨b6, 0, none⟩ = some (.slice A6 N c6)) := by show _ = _; rw [cell_of_row _ _ 0 _ _ _ HROW.out]; rfl
      have HLO := Lib.hid hlo
      have HPOS := Lib.hid hpos
      clear hT hrow hR hB hlo hpos hN
      by_cases hlt : k < n ∧ k < 12
      · have hkI : (k : Int) < (n : Int) := by omega
        have h12I : (k : Int) < 12 := by omega
        obtain ⟨e, he⟩ : ∃ e, O[k]? = some e := ⟨_, List.getElem?_eq_getElem (by rw [HN.out]; exact hlt.1)⟩
        obtain ⟨g0, o0, vs, vl, rfl, e0, e1, hri, hre⟩ := (HO.out.below HB.out (Nat.le_refl _)).at he
        obtain ⟨B1, d1, f1⟩ := hri.form
        obtain ⟨B2, d2, f2⟩ := hre.form
        subst f1
        subst f2
        obtain ⟨hI64, hw32, hm1, hm2⟩ := HOB.out e (List.mem_of_getElem? he)
        have HRI := Lib.hid hri
        have HRE := Lib.hid hre
        have HE0 := Lib.hid e0
        have HE1 := Lib.hid e1
        have HM2 := Lib.hid hm2
        have HW32 := Lib.hid hw32
        have hm1I : (e.1.length : Int) ≤ 9223372036854775807 := by simp only [maxLen] at hm1; omega
        clear hri hre hlt he hI64 hw32 hm2 hm1
        by_cases hs10 : e.1.length ≤ 10
        case neg =>
          have hs10I : (10 : Int) < (e.1.length : Int) := by omega
          clear hs10 e1
          go_wp2_with (go_at_call 16; refine (awake_any _).mono ?_; rintro q w5 ⟨rfl, hb⟩; have HB5 := Lib.hid (HB.out.trans (hb.mono HB.out.size)); clear hb)
          go_ret
          exact ⟨rfl, HB5.out⟩
        case pos =>
          have hs10I : ¬ (10 : Int) < (e.1.length : Int) := by omega
          have HS1 : Hid (e.1.length ≤ 1000000000000000) := by show _ ≤ _; omega
          have HW12 : Hid (∀ x ∈ e.2.take 12, x < 4294967296) := fun x hx => HW32.out x (List.mem_of_mem_take hx)
          have CE := Lib.hid (elems_any HRE.out HM2.out HW32.out)
          obtain ⟨l, hl⟩ : ∃ l, e.2.take 12 = l := ⟨_, rfl⟩
          have HL12 : Hid (l.length ≤ 12) := by show _ ≤ _; rw [← hl, List.length_take]; omega
          rw [hl] at CE HW12
          obtain ⟨m, hm⟩ : ∃ m, l.length = m := ⟨_, rfl⟩
          have HM := Lib.hid hm
          rw [hm] at CE
          have HMS : Hid (l.length ≤ 1000000000000000) := by show _ ≤ _; have := HL12.out; omega
          have hm12 : m ≤ 12 := by have := HL12.out; omega
          obtain ⟨E, hE⟩ : ∃ E, withE L e.1 l = E := ⟨_, rfl⟩
          have HE := Lib.hid hE
          clear hl hm hE hs10
          by_cases hE0 : E = 0
          case neg =>
            have HE0' := Lib.hid hE0
            have hEn : (E != 0) = true := by simpa using hE0
            clear hE0
            go_wp2_with (first
                    | (go_at_call 19; refine (CE.out).mono ?_; rintro r w1 ⟨⟨Ax, cx, Ay, cy, rfl, hx, hy⟩, hb1⟩; have HX1 := Lib.hid hx; have HY1 := Lib.hid hy; have HB1 := Lib.hid (HB.out.trans (hb1.mono HB.out.size)); have HBO1 := Lib.hid hb1; have e01 := cell_call hb1 HE0.out; clear hx hy hb1 e0 e1)
                    | (go_at_call 12; refine (with_not HE.out HE0'.out (F := anyB) (fun _ _ => trivial) ((HT.out.mono (G := anyB) (fun _ _ => trivial)).below HBO1.out (Nat.le_refl _)) (HRI.out.below HBO1.out (Nat.le_refl _)) (OwnE.rd (F := anyB) (by have h := HX1.out; unfold OwnE at h ⊢; exact h) (fun _ _ => trivial)) HW12.out HS1.out HMS.out).mono ?_; rintro r w2 ⟨rfl, hb2⟩; have HBO2 := Lib.hid (HBO1.out.trans (hb2.mono HBO1.out.size)); have HB2 := Lib.hid (HB1.out.trans (hb2.mono HB1.out.size)); have HY2 := Lib.hid (HY1.out.below hb2 (Nat.le_refl _)); clear hb2 e01))
            have H62 := Lib.hid (cell_call HBO2.out HC6.out)
            have H72 := Lib.hid (cell_call HBO2.out HE0.out)
            refine anyx_region (m := 12) 10 [72, 73, 74, 75, 76, 77, 78, 79, 71, 80, 81, 12] [SV.eq (.agg #[.slice A6 N c6]), SV.eq (.slice (some ⟨g0, o0, none⟩) n c0), SV.eq (.int .i64 (k : Int)), SV.eq (.pointer (some ⟨g0, o0 + k * 2, none⟩)), SV.eq (.pointer (some ⟨g0, o0 + k * 2, none⟩)), SV.eq (.slice B1 e.1.length d1), SV.eq (.slice Ay m cy), SV.eq (.tuple #[.agg #[.slice none 0 0], .int .i64 E]), SV.eq (.tuple #[.agg #[.slice none 0 0], .int .i64 E]), SV.eq (.agg #[.slice none 0 0]), SV.eq (.int .i64 E), SV.newT w2.heap.size] (by kernel_rfl) (by kernel_rfl) ?_ ?_ ?_
            · refine ⟨⟨⟨⟨⟨⟨⟨⟨⟨⟨⟨⟨trivial, ?_⟩, ?_⟩, ?_⟩, ?_⟩, ?_⟩, ?_⟩, ?_⟩, ?_⟩, ?_⟩, ?_⟩, ?_⟩, ?_⟩
              · refine OpIs.mk rfl ?_
                intro vs w1 hb hd K hK
                have c1 := cell_call hb H62.out
                simp only [frameV, List.setIfInBounds_toArray, List.set_cons_zero, List.set_cons_succ, List.getD_cons_zero, List.getD_cons_succ] at hK ⊢
                have HK := Lib.hid hK
                clear hK
                go_simp
                exact HK.out _ _ rfl (Below.refl _ _)
              · refine OpIs.mk rfl ?_
                intro vs w1 hb hd K hK
                simp only [frameV, List.setIfInBounds_toArray, List.set_cons_zero, List.set_cons_succ, List.getD_cons_zero, List.getD_cons_succ] at hK ⊢
                have HK := Lib.hid hK
                clear hK
                go_simp
                exact HK.out _ _ rfl (Below.refl _ _)
              · refine OpIs.mk rfl ?_
                intro vs w1 hb hd K hK
                simp only [frameV, List.setIfInBounds_toArray, List.set_cons_zero, List.set_cons_succ, List.getD_cons_zero, List.getD_cons_succ] at hK ⊢
                have HK := Lib.hid hK
                clear hK
                go_simp
                exact HK.out _ _ rfl (Below.refl _ _)
              · refine OpIs.mk rfl ?_
                intro vs w1 hb hd K hK
                have d1 : vs 1 = .slice (some ⟨g0, o0, none⟩) n c0 := hd 1 (by kernel_rfl)
                have d2 : vs 2 = .int .i64 (k : Int) := hd 2 (by kernel_rfl)
                simp only [frameV, List.setIfInBounds_toArray, List.set_cons_zero, List.set_cons_succ, List.getD_cons_zero, List.getD_cons_succ] at hK ⊢
                simp only [d1, d2] at hK ⊢
                have HK := Lib.hid hK
                clear hK
                go_simp
                exact HK.out _ _ rfl (Below.refl _ _)
              · refine OpIs.mk rfl ?_
                intro vs w1 hb hd K hK
                have d3 : vs 3 = .pointer (some ⟨g0, o0 + k * 2, none⟩) := hd 3 (by kernel_rfl)
                simp only [frameV, List.setIfInBounds_toArray, List.set_cons_zero, List.set_cons_succ, List.getD_cons_zero, List.getD_cons_succ] at hK ⊢
                simp only [d3] at hK ⊢
                have HK := Lib.hid hK
                clear hK
                go_simp
                exact HK.out _ _ rfl (Below.refl _ _)
              · refine OpIs.mk rfl ?_
                intro vs w1 hb hd K hK
                have d4 : vs 4 = .pointer (some ⟨g0, o0 + k * 2, none⟩) := hd 4 (by kernel_rfl)
                have c1 := cell_call hb H72.out
                simp only [frameV, List.setIfInBounds_toArray, List.set_cons_zero, List.set_cons_succ, List.getD_cons_zero, List.getD_cons_succ] at hK ⊢
                simp only [d4] at hK ⊢
                have HK := Lib.hid hK
                clear hK
                go_simp
                exact HK.out _ _ rfl (Below.refl _ _)
              · refine OpIs.mk rfl ?_
                intro vs w1 hb hd K hK
                simp only [frameV, List.setIfInBounds_toArray, List.set_cons_zero, List.set_cons_succ, List.getD_cons_zero, List.getD_cons_succ] at hK ⊢
                have HK := Lib.hid hK
                clear hK
                go_simp
                exact HK.out _ _ rfl (Below.refl _ _)
              · refine OpIs.mk rfl ?_
                intro vs w1 hb hd K hK
                have d0 : vs 0 = .agg #[.slice A6 N c6] := hd 0 (by kernel_rfl)
                have d5 : vs 5 = .slice B1 e.1.length d1 := hd 5 (by kernel_rfl)
                have d6 : vs 6 = .slice Ay m cy := hd 6 (by kernel_rfl)
                simp only [frameV, List.setIfInBounds_toArray, List.set_cons_zero, List.set_cons_succ, List.getD_cons_zero, List.getD_cons_succ] at hK ⊢
                simp only [d0, d5, d6] at hK ⊢
                have HK := Lib.hid hK
                clear hK
                go_simp
                go_at_call 20
                refine (rwith_not HE.out HE0'.out HG.out HPOS.out (HR.out.below (HBO2.out.trans (hb.mono HBO2.out.size)) (Nat.le_refl _)) (HRI.out.below (HBO2.out.trans (hb.mono HBO2.out.size)) (Nat.le_refl _)) (OwnQ.rd (F := anyB) (HY2.out.below hb (Nat.le_refl _)) (fun _ _ => trivial))).mono ?_
                rintro r w3 ⟨rfl, hb3⟩
                exact HK.out _ _ rfl hb3
              · refine OpIs.mk rfl ?_
                intro vs w1 hb hd K hK
                have d7 : vs 7 = .tuple #[.agg #[.slice none 0 0], .int .i64 E] := hd 7 (by kernel_rfl)
                simp only [frameV, List.setIfInBounds_toArray, List.set_cons_zero, List.set_cons_succ, List.getD_cons_zero, List.getD_cons_succ] at hK ⊢
                simp only [d7] at hK ⊢
                have HK := Lib.hid hK
                clear hK
                go_simp
                exact HK.out _ _ rfl (Below.refl _ _)
              · refine OpIs.mk rfl ?_
                intro vs w1 hb hd K hK
                have d8 : vs 8 = .tuple #[.agg #[.slice none 0 0], .int .i64 E] := hd 8 (by kernel_rfl)
                simp only [frameV, List.setIfInBounds_toArray, List.set_cons_zero, List.set_cons_succ, List.getD_cons_zero, List.getD_cons_succ] at hK ⊢
                simp only [d8] at hK ⊢
                have HK := Lib.hid hK
                clear hK
                go_simp
                exact HK.out _ _ rfl (Below.refl _ _)
              · refine OpIs.mk rfl ?_
                intro vs w1 hb hd K hK
                have d8 : vs 8 = .tuple #[.agg #[.slice none 0 0], .int .i64 E] := hd 8 (by kernel_rfl)
                simp only [frameV, List.setIfInBounds_toArray, List.set_cons_zero, List.set_cons_succ, List.getD_cons_zero, List.getD_cons_succ] at hK ⊢
                simp only [d8] at hK ⊢
                have HK := Lib.hid hK
                clear hK
                go_simp
                exact HK.out _ _ rfl (Below.refl _ _)
              · refine OpIs.mk rfl ?_
                intro vs w1 hb hd K hK
                simp only [frameV, List.setIfInBounds_toArray, List.set_cons_zero, List.set_cons_succ, List.getD_cons_zero, List.getD_cons_succ] at hK ⊢
                have HK := Lib.hid hK
                clear hK
                go_simp
                exact HK.out _ _ ⟨_, rfl, hb.size, heap_alloc_new w1 _⟩ (alloc_below w1 _)
            · intro vs w3 hb hd
              have e9 : vs 9 = .agg #[.slice none 0 0] := hd 9 (by omega)
              have d10 : vs 10 = .int .i64 E := hd 10 (by omega)
              obtain ⟨g14, e11, hg14, hr14⟩ : ∃ g, vs 11 = .pointer (some ⟨g, 0, none⟩) ∧ w2.heap.size ≤ g ∧ w3.heap[g]? = some (.cells #[.slice none 0 0] 42 (0, 0)) := hd 11 (by omega)
              have x1 : w3.cell? ⟨g14, 0, none⟩ = some (.slice none 0 0) := by rw [cell_of_row _ _ 0 _ _ _ hr14]; rfl
              have x2 : w3.frozen? ⟨g14, 0, none⟩ = false := frozen_of_row _ _ 0 _ _ hr14
              simp only [frameV, List.setIfInBounds_toArray, List.set_cons_zero, List.set_cons_succ, List.drop_succ_cons, List.drop_zero, List.take_succ_cons, List.take_zero, List.cons_append, List.nil_append, e9, d10, e11]
              have HP4 : Hid (PU w b6 (.pointer (some ⟨p1, 0, none⟩)) (w3.setCell ⟨g14, 0, none⟩ (.slice none 0 0))) := by
                have h4 : Below w2.heap.size w2 (w3.setCell ⟨g14, 0, none⟩ (.slice none 0 0)) := hb.setCell (by show _ ≤ g14; exact hg14) _
                have h5 := HBO2.out.trans (h4.mono HBO2.out.size)
                exact ⟨⟨p1, L, A6, c6, rfl, HT.out.below h5 (Nat.le_refl _), HPOS.out, by rw [HLN.out]; exact (h5.block _ (R4.heap_lt HROW.out)).trans HROW.out, by rw [HLN.out]; exact HR.out.below h5 (Nat.le_refl _)⟩, HB2.out.trans (h4.mono HB2.out.size), HLO.out⟩
              clear hb hd hg14 hr14 e9 d10 e11
              go_wp2
              go_roundw
              case rel => exact ⟨k + 1, by omega, by omega, by go_num, HP4.out⟩
              case measure => simp [intOf]; omega
            · intro vs w3 hb hd
              have e9 : vs 9 = .agg #[.slice none 0 0] := hd 9 (by omega) (by omega)
              have d10 : vs 8 = .tuple #[.agg #[.slice none 0 0], .int .i64 E] := hd 8 (by omega) (by omega)
              obtain ⟨g14, e11, hg14, hr14⟩ : ∃ g, vs 11 = .pointer (some ⟨g, 0, none⟩) ∧ w2.heap.size ≤ g ∧ w3.heap[g]? = some (.cells #[.slice none 0 0] 42 (0, 0)) := hd 11 (by omega) (by omega)
              have x1 : w3.cell? ⟨g14, 0, none⟩ = some (.slice none 0 0) := by rw [cell_of_row _ _ 0 _ _ _ hr14]; rfl
              have x2 : w3.frozen? ⟨g14, 0, none⟩ = false := frozen_of_row _ _ 0 _ _ hr14
              simp only [frameV, List.setIfInBounds_toArray, List.set_cons_zero, List.set_cons_succ, List.drop_succ_cons, List.drop_zero, List.take_succ_cons, List.take_zero, List.cons_append, List.nil_append, e9, d10, e11]
              have HP4 : Hid (PU w b6 (.pointer (some ⟨p1, 0, none⟩)) (w3.setCell ⟨g14, 0, none⟩ (.slice none 0 0))) := by
                have h4 : Below w2.heap.size w2 (w3.setCell ⟨g14, 0, none⟩ (.slice none 0 0)) := hb.setCell (by show _ ≤ g14; exact hg14) _
                have h5 := HBO2.out.trans (h4.mono HBO2.out.size)
                exact ⟨⟨p1, L, A6, c6, rfl, HT.out.below h5 (Nat.le_refl _), HPOS.out, by rw [HLN.out]; exact (h5.block _ (R4.heap_lt HROW.out)).trans HROW.out, by rw [HLN.out]; exact HR.out.below h5 (Nat.le_refl _)⟩, HB2.out.trans (h4.mono HB2.out.size), HLO.out⟩
              clear hb hd hg14 hr14 e9 d10 e11
              go_wp2
              go_roundw
              case rel => exact ⟨k + 1, by omega, by omega, by go_num, HP4.out⟩
              case measure => simp [intOf]; omega
          case pos =>
            subst hE0
            obtain ⟨L', hL'⟩ : ∃ L', putP L (e.1, l) = L' := ⟨_, rfl⟩
            have HL' := Lib.hid hL'
            obtain ⟨N', hN'⟩ : ∃ N', L'.length = N' := ⟨_, rfl⟩
            have HLN' := Lib.hid hN'
            have HPOS' : Hid (0 < L'.length) := by show _ < _; rw [← hL']; exact putP_pos _
            clear hL' hN'
            go_wp2_with (first
                    | (go_at_call 19; refine (CE.out).mono ?_; rintro r w1 ⟨⟨Ax, cx, Ay, cy, rfl, hx, hy⟩, hb1⟩; have HX1 := Lib.hid hx; have HY1 := Lib.hid hy; have HB1 := Lib.hid (HB.out.trans (hb1.mono HB.out.size)); have HBO1 := Lib.hid hb1; have e01 := cell_call hb1 HE0.out; obtain ⟨gx, hg1, hg2, hg3⟩ := gx_of (b6 := b6) hx HM.out (R4.heap_lt HROW.out) hb1.size; have HG1 := Lib.hid hg1; have HG2 := Lib.hid hg2; have HG3 := Lib.hid hg3; have HT1 : Hid (TabAt (fun k => k ≠ b6 ∧ k ≠ gx) w1 p1 L) := (HT.out.tight.below hb1 (Nat.le_refl _)).mono (fun k hk => ⟨hk.1, by have h1 := hk.1; have h2 := hk.2; have h3 := HG2.out; omega⟩); have HF1 : Hid (∀ k, w1.heap.size ≤ k → k ≠ b6 ∧ k ≠ gx) := (fun k hk => ⟨by have := R4.heap_lt HROW.out; have := hb1.size; omega, by have := HG1.out; omega⟩); clear hg1 hg2 hg3; clear hx hy hb1 e0 e1)
                    | (go_at_call 12; refine (with_yes HE.out HL'.out HF1.out HT1.out (HRI.out.below HBO1.out (Nat.le_refl _)) (OwnE.rd (F := anyB) (by have h := HX1.out; exact h) (fun _ _ => trivial)) HW12.out HS1.out HMS.out).mono ?_; rintro r w2 ⟨⟨q, rfl, hq⟩, hb2⟩; have HBO2 := Lib.hid (HBO1.out.trans (hb2.mono HBO1.out.size)); have HB2 := Lib.hid (HB1.out.trans (hb2.mono HB1.out.size)); have HX2 := Lib.hid (HX1.out.below hb2 (Nat.le_refl _)); have HY2 := Lib.hid (HY1.out.below hb2 (Nat.le_refl _)); have HT2 := Lib.hid (HT1.out.below hb2 (Nat.le_refl _)); have HQ2 := Lib.hid hq; have HG12 := Lib.hid (Nat.lt_of_lt_of_le HG1.out hb2.size); clear hb2 e01 hq))
            have H62 := Lib.hid (cell_call HBO2.out HC6.out)
            have H72 := Lib.hid (cell_call HBO2.out HE0.out)
            refine anyx_region (m := 12) 10 [72, 73, 74, 75, 76, 77, 78, 79, 71, 80, 81, 12] [SV.eq (.agg #[.slice A6 N c6]), SV.eq (.slice (some ⟨g0, o0, none⟩) n c0), SV.eq (.int .i64 (k : Int)), SV.eq (.pointer (some ⟨g0, o0 + k * 2, none⟩)), SV.eq (.pointer (some ⟨g0, o0 + k * 2, none⟩)), SV.eq (.slice B1 e.1.length d1), SV.eq (.slice Ay m cy), SV.rw L', SV.rw L', SV.ref L', SV.eq (.int .i64 0), SV.newT w2.heap.size] (by kernel_rfl) (by kernel_rfl) ?_ ?_ ?_
            · refine ⟨⟨⟨⟨⟨⟨⟨⟨⟨⟨⟨⟨trivial, ?_⟩, ?_⟩, ?_⟩, ?_⟩, ?_⟩, ?_⟩, ?_⟩, ?_⟩, ?_⟩, ?_⟩, ?_⟩, ?_⟩
              · refine OpIs.mk rfl ?_
                intro vs w1 hb hd K hK
                have c1 := cell_call hb H62.out
                simp only [frameV, List.setIfInBounds_toArray, List.set_cons_zero, List.set_cons_succ, List.getD_cons_zero, List.getD_cons_succ] at hK ⊢
                have HK := Lib.hid hK
                clear hK
                go_simp
                exact HK.out _ _ rfl (Below.refl _ _)
              · refine OpIs.mk rfl ?_
                intro vs w1 hb hd K hK
                simp only [frameV, List.setIfInBounds_toArray, List.set_cons_zero, List.set_cons_succ, List.getD_cons_zero, List.getD_cons_succ] at hK ⊢
                have HK := Lib.hid hK
                clear hK
                go_simp
                exact HK.out _ _ rfl (Below.refl _ _)
              · refine OpIs.mk rfl ?_
                intro vs w1 hb hd K hK
                simp only [frameV, List.setIfInBounds_toArray, List.set_cons_zero, List.set_cons_succ, List.getD_cons_zero, List.getD_cons_succ] at hK ⊢
                have HK := Lib.hid hK
                clear hK
                go_simp
                exact HK.out _ _ rfl (Below.refl _ _)
              · refine OpIs.mk rfl ?_
                intro vs w1 hb hd K hK
                have d1 : vs 1 = .slice (some ⟨g0, o0, none⟩) n c0 := hd 1 (by kernel_rfl)
                have d2 : vs 2 = .int .i64 (k : Int) := hd 2 (by kernel_rfl)
                simp only [frameV, List.setIfInBounds_toArray, List.set_cons_zero, List.set_cons_succ, List.getD_cons_zero, List.getD_cons_succ] at hK ⊢
                simp only [d1, d2] at hK ⊢
                have HK := Lib.hid hK
                clear hK
                go_simp
                exact HK.out _ _ rfl (Below.refl _ _)
              · refine OpIs.mk rfl ?_
                intro vs w1 hb hd K hK
                have d3 : vs 3 = .pointer (some ⟨g0, o0 + k * 2, none⟩) := hd 3 (by kernel_rfl)
                simp only [frameV, List.setIfInBounds_toArray, List.set_cons_zero, List.set_cons_succ, List.getD_cons_zero, List.getD_cons_succ] at hK ⊢
                simp only [d3] at hK ⊢
                have HK := Lib.hid hK
                clear hK
                go_simp
                exact HK.out _ _ rfl (Below.refl _ _)
              · refine OpIs.mk rfl ?_
                intro vs w1 hb hd K hK
                have d4 : vs 4 = .pointer (some ⟨g0, o0 + k * 2, none⟩) := hd 4 (by kernel_rfl)
                have c1 := cell_call hb H72.out
                simp only [frameV, List.setIfInBounds_toArray, List.set_cons_zero, List.set_cons_succ, List.getD_cons_zero, List.getD_cons_succ] at hK ⊢
                simp only [d4] at hK ⊢
                have HK := Lib.hid hK
                clear hK
                go_simp
                exact HK.out _ _ rfl (Below.refl _ _)
              · refine OpIs.mk rfl ?_
                intro vs w1 hb hd K hK
                simp only [frameV, List.setIfInBounds_toArray, List.set_cons_zero, List.set_cons_succ, List.getD_cons_zero, List.getD_cons_succ] at hK ⊢
                have HK := Lib.hid hK
                clear hK
                go_simp
                exact HK.out _ _ rfl (Below.refl _ _)
              · refine OpIs.mk rfl ?_
                intro vs w1 hb hd K hK
                have d0 : vs 0 = .agg #[.slice A6 N c6] := hd 0 (by kernel_rfl)
                have d5 : vs 5 = .slice B1 e.1.length d1 := hd 5 (by kernel_rfl)
                have d6 : vs 6 = .slice Ay m cy := hd 6 (by kernel_rfl)
                simp only [frameV, List.setIfInBounds_toArray, List.set_cons_zero, List.set_cons_succ, List.getD_cons_zero, List.getD_cons_succ] at hK ⊢
                simp only [d0, d5, d6] at hK ⊢
                have HK := Lib.hid hK
                clear hK
                go_simp
                go_at_call 20
                refine (rwith_yes HE.out HL'.out HG.out HPOS.out (HR.out.below (HBO2.out.trans (hb.mono HBO2.out.size)) (Nat.le_refl _)) (HRI.out.below (HBO2.out.trans (hb.mono HBO2.out.size)) (Nat.le_refl _)) (OwnQ.rd (F := anyB) (HY2.out.below hb (Nat.le_refl _)) (fun _ _ => trivial))).mono ?_
                rintro r w3 ⟨⟨u, rfl, hu⟩, hb3⟩
                exact HK.out _ _ ⟨u, rfl, hu⟩ hb3
              · refine OpIs.mk rfl ?_
                intro vs w1 hb hd K hK
                have d7 : (SV.rw L').p (vs 7) w1 := hd 7 (by kernel_rfl)
                have h7 := Exists.choose_spec (SV.rw_get d7)
                generalize Exists.choose (SV.rw_get d7) = u7 at h7
                have e7 := h7.1
                have hu7 := h7.2
                simp only [frameV, List.setIfInBounds_toArray, List.set_cons_zero, List.set_cons_succ, List.getD_cons_zero, List.getD_cons_succ] at hK ⊢
                simp only [e7] at hK ⊢
                have HK := Lib.hid hK
                clear hK
                go_simp
                exact HK.out _ _ ⟨_, rfl, hu7⟩ (Below.refl _ _)
              · refine OpIs.mk rfl ?_
                intro vs w1 hb hd K hK
                have d8 : (SV.rw L').p (vs 8) w1 := hd 8 (by kernel_rfl)
                have h7 := Exists.choose_spec (SV.rw_get d8)
                generalize Exists.choose (SV.rw_get d8) = u7 at h7
                have e7 := h7.1
                have hu7 := h7.2
                simp only [frameV, List.setIfInBounds_toArray, List.set_cons_zero, List.set_cons_succ, List.getD_cons_zero, List.getD_cons_succ] at hK ⊢
                simp only [e7] at hK ⊢
                have HK := Lib.hid hK
                clear hK
                go_simp
                exact HK.out _ _ ⟨_, rfl, hu7⟩ (Below.refl _ _)
              · refine OpIs.mk rfl ?_
                intro vs w1 hb hd K hK
                have d8 : (SV.rw L').p (vs 8) w1 := hd 8 (by kernel_rfl)
                have h7 := Exists.choose_spec (SV.rw_get d8)
                generalize Exists.choose (SV.rw_get d8) = u7 at h7
                have e7 := h7.1
                have hu7 := h7.2
                simp only [frameV, List.setIfInBounds_toArray, List.set_cons_zero, List.set_cons_succ, List.getD_cons_zero, List.getD_cons_succ] at hK ⊢
                simp only [e7] at hK ⊢
                have HK := Lib.hid hK
                clear hK
                go_simp
                exact HK.out _ _ rfl (Below.refl _ _)
              · refine OpIs.mk rfl ?_
                intro vs w1 hb hd K hK
                simp only [frameV, List.setIfInBounds_toArray, List.set_cons_zero, List.set_cons_succ, List.getD_cons_zero, List.getD_cons_succ] at hK ⊢
                have HK := Lib.hid hK
                clear hK
                go_simp
                exact HK.out _ _ ⟨_, rfl, hb.size, heap_alloc_new w1 _⟩ (alloc_below w1 _)
            · intro vs w3 hb hd
              obtain ⟨u9, e9, hu9⟩ : ∃ u, vs 9 = .agg #[u] ∧ RefT w3 u L' := hd 9 (by omega)
              obtain ⟨A9, c9, f9⟩ := hu9.form
              rw [HLN'.out] at f9
              subst f9
              have d10 : vs 10 = .int .i64 0 := hd 10 (by omega)
              obtain ⟨g14, e11, hg14, hr14⟩ : ∃ g, vs 11 = .pointer (some ⟨g, 0, none⟩) ∧ w2.heap.size ≤ g ∧ w3.heap[g]? = some (.cells #[.slice none 0 0] 42 (0, 0)) := hd 11 (by omega)
              have x1 : w3.cell? ⟨g14, 0, none⟩ = some (.slice none 0 0) := by rw [cell_of_row _ _ 0 _ _ _ hr14]; rfl
              have x2 : w3.frozen? ⟨g14, 0, none⟩ = false := frozen_of_row _ _ 0 _ _ hr14
              simp only [frameV, List.setIfInBounds_toArray, List.set_cons_zero, List.set_cons_succ, List.drop_succ_cons, List.drop_zero, List.take_succ_cons, List.take_zero, List.cons_append, List.nil_append, e9, d10, e11]
              have h4 : Below w2.heap.size w2 (w3.setCell ⟨g14, 0, none⟩ (.slice A9 N' c9)) := hb.setCell (by show _ ≤ g14; exact hg14) _
              have h5 := HBO2.out.trans (h4.mono HBO2.out.size)
              have HB4 := Lib.hid (HB2.out.trans (h4.mono HB2.out.size))
              have HX4 := Lib.hid (HX2.out.below h4 (Nat.le_refl _))
              have HT4 := Lib.hid (HT2.out.below h4 (Nat.le_refl _))
              have HQ4 := Lib.hid (HQ2.out.below h4 (Nat.le_refl _))
              have HR4 := Lib.hid (HR.out.below h5 (Nat.le_refl _))
              have HROW4 := Lib.hid ((h5.block _ (R4.heap_lt HROW.out)).trans HROW.out)
              have HU4 := Lib.hid (hu9.off (R4.grown_setCell w3 ⟨g14, 0, none⟩ (.slice A9 N' c9)) hr14 (by decide) (by decide) (by decide))
              have HR14 : Hid ((w3.setCell ⟨g14, 0, none⟩ (.slice A9 N' c9)).heap[g14]? = some (.cells #[.slice A9 N' c9] 42 (0, 0))) := heap_setCell_same w3 g14 0 _ _ _ hr14
              have HGX4 : Hid (gx < w2.heap.size) := HG12.out
              have x4 : (w3.setCell ⟨g14, 0, none⟩ (.slice A9 N' c9)).cell? ⟨b6, 0, none⟩ = some (.slice A6 N c6) := cell_call h5 HC6.out
              have HGX : Hid (w.heap.size ≤ gx) := by show _ ≤ _; have h7 := HG2.out; have h8 := HLO.out; have h9 := HB.out.size; omega
              clear hb hd hg14 hr14 e9 d10 e11 h4 h5 hu9
              go_wp2_with (go_at_call 17; refine (like_any HT4.out (by have h := HR4.out; exact h)).mono ?_; rintro r w5 ⟨rfl, hb5⟩; have HB5 := Lib.hid (HB4.out.trans (hb5.mono HB4.out.size)); have HX5 := Lib.hid (HX4.out.below hb5 (Nat.le_refl _)); have HQ5 := Lib.hid (HQ4.out.below hb5 (Nat.le_refl _)); have HROW5 := Lib.hid ((hb5.block _ (R4.heap_lt HROW4.out)).trans HROW4.out); have HU5 := Lib.hid (HU4.out.below hb5 (Nat.le_refl _)); have HR15 := Lib.hid ((hb5.block _ (R4.heap_lt HR14.out)).trans HR14.out); clear hb5 x4)
              have HZ := Lib.hid (ZS.start (gx := gx) HX5.out HM.out HG3.out)
              have HXR := Lib.hid (gx_row HX5.out HG3.out)
              go_loopw [14] (fun i wq => ∃ j : Nat, j ≤ m ∧ i = .int .i64 (j : Nat) ∧ Hid (ZS w5 gx m wq)) (fun i _ => m - (intOf i).toNat)
              case atStart => exact ⟨0, Nat.zero_le _, rfl, HZ.out⟩
              case round =>
                clear HZ
                obtain ⟨j, hj, rfl, HZ⟩ := hrel
                by_cases hjl : j < m
                · obtain rfl := HG3.out (by omega)
                  obtain ⟨⟨y, z1⟩, z2⟩ := HZ.out.slot hjl
                  have HZN := Lib.hid (HZ.out.put hjl)
                  have hjI : (j : Int) < (m : Int) := by omega
                  clear hjl
                  go_wp2
                  go_roundw
                  case rel => exact ⟨j + 1, by omega, by go_num, HZN.out⟩
                  case measure => simp [intOf]; omega
                · obtain rfl : j = m := by omega
                  clear hjl
                  have HROW6 := Lib.hid (HZ.out.var HROW5.out HXR.out)
                  have HR16 := Lib.hid (HZ.out.var HR15.out HXR.out)
                  have HU6 := Lib.hid (HZ.out.ref HU5.out HXR.out)
                  have HQ6 : Hid (TabAt (fun k => k ≠ b6) wr q L') := (HZ.out.tab HQ5.out (fun k hk => hk.2) HXR.out).mono fun k hk => hk.1
                  have HB6 := Lib.hid (HZ.out.bel (b6 := b6) HB5.out HGX.out)
                  have H16 : Hid (wr.cell? ⟨g14, 0, none⟩ = some (.slice A9 N' c9)) := by show _ = _; rw [cell_of_row _ _ 0 _ _ _ HR16.out]; rfl
                  go_wp2
                  refine any_region (m := 3) [100, 101, 5] [SV.eq (.pointer (some ⟨q, 0, none⟩)), SV.eq (.agg #[.slice A9 N' c9]), SV.eq (.pointer (some ⟨q, 0, none⟩))] (by kernel_rfl) (by kernel_rfl) ?_ ?_
                  · refine ⟨⟨⟨trivial, ?_⟩, ?_⟩, ?_⟩
                    · refine OpIs.mk rfl ?_
                      intro vs w1 hb hd K hK
                      simp only [frameV, List.setIfInBounds_toArray, List.set_cons_zero, List.set_cons_succ, List.getD_cons_zero, List.getD_cons_succ] at hK ⊢
                      have HK := Lib.hid hK
                      clear hK
                      go_simp
                      exact HK.out _ _ rfl (Below.refl _ _)
                    · refine OpIs.mk rfl ?_
                      intro vs w1 hb hd K hK
                      have c1 := cell_call hb H16.out
                      simp only [frameV, List.setIfInBounds_toArray, List.set_cons_zero, List.set_cons_succ, List.getD_cons_zero, List.getD_cons_succ] at hK ⊢
                      have HK := Lib.hid hK
                      clear hK
                      go_simp
                      exact HK.out _ _ rfl (Below.refl _ _)
                    · refine OpIs.mk rfl ?_
                      intro vs w1 hb hd K hK
                      have d0 : vs 0 = .pointer (some ⟨q, 0, none⟩) := hd 0 (by kernel_rfl)
                      simp only [frameV, List.setIfInBounds_toArray, List.set_cons_zero, List.set_cons_succ, List.getD_cons_zero, List.getD_cons_succ] at hK ⊢
                      simp only [d0] at hK ⊢
                      have HK := Lib.hid hK
                      clear hK
                      go_simp
                      exact HK.out _ _ rfl (Below.refl _ _)
                  · intro vs w7 hb hd
                    have d1 : vs 1 = .agg #[.slice A9 N' c9] := hd 1 (by omega)
                    have d2 : vs 2 = .pointer (some ⟨q, 0, none⟩) := hd 2 (by omega)
                    have hrow7 := (hb.block _ (R4.heap_lt HROW6.out)).trans HROW6.out
                    have z1 : w7.cell? ⟨b6, 0, none⟩ = some (.slice A6 N c6) := by rw [cell_of_row _ _ 0 _ _ _ hrow7]; rfl
                    have z2 : w7.frozen? ⟨b6, 0, none⟩ = false := frozen_of_row _ _ 0 _ _ hrow7
                    have HP7 : Hid (PU w b6 (.pointer (some ⟨q, 0, none⟩)) (w7.setCell ⟨b6, 0, none⟩ (.slice A9 N' c9))) := by
                      have h := PU.put (w := w) (HQ6.out.below hb (Nat.le_refl _)) HPOS'.out hrow7 (A := A9) (c := c9) (by rw [HLN'.out]; exact HU6.out.below hb (Nat.le_refl _)) (HB6.out.trans (hb.mono HB6.out.size)) HLO.out
                      rw [HLN'.out] at h
                      exact h
                    simp only [frameV, List.setIfInBounds_toArray, List.set_cons_zero, List.set_cons_succ, List.drop_succ_cons, List.drop_zero, d1, d2]
                    clear hb hd d1 d2 hrow7
                    go_wp2
                    go_roundw
                    case rel => exact ⟨k + 1, by omega, by omega, by go_num, HP7.out⟩
                    case measure => simp [intOf]; omega
            · intro vs w3 hb hd
              obtain ⟨u9, e9, hu9⟩ : ∃ u, vs 9 = .agg #[u] ∧ RefT w3 u L' := hd 9 (by omega) (by omega)
              obtain ⟨A9, c9, f9⟩ := hu9.form
              rw [HLN'.out] at f9
              subst f9
              obtain ⟨u8, d10, -⟩ : ∃ u, vs 8 = .tuple #[.agg #[u], .int .i64 0] ∧ RefT w3 u L' := hd 8 (by omega) (by omega)
              obtain ⟨g14, e11, hg14, hr14⟩ : ∃ g, vs 11 = .pointer (some ⟨g, 0, none⟩) ∧ w2.heap.size ≤ g ∧ w3.heap[g]? = some (.cells #[.slice none 0 0] 42 (0, 0)) := hd 11 (by omega) (by omega)
              have x1 : w3.cell? ⟨g14, 0, none⟩ = some (.slice none 0 0) := by rw [cell_of_row _ _ 0 _ _ _ hr14]; rfl
              have x2 : w3.frozen? ⟨g14, 0, none⟩ = false := frozen_of_row _ _ 0 _ _ hr14
              simp only [frameV, List.setIfInBounds_toArray, List.set_cons_zero, List.set_cons_succ, List.drop_succ_cons, List.drop_zero, List.take_succ_cons, List.take_zero, List.cons_append, List.nil_append, e9, d10, e11]
              have h4 : Below w2.heap.size w2 (w3.setCell ⟨g14, 0, none⟩ (.slice A9 N' c9)) := hb.setCell (by show _ ≤ g14; exact hg14) _
              have h5 := HBO2.out.trans (h4.mono HBO2.out.size)
              have HB4 := Lib.hid (HB2.out.trans (h4.mono HB2.out.size))
              have HX4 := Lib.hid (HX2.out.below h4 (Nat.le_refl _))
              have HT4 := Lib.hid (HT2.out.below h4 (Nat.le_refl _))
              have HQ4 := Lib.hid (HQ2.out.below h4 (Nat.le_refl _))
              have HR4 := Lib.hid (HR.out.below h5 (Nat.le_refl _))
              have HROW4 := Lib.hid ((h5.block _ (R4.heap_lt HROW.out)).trans HROW.out)
              have HU4 := Lib.hid (hu9.off (R4.grown_setCell w3 ⟨g14, 0, none⟩ (.slice A9 N' c9)) hr14 (by decide) (by decide) (by decide))
              have HR14 : Hid ((w3.setCell ⟨g14, 0, none⟩ (.slice A9 N' c9)).heap[g14]? = some (.cells #[.slice A9 N' c9] 42 (0, 0))) := heap_setCell_same w3 g14 0 _ _ _ hr14
              have HGX4 : Hid (gx < w2.heap.size) := HG12.out
              have x4 : (w3.setCell ⟨g14, 0, none⟩ (.slice A9 N' c9)).cell? ⟨b6, 0, none⟩ = some (.slice A6 N c6) := cell_call h5 HC6.out
              have HGX : Hid (w.heap.size ≤ gx) := by show _ ≤ _; have h7 := HG2.out; have h8 := HLO.out; have h9 := HB.out.size; omega
              clear hb hd hg14 hr14 e9 d10 e11 h4 h5 hu9
              go_wp2_with (go_at_call 17; refine (like_any HT4.out (by have h := HR4.out; exact h)).mono ?_; rintro r w5 ⟨rfl, hb5⟩; have HB5 := Lib.hid (HB4.out.trans (hb5.mono HB4.out.size)); have HX5 := Lib.hid (HX4.out.below hb5 (Nat.le_refl _)); have HQ5 := Lib.hid (HQ4.out.below hb5 (Nat.le_refl _)); have HROW5 := Lib.hid ((hb5.block _ (R4.heap_lt HROW4.out)).trans HROW4.out); have HU5 := Lib.hid (HU4.out.below hb5 (Nat.le_refl _)); have HR15 := Lib.hid ((hb5.block _ (R4.heap_lt HR14.out)).trans HR14.out); clear hb5 x4)
              have HZ := Lib.hid (ZS.start (gx := gx) HX5.out HM.out HG3.out)
              have HXR := Lib.hid (gx_row HX5.out HG3.out)
              go_loopw [14] (fun i wq => ∃ j : Nat, j ≤ m ∧ i = .int .i64 (j : Nat) ∧ Hid (ZS w5 gx m wq)) (fun i _ => m - (intOf i).toNat)
              case atStart => exact ⟨0, Nat.zero_le _, rfl, HZ.out⟩
              case round =>
                clear HZ
                obtain ⟨j, hj, rfl, HZ⟩ := hrel
                by_cases hjl : j < m
                · obtain rfl := HG3.out (by omega)
                  obtain ⟨⟨y, z1⟩, z2⟩ := HZ.out.slot hjl
                  have HZN := Lib.hid (HZ.out.put hjl)
                  have hjI : (j : Int) < (m : Int) := by omega
                  clear hjl
                  go_wp2
                  go_roundw
                  case rel => exact ⟨j + 1, by omega, by go_num, HZN.out⟩
                  case measure => simp [intOf]; omega
                · obtain rfl : j = m := by omega
                  clear hjl
                  have HROW6 := Lib.hid (HZ.out.var HROW5.out HXR.out)
                  have HR16 := Lib.hid (HZ.out.var HR15.out HXR.out)
                  have HU6 := Lib.hid (HZ.out.ref HU5.out HXR.out)
                  have HQ6 : Hid (TabAt (fun k => k ≠ b6) wr q L') := (HZ.out.tab HQ5.out (fun k hk => hk.2) HXR.out).mono fun k hk => hk.1
                  have HB6 := Lib.hid (HZ.out.bel (b6 := b6) HB5.out HGX.out)
                  have H16 : Hid (wr.cell? ⟨g14, 0, none⟩ = some (.slice A9 N' c9)) := by show _ = _; rw [cell_of_row _ _ 0 _ _ _ HR16.out]; rfl
                  go_wp2
                  refine any_region (m := 3) [100, 101, 5] [SV.eq (.pointer (some ⟨q, 0, none⟩)), SV.eq (.agg #[.slice A9 N' c9]), SV.eq (.pointer (some ⟨q, 0, none⟩))] (by kernel_rfl) (by kernel_rfl) ?_ ?_
                  · refine ⟨⟨⟨trivial, ?_⟩, ?_⟩, ?_⟩
                    · refine OpIs.mk rfl ?_
                      intro vs w1 hb hd K hK
                      simp only [frameV, List.setIfInBounds_toArray, List.set_cons_zero, List.set_cons_succ, List.getD_cons_zero, List.getD_cons_succ] at hK ⊢
                      have HK := Lib.hid hK
                      clear hK
                      go_simp
                      exact HK.out _ _ rfl (Below.refl _ _)
                    · refine OpIs.mk rfl ?_
                      intro vs w1 hb hd K hK
                      have c1 := cell_call hb H16.out
                      simp only [frameV, List.setIfInBounds_toArray, List.set_cons_zero, List.set_cons_succ, List.getD_cons_zero, List.getD_cons_succ] at hK ⊢
                      have HK := Lib.hid hK
                      clear hK
                      go_simp
                      exact HK.out _ _ rfl (Below.refl _ _)
                    · refine OpIs.mk rfl ?_
                      intro vs w1 hb hd K hK
                      have d0 : vs 0 = .pointer (some ⟨q, 0, none⟩) := hd 0 (by kernel_rfl)
                      simp only [frameV, List.setIfInBounds_toArray, List.set_cons_zero, List.set_cons_succ, List.getD_cons_zero, List.getD_cons_succ] at hK ⊢
                      simp only [d0] at hK ⊢
                      have HK := Lib.hid hK
                      clear hK
                      go_simp
                      exact HK.out _ _ rfl (Below.refl _ _)
                  · intro vs w7 hb hd
                    have d1 : vs 1 = .agg #[.slice A9 N' c9] := hd 1 (by omega)
                    have d2 : vs 2 = .pointer (some ⟨q, 0, none⟩) := hd 2 (by omega)
                    have hrow7 := (hb.block _ (R4.heap_lt HROW6.out)).trans HROW6.out
                    have z1 : w7.cell? ⟨b6, 0, none⟩ = some (.slice A6 N c6) := by rw [cell_of_row _ _ 0 _ _ _ hrow7]; rfl
                    have z2 : w7.frozen? ⟨b6, 0, none⟩ = false := frozen_of_row _ _ 0 _ _ hrow7
                    have HP7 : Hid (PU w b6 (.pointer (some ⟨q, 0, none⟩)) (w7.setCell ⟨b6, 0, none⟩ (.slice A9 N' c9))) := by
                      have h := PU.put (w := w) (HQ6.out.below hb (Nat.le_refl _)) HPOS'.out hrow7 (A := A9) (c := c9) (by rw [HLN'.out]; exact HU6.out.below hb (Nat.le_refl _)) (HB6.out.trans (hb.mono HB6.out.size)) HLO.out
                      rw [HLN'.out] at h
                      exact h
                    simp only [frameV, List.setIfInBounds_toArray, List.set_cons_zero, List.set_cons_succ, List.drop_succ_cons, List.drop_zero, d1, d2]
                    clear hb hd d1 d2 hrow7
                    go_wp2
                    go_roundw
                    case rel => exact ⟨k + 1, by omega, by omega, by go_num, HP7.out⟩
                    case measure => simp [intOf]; omega
      · obtain ⟨b, hb⟩ : ∃ b, (place L s).isSome = b := ⟨_, rfl⟩
        obtain ⟨l, hl⟩ : ∃ l, (look L s).getD [] = l := ⟨_, rfl⟩
        have HLB := Lib.hid hb
        have HLL := Lib.hid hl
        have HLG := Lib.hid (look_good HG.out hl)
        obtain ⟨r, hr⟩ : ∃ r, checkP L = r := ⟨_, rfl⟩
        have HCR := Lib.hid hr
        have HS0 := Lib.hid (HS.out.below HB.out (Nat.le_refl _))
        have HTA := Lib.hid (HT.out.mono (G := anyB) fun _ _ => trivial)
        have HS15 : Hid (s.length ≤ 1000000000000000) := by have := HS10.out; show _ ≤ _; omega
        have HLM : Hid (L.length ≤ 1000) := by have := HG.out.len; show _ ≤ _; omega
        have HLQ : Hid (∀ e ∈ L, e.1.length ≤ 1000) := fun e he => by have := (HG.out.seq e he).2.1; omega
        have ce := HC6.out
        clear hb hl hr
        by_cases hkn : k < n
        case' pos =>
          obtain rfl : k = 12 := by omega
          have hkI : (12 : Int) < (n : Int) := by omega
          clear hlt hkn
        case' neg =>
          obtain rfl : k = n := by omega
          clear hlt hkn
        all_goals
          go_wp2_with (first
              | (go_at_call 26; refine (entry_any HTA.out HS0.out HSI.out HS15.out HLB.out HLL.out).mono ?_; rintro q w1 ⟨⟨Aa, na, ca, rfl, ha⟩, hb1⟩; have HA1 := Lib.hid ha; have HB1 := Lib.hid hb1; have ce1 := cell_call hb1 ce; clear ha hb1 ce)
              | (go_at_call 27; refine (rfind_any (HR.out.below HB1.out (Nat.le_refl _)) (HS0.out.below HB1.out (Nat.le_refl _)) HLM.out HLQ.out HLB.out HLL.out).mono ?_; rintro q w2 ⟨⟨Ab, nb, cb, rfl, ha⟩, hb2⟩; have HQ2 := Lib.hid ha; have HA2 := Lib.hid (HA1.out.below hb2 (Nat.le_refl _)); have HB2 := Lib.hid (HB1.out.trans (hb2.mono HB1.out.size)); have HCE := Lib.hid (cell_call hb2 ce1); clear ha hb2 ce1))
          refine any_region (m := 23) [114, 115, 116, 117, 118, 119, 120, 121, 122, 123, 124, 125, 126, 127, 128, 129, 130, 131, 132, 133, 134, 135, 136] [SV.eq (.pointer (some ⟨p1, 0, none⟩)), SV.eq (.agg #[.slice A6 N c6]), SV.eq (.bool true), SV.eq (.bool true), SV.eq (.pointer (some ⟨p1, 0, none⟩)), SV.eq (.int .i64 r), SV.eq (.agg #[.slice A6 N c6]), SV.eq (.int .i64 r), SV.eq (.bool true), SV.eq (.bool true), SV.eq (.bool true), SV.eq (.bool b), SV.eq (.bool b), SV.eq (.bool true), SV.eq (.bool true), SV.eq (.bool true), SV.eq (.slice Aa na ca), SV.eq (.slice Ab nb cb), SV.eq (.bool true), SV.eq (.bool true), SV.eq (.bool true), SV.eq (.bool true), SV.eq (.bool true)] (by kernel_rfl) (by kernel_rfl) ?_ ?_
          · refine ⟨⟨⟨⟨⟨⟨⟨⟨⟨⟨⟨⟨⟨⟨⟨⟨⟨⟨⟨⟨⟨⟨⟨trivial, ?_⟩, ?_⟩, ?_⟩, ?_⟩, ?_⟩, ?_⟩, ?_⟩, ?_⟩, ?_⟩, ?_⟩, ?_⟩, ?_⟩, ?_⟩, ?_⟩, ?_⟩, ?_⟩, ?_⟩, ?_⟩, ?_⟩, ?_⟩, ?_⟩, ?_⟩, ?_⟩
            · refine OpIs.mk rfl ?_
              intro vs w1 hb hd K hK
              simp only [frameV, List.setIfInBounds_toArray, List.set_cons_zero, List.set_cons_succ, List.getD_cons_zero, List.getD_cons_succ] at hK ⊢
              have HK := Lib.hid hK
              clear hK
              go_simp
              exact HK.out _ _ rfl (Below.refl _ _)
            · refine OpIs.mk rfl ?_
              intro vs w1 hb hd K hK
              have c1 := cell_call hb HCE.out
              simp only [frameV, List.setIfInBounds_toArray, List.set_cons_zero, List.set_cons_succ, List.getD_cons_zero, List.getD_cons_succ] at hK ⊢
              have HK := Lib.hid hK
              clear hK
              go_simp
              exact HK.out _ _ rfl (Below.refl _ _)
            · refine OpIs.mk rfl ?_
              intro vs w1 hb hd K hK
              have d0 : vs 0 = .pointer (some ⟨p1, 0, none⟩) := hd 0 (by kernel_rfl)
              have d1 : vs 1 = .agg #[.slice A6 N c6] := hd 1 (by kernel_rfl)
              simp only [frameV, List.setIfInBounds_toArray, List.set_cons_zero, List.set_cons_succ, List.getD_cons_zero, List.getD_cons_succ] at hK ⊢
              simp only [d0, d1] at hK ⊢
              have HK := Lib.hid hK
              clear hK
              go_simp
              go_at_call 17
              refine (like_any (HTA.out.below (HB2.out.trans (hb.mono HB2.out.size)) (Nat.le_refl _)) (HR.out.below (HB2.out.trans (hb.mono HB2.out.size)) (Nat.le_refl _))).mono ?_
              rintro q w3 ⟨rfl, hb3⟩
              exact HK.out _ _ rfl hb3
            · refine OpIs.mk rfl ?_
              intro vs w1 hb hd K hK
              have d2 : vs 2 = .bool true := hd 2 (by kernel_rfl)
              simp only [frameV, List.setIfInBounds_toArray, List.set_cons_zero, List.set_cons_succ, List.getD_cons_zero, List.getD_cons_succ] at hK ⊢
              simp only [d2] at hK ⊢
              have HK := Lib.hid hK
              clear hK
              go_simp
              exact HK.out _ _ rfl (Below.refl _ _)
            · refine OpIs.mk rfl ?_
              intro vs w1 hb hd K hK
              have d3 : vs 3 = .bool true := hd 3 (by kernel_rfl)
              simp only [frameV, List.setIfInBounds_toArray, List.set_cons_zero, List.set_cons_succ, List.getD_cons_zero, List.getD_cons_succ] at hK ⊢
              simp only [d3] at hK ⊢
              have HK := Lib.hid hK
              clear hK
              go_simp
              exact HK.out _ _ rfl (Below.refl _ _)
            · refine OpIs.mk rfl ?_
              intro vs w1 hb hd K hK
              have d4 : vs 4 = .pointer (some ⟨p1, 0, none⟩) := hd 4 (by kernel_rfl)
              have d3 : vs 3 = .bool true := hd 3 (by kernel_rfl)
              simp only [frameV, List.setIfInBounds_toArray, List.set_cons_zero, List.set_cons_succ, List.getD_cons_zero, List.getD_cons_succ] at hK ⊢
              simp only [d4, d3] at hK ⊢
              have HK := Lib.hid hK
              clear hK
              go_simp
              go_at_call 15
              refine (check_any (HTA.out.below (HB2.out.trans (hb.mono HB2.out.size)) (Nat.le_refl _)) HCR.out).mono ?_
              rintro q w3 ⟨rfl, hb3⟩
              exact HK.out _ _ rfl hb3
            · refine OpIs.mk rfl ?_
              intro vs w1 hb hd K hK
              have d3 : vs 3 = .bool true := hd 3 (by kernel_rfl)
              have c1 := cell_call hb HCE.out
              simp only [frameV, List.setIfInBounds_toArray, List.set_cons_zero, List.set_cons_succ, List.getD_cons_zero, List.getD_cons_succ] at hK ⊢
              simp only [d3] at hK ⊢
              have HK := Lib.hid hK
              clear hK
              go_simp
              exact HK.out _ _ rfl (Below.refl _ _)
            · refine OpIs.mk rfl ?_
              intro vs w1 hb hd K hK
              have d6 : vs 6 = .agg #[.slice A6 N c6] := hd 6 (by kernel_rfl)
              have d3 : vs 3 = .bool true := hd 3 (by kernel_rfl)
              simp only [frameV, List.setIfInBounds_toArray, List.set_cons_zero, List.set_cons_succ, List.getD_cons_zero, List.getD_cons_succ] at hK ⊢
              simp only [d6, d3] at hK ⊢
              have HK := Lib.hid hK
              clear hK
              go_simp
              go_at_call 28
              refine (rcheck_any (HR.out.below (HB2.out.trans (hb.mono HB2.out.size)) (Nat.le_refl _)) HLM.out (fun e he => ⟨HLQ.out e he, (HG.out.seq e he).1, by have := (HG.out.els e he).1; omega⟩) HCR.out).mono ?_
              rintro q w3 ⟨rfl, hb3⟩
              exact HK.out _ _ rfl hb3
            · refine OpIs.mk rfl ?_
              intro vs w1 hb hd K hK
              have d5 : vs 5 = .int .i64 r := hd 5 (by kernel_rfl)
              have d7 : vs 7 = .int .i64 r := hd 7 (by kernel_rfl)
              have d3 : vs 3 = .bool true := hd 3 (by kernel_rfl)
              simp only [frameV, List.setIfInBounds_toArray, List.set_cons_zero, List.set_cons_succ, List.getD_cons_zero, List.getD_cons_succ] at hK ⊢
              simp only [d5, d7, d3] at hK ⊢
              have HK := Lib.hid hK
              clear hK
              go_simp
              exact HK.out _ _ rfl (Below.refl _ _)
            · refine OpIs.mk rfl ?_
              intro vs w1 hb hd K hK
              have d3 : vs 3 = .bool true := hd 3 (by kernel_rfl)
              have d8 : vs 8 = .bool true := hd 8 (by kernel_rfl)
              simp only [frameV, List.setIfInBounds_toArray, List.set_cons_zero, List.set_cons_succ, List.getD_cons_zero, List.getD_cons_succ] at hK ⊢
              simp only [d3, d8] at hK ⊢
              have HK := Lib.hid hK
              clear hK
              go_simp
              exact HK.out _ _ rfl (Below.refl _ _)
            · refine OpIs.mk rfl ?_
              intro vs w1 hb hd K hK
              have d9 : vs 9 = .bool true := hd 9 (by kernel_rfl)
              simp only [frameV, List.setIfInBounds_toArray, List.set_cons_zero, List.set_cons_succ, List.getD_cons_zero, List.getD_cons_succ] at hK ⊢
              simp only [d9] at hK ⊢
              have HK := Lib.hid hK
              clear hK
              go_simp
              exact HK.out _ _ rfl (Below.refl _ _)
            · refine OpIs.mk rfl ?_
              intro vs w1 hb hd K hK
              have d10 : vs 10 = .bool true := hd 10 (by kernel_rfl)
              simp only [frameV, List.setIfInBounds_toArray, List.set_cons_zero, List.set_cons_succ, List.getD_cons_zero, List.getD_cons_succ] at hK ⊢
              simp only [d10] at hK ⊢
              have HK := Lib.hid hK
              clear hK
              go_simp
              exact HK.out _ _ rfl (Below.refl _ _)
            · refine OpIs.mk rfl ?_
              intro vs w1 hb hd K hK
              have d10 : vs 10 = .bool true := hd 10 (by kernel_rfl)
              simp only [frameV, List.setIfInBounds_toArray, List.set_cons_zero, List.set_cons_succ, List.getD_cons_zero, List.getD_cons_succ] at hK ⊢
              simp only [d10] at hK ⊢
              have HK := Lib.hid hK
              clear hK
              go_simp
              exact HK.out _ _ rfl (Below.refl _ _)
            · refine OpIs.mk rfl ?_
              intro vs w1 hb hd K hK
              have d11 : vs 11 = .bool b := hd 11 (by kernel_rfl)
              have d12 : vs 12 = .bool b := hd 12 (by kernel_rfl)
              have d10 : vs 10 = .bool true := hd 10 (by kernel_rfl)
              have c1 : (b == b) = true := by simp
              simp only [frameV, List.setIfInBounds_toArray, List.set_cons_zero, List.set_cons_succ, List.getD_cons_zero, List.getD_cons_succ] at hK ⊢
              simp only [d11, d12, d10] at hK ⊢
              have HK := Lib.hid hK
              clear hK
              go_simp
              exact HK.out _ _ rfl (Below.refl _ _)
            · refine OpIs.mk rfl ?_
              intro vs w1 hb hd K hK
              have d10 : vs 10 = .bool true := hd 10 (by kernel_rfl)
              have d13 : vs 13 = .bool true := hd 13 (by kernel_rfl)
              simp only [frameV, List.setIfInBounds_toArray, List.set_cons_zero, List.set_cons_succ, List.getD_cons_zero, List.getD_cons_succ] at hK ⊢
              simp only [d10, d13] at hK ⊢
              have HK := Lib.hid hK
              clear hK
              go_simp
              exact HK.out _ _ rfl (Below.refl _ _)
            · refine OpIs.mk rfl ?_
              intro vs w1 hb hd K hK
              have d14 : vs 14 = .bool true := hd 14 (by kernel_rfl)
              simp only [frameV, List.setIfInBounds_toArray, List.set_cons_zero, List.set_cons_succ, List.getD_cons_zero, List.getD_cons_succ] at hK ⊢
              simp only [d14] at hK ⊢
              have HK := Lib.hid hK
              clear hK
              go_simp
              exact HK.out _ _ rfl (Below.refl _ _)
            · refine OpIs.mk rfl ?_
              intro vs w1 hb hd K hK
              have d15 : vs 15 = .bool true := hd 15 (by kernel_rfl)
              simp only [frameV, List.setIfInBounds_toArray, List.set_cons_zero, List.set_cons_succ, List.getD_cons_zero, List.getD_cons_succ] at hK ⊢
              simp only [d15] at hK ⊢
              have HK := Lib.hid hK
              clear hK
              go_simp
              exact HK.out _ _ rfl (Below.refl _ _)
            · refine OpIs.mk rfl ?_
              intro vs w1 hb hd K hK
              have d15 : vs 15 = .bool true := hd 15 (by kernel_rfl)
              simp only [frameV, List.setIfInBounds_toArray, List.set_cons_zero, List.set_cons_succ, List.getD_cons_zero, List.getD_cons_succ] at hK ⊢
              simp only [d15] at hK ⊢
              have HK := Lib.hid hK
              clear hK
              go_simp
              exact HK.out _ _ rfl (Below.refl _ _)
            · refine OpIs.mk rfl ?_
              intro vs w1 hb hd K hK
              have d16 : vs 16 = .slice Aa na ca := hd 16 (by kernel_rfl)
              have d17 : vs 17 = .slice Ab nb cb := hd 17 (by kernel_rfl)
              have d15 : vs 15 = .bool true := hd 15 (by kernel_rfl)
              simp only [frameV, List.setIfInBounds_toArray, List.set_cons_zero, List.set_cons_succ, List.getD_cons_zero, List.getD_cons_succ] at hK ⊢
              simp only [d16, d17, d15] at hK ⊢
              have HK := Lib.hid hK
              clear hK
              go_simp
              go_at_call 24
              refine (same_any (b := true) (HA2.out.below hb (Nat.le_refl _)) (HQ2.out.below hb (Nat.le_refl _)) (by have := HLG.out.1; omega) (by have := HLG.out.1; omega) HLG.out.2 (by simp)).mono ?_
              rintro q w3 ⟨rfl, hb3⟩
              exact HK.out _ _ rfl hb3
            · refine OpIs.mk rfl ?_
              intro vs w1 hb hd K hK
              have d15 : vs 15 = .bool true := hd 15 (by kernel_rfl)
              have d18 : vs 18 = .bool true := hd 18 (by kernel_rfl)
              simp only [frameV, List.setIfInBounds_toArray, List.set_cons_zero, List.set_cons_succ, List.getD_cons_zero, List.getD_cons_succ] at hK ⊢
              simp only [d15, d18] at hK ⊢
              have HK := Lib.hid hK
              clear hK
              go_simp
              exact HK.out _ _ rfl (Below.refl _ _)
            · refine OpIs.mk rfl ?_
              intro vs w1 hb hd K hK
              have d19 : vs 19 = .bool true := hd 19 (by kernel_rfl)
              simp only [frameV, List.setIfInBounds_toArray, List.set_cons_zero, List.set_cons_succ, List.getD_cons_zero, List.getD_cons_succ] at hK ⊢
              simp only [d19] at hK ⊢
              have HK := Lib.hid hK
              clear hK
              go_simp
              exact HK.out _ _ rfl (Below.refl _ _)
            · refine OpIs.mk rfl ?_
              intro vs w1 hb hd K hK
              have d20 : vs 20 = .bool true := hd 20 (by kernel_rfl)
              simp only [frameV, List.setIfInBounds_toArray, List.set_cons_zero, List.set_cons_succ, List.getD_cons_zero, List.getD_cons_succ] at hK ⊢
              simp only [d20] at hK ⊢
              have HK := Lib.hid hK
              clear hK
              go_simp
              go_at_call 16
              refine (awake_any _).mono ?_
              rintro q w3 ⟨rfl, hb3⟩
              exact HK.out _ _ rfl hb3
            · refine OpIs.mk rfl ?_
              intro vs w1 hb hd K hK
              have d20 : vs 20 = .bool true := hd 20 (by kernel_rfl)
              have d21 : vs 21 = .bool true := hd 21 (by kernel_rfl)
              simp only [frameV, List.setIfInBounds_toArray, List.set_cons_zero, List.set_cons_succ, List.getD_cons_zero, List.getD_cons_succ] at hK ⊢
              simp only [d20, d21] at hK ⊢
              have HK := Lib.hid hK
              clear hK
              go_simp
              exact HK.out _ _ rfl (Below.refl _ _)
          · intro vs w3 hb hd
            have d22 : vs 22 = .bool true := hd 22 (by omega)
            have HB3 := Lib.hid (HB.out.trans ((HB2.out.trans (hb.mono HB2.out.size)).mono HB.out.size))
            simp only [frameV, List.setIfInBounds_toArray, List.set_cons_zero, List.set_cons_succ, List.drop_succ_cons, List.drop_zero, d22]
            clear hb hd
            go_wp2
            go_ret
            exact ⟨rfl, HB3.out⟩
theorem tablePuts_walk (v : Value) (O : List PE) (sv : Value) (s : List Int) (w : World) (hO : RdT anyB w v O) (hOb : ∀ e ∈ O, OpOk e) (hOl : O.length ≤ maxLen) (hs : RdI anyB w sv s) (hsI : I64 s) (hsl : s.length ≤ maxLen) :
    Calls Tryz.prog 6 #[v, sv] w fun e w' => e = .returned (.bool true) ∧ Below w.heap.size w w' := puts_any hO hOb hOl hs hsI hsl
end Go.Proofs.YtaabdpfhpolcgaaGreat
namespace Go.Proofs.YtaabdpfhpolcgaaGreat.tablePuts
open Go.ChangeShapes Go.WideShapes Go.ChangeAt Go.RowKit
open Go.ChangeMaps (open_string shut_string)
set_option linter.unusedVariables false

theorem own : ownKnob Tryz.prog.godebug = none := by kernel_rfl
theorem laidOut : laidOutB Tryz.prog = true := by kernel_rfl
set_option maxRecDepth 100000 in
theorem lifted (os : Os) (started : os.Started) (H : Type) (enc : TypeId × Value → H) :
    ReturnsInHanded {} Tryz.checked os 6 .any (Rows.tablePutsSpec.pre6 enc Tryz.prog Tryz.f6 Rows.tablePutsRow.domain false) (Rows.tablePutsSpec.post enc Tryz.prog Tryz.f6 false true false false) := by
  refine returnsInHanded_of_change (C := Tryz.checked) own started (by kernel_rfl) Tryz.func6
    (ChangeSpec.witness6 (enc := enc) (C := Tryz.checked) false ⟨#[], #[.slice none 0 0, .slice none 0 0], []⟩ 8 (by kernel_rfl) (by kernel_rfl) (by kernel_rfl) (by kernel_rfl)) ?_
  intro W base args ds gs before hval0 hW _ _
  have hval : ∀ (j : Nat) t v, Tryz.f6.params[j]? = some t → args[j]? = some v → Value.okWide Tryz.prog W .any base t v := hval0
  have hW' := hW
  obtain ⟨p, q, hA0, hV, rfl, hfz, hnd⟩ := hW
  have hA : DataW.TrodAll enc Tryz.prog W 0 (fun _ => true) true Tryz.f6.params.toList args.toList ds p := hA0
  rw [Tryz.params6] at hA hval
  obtain ⟨v0, vs0, d0, ds0, p0, q0, hargs, rfl, rfl, h0, r0⟩ := trodAll_cons hA
  obtain ⟨v1, vs1, d1, ds1, p1, q1, rfl, rfl, rfl, h1, r1⟩ := trodAll_cons r0
  obtain ⟨rfl, rfl, rfl⟩ := trodAll_nil r1
  obtain rfl : args = #[v0, v1] := by cases args; simp_all
  obtain ⟨rfl, rfl⟩ := trodVars_none hV
  obtain ⟨l0, hr0, hw0, w0⟩ := open_ops (hval 0 44 v0 rfl rfl) h0
  obtain ⟨l1, hr1, w1, hw1⟩ := open_ris (hval 1 33 v1 rfl rfl) h1
  clear hA0 hval0
  refine (tablePuts_walk v0 l0 v1 l1 W hr0 hw0 w0 hr1 hw1 w1).mono fun e W' ⟨he, bel⟩ => ?_
  subst he
  exact ⟨_, rfl, _, _, _, [], _, [], hW', trodAll_mk1 (shut_bool Tryz.underlying4 _), (trodAll_cons_mk (Below.trod laidOut (by kernel_rfl) (of_decide_eq_true (by kernel_rfl)) h0 bel (fun x hx => by simpa using hW'.lt x (by simp [hx]))) (trodAll_cons_mk (Below.trod laidOut (by kernel_rfl) (of_decide_eq_true (by kernel_rfl)) h1 bel (fun x hx => by simpa using hW'.lt x (by simp [hx]))) trodAll_mk0)), rfl, bel.frame _, fun h => by cases h⟩

theorem said : Rows.TablePutsSaid :=
  OpenClaim.holds_of_wide 6 Tryz.f6 rfl rfl rfl rfl rfl rfl rfl ⟨rfl, rfl, rfl, rfl, rfl⟩ rfl rfl rfl rfl rfl (by kernel_rfl) Tryz.func6 (by kernel_rfl)
    (of_decide_eq_true (by kernel_rfl)) (by unfold Func.isWrapper; first | (rw [if_pos (by decide +kernel)]; kernel_rfl) | (rw [if_neg (by decide +kernel)]; exact ⟨rfl, rfl⟩))
    (fun os started H enc _ => lifted os started H enc)
end Go.Proofs.YtaabdpfhpolcgaaGreat.tablePuts
