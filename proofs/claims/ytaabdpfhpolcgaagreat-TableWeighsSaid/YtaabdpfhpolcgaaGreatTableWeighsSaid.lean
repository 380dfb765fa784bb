/-
  THE LAW TableWeighs HOLDS: for every input its call returns true, and each argument reads behind it as before. CONDITIONS: none.
  Ahead of it: the walk of the law.
-/
import Derived.Test.YtaabdpfhpolcgaaGreatBOff
import Derived.Test.YtaabdpfhpolcgaaGreatBRUse
import Derived.Test.YtaabdpfhpolcgaaGreatRows
import Derived.ProofKit
import Derived.OpenShut
import Derived.ShutString
import Derived.Carry
namespace Go.Proofs.YtaabdpfhpolcgaaGreat
open Go.RowKit
set_option linter.unusedVariables false
set_option linter.unusedSimpArgs false
theorem with_yes2 {F G H : Nat → Prop} {w : World} {p : Nat} {L L' : List PE} {sv lv : Value} {s : List Int} {l : List Nat} (hE : withE L s l = 0) (hL : putP L (s, l) = L') (hF : ∀ k, w.heap.size ≤ k → F k) (h : TabAt F w p L) (hs : RdI G w sv s) (hl : RdE H w lv l) (hlw : ∀ x ∈ l, x < 4294967296) :
    Calls Tryz.prog 12 #[.pointer (some ⟨p, 0, none⟩), sv, lv] w fun r w' => (∃ q, r = .returned (.tuple #[.pointer (some ⟨q, 0, none⟩), .int .i64 0]) ∧ TabAt F w' q L') ∧ Below w.heap.size w w' := by
  subst hL
  exact (with_all hF h hs hl hlw).mono fun r w' hh => ⟨hh.1 hE, hh.2.2⟩
theorem with_not2 {F G H : Nat → Prop} {w : World} {p : Nat} {L : List PE} {sv lv : Value} {s : List Int} {l : List Nat} {E : Int} (hE : withE L s l = E) (hE0 : E ≠ 0) (hF : ∀ k, w.heap.size ≤ k → F k) (h : TabAt F w p L) (hs : RdI G w sv s) (hl : RdE H w lv l) (hlw : ∀ x ∈ l, x < 4294967296) :
    Calls Tryz.prog 12 #[.pointer (some ⟨p, 0, none⟩), sv, lv] w fun r w' => r = .returned (.tuple #[.pointer none, .int .i64 E]) ∧ Below w.heap.size w w' := by
  subst hE
  exact (with_all hF h hs hl hlw).mono fun r w' hh => ⟨hh.2.1 hE0, hh.2.2⟩
set_option maxHeartbeats 8000000 in
set_option maxRecDepth 100000 in
theorem weighs_any {w : World} {bs : ByteArray} {v : Value} {O : List PE} {at_ : Int} (hbs : bs.size ≤ maxLen) (hO : RdT anyB w v O) (hOb : ∀ e ∈ O, OpOk e) (hOl : O.length ≤ maxLen) :
    Calls Tryz.prog 5 #[.string bs, v, .int .i64 at_] w fun e w' => e = .returned (.bool true) ∧ Below w.heap.size w w' := by
  obtain ⟨A0, c0, rfl⟩ := hO.form
  have HO := Lib.hid hO
  have HOB := Lib.hid hOb
  obtain ⟨n, hn⟩ : ∃ n, O.length = n := ⟨_, rfl⟩
  have HN := Lib.hid hn
  rw [hn] at HO hOl ⊢
  have hnI : (n : Int) ≤ 9223372036854775807 := by simp only [maxLen] at hOl; omega
  have hbI : (bs.size : Int) ≤ 9223372036854775807 := by simp only [maxLen] at hbs; omega
  by_cases h300 : bs.size ≤ 300
  case neg =>
    have h300I : (300 : Int) < (bs.size : Int) := by omega
    clear hO hOb hOl hn h300 hbs
    go_enter Tryz.func5, Tryz.ntmps5
    go_wp2_with (go_at_call 16; refine (awake_any _).mono ?_; rintro e w5 ⟨rfl, hb⟩; have HB5 := Lib.hid hb; clear hb)
    go_ret
    exact ⟨rfl, HB5.out⟩
  case pos =>
    obtain ⟨R0, hR0⟩ : ∃ R0, rootP = R0 := ⟨_, rfl⟩
    have hpos : 0 < R0.length := by rw [← hR0]; decide +kernel
    have HR0 := Lib.hid hR0
    have h300I : ¬ (300 : Int) < (bs.size : Int) := by omega
    have HBS := Lib.hid h300
    clear hO hOb hOl hR0 hn h300 hbs
    go_enter Tryz.func5, Tryz.ntmps5
    go_wp2_with (first
      | (go_at_call 9; refine (root_any _).mono ?_; rintro e w1 ⟨p, rfl, ht, hb⟩; rw [HR0.out] at ht; have HT := Lib.hid ht.tight; have HB1 := Lib.hid hb; clear ht hb)
      | (go_at_call 18; refine (rroot_any _).mono ?_; rintro e w2 ⟨⟨u, rfl, hu⟩, hb⟩; rw [HR0.out] at hu; obtain ⟨Au, cu, rfl⟩ := hu.form; have hA := alloc_below w2 (.cells #[.slice Au R0.length cu] 42); have HB2 := Lib.hid (HB1.out.trans (hb.mono HB1.out.size)); have HSZ := Lib.hid hb.size; have HT3 := Lib.hid ((HT.out.below hb (Nat.le_refl _)).below hA (Nat.le_refl _)); have HU3 := Lib.hid (hu.below hA (Nat.le_refl _)); have HV3 := Lib.hid (heap_alloc_new w2 (.cells #[.slice Au R0.length cu] 42)); have HB3 := Lib.hid (HB2.out.trans (hA.mono HB2.out.size)); clear hu hb hA))
    have HPU : Hid (PU w w2.heap.size (.pointer (some ⟨p, 0, none⟩)) (w2.alloc (.cells #[.slice Au R0.length cu] 42))) := ⟨⟨p, R0, Au, cu, rfl, HT3.out.mono fun k hk => by have := HSZ.out; have := hk.2; omega, hpos, HV3.out, HU3.out⟩, HB3.out, HB2.out.size⟩
    obtain ⟨b6, hb6⟩ : ∃ b, w2.heap.size = b := ⟨_, rfl⟩
    rw [hb6] at HPU
    rw [show (({ block := w2.heap.size, off := 0 } : Addr)) = ⟨b6, 0, none⟩ by rw [hb6]]
    clear hb6 HT HB1 HB2 HSZ HT3 HU3 HV3 HB3 hpos
    generalize (w2.alloc (.cells #[.slice Au R0.length cu] 42)) = w3 at HPU ⊢
    go_loopw [7, 9] (fun t i wr => ∃ k : Nat, k ≤ n ∧ k ≤ 10 ∧ i = .int .i64 (k : Nat) ∧ Hid (PU w b6 t wr)) (fun _ i _ => 10 - (intOf i).toNat)
    case atStart => exact ⟨0, Nat.zero_le _, Nat.zero_le _, rfl, HPU.out⟩
    case round =>
      clear HPU
      obtain ⟨k, hk, hk12, rfl, HPU⟩ := hrel
      obtain ⟨wo, rfl⟩ : ∃ wo, wo = wr := ⟨_, rfl⟩
      obtain ⟨⟨p1, L, A6, c6, rfl, hT, hpos, hrow, hR⟩, hB, hlo⟩ := HPU.out
      have HT := Lib.hid hT
      have HROW := Lib.hid hrow
      have HR := Lib.hid hR
      have HB := Lib.hid hB
      have HG := Lib.hid hT.good
      obtain ⟨N, hN⟩ : ∃ N, L.length = N := ⟨_, rfl⟩
      have HLN := Lib.hid hN
      rw [hN] at HR HROW
      have HC6 : Hid (wo.cell? ⟨b6, 0, none⟩ = some (.slice A6 N c6)) := by show _ = _; rw [cell_of_row _ _ 0 _ _ _ HROW.out]; rfl
      have HLO := Lib.hid hlo
      have HPOS := Lib.hid hpos
      clear hT hrow hR hB hlo hpos hN
      by_cases hlt : k < n ∧ k < 10
      · have hkI : (k : Int) < (n : Int) := by omega
        have h12I : (k : Int) < 10 := by omega
        obtain ⟨e, he⟩ : ∃ e, O[k]? = some e := ⟨_, List.getElem?_eq_getElem (by rw [HN.out]; exact hlt.1)⟩
        obtain ⟨g0, o0, vs, vl, rfl, e0, e1, hri, hre⟩ := (HO.out.below HB.out (Nat.le_refl _)).at he
        obtain ⟨B1, d1, f1⟩ := hri.form
        obtain ⟨B2, d2, f2⟩ := hre.form
        subst f1
        subst f2
        obtain ⟨hI64, hw32, hm1, hm2⟩ := HOB.out e (List.mem_of_getElem? he)
        have HRI := Lib.hid hri
        have HRE := Lib.hid hre
        have HE0 := Lib.hid e0
        have HE1 := Lib.hid e1
        have HM2 := Lib.hid hm2
        have HW32 := Lib.hid hw32
        have HW12 : Hid (∀ x ∈ e.2.take 12, x < 4294967296) := fun x hx => HW32.out x (List.mem_of_mem_take hx)
        have CE := Lib.hid (elems_any HRE.out HM2.out HW32.out)
        obtain ⟨l, hl⟩ : ∃ l, e.2.take 12 = l := ⟨_, rfl⟩
        rw [hl] at CE HW12
        obtain ⟨m, hm⟩ : ∃ m, l.length = m := ⟨_, rfl⟩
        have HM := Lib.hid hm
        rw [hm] at CE
        obtain ⟨E, hE⟩ : ∃ E, withE L e.1 l = E := ⟨_, rfl⟩
        have HE := Lib.hid hE
        clear hri hre hlt he hI64 hw32 hm2 hm1 hl hm hE e0
        by_cases hE0 : E = 0
        case neg =>
          have HE0' := Lib.hid hE0
          have hEn : (E == 0) = false := by simpa using hE0
          clear hE0
          go_wp2_with (first
                  | (go_at_call 19; refine (CE.out).mono ?_; rintro r w1 ⟨⟨Ax, cx, Ay, cy, rfl, hx, hy⟩, hb1⟩; have HX1 := Lib.hid hx; have HY1 := Lib.hid hy; have HB1 := Lib.hid (HB.out.trans (hb1.mono HB.out.size)); have HBO1 := Lib.hid hb1; have e01 := cell_call hb1 HE0.out; clear hx hy hb1 e1)
                  | (go_at_call 12; refine (with_not2 HE.out HE0'.out (fun k hk => by have h1 := R4.heap_lt HROW.out; have h2 := HBO1.out.size; omega) ((HT.out.tight.below HBO1.out (Nat.le_refl _)).mono (G := fun k => k ≠ b6) (fun k hk => hk.1)) (HRI.out.below HBO1.out (Nat.le_refl _)) (OwnE.rd (F := anyB) (by have h := HX1.out; exact h) (fun _ _ => trivial)) HW12.out).mono ?_; rintro r w2 ⟨rfl, hb2⟩; have HBO2 := Lib.hid (HBO1.out.trans (hb2.mono HBO1.out.size)); have HB2 := Lib.hid (HB1.out.trans (hb2.mono HB1.out.size)); have HY2 := Lib.hid (HY1.out.below hb2 (Nat.le_refl _)); clear hb2 e01))
          have H62 := Lib.hid (cell_call HBO2.out HC6.out)
          have H72 := Lib.hid (cell_call HBO2.out HE0.out)
          refine anyx_region (m := 12) 10 [60, 61, 62, 63, 64, 65, 66, 67, 59, 68, 69, 14] [SV.eq (.agg #[.slice A6 N c6]), SV.eq (.slice (some ⟨g0, o0, none⟩) n c0), SV.eq (.int .i64 (k : Int)), SV.eq (.pointer (some ⟨g0, o0 + k * 2, none⟩)), SV.eq (.pointer (some ⟨g0, o0 + k * 2, none⟩)), SV.eq (.slice B1 e.1.length d1), SV.eq (.slice Ay m cy), SV.eq (.tuple #[.agg #[.slice none 0 0], .int .i64 E]), SV.eq (.tuple #[.agg #[.slice none 0 0], .int .i64 E]), SV.eq (.agg #[.slice none 0 0]), SV.eq (.int .i64 E), SV.newT w2.heap.size] (by kernel_rfl) (by kernel_rfl) ?_ ?_ ?_
          · refine ⟨⟨⟨⟨⟨⟨⟨⟨⟨⟨⟨⟨trivial, ?_⟩, ?_⟩, ?_⟩, ?_⟩, ?_⟩, ?_⟩, ?_⟩, ?_⟩, ?_⟩, ?_⟩, ?_⟩, ?_⟩
            · refine OpIs.mk rfl ?_
              intro vs w1 hb hd K hK
              have c1 := cell_call hb H62.out
              simp only [frameV, List.setIfInBounds_toArray, List.set_cons_zero, List.set_cons_succ, List.getD_cons_zero, List.getD_cons_succ] at hK ⊢
              have HK := Lib.hid hK
              clear hK
              go_simp
              exact HK.out _ _ rfl (Below.refl _ _)
            · refine OpIs.mk rfl ?_
              intro vs w1 hb hd K hK
              simp only [frameV, List.setIfInBounds_toArray, List.set_cons_zero, List.set_cons_succ, List.getD_cons_zero, List.getD_cons_succ] at hK ⊢
              have HK := Lib.hid hK
              clear hK
              go_simp
              exact HK.out _ _ rfl (Below.refl _ _)
            · refine OpIs.mk rfl ?_
              intro vs w1 hb hd K hK
              simp only [frameV, List.setIfInBounds_toArray, List.set_cons_zero, List.set_cons_succ, List.getD_cons_zero, List.getD_cons_succ] at hK ⊢
              have HK := Lib.hid hK
              clear hK
              go_simp
              exact HK.out _ _ rfl (Below.refl _ _)
            · refine OpIs.mk rfl ?_
              intro vs w1 hb hd K hK
              have d1 : vs 1 = .slice (some ⟨g0, o0, none⟩) n c0 := hd 1 (by kernel_rfl)
              have d2 : vs 2 = .int .i64 (k : Int) := hd 2 (by kernel_rfl)
              simp only [frameV, List.setIfInBounds_toArray, List.set_cons_zero, List.set_cons_succ, List.getD_cons_zero, List.getD_cons_succ] at hK ⊢
              simp only [d1, d2] at hK ⊢
              have HK := Lib.hid hK
              clear hK
              go_simp
              exact HK.out _ _ rfl (Below.refl _ _)
            · refine OpIs.mk rfl ?_
              intro vs w1 hb hd K hK
              have d3 : vs 3 = .pointer (some ⟨g0, o0 + k * 2, none⟩) := hd 3 (by kernel_rfl)
              simp only [frameV, List.setIfInBounds_toArray, List.set_cons_zero, List.set_cons_succ, List.getD_cons_zero, List.getD_cons_succ] at hK ⊢
              simp only [d3] at hK ⊢
              have HK := Lib.hid hK
              clear hK
              go_simp
              exact HK.out _ _ rfl (Below.refl _ _)
            · refine OpIs.mk rfl ?_
              intro vs w1 hb hd K hK
              have d4 : vs 4 = .pointer (some ⟨g0, o0 + k * 2, none⟩) := hd 4 (by kernel_rfl)
              have c1 := cell_call hb H72.out
              simp only [frameV, List.setIfInBounds_toArray, List.set_cons_zero, List.set_cons_succ, List.getD_cons_zero, List.getD_cons_succ] at hK ⊢
              simp only [d4] at hK ⊢
              have HK := Lib.hid hK
              clear hK
              go_simp
              exact HK.out _ _ rfl (Below.refl _ _)
            · refine OpIs.mk rfl ?_
              intro vs w1 hb hd K hK
              simp only [frameV, List.setIfInBounds_toArray, List.set_cons_zero, List.set_cons_succ, List.getD_cons_zero, List.getD_cons_succ] at hK ⊢
              have HK := Lib.hid hK
              clear hK
              go_simp
              exact HK.out _ _ rfl (Below.refl _ _)
            · refine OpIs.mk rfl ?_
              intro vs w1 hb hd K hK
              have d0 : vs 0 = .agg #[.slice A6 N c6] := hd 0 (by kernel_rfl)
              have d5 : vs 5 = .slice B1 e.1.length d1 := hd 5 (by kernel_rfl)
              have d6 : vs 6 = .slice Ay m cy := hd 6 (by kernel_rfl)
              simp only [frameV, List.setIfInBounds_toArray, List.set_cons_zero, List.set_cons_succ, List.getD_cons_zero, List.getD_cons_succ] at hK ⊢
              simp only [d0, d5, d6] at hK ⊢
              have HK := Lib.hid hK
              clear hK
              go_simp
              go_at_call 20
              refine (rwith_not HE.out HE0'.out HG.out HPOS.out (HR.out.below (HBO2.out.trans (hb.mono HBO2.out.size)) (Nat.le_refl _)) (HRI.out.below (HBO2.out.trans (hb.mono HBO2.out.size)) (Nat.le_refl _)) (OwnQ.rd (F := anyB) (HY2.out.below hb (Nat.le_refl _)) (fun _ _ => trivial))).mono ?_
              rintro r w3 ⟨rfl, hb3⟩
              exact HK.out _ _ rfl hb3
            · refine OpIs.mk rfl ?_
              intro vs w1 hb hd K hK
              have d7 : vs 7 = .tuple #[.agg #[.slice none 0 0], .int .i64 E] := hd 7 (by kernel_rfl)
              simp only [frameV, List.setIfInBounds_toArray, List.set_cons_zero, List.set_cons_succ, List.getD_cons_zero, List.getD_cons_succ] at hK ⊢
              simp only [d7] at hK ⊢
              have HK := Lib.hid hK
              clear hK
              go_simp
              exact HK.out _ _ rfl (Below.refl _ _)
            · refine OpIs.mk rfl ?_
              intro vs w1 hb hd K hK
              have d8 : vs 8 = .tuple #[.agg #[.slice none 0 0], .int .i64 E] := hd 8 (by kernel_rfl)
              simp only [frameV, List.setIfInBounds_toArray, List.set_cons_zero, List.set_cons_succ, List.getD_cons_zero, List.getD_cons_succ] at hK ⊢
              simp only [d8] at hK ⊢
              have HK := Lib.hid hK
              clear hK
              go_simp
              exact HK.out _ _ rfl (Below.refl _ _)
            · refine OpIs.mk rfl ?_
              intro vs w1 hb hd K hK
              have d8 : vs 8 = .tuple #[.agg #[.slice none 0 0], .int .i64 E] := hd 8 (by kernel_rfl)
              simp only [frameV, List.setIfInBounds_toArray, List.set_cons_zero, List.set_cons_succ, List.getD_cons_zero, List.getD_cons_succ] at hK ⊢
              simp only [d8] at hK ⊢
              have HK := Lib.hid hK
              clear hK
              go_simp
              exact HK.out _ _ rfl (Below.refl _ _)
            · refine OpIs.mk rfl ?_
              intro vs w1 hb hd K hK
              simp only [frameV, List.setIfInBounds_toArray, List.set_cons_zero, List.set_cons_succ, List.getD_cons_zero, List.getD_cons_succ] at hK ⊢
              have HK := Lib.hid hK
              clear hK
              go_simp
              exact HK.out _ _ ⟨_, rfl, hb.size, heap_alloc_new w1 _⟩ (alloc_below w1 _)
          · intro vs w3 hb hd
            have e9 : vs 9 = .agg #[.slice none 0 0] := hd 9 (by omega)
            have d10 : vs 10 = .int .i64 E := hd 10 (by omega)
            obtain ⟨g14, e11, hg14, hr14⟩ : ∃ g, vs 11 = .pointer (some ⟨g, 0, none⟩) ∧ w2.heap.size ≤ g ∧ w3.heap[g]? = some (.cells #[.slice none 0 0] 42 (0, 0)) := hd 11 (by omega)
            have x1 : w3.cell? ⟨g14, 0, none⟩ = some (.slice none 0 0) := by rw [cell_of_row _ _ 0 _ _ _ hr14]; rfl
            have x2 : w3.frozen? ⟨g14, 0, none⟩ = false := frozen_of_row _ _ 0 _ _ hr14
            simp only [frameV, List.setIfInBounds_toArray, List.set_cons_zero, List.set_cons_succ, List.drop_succ_cons, List.drop_zero, List.take_succ_cons, List.take_zero, List.cons_append, List.nil_append, e9, d10, e11]
            have HP4 : Hid (PU w b6 (.pointer (some ⟨p1, 0, none⟩)) (w3.setCell ⟨g14, 0, none⟩ (.slice none 0 0))) := by
              have h4 : Below w2.heap.size w2 (w3.setCell ⟨g14, 0, none⟩ (.slice none 0 0)) := hb.setCell (by show _ ≤ g14; exact hg14) _
              have h5 := HBO2.out.trans (h4.mono HBO2.out.size)
              exact ⟨⟨p1, L, A6, c6, rfl, HT.out.below h5 (Nat.le_refl _), HPOS.out, by rw [HLN.out]; exact (h5.block _ (R4.heap_lt HROW.out)).trans HROW.out, by rw [HLN.out]; exact HR.out.below h5 (Nat.le_refl _)⟩, HB2.out.trans (h4.mono HB2.out.size), HLO.out⟩
            clear hb hd hg14 hr14 e9 d10 e11
            go_wp2
            go_roundw
            case rel => exact ⟨k + 1, by omega, by omega, by go_num, HP4.out⟩
            case measure => simp [intOf]; omega
          · intro vs w3 hb hd
            have e9 : vs 9 = .agg #[.slice none 0 0] := hd 9 (by omega) (by omega)
            have d10 : vs 8 = .tuple #[.agg #[.slice none 0 0], .int .i64 E] := hd 8 (by omega) (by omega)
            obtain ⟨g14, e11, hg14, hr14⟩ : ∃ g, vs 11 = .pointer (some ⟨g, 0, none⟩) ∧ w2.heap.size ≤ g ∧ w3.heap[g]? = some (.cells #[.slice none 0 0] 42 (0, 0)) := hd 11 (by omega) (by omega)
            have x1 : w3.cell? ⟨g14, 0, none⟩ = some (.slice none 0 0) := by rw [cell_of_row _ _ 0 _ _ _ hr14]; rfl
            have x2 : w3.frozen? ⟨g14, 0, none⟩ = false := frozen_of_row _ _ 0 _ _ hr14
            simp only [frameV, List.setIfInBounds_toArray, List.set_cons_zero, List.set_cons_succ, List.drop_succ_cons, List.drop_zero, List.take_succ_cons, List.take_zero, List.cons_append, List.nil_append, e9, d10, e11]
            have HP4 : Hid (PU w b6 (.pointer (some ⟨p1, 0, none⟩)) (w3.setCell ⟨g14, 0, none⟩ (.slice none 0 0))) := by
              have h4 : Below w2.heap.size w2 (w3.setCell ⟨g14, 0, none⟩ (.slice none 0 0)) := hb.setCell (by show _ ≤ g14; exact hg14) _
              have h5 := HBO2.out.trans (h4.mono HBO2.out.size)
              exact ⟨⟨p1, L, A6, c6, rfl, HT.out.below h5 (Nat.le_refl _), HPOS.out, by rw [HLN.out]; exact (h5.block _ (R4.heap_lt HROW.out)).trans HROW.out, by rw [HLN.out]; exact HR.out.below h5 (Nat.le_refl _)⟩, HB2.out.trans (h4.mono HB2.out.size), HLO.out⟩
            clear hb hd hg14 hr14 e9 d10 e11
            go_wp2
            go_roundw
            case rel => exact ⟨k + 1, by omega, by omega, by go_num, HP4.out⟩
            case measure => simp [intOf]; omega
        case pos =>
          subst hE0
          obtain ⟨L', hL'⟩ : ∃ L', putP L (e.1, l) = L' := ⟨_, rfl⟩
          have HL' := Lib.hid hL'
          obtain ⟨N', hN'⟩ : ∃ N', L'.length = N' := ⟨_, rfl⟩
          have HLN' := Lib.hid hN'
          have HPOS' : Hid (0 < L'.length) := by show _ < _; rw [← hL']; exact putP_pos _
          clear hL' hN'
          go_wp2_with (first
                  | (go_at_call 19; refine (CE.out).mono ?_; rintro r w1 ⟨⟨Ax, cx, Ay, cy, rfl, hx, hy⟩, hb1⟩; have HX1 := Lib.hid hx; have HY1 := Lib.hid hy; have HB1 := Lib.hid (HB.out.trans (hb1.mono HB.out.size)); have HBO1 := Lib.hid hb1; have e01 := cell_call hb1 HE0.out; clear hx hy hb1 e1)
                  | (go_at_call 12; refine (with_yes2 HE.out HL'.out (fun k hk => by have h1 := R4.heap_lt HROW.out; have h2 := HBO1.out.size; omega) ((HT.out.tight.below HBO1.out (Nat.le_refl _)).mono (G := fun k => k ≠ b6) (fun k hk => hk.1)) (HRI.out.below HBO1.out (Nat.le_refl _)) (OwnE.rd (F := anyB) (by have h := HX1.out; exact h) (fun _ _ => trivial)) HW12.out).mono ?_; rintro r w2 ⟨⟨q, rfl, hq⟩, hb2⟩; have HBO2 := Lib.hid (HBO1.out.trans (hb2.mono HBO1.out.size)); have HB2 := Lib.hid (HB1.out.trans (hb2.mono HB1.out.size)); have HY2 := Lib.hid (HY1.out.below hb2 (Nat.le_refl _)); have HQ2 := Lib.hid hq; clear hb2 e01 hq))
          have H62 := Lib.hid (cell_call HBO2.out HC6.out)
          have H72 := Lib.hid (cell_call HBO2.out HE0.out)
          refine anyx_region (m := 12) 10 [60, 61, 62, 63, 64, 65, 66, 67, 59, 68, 69, 14] [SV.eq (.agg #[.slice A6 N c6]), SV.eq (.slice (some ⟨g0, o0, none⟩) n c0), SV.eq (.int .i64 (k : Int)), SV.eq (.pointer (some ⟨g0, o0 + k * 2, none⟩)), SV.eq (.pointer (some ⟨g0, o0 + k * 2, none⟩)), SV.eq (.slice B1 e.1.length d1), SV.eq (.slice Ay m cy), SV.rw L', SV.rw L', SV.ref L', SV.eq (.int .i64 0), SV.newT w2.heap.size] (by kernel_rfl) (by kernel_rfl) ?_ ?_ ?_
          · refine ⟨⟨⟨⟨⟨⟨⟨⟨⟨⟨⟨⟨trivial, ?_⟩, ?_⟩, ?_⟩, ?_⟩, ?_⟩, ?_⟩, ?_⟩, ?_⟩, ?_⟩, ?_⟩, ?_⟩, ?_⟩
            · refine OpIs.mk rfl ?_
              intro vs w1 hb hd K hK
              have c1 := cell_call hb H62.out
              simp only [frameV, List.setIfInBounds_toArray, List.set_cons_zero, List.set_cons_succ, List.getD_cons_zero, List.getD_cons_succ] at hK ⊢
              have HK := Lib.hid hK
              clear hK
              go_simp
              exact HK.out _ _ rfl (Below.refl _ _)
            · refine OpIs.mk rfl ?_
              intro vs w1 hb hd K hK
              simp only [frameV, List.setIfInBounds_toArray, List.set_cons_zero, List.set_cons_succ, List.getD_cons_zero, List.getD_cons_succ] at hK ⊢
              have HK := Lib.hid hK
              clear hK
              go_simp
              exact HK.out _ _ rfl (Below.refl _ _)
            · refine OpIs.mk rfl ?_
              intro vs w1 hb hd K hK
              simp only [frameV, List.setIfInBounds_toArray, List.set_cons_zero, List.set_cons_succ, List.getD_cons_zero, List.getD_cons_succ] at hK ⊢
              have HK := Lib.hid hK
              clear hK
              go_simp
              exact HK.out _ _ rfl (Below.refl _ _)
            · refine OpIs.mk rfl ?_
              intro vs w1 hb hd K hK
              have d1 : vs 1 = .slice (some ⟨g0, o0, none⟩) n c0 := hd 1 (by kernel_rfl)
              have d2 : vs 2 = .int .i64 (k : Int) := hd 2 (by kernel_rfl)
              simp only [frameV, List.setIfInBounds_toArray, List.set_cons_zero, List.set_cons_succ, List.getD_cons_zero, List.getD_cons_succ] at hK ⊢
              simp only [d1, d2] at hK ⊢
              have HK := Lib.hid hK
              clear hK
              go_simp
              exact HK.out _ _ rfl (Below.refl _ _)
            · refine OpIs.mk rfl ?_
              intro vs w1 hb hd K hK
              have d3 : vs 3 = .pointer (some ⟨g0, o0 + k * 2, none⟩) := hd 3 (by kernel_rfl)
              simp only [frameV, List.setIfInBounds_toArray, List.set_cons_zero, List.set_cons_succ, List.getD_cons_zero, List.getD_cons_succ] at hK ⊢
              simp only [d3] at hK ⊢
              have HK := Lib.hid hK
              clear hK
              go_simp
              exact HK.out _ _ rfl (Below.refl _ _)
            · refine OpIs.mk rfl ?_
              intro vs w1 hb hd K hK
              have d4 : vs 4 = .pointer (some ⟨g0, o0 + k * 2, none⟩) := hd 4 (by kernel_rfl)
              have c1 := cell_call hb H72.out
              simp only [frameV, List.setIfInBounds_toArray, List.set_cons_zero, List.set_cons_succ, List.getD_cons_zero, List.getD_cons_succ] at hK ⊢
              simp only [d4] at hK ⊢
              have HK := Lib.hid hK
              clear hK
              go_simp
              exact HK.out _ _ rfl (Below.refl _ _)
            · refine OpIs.mk rfl ?_
              intro vs w1 hb hd K hK
              simp only [frameV, List.setIfInBounds_toArray, List.set_cons_zero, List.set_cons_succ, List.getD_cons_zero, List.getD_cons_succ] at hK ⊢
              have HK := Lib.hid hK
              clear hK
              go_simp
              exact HK.out _ _ rfl (Below.refl _ _)
            · refine OpIs.mk rfl ?_
              intro vs w1 hb hd K hK
              have d0 : vs 0 = .agg #[.slice A6 N c6] := hd 0 (by kernel_rfl)
              have d5 : vs 5 = .slice B1 e.1.length d1 := hd 5 (by kernel_rfl)
              have d6 : vs 6 = .slice Ay m cy := hd 6 (by kernel_rfl)
              simp only [frameV, List.setIfInBounds_toArray, List.set_cons_zero, List.set_cons_succ, List.getD_cons_zero, List.getD_cons_succ] at hK ⊢
              simp only [d0, d5, d6] at hK ⊢
              have HK := Lib.hid hK
              clear hK
              go_simp
              go_at_call 20
              refine (rwith_yes HE.out HL'.out HG.out HPOS.out (HR.out.below (HBO2.out.trans (hb.mono HBO2.out.size)) (Nat.le_refl _)) (HRI.out.below (HBO2.out.trans (hb.mono HBO2.out.size)) (Nat.le_refl _)) (OwnQ.rd (F := anyB) (HY2.out.below hb (Nat.le_refl _)) (fun _ _ => trivial))).mono ?_
              rintro r w3 ⟨⟨u, rfl, hu⟩, hb3⟩
              exact HK.out _ _ ⟨u, rfl, hu⟩ hb3
            · refine OpIs.mk rfl ?_
              intro vs w1 hb hd K hK
              have d7 : (SV.rw L').p (vs 7) w1 := hd 7 (by kernel_rfl)
              have h7 := Exists.choose_spec (SV.rw_get d7)
              generalize Exists.choose (SV.rw_get d7) = u7 at h7
              have e7 := h7.1
              have hu7 := h7.2
              simp only [frameV, List.setIfInBounds_toArray, List.set_cons_zero, List.set_cons_succ, List.getD_cons_zero, List.getD_cons_succ] at hK ⊢
              simp only [e7] at hK ⊢
              have HK := Lib.hid hK
              clear hK
              go_simp
              exact HK.out _ _ ⟨_, rfl, hu7⟩ (Below.refl _ _)
            · refine OpIs.mk rfl ?_
              intro vs w1 hb hd K hK
              have d8 : (SV.rw L').p (vs 8) w1 := hd 8 (by kernel_rfl)
              have h7 := Exists.choose_spec (SV.rw_get d8)
              generalize Exists.choose (SV.rw_get d8) = u7 at h7
              have e7 := h7.1
              have hu7 := h7.2
              simp only [frameV, List.setIfInBounds_toArray, List.set_cons_zero, List.set_cons_succ, List.getD_cons_zero, List.getD_cons_succ] at hK ⊢
              simp only [e7] at hK ⊢
              have HK := Lib.hid hK
              clear hK
              go_simp
              exact HK.out _ _ ⟨_, rfl, hu7⟩ (Below.refl _ _)
            · refine OpIs.mk rfl ?_
              intro vs w1 hb hd K hK
              have d8 : (SV.rw L').p (vs 8) w1 := hd 8 (by kernel_rfl)
              have h7 := Exists.choose_spec (SV.rw_get d8)
              generalize Exists.choose (SV.rw_get d8) = u7 at h7
              have e7 := h7.1
              have hu7 := h7.2
              simp only [frameV, List.setIfInBounds_toArray, List.set_cons_zero, List.set_cons_succ, List.getD_cons_zero, List.getD_cons_succ] at hK ⊢
              simp only [e7] at hK ⊢
              have HK := Lib.hid hK
              clear hK
              go_simp
              exact HK.out _ _ rfl (Below.refl _ _)
            · refine OpIs.mk rfl ?_
              intro vs w1 hb hd K hK
              simp only [frameV, List.setIfInBounds_toArray, List.set_cons_zero, List.set_cons_succ, List.getD_cons_zero, List.getD_cons_succ] at hK ⊢
              have HK := Lib.hid hK
              clear hK
              go_simp
              exact HK.out _ _ ⟨_, rfl, hb.size, heap_alloc_new w1 _⟩ (alloc_below w1 _)
          · intro vs w3 hb hd
            obtain ⟨u9, e9, hu9⟩ : ∃ u, vs 9 = .agg #[u] ∧ RefT w3 u L' := hd 9 (by omega)
            obtain ⟨A9, c9, f9⟩ := hu9.form
            rw [HLN'.out] at f9
            subst f9
            have d10 : vs 10 = .int .i64 0 := hd 10 (by omega)
            obtain ⟨g14, e11, hg14, hr14⟩ : ∃ g, vs 11 = .pointer (some ⟨g, 0, none⟩) ∧ w2.heap.size ≤ g ∧ w3.heap[g]? = some (.cells #[.slice none 0 0] 42 (0, 0)) := hd 11 (by omega)
            have x1 : w3.cell? ⟨g14, 0, none⟩ = some (.slice none 0 0) := by rw [cell_of_row _ _ 0 _ _ _ hr14]; rfl
            have x2 : w3.frozen? ⟨g14, 0, none⟩ = false := frozen_of_row _ _ 0 _ _ hr14
            simp only [frameV, List.setIfInBounds_toArray, List.set_cons_zero, List.set_cons_succ, List.drop_succ_cons, List.drop_zero, List.take_succ_cons, List.take_zero, List.cons_append, List.nil_append, e9, d10, e11]
            have h4 : Below w2.heap.size w2 (w3.setCell ⟨g14, 0, none⟩ (.slice A9 N' c9)) := hb.setCell (by show _ ≤ g14; exact hg14) _
            have h5 := HBO2.out.trans (h4.mono HBO2.out.size)
            have HB4 := Lib.hid (HB2.out.trans (h4.mono HB2.out.size))
            have HQ4 := Lib.hid (HQ2.out.below h4 (Nat.le_refl _))
            have HROW4 := Lib.hid ((h5.block _ (R4.heap_lt HROW.out)).trans HROW.out)
            have HU4 := Lib.hid (hu9.off (R4.grown_setCell w3 ⟨g14, 0, none⟩ (.slice A9 N' c9)) hr14 (by decide) (by decide) (by decide))
            have HR14 : Hid ((w3.setCell ⟨g14, 0, none⟩ (.slice A9 N' c9)).heap[g14]? = some (.cells #[.slice A9 N' c9] 42 (0, 0))) := heap_setCell_same w3 g14 0 _ _ _ hr14
            have H16 : Hid ((w3.setCell ⟨g14, 0, none⟩ (.slice A9 N' c9)).cell? ⟨g14, 0, none⟩ = some (.slice A9 N' c9)) := by show _ = _; rw [cell_of_row _ _ 0 _ _ _ HR14.out]; rfl
            clear hb hd hg14 hr14 e9 d10 e11 h4 h5 hu9
            go_wp2
            refine any_region (m := 3) [82, 83, 7] [SV.eq (.pointer (some ⟨q, 0, none⟩)), SV.eq (.agg #[.slice A9 N' c9]), SV.eq (.pointer (some ⟨q, 0, none⟩))] (by kernel_rfl) (by kernel_rfl) ?_ ?_
            · refine ⟨⟨⟨trivial, ?_⟩, ?_⟩, ?_⟩
              · refine OpIs.mk rfl ?_
                intro vs w1 hb hd K hK
                simp only [frameV, List.setIfInBounds_toArray, List.set_cons_zero, List.set_cons_succ, List.getD_cons_zero, List.getD_cons_succ] at hK ⊢
                have HK := Lib.hid hK
                clear hK
                go_simp
                exact HK.out _ _ rfl (Below.refl _ _)
              · refine OpIs.mk rfl ?_
                intro vs w1 hb hd K hK
                have c1 := cell_call hb H16.out
                simp only [frameV, List.setIfInBounds_toArray, List.set_cons_zero, List.set_cons_succ, List.getD_cons_zero, List.getD_cons_succ] at hK ⊢
                have HK := Lib.hid hK
                clear hK
                go_simp
                exact HK.out _ _ rfl (Below.refl _ _)
              · refine OpIs.mk rfl ?_
                intro vs w1 hb hd K hK
                have d0 : vs 0 = .pointer (some ⟨q, 0, none⟩) := hd 0 (by kernel_rfl)
                simp only [frameV, List.setIfInBounds_toArray, List.set_cons_zero, List.set_cons_succ, List.getD_cons_zero, List.getD_cons_succ] at hK ⊢
                simp only [d0] at hK ⊢
                have HK := Lib.hid hK
                clear hK
                go_simp
                exact HK.out _ _ rfl (Below.refl _ _)
            · intro vs w7 hb hd
              have d1 : vs 1 = .agg #[.slice A9 N' c9] := hd 1 (by omega)
              have d2 : vs 2 = .pointer (some ⟨q, 0, none⟩) := hd 2 (by omega)
              have hrow7 := (hb.block _ (R4.heap_lt HROW4.out)).trans HROW4.out
              have z1 : w7.cell? ⟨b6, 0, none⟩ = some (.slice A6 N c6) := by rw [cell_of_row _ _ 0 _ _ _ hrow7]; rfl
              have z2 : w7.frozen? ⟨b6, 0, none⟩ = false := frozen_of_row _ _ 0 _ _ hrow7
              have HP7 : Hid (PU w b6 (.pointer (some ⟨q, 0, none⟩)) (w7.setCell ⟨b6, 0, none⟩ (.slice A9 N' c9))) := by
                have h := PU.put (w := w) (HQ4.out.below hb (Nat.le_refl _)) HPOS'.out hrow7 (A := A9) (c := c9) (by rw [HLN'.out]; exact HU4.out.below hb (Nat.le_refl _)) (HB4.out.trans (hb.mono HB4.out.size)) HLO.out
                rw [HLN'.out] at h
                exact h
              simp only [frameV, List.setIfInBounds_toArray, List.set_cons_zero, List.set_cons_succ, List.drop_succ_cons, List.drop_zero, d1, d2]
              clear hb hd d1 d2 hrow7
              go_wp2
              go_roundw
              case rel => exact ⟨k + 1, by omega, by omega, by go_num, HP7.out⟩
              case measure => simp [intOf]; omega
          · intro vs w3 hb hd
            obtain ⟨u9, e9, hu9⟩ : ∃ u, vs 9 = .agg #[u] ∧ RefT w3 u L' := hd 9 (by omega) (by omega)
            obtain ⟨A9, c9, f9⟩ := hu9.form
            rw [HLN'.out] at f9
            subst f9
            obtain ⟨u8, d10, -⟩ : ∃ u, vs 8 = .tuple #[.agg #[u], .int .i64 0] ∧ RefT w3 u L' := hd 8 (by omega) (by omega)
            obtain ⟨g14, e11, hg14, hr14⟩ : ∃ g, vs 11 = .pointer (some ⟨g, 0, none⟩) ∧ w2.heap.size ≤ g ∧ w3.heap[g]? = some (.cells #[.slice none 0 0] 42 (0, 0)) := hd 11 (by omega) (by omega)
            have x1 : w3.cell? ⟨g14, 0, none⟩ = some (.slice none 0 0) := by rw [cell_of_row _ _ 0 _ _ _ hr14]; rfl
            have x2 : w3.frozen? ⟨g14, 0, none⟩ = false := frozen_of_row _ _ 0 _ _ hr14
            simp only [frameV, List.setIfInBounds_toArray, List.set_cons_zero, List.set_cons_succ, List.drop_succ_cons, List.drop_zero, List.take_succ_cons, List.take_zero, List.cons_append, List.nil_append, e9, d10, e11]
            have h4 : Below w2.heap.size w2 (w3.setCell ⟨g14, 0, none⟩ (.slice A9 N' c9)) := hb.setCell (by show _ ≤ g14; exact hg14) _
            have h5 := HBO2.out.trans (h4.mono HBO2.out.size)
            have HB4 := Lib.hid (HB2.out.trans (h4.mono HB2.out.size))
            have HQ4 := Lib.hid (HQ2.out.below h4 (Nat.le_refl _))
            have HROW4 := Lib.hid ((h5.block _ (R4.heap_lt HROW.out)).trans HROW.out)
            have HU4 := Lib.hid (hu9.off (R4.grown_setCell w3 ⟨g14, 0, none⟩ (.slice A9 N' c9)) hr14 (by decide) (by decide) (by decide))
            have HR14 : Hid ((w3.setCell ⟨g14, 0, none⟩ (.slice A9 N' c9)).heap[g14]? = some (.cells #[.slice A9 N' c9] 42 (0, 0))) := heap_setCell_same w3 g14 0 _ _ _ hr14
            have H16 : Hid ((w3.setCell ⟨g14, 0, none⟩ (.slice A9 N' c9)).cell? ⟨g14, 0, none⟩ = some (.slice A9 N' c9)) := by show _ = _; rw [cell_of_row _ _ 0 _ _ _ HR14.out]; rfl
            clear hb hd hg14 hr14 e9 d10 e11 h4 h5 hu9
            go_wp2
            refine any_region (m := 3) [82, 83, 7] [SV.eq (.pointer (some ⟨q, 0, none⟩)), SV.eq (.agg #[.slice A9 N' c9]), SV.eq (.pointer (some ⟨q, 0, none⟩))] (by kernel_rfl) (by kernel_rfl) ?_ ?_
            · refine ⟨⟨⟨trivial, ?_⟩, ?_⟩, ?_⟩
              · refine OpIs.mk rfl ?_
                intro vs w1 hb hd K hK
                simp only [frameV, List.setIfInBounds_toArray, List.set_cons_zero, List.set_cons_succ, List.getD_cons_zero, List.getD_cons_succ] at hK ⊢
                have HK := Lib.hid hK
                clear hK
                go_simp
                exact HK.out _ _ rfl (Below.refl _ _)
              · refine OpIs.mk rfl ?_
                intro vs w1 hb hd K hK
                have c1 := cell_call hb H16.out
                simp only [frameV, List.setIfInBounds_toArray, List.set_cons_zero, List.set_cons_succ, List.getD_cons_zero, List.getD_cons_succ] at hK ⊢
                have HK := Lib.hid hK
                clear hK
                go_simp
                exact HK.out _ _ rfl (Below.refl _ _)
              · refine OpIs.mk rfl ?_
                intro vs w1 hb hd K hK
                have d0 : vs 0 = .pointer (some ⟨q, 0, none⟩) := hd 0 (by kernel_rfl)
                simp only [frameV, List.setIfInBounds_toArray, List.set_cons_zero, List.set_cons_succ, List.getD_cons_zero, List.getD_cons_succ] at hK ⊢
                simp only [d0] at hK ⊢
                have HK := Lib.hid hK
                clear hK
                go_simp
                exact HK.out _ _ rfl (Below.refl _ _)
            · intro vs w7 hb hd
              have d1 : vs 1 = .agg #[.slice A9 N' c9] := hd 1 (by omega)
              have d2 : vs 2 = .pointer (some ⟨q, 0, none⟩) := hd 2 (by omega)
              have hrow7 := (hb.block _ (R4.heap_lt HROW4.out)).trans HROW4.out
              have z1 : w7.cell? ⟨b6, 0, none⟩ = some (.slice A6 N c6) := by rw [cell_of_row _ _ 0 _ _ _ hrow7]; rfl
              have z2 : w7.frozen? ⟨b6, 0, none⟩ = false := frozen_of_row _ _ 0 _ _ hrow7
              have HP7 : Hid (PU w b6 (.pointer (some ⟨q, 0, none⟩)) (w7.setCell ⟨b6, 0, none⟩ (.slice A9 N' c9))) := by
                have h := PU.put (w := w) (HQ4.out.below hb (Nat.le_refl _)) HPOS'.out hrow7 (A := A9) (c := c9) (by rw [HLN'.out]; exact HU4.out.below hb (Nat.le_refl _)) (HB4.out.trans (hb.mono HB4.out.size)) HLO.out
                rw [HLN'.out] at h
                exact h
              simp only [frameV, List.setIfInBounds_toArray, List.set_cons_zero, List.set_cons_succ, List.drop_succ_cons, List.drop_zero, d1, d2]
              clear hb hd d1 d2 hrow7
              go_wp2
              go_roundw
              case rel => exact ⟨k + 1, by omega, by omega, by go_num, HP7.out⟩
              case measure => simp [intOf]; omega
      · have HSG := Lib.hid (T2.sgs_sg bs.data.toList)
        have hsl := T2.sgs_len bs.data.toList
        have hbl := T2.ba_len bs
        have hb3 := HBS.out
        have HSI := Lib.hid (fun w => T2.rsigns_any bs w (by omega))
        have hbk : bs.size ≤ 100000 := by omega
        have HEL := Lib.hid (fun (w : World) (p : Nat) (h : TabAt anyB w p L) => elements_any h bs hbk)
        have HREL := Lib.hid (fun (w : World) (v : Value) (h : RefT w v L) => rels_any bs h HG.out hbk)
        obtain ⟨S, hS⟩ : ∃ S, T2.sgs bs.data.toList = S := ⟨_, rfl⟩
        rw [hS] at HSG hsl HSI HEL HREL
        have HSL : Hid (S.length ≤ 300) := by show _ ≤ _; omega
        obtain ⟨l1, hl1⟩ : ∃ l1, (atK L S at_).1 = l1 := ⟨_, rfl⟩
        obtain ⟨u1, hu1⟩ : ∃ u1, (atK L S at_).2 = u1 := ⟨_, rfl⟩
        have HAK : Hid (atK L S at_ = (l1, u1)) := by show _ = _; rw [← hl1, ← hu1]
        have HL1 : Hid (l1.length ≤ 8 ∧ ∀ x ∈ l1, x < 4294967296) := by
          show _ ∧ _
          rw [← hl1]
          unfold atK
          split
          · exact atP_good HG.out _
          · exact ⟨by simp, fun x hx => by simp at hx⟩
        obtain ⟨ES, hES⟩ : ∃ ES, elsP L S = ES := ⟨_, rfl⟩
        have HES : Hid (ES.length ≤ 2400 ∧ ∀ x ∈ ES, x < 4294967296) := by
          show _ ∧ _
          rw [← hES]
          exact ⟨by have := elsP_len HG.out S.length S (Nat.le_refl _); have := HSL.out; omega, elsP_lt HG.out S.length S (Nat.le_refl _)⟩
        rw [hES] at HEL HREL
        have HTA := Lib.hid (HT.out.mono (G := anyB) fun _ _ => trivial)
        have ce := HC6.out
        clear hsl hbl hb3 hbk hS hl1 hu1 hES
        by_cases hkn : k < n
        case' pos =>
          obtain rfl : k = 10 := by omega
          have hkI : (10 : Int) < (n : Int) := by omega
          clear hlt hkn
        case' neg =>
          obtain rfl : k = n := by omega
          clear hlt hkn
        all_goals
          go_wp2_with (first
              | (go_at_call 21; refine (HSI.out _).mono ?_; rintro q w1 ⟨v1, rfl, ho, hb1⟩; obtain ⟨As, cs, es⟩ := (ownI_rd (F := anyB) ho (fun _ _ => trivial)).form; subst es; have HS1 := Lib.hid (ownI_rd (F := anyB) ho (fun _ _ => trivial)); have HB1 := Lib.hid hb1; have ce1 := cell_call hb1 ce; clear ho hb1 ce)
              | (go_at_call 22; refine (at_any (HTA.out.below HB1.out (Nat.le_refl _)) HS1.out HSG.out (by have := HSL.out; omega) HAK.out).mono ?_; rintro q w2 ⟨⟨Aa, na, ca, rfl, ha⟩, hb2⟩; have HA2 := Lib.hid ha; have HB2 := Lib.hid (HB1.out.trans (hb2.mono HB1.out.size)); have HS2 := Lib.hid (HS1.out.below hb2 (Nat.le_refl _)); have ce2 := cell_call hb2 ce1; clear ha hb2 ce1)
              | (go_at_call 23; refine (rat_any (HR.out.below HB2.out (Nat.le_refl _)) HG.out HS2.out HSG.out (by have := HSL.out; omega) HAK.out).mono ?_; rintro q w3 ⟨⟨Ab, nb, cb, rfl, ha⟩, hb3⟩; have HQ3 := Lib.hid ha; have HA3 := Lib.hid (HA2.out.below hb3 (Nat.le_refl _)); have HB3 := Lib.hid (HB2.out.trans (hb3.mono HB2.out.size)); have HCE := Lib.hid (cell_call hb3 ce2); clear ha hb3 ce2))
          refine any_region (m := 20) [100, 101, 102, 103, 104, 105, 106, 107, 108, 109, 110, 111, 112, 113, 114, 115, 116, 117, 118, 119] [SV.eq (.pointer (some ⟨p1, 0, none⟩)), SV.eq (.string bs), SV.els ES, SV.eq (.agg #[.slice A6 N c6]), SV.eq (.string bs), SV.qs ES, SV.eq (.bool true), SV.eq (.bool true), SV.eq (.slice Aa na ca), SV.eq (.slice Ab nb cb), SV.eq (.bool true), SV.eq (.bool true), SV.eq (.bool true), SV.eq (.int .i64 (u1 : Int)), SV.eq (.int .i64 (u1 : Int)), SV.eq (.bool true), SV.eq (.bool true), SV.eq (.bool true), SV.eq (.bool true), SV.eq (.bool true)] (by kernel_rfl) (by kernel_rfl) ?_ ?_
          · refine ⟨⟨⟨⟨⟨⟨⟨⟨⟨⟨⟨⟨⟨⟨⟨⟨⟨⟨⟨⟨trivial, ?_⟩, ?_⟩, ?_⟩, ?_⟩, ?_⟩, ?_⟩, ?_⟩, ?_⟩, ?_⟩, ?_⟩, ?_⟩, ?_⟩, ?_⟩, ?_⟩, ?_⟩, ?_⟩, ?_⟩, ?_⟩, ?_⟩, ?_⟩
            · refine OpIs.mk rfl ?_
              intro vs w1 hb hd K hK
              simp only [frameV, List.setIfInBounds_toArray, List.set_cons_zero, List.set_cons_succ, List.getD_cons_zero, List.getD_cons_succ] at hK ⊢
              have HK := Lib.hid hK
              clear hK
              go_simp
              exact HK.out _ _ rfl (Below.refl _ _)
            · refine OpIs.mk rfl ?_
              intro vs w1 hb hd K hK
              simp only [frameV, List.setIfInBounds_toArray, List.set_cons_zero, List.set_cons_succ, List.getD_cons_zero, List.getD_cons_succ] at hK ⊢
              have HK := Lib.hid hK
              clear hK
              go_simp
              exact HK.out _ _ rfl (Below.refl _ _)
            · refine OpIs.mk rfl ?_
              intro vs w1 hb hd K hK
              have d0 : vs 0 = .pointer (some ⟨p1, 0, none⟩) := hd 0 (by kernel_rfl)
              have d1 : vs 1 = .string bs := hd 1 (by kernel_rfl)
              simp only [frameV, List.setIfInBounds_toArray, List.set_cons_zero, List.set_cons_succ, List.getD_cons_zero, List.getD_cons_succ] at hK ⊢
              simp only [d0, d1] at hK ⊢
              have HK := Lib.hid hK
              clear hK
              go_simp
              go_at_call 13
              refine (HEL.out _ _ (HTA.out.below (HB3.out.trans (hb.mono HB3.out.size)) (Nat.le_refl _))).mono ?_
              rintro q w4 ⟨v4, rfl, ho, hb4⟩
              exact HK.out _ _ (OwnE.rd (F := anyB) ho (fun _ _ => trivial)) hb4
            · refine OpIs.mk rfl ?_
              intro vs w1 hb hd K hK
              have c1 := cell_call hb HCE.out
              simp only [frameV, List.setIfInBounds_toArray, List.set_cons_zero, List.set_cons_succ, List.getD_cons_zero, List.getD_cons_succ] at hK ⊢
              have HK := Lib.hid hK
              clear hK
              go_simp
              exact HK.out _ _ rfl (Below.refl _ _)
            · refine OpIs.mk rfl ?_
              intro vs w1 hb hd K hK
              simp only [frameV, List.setIfInBounds_toArray, List.set_cons_zero, List.set_cons_succ, List.getD_cons_zero, List.getD_cons_succ] at hK ⊢
              have HK := Lib.hid hK
              clear hK
              go_simp
              exact HK.out _ _ rfl (Below.refl _ _)
            · refine OpIs.mk rfl ?_
              intro vs w1 hb hd K hK
              have d3 : vs 3 = .agg #[.slice A6 N c6] := hd 3 (by kernel_rfl)
              have d4 : vs 4 = .string bs := hd 4 (by kernel_rfl)
              simp only [frameV, List.setIfInBounds_toArray, List.set_cons_zero, List.set_cons_succ, List.getD_cons_zero, List.getD_cons_succ] at hK ⊢
              simp only [d3, d4] at hK ⊢
              have HK := Lib.hid hK
              clear hK
              go_simp
              go_at_call 25
              refine (HREL.out _ _ (HR.out.below (HB3.out.trans (hb.mono HB3.out.size)) (Nat.le_refl _))).mono ?_
              rintro q w4 ⟨⟨v4, rfl, ho⟩, hb4⟩
              exact HK.out _ _ ho hb4
            · refine OpIs.mk rfl ?_
              intro vs w1 hb hd K hK
              have d2 : (SV.els ES).p (vs 2) w1 := hd 2 (by kernel_rfl)
              have d5 : (SV.qs ES).p (vs 5) w1 := hd 5 (by kernel_rfl)
              simp only [frameV, List.setIfInBounds_toArray, List.set_cons_zero, List.set_cons_succ, List.getD_cons_zero, List.getD_cons_succ] at hK ⊢
              have HK := Lib.hid hK
              clear hK
              go_simp
              go_at_call 24
              refine (same_any (b := true) (F := anyB) (G := anyB) d2 d5 (by have := HES.out.1; omega) (by have := HES.out.1; omega) HES.out.2 (by simp)).mono ?_
              rintro q w4 ⟨rfl, hb4⟩
              exact HK.out _ _ rfl hb4
            · refine OpIs.mk rfl ?_
              intro vs w1 hb hd K hK
              have d6 : vs 6 = .bool true := hd 6 (by kernel_rfl)
              simp only [frameV, List.setIfInBounds_toArray, List.set_cons_zero, List.set_cons_succ, List.getD_cons_zero, List.getD_cons_succ] at hK ⊢
              simp only [d6] at hK ⊢
              have HK := Lib.hid hK
              clear hK
              go_simp
              exact HK.out _ _ rfl (Below.refl _ _)
            · refine OpIs.mk rfl ?_
              intro vs w1 hb hd K hK
              have d7 : vs 7 = .bool true := hd 7 (by kernel_rfl)
              simp only [frameV, List.setIfInBounds_toArray, List.set_cons_zero, List.set_cons_succ, List.getD_cons_zero, List.getD_cons_succ] at hK ⊢
              simp only [d7] at hK ⊢
              have HK := Lib.hid hK
              clear hK
              go_simp
              exact HK.out _ _ rfl (Below.refl _ _)
            · refine OpIs.mk rfl ?_
              intro vs w1 hb hd K hK
              have d7 : vs 7 = .bool true := hd 7 (by kernel_rfl)
              simp only [frameV, List.setIfInBounds_toArray, List.set_cons_zero, List.set_cons_succ, List.getD_cons_zero, List.getD_cons_succ] at hK ⊢
              simp only [d7] at hK ⊢
              have HK := Lib.hid hK
              clear hK
              go_simp
              exact HK.out _ _ rfl (Below.refl _ _)
            · refine OpIs.mk rfl ?_
              intro vs w1 hb hd K hK
              have d8 : vs 8 = .slice Aa na ca := hd 8 (by kernel_rfl)
              have d9 : vs 9 = .slice Ab nb cb := hd 9 (by kernel_rfl)
              have d7 : vs 7 = .bool true := hd 7 (by kernel_rfl)
              simp only [frameV, List.setIfInBounds_toArray, List.set_cons_zero, List.set_cons_succ, List.getD_cons_zero, List.getD_cons_succ] at hK ⊢
              simp only [d8, d9, d7] at hK ⊢
              have HK := Lib.hid hK
              clear hK
              go_simp
              go_at_call 24
              refine (same_any (b := true) (HA3.out.below hb (Nat.le_refl _)) (HQ3.out.below hb (Nat.le_refl _)) (by have := HL1.out.1; omega) (by have := HL1.out.1; omega) HL1.out.2 (by simp)).mono ?_
              rintro q w4 ⟨rfl, hb4⟩
              exact HK.out _ _ rfl hb4
            · refine OpIs.mk rfl ?_
              intro vs w1 hb hd K hK
              have d7 : vs 7 = .bool true := hd 7 (by kernel_rfl)
              have d10 : vs 10 = .bool true := hd 10 (by kernel_rfl)
              simp only [frameV, List.setIfInBounds_toArray, List.set_cons_zero, List.set_cons_succ, List.getD_cons_zero, List.getD_cons_succ] at hK ⊢
              simp only [d7, d10] at hK ⊢
              have HK := Lib.hid hK
              clear hK
              go_simp
              exact HK.out _ _ rfl (Below.refl _ _)
            · refine OpIs.mk rfl ?_
              intro vs w1 hb hd K hK
              have d11 : vs 11 = .bool true := hd 11 (by kernel_rfl)
              simp only [frameV, List.setIfInBounds_toArray, List.set_cons_zero, List.set_cons_succ, List.getD_cons_zero, List.getD_cons_succ] at hK ⊢
              simp only [d11] at hK ⊢
              have HK := Lib.hid hK
              clear hK
              go_simp
              exact HK.out _ _ rfl (Below.refl _ _)
            · refine OpIs.mk rfl ?_
              intro vs w1 hb hd K hK
              have d12 : vs 12 = .bool true := hd 12 (by kernel_rfl)
              simp only [frameV, List.setIfInBounds_toArray, List.set_cons_zero, List.set_cons_succ, List.getD_cons_zero, List.getD_cons_succ] at hK ⊢
              simp only [d12] at hK ⊢
              have HK := Lib.hid hK
              clear hK
              go_simp
              exact HK.out _ _ rfl (Below.refl _ _)
            · refine OpIs.mk rfl ?_
              intro vs w1 hb hd K hK
              have d12 : vs 12 = .bool true := hd 12 (by kernel_rfl)
              simp only [frameV, List.setIfInBounds_toArray, List.set_cons_zero, List.set_cons_succ, List.getD_cons_zero, List.getD_cons_succ] at hK ⊢
              simp only [d12] at hK ⊢
              have HK := Lib.hid hK
              clear hK
              go_simp
              exact HK.out _ _ rfl (Below.refl _ _)
            · refine OpIs.mk rfl ?_
              intro vs w1 hb hd K hK
              have d13 : vs 13 = .int .i64 (u1 : Int) := hd 13 (by kernel_rfl)
              have d14 : vs 14 = .int .i64 (u1 : Int) := hd 14 (by kernel_rfl)
              have d12 : vs 12 = .bool true := hd 12 (by kernel_rfl)
              simp only [frameV, List.setIfInBounds_toArray, List.set_cons_zero, List.set_cons_succ, List.getD_cons_zero, List.getD_cons_succ] at hK ⊢
              simp only [d13, d14, d12] at hK ⊢
              have HK := Lib.hid hK
              clear hK
              go_simp
              exact HK.out _ _ rfl (Below.refl _ _)
            · refine OpIs.mk rfl ?_
              intro vs w1 hb hd K hK
              have d12 : vs 12 = .bool true := hd 12 (by kernel_rfl)
              have d15 : vs 15 = .bool true := hd 15 (by kernel_rfl)
              simp only [frameV, List.setIfInBounds_toArray, List.set_cons_zero, List.set_cons_succ, List.getD_cons_zero, List.getD_cons_succ] at hK ⊢
              simp only [d12, d15] at hK ⊢
              have HK := Lib.hid hK
              clear hK
              go_simp
              exact HK.out _ _ rfl (Below.refl _ _)
            · refine OpIs.mk rfl ?_
              intro vs w1 hb hd K hK
              have d16 : vs 16 = .bool true := hd 16 (by kernel_rfl)
              simp only [frameV, List.setIfInBounds_toArray, List.set_cons_zero, List.set_cons_succ, List.getD_cons_zero, List.getD_cons_succ] at hK ⊢
              simp only [d16] at hK ⊢
              have HK := Lib.hid hK
              clear hK
              go_simp
              exact HK.out _ _ rfl (Below.refl _ _)
            · refine OpIs.mk rfl ?_
              intro vs w1 hb hd K hK
              have d17 : vs 17 = .bool true := hd 17 (by kernel_rfl)
              simp only [frameV, List.setIfInBounds_toArray, List.set_cons_zero, List.set_cons_succ, List.getD_cons_zero, List.getD_cons_succ] at hK ⊢
              simp only [d17] at hK ⊢
              have HK := Lib.hid hK
              clear hK
              go_simp
              go_at_call 16
              refine (awake_any _).mono ?_
              rintro q w4 ⟨rfl, hb4⟩
              exact HK.out _ _ rfl hb4
            · refine OpIs.mk rfl ?_
              intro vs w1 hb hd K hK
              have d17 : vs 17 = .bool true := hd 17 (by kernel_rfl)
              have d18 : vs 18 = .bool true := hd 18 (by kernel_rfl)
              simp only [frameV, List.setIfInBounds_toArray, List.set_cons_zero, List.set_cons_succ, List.getD_cons_zero, List.getD_cons_succ] at hK ⊢
              simp only [d17, d18] at hK ⊢
              have HK := Lib.hid hK
              clear hK
              go_simp
              exact HK.out _ _ rfl (Below.refl _ _)
          · intro vs w5 hb hd
            have d19 : vs 19 = .bool true := hd 19 (by omega)
            have HB5 := Lib.hid (HB.out.trans ((HB3.out.trans (hb.mono HB3.out.size)).mono HB.out.size))
            simp only [frameV, List.setIfInBounds_toArray, List.set_cons_zero, List.set_cons_succ, List.drop_succ_cons, List.drop_zero, d19]
            clear hb hd
            go_wp2
            go_ret
            exact ⟨rfl, HB5.out⟩
theorem tableWeighs_walk (bs : ByteArray) (v : Value) (O : List PE) (at_ : Int) (w : World) (hbs : bs.size ≤ maxLen) (hO : RdT anyB w v O) (hOb : ∀ e ∈ O, OpOk e) (hOl : O.length ≤ maxLen) (h : (Lit.int .i64 at_).wf = true) :
    Calls Tryz.prog 5 #[.string bs, v, .int .i64 at_] w fun e w' => e = .returned (.bool true) ∧ Below w.heap.size w w' := weighs_any hbs hO hOb hOl
end Go.Proofs.YtaabdpfhpolcgaaGreat
namespace Go.Proofs.YtaabdpfhpolcgaaGreat.tableWeighs
open Go.ChangeShapes Go.WideShapes Go.ChangeAt Go.RowKit
open Go.ChangeMaps (open_string shut_string)
set_option linter.unusedVariables false

theorem own : ownKnob Tryz.prog.godebug = none := by kernel_rfl
theorem laidOut : laidOutB Tryz.prog = true := by kernel_rfl
set_option maxRecDepth 100000 in
theorem lifted (os : Os) (started : os.Started) (H : Type) (enc : TypeId × Value → H) :
    ReturnsInHanded {} Tryz.checked os 5 .any (Rows.tableWeighsSpec.pre6 enc Tryz.prog Tryz.f5 Rows.tableWeighsRow.domain false) (Rows.tableWeighsSpec.post enc Tryz.prog Tryz.f5 false true false false) := by
  refine returnsInHanded_of_change (C := Tryz.checked) own started (by kernel_rfl) Tryz.func5
    (ChangeSpec.witness6 (enc := enc) (C := Tryz.checked) false ⟨#[], #[.string ByteArray.empty, .slice none 0 0, .int .i64 0], []⟩ 8 (by kernel_rfl) (by kernel_rfl) (by kernel_rfl) (by kernel_rfl)) ?_
  intro W base args ds gs before hval0 hW _ _
  have hval : ∀ (j : Nat) t v, Tryz.f5.params[j]? = some t → args[j]? = some v → Value.okWide Tryz.prog W .any base t v := hval0
  have hW' := hW
  obtain ⟨p, q, hA0, hV, rfl, hfz, hnd⟩ := hW
  have hA : DataW.TrodAll enc Tryz.prog W 0 (fun _ => true) true Tryz.f5.params.toList args.toList ds p := hA0
  rw [Tryz.params5] at hA hval
  obtain ⟨v0, vs0, d0, ds0, p0, q0, hargs, rfl, rfl, h0, r0⟩ := trodAll_cons hA
  obtain ⟨v1, vs1, d1, ds1, p1, q1, rfl, rfl, rfl, h1, r1⟩ := trodAll_cons r0
  obtain ⟨v2, vs2, d2, ds2, p2, q2, rfl, rfl, rfl, h2, r2⟩ := trodAll_cons r1
  obtain ⟨rfl, rfl, rfl⟩ := trodAll_nil r2
  obtain rfl : args = #[v0, v1, v2] := by cases args; simp_all
  obtain ⟨rfl, rfl⟩ := trodVars_none hV
  obtain ⟨a0, rfl, rfl, rfl, w0⟩ := open_string Tryz.underlying9 (hval 0 9 v0 rfl rfl) h0
  obtain ⟨l1, hr1, hw1, w1⟩ := open_ops (hval 1 44 v1 rfl rfl) h1
  obtain ⟨a2, rfl, rfl, rfl, w2⟩ := open_int Tryz.underlying3 (hval 2 3 v2 rfl rfl) h2
  clear hA0 hval0
  refine (tableWeighs_walk a0 v1 l1 a2 W w0 hr1 hw1 w1 w2).mono fun e W' ⟨he, bel⟩ => ?_
  subst he
  exact ⟨_, rfl, _, _, _, [], _, [], hW', trodAll_mk1 (shut_bool Tryz.underlying4 _), (trodAll_cons_mk (shut_string Tryz.underlying9 w0) (trodAll_cons_mk (Below.trod laidOut (by kernel_rfl) (of_decide_eq_true (by kernel_rfl)) h1 bel (fun x hx => by simpa using hW'.lt x (by simp [hx]))) (trodAll_cons_mk (shut_int Tryz.underlying3 w2) trodAll_mk0))), rfl, bel.frame _, fun h => by cases h⟩

theorem said : Rows.TableWeighsSaid :=
  OpenClaim.holds_of_wide 5 Tryz.f5 rfl rfl rfl rfl rfl rfl rfl ⟨rfl, rfl, rfl, rfl, rfl⟩ rfl rfl rfl rfl rfl (by kernel_rfl) Tryz.func5 (by kernel_rfl)
    (of_decide_eq_true (by kernel_rfl)) (by unfold Func.isWrapper; first | (rw [if_pos (by decide +kernel)]; kernel_rfl) | (rw [if_neg (by decide +kernel)]; exact ⟨rfl, rfl⟩))
    (fun os started H enc _ => lifted os started H enc)
end Go.Proofs.YtaabdpfhpolcgaaGreat.tableWeighs
