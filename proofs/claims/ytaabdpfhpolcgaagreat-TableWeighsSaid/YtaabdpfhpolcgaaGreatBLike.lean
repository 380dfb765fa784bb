/-
  THE CONTRACT of the law's Like.
-/
import Derived.Test.YtaabdpfhpolcgaaGreatBEntr
namespace Go.Proofs.YtaabdpfhpolcgaaGreat
open Go.RowKit
set_option linter.unusedVariables false
set_option linter.unusedSimpArgs false
set_option maxHeartbeats 8000000 in
set_option maxRecDepth 100000 in
theorem like_any {F : Nat → Prop} {w : World} {p : Nat} {L : List PE} {u : Value} (h : TabAt F w p L) (hr : RefT w u L) :
    Calls Tryz.prog 17 #[.pointer (some ⟨p, 0, none⟩), .agg #[u]] w fun e w' => e = .returned (.bool true) ∧ Below w.heap.size w w' := by
  obtain ⟨Au, cu, rfl⟩ := hr.form
  have hlen := h.good.len
  have HGOOD := Lib.hid h.good
  have HT := Lib.hid (h.below (alloc_below w (.cells #[.slice Au L.length cu] 42)) (Nat.le_refl _))
  have HR := Lib.hid (hr.below (alloc_below w (.cells #[.slice Au L.length cu] 42)) (Nat.le_refl _))
  have hx0 : (w.alloc (.cells #[.slice Au L.length cu] 42)).cell? ⟨w.heap.size, 0, none⟩ = some (.slice Au L.length cu) := by rw [cell_of_row _ _ 0 _ _ _ (heap_alloc_new w _)]; rfl
  have HX := Lib.hid hx0
  have HB0 := Lib.hid (alloc_below w (.cells #[.slice Au L.length cu] 42))
  obtain ⟨n, hn⟩ : ∃ n, L.length = n := ⟨_, rfl⟩
  have HN := Lib.hid hn
  rw [hn] at HT HR HX HB0 hlen ⊢
  have hnI : (n : Int) ≤ 500 := by omega
  clear h hr hx0 hn
  go_enter Tryz.func17, Tryz.ntmps17
  go_wp2_with (go_at_call 57; refine (entries_any HT.out).mono ?_; rintro r w2 ⟨⟨A, c, rfl, hrd⟩, hb⟩; rw [HN.out] at hrd ⊢; have HE := Lib.hid hrd; have HR2 := Lib.hid (HR.out.below hb (Nat.le_refl _)); have c0 := cell_call hb HX.out; have HX2 := Lib.hid c0; have HB2 := Lib.hid (HB0.out.trans (hb.mono HB0.out.size)); clear hrd hb HR HX HB0 HT)
  clear c0
  obtain ⟨b3, hb3⟩ : ∃ b, w.heap.size = b := ⟨_, rfl⟩
  rw [hb3] at HX2
  rw [show (({ block := w.heap.size, off := 0 } : Addr)) = ⟨b3, 0, none⟩ by rw [hb3]]
  clear hb3
  go_loopw [6] (fun i wr => ∃ k : Nat, k ≤ n ∧ i = .int .i64 (k : Nat) ∧ Hid (Below w2.heap.size w2 wr)) (fun i _ => n - (intOf i).toNat)
  case atStart => exact ⟨0, Nat.zero_le _, rfl, Below.refl _ _⟩
  case round =>
    obtain ⟨k, hk, rfl, HB⟩ := hrel
    by_cases hlt : k < n
    · obtain ⟨e, he⟩ : ∃ e, L[k]? = some e := ⟨_, List.getElem?_eq_getElem (by rw [HN.out]; exact hlt)⟩
      obtain ⟨g1, o1, vs, vl, rfl, c0, c1, hri, hre⟩ := (HE.out.below HB.out (Nat.le_refl _)).at he
      obtain ⟨g2, o2, us, ul, rfl, e0, e1, hqi, hqe⟩ := (HR2.out.below HB.out (Nat.le_refl _)).at he
      obtain ⟨A2, k2, rfl⟩ := hri.form
      obtain ⟨A3, k3, rfl⟩ := hre.form
      obtain ⟨A4, k4, rfl⟩ := hqi.form
      obtain ⟨A5, k5, rfl⟩ := hqe.form
      have HRI := Lib.hid hri
      have HRE := Lib.hid hre
      have HQI := Lib.hid hqi
      have HQE := Lib.hid hqe
      have HC0 := Lib.hid c0
      have HC1 := Lib.hid c1
      have HE0 := Lib.hid e0
      have HE1 := Lib.hid e1
      have cx := (HB.out.cell (p := ⟨b3, 0, none⟩) (cell_lt HX2.out)).trans HX2.out
      have HCX := Lib.hid cx
      have hkI : (k : Int) < (n : Int) := by omega
      have HLS : Hid (e.1.length ≤ 10000000 ∧ e.2.length ≤ 10000000 ∧ ∀ x ∈ e.2, x < 4294967296) := ⟨by have := (HGOOD.out.seq e (List.mem_of_getElem? he)).2.1; omega, by have := (HGOOD.out.els e (List.mem_of_getElem? he)).1; omega, (HGOOD.out.els e (List.mem_of_getElem? he)).2⟩
      clear hri hre hqi hqe he hlt c0 c1 e0 e1 cx
      go_wp2
      refine any_region (m := 27) [23, 24, 25, 26, 27, 28, 29, 30, 31, 32, 33, 34, 35, 36, 37, 38, 39, 40, 41, 42, 43, 44, 45, 46, 47, 48, 49] [SV.eq (.slice (some ⟨g1, o1, none⟩) n c), SV.eq (.int .i64 (k : Int)), SV.eq (.pointer (some ⟨g1, o1 + k * 2, none⟩)), SV.eq (.pointer (some ⟨g1, o1 + k * 2, none⟩)), SV.eq (.slice A2 e.1.length k2), SV.eq (.pointer (some ⟨b3, 0, none⟩)), SV.eq (.slice (some ⟨g2, o2, none⟩) n cu), SV.eq (.int .i64 (k : Int)), SV.eq (.pointer (some ⟨g2, o2 + k * 2, none⟩)), SV.eq (.pointer (some ⟨g2, o2 + k * 2, none⟩)), SV.eq (.slice A4 e.1.length k4), SV.eq (.bool true), SV.eq (.bool false), SV.eq (.bool false), SV.eq (.slice (some ⟨g1, o1, none⟩) n c), SV.eq (.int .i64 (k : Int)), SV.eq (.pointer (some ⟨g1, o1 + k * 2, none⟩)), SV.eq (.pointer (some ⟨g1, o1 + k * 2 + 1, none⟩)), SV.eq (.slice A3 e.2.length k3), SV.eq (.pointer (some ⟨b3, 0, none⟩)), SV.eq (.slice (some ⟨g2, o2, none⟩) n cu), SV.eq (.int .i64 (k : Int)), SV.eq (.pointer (some ⟨g2, o2 + k * 2, none⟩)), SV.eq (.pointer (some ⟨g2, o2 + k * 2 + 1, none⟩)), SV.eq (.slice A5 e.2.length k5), SV.eq (.bool true), SV.eq (.bool false)] (by kernel_rfl) (by kernel_rfl) ?_ ?_
      · refine ⟨⟨⟨⟨⟨⟨⟨⟨⟨⟨⟨⟨⟨⟨⟨⟨⟨⟨⟨⟨⟨⟨⟨⟨⟨⟨⟨trivial, ?_⟩, ?_⟩, ?_⟩, ?_⟩, ?_⟩, ?_⟩, ?_⟩, ?_⟩, ?_⟩, ?_⟩, ?_⟩, ?_⟩, ?_⟩, ?_⟩, ?_⟩, ?_⟩, ?_⟩, ?_⟩, ?_⟩, ?_⟩, ?_⟩, ?_⟩, ?_⟩, ?_⟩, ?_⟩, ?_⟩, ?_⟩
        · refine OpIs.mk rfl ?_
          intro vs w1 hb hd K hK
          simp only [frameV, List.setIfInBounds_toArray, List.set_cons_zero, List.set_cons_succ, List.getD_cons_zero, List.getD_cons_succ] at hK ⊢
          have HK := Lib.hid hK
          clear hK
          go_simp
          exact HK.out _ _ rfl (Below.refl _ _)
        · refine OpIs.mk rfl ?_
          intro vs w1 hb hd K hK
          simp only [frameV, List.setIfInBounds_toArray, List.set_cons_zero, List.set_cons_succ, List.getD_cons_zero, List.getD_cons_succ] at hK ⊢
          have HK := Lib.hid hK
          clear hK
          go_simp
          exact HK.out _ _ rfl (Below.refl _ _)
        · refine OpIs.mk rfl ?_
          intro vs w1 hb hd K hK
          have d0 : vs 0 = .slice (some ⟨g1, o1, none⟩) n c := hd 0 (by kernel_rfl)
          have d1 : vs 1 = .int .i64 (k : Int) := hd 1 (by kernel_rfl)
          simp only [frameV, List.setIfInBounds_toArray, List.set_cons_zero, List.set_cons_succ, List.getD_cons_zero, List.getD_cons_succ] at hK ⊢
          simp only [d0, d1] at hK ⊢
          have HK := Lib.hid hK
          clear hK
          go_simp
          exact HK.out _ _ rfl (Below.refl _ _)
        · refine OpIs.mk rfl ?_
          intro vs w1 hb hd K hK
          have d2 : vs 2 = .pointer (some ⟨g1, o1 + k * 2, none⟩) := hd 2 (by kernel_rfl)
          simp only [frameV, List.setIfInBounds_toArray, List.set_cons_zero, List.set_cons_succ, List.getD_cons_zero, List.getD_cons_succ] at hK ⊢
          simp only [d2] at hK ⊢
          have HK := Lib.hid hK
          clear hK
          go_simp
          exact HK.out _ _ rfl (Below.refl _ _)
        · refine OpIs.mk rfl ?_
          intro vs w1 hb hd K hK
          have d3 : vs 3 = .pointer (some ⟨g1, o1 + k * 2, none⟩) := hd 3 (by kernel_rfl)
          have c0 := cell_call hb HC0.out
          simp only [frameV, List.setIfInBounds_toArray, List.set_cons_zero, List.set_cons_succ, List.getD_cons_zero, List.getD_cons_succ] at hK ⊢
          simp only [d3] at hK ⊢
          have HK := Lib.hid hK
          clear hK
          go_simp
          exact HK.out _ _ rfl (Below.refl _ _)
        · refine OpIs.mk rfl ?_
          intro vs w1 hb hd K hK
          simp only [frameV, List.setIfInBounds_toArray, List.set_cons_zero, List.set_cons_succ, List.getD_cons_zero, List.getD_cons_succ] at hK ⊢
          have HK := Lib.hid hK
          clear hK
          go_simp
          exact HK.out _ _ rfl (Below.refl _ _)
        · refine OpIs.mk rfl ?_
          intro vs w1 hb hd K hK
          have d5 : vs 5 = .pointer (some ⟨b3, 0, none⟩) := hd 5 (by kernel_rfl)
          have c0 := cell_call hb HCX.out
          simp only [frameV, List.setIfInBounds_toArray, List.set_cons_zero, List.set_cons_succ, List.getD_cons_zero, List.getD_cons_succ] at hK ⊢
          simp only [d5] at hK ⊢
          have HK := Lib.hid hK
          clear hK
          go_simp
          exact HK.out _ _ rfl (Below.refl _ _)
        · refine OpIs.mk rfl ?_
          intro vs w1 hb hd K hK
          simp only [frameV, List.setIfInBounds_toArray, List.set_cons_zero, List.set_cons_succ, List.getD_cons_zero, List.getD_cons_succ] at hK ⊢
          have HK := Lib.hid hK
          clear hK
          go_simp
          exact HK.out _ _ rfl (Below.refl _ _)
        · refine OpIs.mk rfl ?_
          intro vs w1 hb hd K hK
          have d6 : vs 6 = .slice (some ⟨g2, o2, none⟩) n cu := hd 6 (by kernel_rfl)
          have d7 : vs 7 = .int .i64 (k : Int) := hd 7 (by kernel_rfl)
          simp only [frameV, List.setIfInBounds_toArray, List.set_cons_zero, List.set_cons_succ, List.getD_cons_zero, List.getD_cons_succ] at hK ⊢
          simp only [d6, d7] at hK ⊢
          have HK := Lib.hid hK
          clear hK
          go_simp
          exact HK.out _ _ rfl (Below.refl _ _)
        · refine OpIs.mk rfl ?_
          intro vs w1 hb hd K hK
          have d8 : vs 8 = .pointer (some ⟨g2, o2 + k * 2, none⟩) := hd 8 (by kernel_rfl)
          simp only [frameV, List.setIfInBounds_toArray, List.set_cons_zero, List.set_cons_succ, List.getD_cons_zero, List.getD_cons_succ] at hK ⊢
          simp only [d8] at hK ⊢
          have HK := Lib.hid hK
          clear hK
          go_simp
          exact HK.out _ _ rfl (Below.refl _ _)
        · refine OpIs.mk rfl ?_
          intro vs w1 hb hd K hK
          have d9 : vs 9 = .pointer (some ⟨g2, o2 + k * 2, none⟩) := hd 9 (by kernel_rfl)
          have c0 := cell_call hb HE0.out
          simp only [frameV, List.setIfInBounds_toArray, List.set_cons_zero, List.set_cons_succ, List.getD_cons_zero, List.getD_cons_succ] at hK ⊢
          simp only [d9] at hK ⊢
          have HK := Lib.hid hK
          clear hK
          go_simp
          exact HK.out _ _ rfl (Below.refl _ _)
        · refine OpIs.mk rfl ?_
          intro vs w1 hb hd K hK
          have d4 : vs 4 = .slice A2 e.1.length k2 := hd 4 (by kernel_rfl)
          have d10 : vs 10 = .slice A4 e.1.length k4 := hd 10 (by kernel_rfl)
          simp only [frameV, List.setIfInBounds_toArray, List.set_cons_zero, List.set_cons_succ, List.getD_cons_zero, List.getD_cons_succ] at hK ⊢
          simp only [d4, d10] at hK ⊢
          have HK := Lib.hid hK
          clear hK
          go_simp
          go_at_call 58
          refine (same_ints (r := true) (HRI.out.below hb (Nat.le_refl _)) (HQI.out.below hb (Nat.le_refl _)) HLS.out.1 (by simp)).mono ?_
          rintro r w3 ⟨rfl, hb3⟩
          exact HK.out _ _ rfl hb3
        · refine OpIs.mk rfl ?_
          intro vs w1 hb hd K hK
          have d11 : vs 11 = .bool true := hd 11 (by kernel_rfl)
          simp only [frameV, List.setIfInBounds_toArray, List.set_cons_zero, List.set_cons_succ, List.getD_cons_zero, List.getD_cons_succ] at hK ⊢
          simp only [d11] at hK ⊢
          have HK := Lib.hid hK
          clear hK
          go_simp
          exact HK.out _ _ rfl (Below.refl _ _)
        · refine OpIs.mk rfl ?_
          intro vs w1 hb hd K hK
          have d12 : vs 12 = .bool false := hd 12 (by kernel_rfl)
          simp only [frameV, List.setIfInBounds_toArray, List.set_cons_zero, List.set_cons_succ, List.getD_cons_zero, List.getD_cons_succ] at hK ⊢
          simp only [d12] at hK ⊢
          have HK := Lib.hid hK
          clear hK
          go_simp
          exact HK.out _ _ rfl (Below.refl _ _)
        · refine OpIs.mk rfl ?_
          intro vs w1 hb hd K hK
          have d13 : vs 13 = .bool false := hd 13 (by kernel_rfl)
          simp only [frameV, List.setIfInBounds_toArray, List.set_cons_zero, List.set_cons_succ, List.getD_cons_zero, List.getD_cons_succ] at hK ⊢
          simp only [d13] at hK ⊢
          have HK := Lib.hid hK
          clear hK
          go_simp
          exact HK.out _ _ rfl (Below.refl _ _)
        · refine OpIs.mk rfl ?_
          intro vs w1 hb hd K hK
          have d13 : vs 13 = .bool false := hd 13 (by kernel_rfl)
          simp only [frameV, List.setIfInBounds_toArray, List.set_cons_zero, List.set_cons_succ, List.getD_cons_zero, List.getD_cons_succ] at hK ⊢
          simp only [d13] at hK ⊢
          have HK := Lib.hid hK
          clear hK
          go_simp
          exact HK.out _ _ rfl (Below.refl _ _)
        · refine OpIs.mk rfl ?_
          intro vs w1 hb hd K hK
          have d14 : vs 14 = .slice (some ⟨g1, o1, none⟩) n c := hd 14 (by kernel_rfl)
          have d15 : vs 15 = .int .i64 (k : Int) := hd 15 (by kernel_rfl)
          have d13 : vs 13 = .bool false := hd 13 (by kernel_rfl)
          simp only [frameV, List.setIfInBounds_toArray, List.set_cons_zero, List.set_cons_succ, List.getD_cons_zero, List.getD_cons_succ] at hK ⊢
          simp only [d14, d15, d13] at hK ⊢
          have HK := Lib.hid hK
          clear hK
          go_simp
          exact HK.out _ _ rfl (Below.refl _ _)
        · refine OpIs.mk rfl ?_
          intro vs w1 hb hd K hK
          have d16 : vs 16 = .pointer (some ⟨g1, o1 + k * 2, none⟩) := hd 16 (by kernel_rfl)
          have d13 : vs 13 = .bool false := hd 13 (by kernel_rfl)
          simp only [frameV, List.setIfInBounds_toArray, List.set_cons_zero, List.set_cons_succ, List.getD_cons_zero, List.getD_cons_succ] at hK ⊢
          simp only [d16, d13] at hK ⊢
          have HK := Lib.hid hK
          clear hK
          go_simp
          exact HK.out _ _ rfl (Below.refl _ _)
        · refine OpIs.mk rfl ?_
          intro vs w1 hb hd K hK
          have d17 : vs 17 = .pointer (some ⟨g1, o1 + k * 2 + 1, none⟩) := hd 17 (by kernel_rfl)
          have d13 : vs 13 = .bool false := hd 13 (by kernel_rfl)
          have c0 := cell_call hb HC1.out
          simp only [frameV, List.setIfInBounds_toArray, List.set_cons_zero, List.set_cons_succ, List.getD_cons_zero, List.getD_cons_succ] at hK ⊢
          simp only [d17, d13] at hK ⊢
          have HK := Lib.hid hK
          clear hK
          go_simp
          exact HK.out _ _ rfl (Below.refl _ _)
        · refine OpIs.mk rfl ?_
          intro vs w1 hb hd K hK
          have d13 : vs 13 = .bool false := hd 13 (by kernel_rfl)
          simp only [frameV, List.setIfInBounds_toArray, List.set_cons_zero, List.set_cons_succ, List.getD_cons_zero, List.getD_cons_succ] at hK ⊢
          simp only [d13] at hK ⊢
          have HK := Lib.hid hK
          clear hK
          go_simp
          exact HK.out _ _ rfl (Below.refl _ _)
        · refine OpIs.mk rfl ?_
          intro vs w1 hb hd K hK
          have d19 : vs 19 = .pointer (some ⟨b3, 0, none⟩) := hd 19 (by kernel_rfl)
          have d13 : vs 13 = .bool false := hd 13 (by kernel_rfl)
          have c0 := cell_call hb HCX.out
          simp only [frameV, List.setIfInBounds_toArray, List.set_cons_zero, List.set_cons_succ, List.getD_cons_zero, List.getD_cons_succ] at hK ⊢
          simp only [d19, d13] at hK ⊢
          have HK := Lib.hid hK
          clear hK
          go_simp
          exact HK.out _ _ rfl (Below.refl _ _)
        · refine OpIs.mk rfl ?_
          intro vs w1 hb hd K hK
          have d13 : vs 13 = .bool false := hd 13 (by kernel_rfl)
          simp only [frameV, List.setIfInBounds_toArray, List.set_cons_zero, List.set_cons_succ, List.getD_cons_zero, List.getD_cons_succ] at hK ⊢
          simp only [d13] at hK ⊢
          have HK := Lib.hid hK
          clear hK
          go_simp
          exact HK.out _ _ rfl (Below.refl _ _)
        · refine OpIs.mk rfl ?_
          intro vs w1 hb hd K hK
          have d20 : vs 20 = .slice (some ⟨g2, o2, none⟩) n cu := hd 20 (by kernel_rfl)
          have d21 : vs 21 = .int .i64 (k : Int) := hd 21 (by kernel_rfl)
          have d13 : vs 13 = .bool false := hd 13 (by kernel_rfl)
          simp only [frameV, List.setIfInBounds_toArray, List.set_cons_zero, List.set_cons_succ, List.getD_cons_zero, List.getD_cons_succ] at hK ⊢
          simp only [d20, d21, d13] at hK ⊢
          have HK := Lib.hid hK
          clear hK
          go_simp
          exact HK.out _ _ rfl (Below.refl _ _)
        · refine OpIs.mk rfl ?_
          intro vs w1 hb hd K hK
          have d22 : vs 22 = .pointer (some ⟨g2, o2 + k * 2, none⟩) := hd 22 (by kernel_rfl)
          have d13 : vs 13 = .bool false := hd 13 (by kernel_rfl)
          simp only [frameV, List.setIfInBounds_toArray, List.set_cons_zero, List.set_cons_succ, List.getD_cons_zero, List.getD_cons_succ] at hK ⊢
          simp only [d22, d13] at hK ⊢
          have HK := Lib.hid hK
          clear hK
          go_simp
          exact HK.out _ _ rfl (Below.refl _ _)
        · refine OpIs.mk rfl ?_
          intro vs w1 hb hd K hK
          have d23 : vs 23 = .pointer (some ⟨g2, o2 + k * 2 + 1, none⟩) := hd 23 (by kernel_rfl)
          have d13 : vs 13 = .bool false := hd 13 (by kernel_rfl)
          have c0 := cell_call hb HE1.out
          simp only [frameV, List.setIfInBounds_toArray, List.set_cons_zero, List.set_cons_succ, List.getD_cons_zero, List.getD_cons_succ] at hK ⊢
          simp only [d23, d13] at hK ⊢
          have HK := Lib.hid hK
          clear hK
          go_simp
          exact HK.out _ _ rfl (Below.refl _ _)
        · refine OpIs.mk rfl ?_
          intro vs w1 hb hd K hK
          have d18 : vs 18 = .slice A3 e.2.length k3 := hd 18 (by kernel_rfl)
          have d24 : vs 24 = .slice A5 e.2.length k5 := hd 24 (by kernel_rfl)
          have d13 : vs 13 = .bool false := hd 13 (by kernel_rfl)
          simp only [frameV, List.setIfInBounds_toArray, List.set_cons_zero, List.set_cons_succ, List.getD_cons_zero, List.getD_cons_succ] at hK ⊢
          simp only [d18, d24, d13] at hK ⊢
          have HK := Lib.hid hK
          clear hK
          go_simp
          go_at_call 24
          refine (same_any (b := true) (HRE.out.below hb (Nat.le_refl _)) (HQE.out.below hb (Nat.le_refl _)) HLS.out.2.1 HLS.out.2.1 HLS.out.2.2 (by simp)).mono ?_
          rintro r w3 ⟨rfl, hb3⟩
          exact HK.out _ _ rfl hb3
        · refine OpIs.mk rfl ?_
          intro vs w1 hb hd K hK
          have d25 : vs 25 = .bool true := hd 25 (by kernel_rfl)
          have d13 : vs 13 = .bool false := hd 13 (by kernel_rfl)
          simp only [frameV, List.setIfInBounds_toArray, List.set_cons_zero, List.set_cons_succ, List.getD_cons_zero, List.getD_cons_succ] at hK ⊢
          simp only [d25, d13] at hK ⊢
          have HK := Lib.hid hK
          clear hK
          go_simp
          exact HK.out _ _ rfl (Below.refl _ _)
      · intro vs w3 hb hd
        have d13 : vs 13 = .bool false := hd 13 (by omega)
        have d26 : vs 26 = .bool false := hd 26 (by omega)
        have HB3 := Lib.hid (HB.out.trans (hb.mono HB.out.size))
        simp only [frameV, List.setIfInBounds_toArray, List.set_cons_zero, List.set_cons_succ, List.drop_succ_cons, List.drop_zero, d13, d26]
        clear hb hd
        go_wp2
        go_roundw
        case rel => exact ⟨k + 1, by omega, by go_num, HB3.out⟩
        case measure => simp [intOf]; omega
    · obtain rfl : k = n := by omega
      clear hlt
      go_wp2
      go_ret
      exact ⟨rfl, HB2.out.trans (HB.out.mono HB2.out.size)⟩
end Go.Proofs.YtaabdpfhpolcgaaGreat
