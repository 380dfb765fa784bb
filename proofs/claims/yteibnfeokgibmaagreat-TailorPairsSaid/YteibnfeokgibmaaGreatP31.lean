/-
  PACKED for a claim.
-/
import Derived.Deep.CutRange
import Derived.Test.YteibnfeokgibmaaGreatP30
set_option linter.unusedVariables false
set_option linter.unusedSimpArgs false
set_option maxRecDepth 100000
namespace Go.Proofs.YteibnfeokgibmaaGreat
open Go.RowKit
theorem cnt_at {L : List PE} {s : List Int} {a : Nat} (ha : a <= L.length) (h1 : ∀ k e, k < a -> L[k]? = some e -> befB e.1 s = true) (h2 : ∀ k e, a <= k -> L[k]? = some e -> befB e.1 s = false) : cnt L s = a := by
 have h : L = L.take a ++ L.drop a := (List.take_append_drop a L).symm
 have c1 : (L.take a).countP (fun e => befB e.1 s) = a := by
  rw [List.countP_eq_length.2, List.length_take]
  ·omega
  ·intro e he; obtain ⟨k, hk⟩ := List.mem_iff_getElem?.1 he; rw [List.getElem?_take] at hk
   split at hk
   ·rename_i hka; exact h1 k e hka hk
   ·cases hk
 have c2 : (L.drop a).countP (fun e => befB e.1 s) = 0 := by
  rw [List.countP_eq_zero]; intro e he; obtain ⟨k, hk⟩ := List.mem_iff_getElem?.1 he; rw [List.getElem?_drop] at hk; rw [h2 (a + k) e (by omega) hk]; simp
 unfold cnt; rw [h, List.countP_append, c1, c2]; rfl
theorem ypt {L : List PE} (hs : Srt L) {s : List Int} {i j : Nat} {e f : PE} (hi : L[i]? = some e) (hj : L[j]? = some f) (hij : i <= j) (h : befB f.1 s = true) : befB e.1 s = true := by
 rcases Nat.lt_or_eq_of_le hij with hlt | rfl
 ·have h1 : ord e.1 f.1 < 0 := by
   obtain ⟨hi1, hi2⟩ := List.getElem?_eq_some_iff.1 hi; obtain ⟨hj1, hj2⟩ := List.getElem?_eq_some_iff.1 hj
   have := List.pairwise_iff_getElem.1 hs i j hi1 hj1 hlt
   rw [hi2, hj2] at this; exact this
  unfold befB at h |-
  simp at h |-
  exact to_ord.trans _ _ _ h1 h
 ·rw [hi] at hj; cases hj; exact h
set_option maxHeartbeats 16000000 in
theorem yqg {F G : Nat -> Prop} {w : World} {v : Value} {M : List ME} {x : ME} (hM : RdM F w v M) (hx : EntOk G w x) (hs : Srt (pls M)) (hl : ∀ m ∈ M, 1 <= m.s.length /\ m.s.length <= 3) (h1 : 1 <= x.s.length) (h3 : x.s.length <= 3) (hn : M.length <= 500) {q : Nat} (hq : cnt (pls M) x.s = q) :
  Calls Tryz.prog 213 #[v, .agg #[x.vs, x.vl], .func (.func 40) #[] #[]] w fun e w' => (∃ b, e = .returned (.tuple #[.int .i64 (q : Nat), .bool b])) /\ Below w.heap.size w w' := by
 obtain ⟨A, c, rfl⟩ := hM.form; obtain ⟨a1, n1, e1⟩ := hx.1.form; obtain ⟨a2, n2, e2⟩ := hx.2.form; have hA := yaa w (.cells #[x.vs, x.vl] 88); have HM := zH (hM.below hA (zN _)); have HX := zH ((hx.mono (G := anyB) fun _ _ => trivial).below hA (zN _))
 have hx0 : (w.alloc (.cells #[x.vs, x.vl] 88)).cell? ⟨w.heap.size, 0, none⟩ = some x.vs := by rw [cell_of_row _ _ 0 _ _ _ (heap_alloc_new w _)]; rfl
 have hx1 : (w.alloc (.cells #[x.vs, x.vl] 88)).cell? ⟨w.heap.size, 1, none⟩ = some x.vl := by rw [cell_of_row _ _ 1 _ _ _ (heap_alloc_new w _)]; rfl
 rw [e1, e2] at hx0 hx1 hA HM HX; rw [e1, e2]; have HB0 := zH hA; have HX0 := zH hx0; have HX1 := zH hx1; have HS := zH hs; have HL := zH hl; have HQ := zH hq; have HE1 := zH e1; have HE2 := zH e2; obtain ⟨n, hnn⟩ : ∃ n, M.length = n := ⟨_, rfl⟩; have HN := zH hnn
 have HF : Hid (∀ k (m : ME), M[k]? = some m -> (pls M)[k]? = some m.pl) := fun k m hk => pls_at hk
 rw [hnn] at HM hn |-
 have hnI : (n : Int) <= 500 := by omega
 clear hM hx hs hl hx0 hx1 hA hq hnn e1 e2
 go_enter Tryz.func213, Tryz.ntmps213
 go_wp2
 generalize (w.alloc (.cells #[.slice a1 x.s.length n1, .slice a2 x.l.length n2] 88)) = w0 at HM HX HB0 HX0 HX1 |-; obtain ⟨bx, hbx⟩ : ∃ b, w.heap.size = b := ⟨_, rfl⟩; have HBX := zH hbx; rw [hbx] at HX0 HX1; rw [show (({ block := w.heap.size, off := 0 } : Addr)) = ⟨bx, 0, none⟩ by rw [hbx]]
 clear hbx
 go_loopw [9, 10] (fun i j wr => ∃ a b : Nat, a <= b /\ b <= n /\ i = .int .i64 (a : Nat) /\ j = .int .i64 (b : Nat) /\ Hid (Below w0.heap.size w0 wr) /\ Hid (∀ k e, k < a -> (pls M)[k]? = some e -> befB e.1 x.s = true) /\ Hid (∀ k e, b <= k -> (pls M)[k]? = some e -> befB e.1 x.s = false)) (fun i j _ => (intOf j).toNat - (intOf i).toNat)
 case atStart => exact ⟨0, n, Nat.zero_le _, zN _, rfl, rfl, zR _ _, fun k e hk => absurd hk (Nat.not_lt_zero _), fun k e hk he => absurd (List.getElem?_eq_some_iff.1 he).1 (by rw [yap, HN.out]; omega)⟩
 case round =>
  obtain ⟨a, b, hab, hbn, rfl, rfl, HB, HA1, HA2⟩ := hrel
  by_cases hlt : a < b
  ·have hltI : (a : Int) < (b : Int) := by omega
   obtain ⟨h, hh⟩ : ∃ h, (a + b) / 2 = h := ⟨_, rfl⟩
   have hha : a <= h := by omega
   have hhb : h < b := by omega
   have r1 : IntKind.i64.wrap ((a : Int) + (b : Int)) = (a : Int) + (b : Int) := IntWalk.i64_in _ (by omega)
   obtain ⟨m, hm⟩ : ∃ m, M[h]? = some m := ⟨_, List.getElem?_eq_getElem (by rw [HN.out]; omega)⟩
   obtain ⟨g1, o1, rfl, c0, c1, hok⟩ := (HM.out.below HB.out (zN _)).at hm; obtain ⟨A2, k2, e2⟩ := hok.1.form; obtain ⟨A3, k3, e3⟩ := hok.2.form; have HOK := zH (hok.mono (G := anyB) fun _ _ => trivial)
   have HF2 := zH e2; have HF3 := zH e3; rw [e2] at c0; rw [e3] at c1; have HC0 := zH c0; have HC1 := zH c1; have HMM := zH hm; have cx0 := (HB.out.cell (p := ⟨bx, 0, none⟩) (yaj HX0.out)).trans HX0.out; have cx1 := (HB.out.cell (p := ⟨bx, 1, none⟩) (yaj HX1.out)).trans HX1.out; have HCX0 := zH cx0; have HCX1 := zH cx1; have HXR := zH (HX.out.below HB.out (zN _)); obtain ⟨z, hz⟩ : ∃ z, ord m.s x.s = z := ⟨_, rfl⟩; have HZ := zH hz
   have hhI : (h : Int) < (n : Int) := by omega
   clear hok e2 e3 c0 c1 cx0 cx1 hm hz
   go_upto_region 5 with fail
   rw [show ((a : Int) + (b : Int)) / 2 = (h : Int) by omega]
   have CO : Hid (∀ w1, Below wr.heap.size wr w1 -> Calls Tryz.prog 40 #[.agg #[.slice A2 m.s.length k2, .slice A3 m.l.length k3], .agg #[.slice a1 x.s.length n1, .slice a2 x.l.length n2]] w1 fun e w' => e = .returned (.int .i64 z) /\ Below w1.heap.size w1 w') := fun w1 hb => by
    rw [<- HF2.out, <- HF3.out, <- HE1.out, <- HE2.out, <- HZ.out]; refine (yhy (HOK.out.below hb (zN _)) (HXR.out.below hb (zN _)) (HL.out m (List.mem_of_getElem? HMM.out)).1 h1 (by have := (HL.out m (List.mem_of_getElem? HMM.out)).2; omega) (by omega)).mono fun e w' hh => ⟨hh.1, hh.2.below⟩
   refine yag (m := 7) [24, 25, 26, 27, 28, 29, 30] [SV.eq (.func (.func 40) #[] #[]), SV.eq (.slice (some ⟨g1, o1, none⟩) n c), SV.eq (.int .i64 (h : Int)), SV.eq (.pointer (some ⟨g1, o1 + h * 2, none⟩)), SV.eq (.agg #[.slice A2 m.s.length k2, .slice A3 m.l.length k3]), SV.eq (.agg #[.slice a1 x.s.length n1, .slice a2 x.l.length n2]), SV.eq (.int .i64 z)] (by kernel_rfl) (by kernel_rfl) ?_ ?_
   ·refine ⟨⟨⟨⟨⟨⟨⟨trivial, ?_⟩, ?_⟩, ?_⟩, ?_⟩, ?_⟩, ?_⟩, ?_⟩
    all_goals (refine OpIs.mk rfl ?_; intro vs w1 hb hd K hK; simp only [frameV, zS, zA, zB, zC, zD] at hK |-)
    iterate 3 (·have HK := zH hK; clear hK; go_simp; exact HK.out _ _ rfl (zR _ _))
    ·have d1 : vs 1 = .slice (some ⟨g1, o1, none⟩) n c := hd 1 (by kernel_rfl)
     have d2 : vs 2 = .int .i64 (h : Int) := hd 2 (by kernel_rfl)
     simp only [d1, d2] at hK |-; have HK := zH hK; clear hK; go_simp; exact HK.out _ _ rfl (zR _ _)
    ·have d3 : vs 3 = .pointer (some ⟨g1, o1 + h * 2, none⟩) := hd 3 (by kernel_rfl)
     have c0 := yab hb HC0.out; have c1 := yab hb HC1.out; simp only [d3] at hK |-; have HK := zH hK; clear hK; go_simp; exact HK.out _ _ rfl (zR _ _)
    ·have c0 := yab hb HCX0.out; have c1 := yab hb HCX1.out; have HK := zH hK; clear hK; go_simp; exact HK.out _ _ rfl (zR _ _)
    ·have d0 : vs 0 = .func (.func 40) #[] #[] := hd 0 (by kernel_rfl)
     have d4 : vs 4 = .agg #[.slice A2 m.s.length k2, .slice A3 m.l.length k3] := hd 4 (by kernel_rfl)
     have d5 : vs 5 = .agg #[.slice a1 x.s.length n1, .slice a2 x.l.length n2] := hd 5 (by kernel_rfl)
     simp only [d0, d4, d5] at hK |-; have HK := zH hK; clear hK; go_simp
     go_at_call 40
     refine (CO.out w1 hb).mono ?_; rintro r w3 ⟨rfl, hb3⟩; exact HK.out _ _ rfl hb3
   ·intro vs w3 hb hd
    have d6 : vs 6 = .int .i64 z := hd 6 (by omega)
    have HB3 := zH (HB.out.trans (hb.mono HB.out.size)); simp only [frameV, zS, zA, zB, List.drop_succ_cons, List.drop_zero, d6]; clear hb hd
    by_cases hz0 : z < 0
    ·have r2 : IntKind.i64.wrap ((h : Int) + 1) = (h : Int) + 1 := IntWalk.i64_in _ (by omega)
     go_wp2
     go_roundw
     case rel => exact ⟨h + 1, b, by omega, by omega, by go_num, rfl, HB3.out, fun k e hk he => ypt HS.out he (HF.out h m HMM.out) (by omega) (by show befB m.s x.s = true; unfold befB; rw [HZ.out]; simp [hz0]), HA2.out⟩
     case measure => simp [intOf]; omega
    ·go_wp2
     go_roundw
     case rel => exact ⟨a, h, by omega, by omega, rfl, rfl, HB3.out, HA1.out, fun k e hk he => (by cases hq : befB e.1 x.s with | false => rfl | true => exact absurd (ypt HS.out (HF.out h m HMM.out) he hk hq) (by show ¬ befB m.s x.s = true; unfold befB; rw [HZ.out]; simp; omega))⟩
     case measure => simp [intOf]; omega
  ·obtain rfl : a = b := by omega
   have hqa : q = a := by rw [<- HQ.out]; exact cnt_at (by rw [yap, HN.out]; exact hbn) HA1.out HA2.out
   subst hqa; clear hlt
   by_cases hlt : q < n
   ·skip
    have hltI : (q : Int) < (n : Int) := by omega
    obtain ⟨m, hm⟩ : ∃ m, M[q]? = some m := ⟨_, List.getElem?_eq_getElem (by rw [HN.out]; omega)⟩
    obtain ⟨g1, o1, rfl, c0, c1, hok⟩ := (HM.out.below HB.out (zN _)).at hm; obtain ⟨A2, k2, e2⟩ := hok.1.form; obtain ⟨A3, k3, e3⟩ := hok.2.form; have HOK := zH (hok.mono (G := anyB) fun _ _ => trivial)
    have HF2 := zH e2; have HF3 := zH e3; rw [e2] at c0; rw [e3] at c1; have HC0 := zH c0; have HC1 := zH c1; have HMM := zH hm; have cx0 := (HB.out.cell (p := ⟨bx, 0, none⟩) (yaj HX0.out)).trans HX0.out; have cx1 := (HB.out.cell (p := ⟨bx, 1, none⟩) (yaj HX1.out)).trans HX1.out; have HCX0 := zH cx0; have HCX1 := zH cx1; have HXR := zH (HX.out.below HB.out (zN _)); obtain ⟨z, hz⟩ : ∃ z, ord m.s x.s = z := ⟨_, rfl⟩; have HZ := zH hz; clear hok e2 e3 c0 c1 cx0 cx1 hm hz hlt
    have CO : Hid (∀ w1, Below wr.heap.size wr w1 -> Calls Tryz.prog 40 #[.agg #[.slice A2 m.s.length k2, .slice A3 m.l.length k3], .agg #[.slice a1 x.s.length n1, .slice a2 x.l.length n2]] w1 fun e w' => e = .returned (.int .i64 z) /\ Below w1.heap.size w1 w') := fun w1 hb => by
     rw [<- HF2.out, <- HF3.out, <- HE1.out, <- HE2.out, <- HZ.out]; refine (yhy (HOK.out.below hb (zN _)) (HXR.out.below hb (zN _)) (HL.out m (List.mem_of_getElem? HMM.out)).1 h1 (by have := (HL.out m (List.mem_of_getElem? HMM.out)).2; omega) (by omega)).mono fun e w' hh => ⟨hh.1, hh.2.below⟩
    go_wp2
    obtain ⟨zb, hzb⟩ : ∃ b, (z == 0) = b := ⟨_, rfl⟩; refine yag (m := 15) [35, 36, 37, 38, 39, 40, 41, 42, 43, 44, 45, 46, 47, 48, 6] [SV.eq (.int .i64 (q : Int)), SV.eq (.int .i64 (q : Int)), SV.eq (.int .i64 (n : Int)), SV.eq (.bool true), SV.eq (.bool true), SV.eq (.func (.func 40) #[] #[]), SV.eq (.slice (some ⟨g1, o1, none⟩) n c), SV.eq (.int .i64 (q : Int)), SV.eq (.pointer (some ⟨g1, o1 + q * 2, none⟩)), SV.eq (.agg #[.slice A2 m.s.length k2, .slice A3 m.l.length k3]), SV.eq (.agg #[.slice a1 x.s.length n1, .slice a2 x.l.length n2]), SV.eq (.int .i64 z), SV.eq (.bool zb), SV.eq (.bool zb), SV.eq (.int .i64 (q : Int))] (by kernel_rfl) (by kernel_rfl) ?_ ?_
    ·refine ⟨⟨⟨⟨⟨⟨⟨⟨⟨⟨⟨⟨⟨⟨⟨trivial, ?_⟩, ?_⟩, ?_⟩, ?_⟩, ?_⟩, ?_⟩, ?_⟩, ?_⟩, ?_⟩, ?_⟩, ?_⟩, ?_⟩, ?_⟩, ?_⟩, ?_⟩
     all_goals (refine OpIs.mk rfl ?_; intro vs w1 hb hd K hK; simp only [frameV, zS, zA, zB, zC, zD] at hK |-)
     iterate 3 (·have HK := zH hK; clear hK; go_simp; exact HK.out _ _ rfl (zR _ _))
     ·have d1 : vs 1 = .int .i64 (q : Int) := hd 1 (by kernel_rfl)
      have d2 : vs 2 = .int .i64 (n : Int) := hd 2 (by kernel_rfl)
      simp only [d1, d2] at hK |-; have HK := zH hK; clear hK; go_simp; exact HK.out _ _ rfl (zR _ _)
     ·have d3 : vs 3 = .bool true := hd 3 (by kernel_rfl)
      simp only [d3] at hK |-; have HK := zH hK; clear hK; go_simp; exact HK.out _ _ rfl (zR _ _)
     ·have d4 : vs 4 = .bool true := hd 4 (by kernel_rfl)
      simp only [d4] at hK |-; have HK := zH hK; clear hK; go_simp; exact HK.out _ _ rfl (zR _ _)
     ·have d4 : vs 4 = .bool true := hd 4 (by kernel_rfl)
      simp only [d4] at hK |-; have HK := zH hK; clear hK; go_simp; exact HK.out _ _ rfl (zR _ _)
     ·have d4 : vs 4 = .bool true := hd 4 (by kernel_rfl)
      simp only [d4] at hK |-; have HK := zH hK; clear hK; go_simp; exact HK.out _ _ rfl (zR _ _)
     ·have d6 : vs 6 = .slice (some ⟨g1, o1, none⟩) n c := hd 6 (by kernel_rfl)
      have d7 : vs 7 = .int .i64 (q : Int) := hd 7 (by kernel_rfl)
      have d4 : vs 4 = .bool true := hd 4 (by kernel_rfl)
      simp only [d6, d7, d4] at hK |-; have HK := zH hK; clear hK; go_simp; exact HK.out _ _ rfl (zR _ _)
     ·have d8 : vs 8 = .pointer (some ⟨g1, o1 + q * 2, none⟩) := hd 8 (by kernel_rfl)
      have d4 : vs 4 = .bool true := hd 4 (by kernel_rfl)
      have c0 := yab hb HC0.out; have c1 := yab hb HC1.out; simp only [d8, d4] at hK |-; have HK := zH hK; clear hK; go_simp; exact HK.out _ _ rfl (zR _ _)
     ·have d4 : vs 4 = .bool true := hd 4 (by kernel_rfl)
      have c0 := yab hb HCX0.out; have c1 := yab hb HCX1.out; simp only [d4] at hK |-; have HK := zH hK; clear hK; go_simp; exact HK.out _ _ rfl (zR _ _)
     ·have d5 : vs 5 = .func (.func 40) #[] #[] := hd 5 (by kernel_rfl)
      have d9 : vs 9 = .agg #[.slice A2 m.s.length k2, .slice A3 m.l.length k3] := hd 9 (by kernel_rfl)
      have d10 : vs 10 = .agg #[.slice a1 x.s.length n1, .slice a2 x.l.length n2] := hd 10 (by kernel_rfl)
      have d4 : vs 4 = .bool true := hd 4 (by kernel_rfl)
      simp only [d5, d9, d10, d4] at hK |-; have HK := zH hK; clear hK; go_simp
      go_at_call 40
      refine (CO.out w1 hb).mono ?_; rintro r w3 ⟨rfl, hb3⟩; exact HK.out _ _ rfl hb3
     ·have d11 : vs 11 = .int .i64 z := hd 11 (by kernel_rfl)
      have d4 : vs 4 = .bool true := hd 4 (by kernel_rfl)
      simp only [d11, d4] at hK |-; have HK := zH hK; clear hK; go_simp; exact HK.out _ _ rfl (zR _ _)
     ·have d4 : vs 4 = .bool true := hd 4 (by kernel_rfl)
      have d12 : vs 12 = .bool zb := hd 12 (by kernel_rfl)
      simp only [d4, d12] at hK |-; have HK := zH hK; clear hK; go_simp; exact HK.out _ _ rfl (zR _ _)
     ·have d0 : vs 0 = .int .i64 (q : Int) := hd 0 (by kernel_rfl)
      simp only [d0] at hK |-; have HK := zH hK; clear hK; go_simp; exact HK.out _ _ rfl (zR _ _)
    ·intro vs w3 hb hd
     have d14 : vs 14 = .int .i64 (q : Int) := hd 14 (by omega)
     have d13 : vs 13 = .bool zb := hd 13 (by omega)
     have HB3 := zH (HB0.out.trans ((HB.out.trans (hb.mono HB.out.size)).mono HB0.out.size)); simp only [frameV, zS, zA, zB, List.drop_succ_cons, List.drop_zero, d14, d13]; clear hb hd
     go_wp2
     go_ret2
     exact ⟨⟨_, rfl⟩, HB3.out⟩
   ·skip
    have hltI : ¬ (q : Int) < (n : Int) := by omega
    have hltN : ¬ q < n := hlt
    clear hlt
    go_wp2
    refine yag (m := 15) [35, 36, 37, 38, 39, 40, 41, 42, 43, 44, 45, 46, 47, 48, 6] [SV.eq (.int .i64 (q : Int)), SV.eq (.int .i64 (q : Int)), SV.eq (.int .i64 (n : Int)), SV.eq (.bool false), SV.eq (.bool false), SV.any, SV.any, SV.any, SV.any, SV.any, SV.any, SV.any, SV.any, SV.eq (.bool false), SV.eq (.int .i64 (q : Int))] (by kernel_rfl) (by kernel_rfl) ?_ ?_
    ·refine ⟨⟨⟨⟨⟨⟨⟨⟨⟨⟨⟨⟨⟨⟨⟨trivial, ?_⟩, ?_⟩, ?_⟩, ?_⟩, ?_⟩, ?_⟩, ?_⟩, ?_⟩, ?_⟩, ?_⟩, ?_⟩, ?_⟩, ?_⟩, ?_⟩, ?_⟩
     all_goals (refine OpIs.mk rfl ?_; intro vs w1 hb hd K hK; simp only [frameV, zS, zA, zB, zC, zD] at hK |-)
     iterate 3 (·have HK := zH hK; clear hK; go_simp; exact HK.out _ _ rfl (zR _ _))
     ·have d1 : vs 1 = .int .i64 (q : Int) := hd 1 (by kernel_rfl)
      have d2 : vs 2 = .int .i64 (n : Int) := hd 2 (by kernel_rfl)
      simp only [d1, d2] at hK |-; have HK := zH hK; clear hK; go_simp; exact HK.out _ _ rfl (zR _ _)
     ·have d3 : vs 3 = .bool false := hd 3 (by kernel_rfl)
      simp only [d3] at hK |-; have HK := zH hK; clear hK; go_simp; exact HK.out _ _ rfl (zR _ _)
     ·have d4 : vs 4 = .bool false := hd 4 (by kernel_rfl)
      simp only [d4] at hK |-; have HK := zH hK; clear hK; go_simp; exact HK.out _ _ trivial (zR _ _)
     ·have d4 : vs 4 = .bool false := hd 4 (by kernel_rfl)
      simp only [d4] at hK |-; have HK := zH hK; clear hK; go_simp; exact HK.out _ _ trivial (zR _ _)
     ·have d4 : vs 4 = .bool false := hd 4 (by kernel_rfl)
      simp only [d4] at hK |-; have HK := zH hK; clear hK; go_simp; exact HK.out _ _ trivial (zR _ _)
     ·have d4 : vs 4 = .bool false := hd 4 (by kernel_rfl)
      simp only [d4] at hK |-; have HK := zH hK; clear hK; go_simp; exact HK.out _ _ trivial (zR _ _)
     ·have d4 : vs 4 = .bool false := hd 4 (by kernel_rfl)
      simp only [d4] at hK |-; have HK := zH hK; clear hK; go_simp; exact HK.out _ _ trivial (zR _ _)
     ·have d4 : vs 4 = .bool false := hd 4 (by kernel_rfl)
      simp only [d4] at hK |-; have HK := zH hK; clear hK; go_simp; exact HK.out _ _ trivial (zR _ _)
     ·have d4 : vs 4 = .bool false := hd 4 (by kernel_rfl)
      simp only [d4] at hK |-; have HK := zH hK; clear hK; go_simp; exact HK.out _ _ trivial (zR _ _)
     ·have d4 : vs 4 = .bool false := hd 4 (by kernel_rfl)
      simp only [d4] at hK |-; have HK := zH hK; clear hK; go_simp; exact HK.out _ _ trivial (zR _ _)
     ·have d4 : vs 4 = .bool false := hd 4 (by kernel_rfl)
      simp only [d4] at hK |-; have HK := zH hK; clear hK; go_simp; exact HK.out _ _ rfl (zR _ _)
     ·have d0 : vs 0 = .int .i64 (q : Int) := hd 0 (by kernel_rfl)
      simp only [d0] at hK |-; have HK := zH hK; clear hK; go_simp; exact HK.out _ _ rfl (zR _ _)
    ·intro vs w3 hb hd
     have d14 : vs 14 = .int .i64 (q : Int) := hd 14 (by omega)
     have d13 : vs 13 = .bool false := hd 13 (by omega)
     have HB3 := zH (HB0.out.trans ((HB.out.trans (hb.mono HB.out.size)).mono HB0.out.size)); simp only [frameV, zS, zA, zB, List.drop_succ_cons, List.drop_zero, d14, d13]; clear hb hd
     go_wp2
     go_ret2
     exact ⟨⟨_, rfl⟩, HB3.out⟩
def zME : ME := ⟨.slice none 0 0, .slice none 0 0, [], []⟩
theorem ynn (n : Nat) : (madeCells (Value.agg #[.slice none 0 0, .slice none 0 0]).cells (n * 2)).toList = mcells (List.replicate n zME) := by
 apply List.ext_getElem?
 intro j
 by_cases hj : j < n * 2
 ·have hk : (List.replicate n zME)[j / 2]? = some zME := by rw [List.getElem?_replicate, if_pos (by omega)]
  obtain ⟨h1, h2⟩ := ycl hk
  have hl : (madeCells (Value.agg #[.slice none 0 0, .slice none 0 0]).cells (n * 2)).toList[j]? = some (.slice none 0 0) := by
   rcases Nat.mod_two_eq_zero_or_one j with e | e <;> simp [madeCells, Value.cells, hj, e]
  rw [hl]
  rcases Nat.mod_two_eq_zero_or_one j with e | e
  ·rw [show j / 2 * 2 = j by omega] at h1
   rw [h1]; rfl
  ·rw [show j / 2 * 2 + 1 = j by omega] at h2
   rw [h2]; rfl
 ·rw [List.getElem?_eq_none (by simp [madeCells]; omega), List.getElem?_eq_none (by rw [yaq, List.length_replicate]; omega)]
theorem yje {D R : List ME} {z m : ME} {k : Nat} (hk : D.length = k) : ((mcells (D ++ z :: R)).set (k * 2) m.vs).set (k * 2 + 1) m.vl = mcells (D ++ [m] ++ R) := by
 subst hk; rw [yaw, yaw, yaw, yes, List.append_assoc]; have hl := yaq D; rw [<- hl, List.set_append_right _ _ (zN _), List.set_append_right _ _ (by omega)]
 simp [mcells]
theorem yyk {n k : Nat} (h : k < n) : List.replicate (n - k) zME = zME :: List.replicate (n - (k + 1)) zME := by
 rw [show n - k = (n - (k + 1)) + 1 by omega, List.replicate_succ]
def SV.intsF (N : Nat) (l : List Int) : SV := ⟨fun v w => RdI (fun k => N <= k) w v l, fun _ _ _ h hb => h.below hb (zN _)⟩
def SV.elsF (N : Nat) (l : List Nat) : SV := ⟨fun v w => RdE (fun k => N <= k) w v l, fun _ _ _ h hb => h.below hb (zN _)⟩
def SV.entF (N : Nat) (s : List Int) (l : List Nat) : SV := ⟨fun v w => ∃ a b, v = .agg #[a, b] /\ RdI (fun k => N <= k) w a s /\ RdE (fun k => N <= k) w b l, fun _ _ _ ⟨a, b, e, h1, h2⟩ hb => ⟨a, b, e, h1.below hb (zN _), h2.below hb (zN _)⟩⟩
structure ES (w : World) (B g n : Nat) (L : List PE) (k : Nat) (wr : World) : Prop where
 own : ∃ D, pls D = L.take k /\ wr.ownsRow B 88 2 (.slice (some ⟨g, 0, none⟩) n n) n (mcells (D ++ List.replicate (n - k) zME)) /\ ∀ m ∈ D, EntOk (fun j => j ≠ g) wr m
 bel : Below w.heap.size w wr
theorem EntOk.miss {w w' : World} {g : Nat} {m : ME} (h : EntOk (fun j => j ≠ g) w m) (hg : w.grownBy w' (some g)) : EntOk (fun j => j ≠ g) w' m := h.frame fun k hk hl => hg.block k hl (by intro e; injection e with e; exact hk e)
theorem ES.more {w : World} {B g n : Nat} {L : List PE} {k : Nat} {wr wr' : World} (h : ES w B g n L k wr) (hb : Below wr.heap.size wr wr') : ES w B g n L k wr' := by
 obtain ⟨⟨D, h1, h2, h3⟩, h4⟩ := h; exact ⟨⟨D, h1, R4.yan h2 hb (zN _), fun m hm => (h3 m hm).below hb (zN _)⟩, h4.trans (hb.mono h4.size)⟩
theorem ES.put {w : World} {B g n : Nat} {L : List PE} {k : Nat} {wr : World} {e : PE} {a b : Value} {N : Nat} (h : ES w B g n L k wr) (hn : L.length = n) (hk : L[k]? = some e) (ha : RdI (fun j => N <= j) wr a e.1) (hb : RdE (fun j => N <= j) wr b e.2) (hN : g < N) (hB : w.heap.size <= B) :
  ES w B g n L (k + 1) ((wr.setCell ⟨g, k * 2, none⟩ a).setCell ⟨g, k * 2 + 1, none⟩ b) := by
 obtain ⟨⟨D, h1, h2, h3⟩, h4⟩ := h
 have hkn : k < n := by rw [<- hn]; exact (List.getElem?_eq_some_iff.1 hk).1
 have hD : D.length = k := by rw [<- yap, h1, List.length_take]; omega
 obtain ⟨s1, g1⟩ := h2.stored (k * 2) a; obtain ⟨s2, g2⟩ := s1.stored (k * 2 + 1) b
 have hgB : B <= g := (World.ownsRow.lt h2 g rfl).1
 refine ⟨⟨D ++ [⟨a, b, e.1, e.2⟩], ?_, ?_, fun m hm => ?_⟩, (h4.setCell (by show _ <= g; omega) _).setCell (by show _ <= g; omega) _⟩
 ·rw [yay, h1, List.take_add_one, hk]; rfl
 ·rw [yyk hkn] at s2; rw [<- yje (m := ⟨a, b, e.1, e.2⟩) hD]; exact s2
 ·rcases List.mem_append.1 hm with hm | hm
  ·exact ((h3 m hm).miss g1).miss g2
  ·simp at hm
   subst hm; exact EntOk.miss (EntOk.miss ⟨RdF.mono ha fun j hj => by omega, RdF.mono hb fun j hj => by omega⟩ g1) g2
theorem ES.done {w : World} {B g n : Nat} {L : List PE} {wr : World} (h : ES w B g n L n wr) (hn : L.length = n) : RdT anyB wr (.slice (some ⟨g, 0, none⟩) n n) L := by
 obtain ⟨⟨D, h1, h2, h3⟩, -⟩ := h; rw [<- hn, List.take_length] at h1
 have hD : D.length = n := by rw [<- yap, h1, hn]
 rw [Nat.sub_self, List.replicate_zero, List.append_nil, <- hD] at h2; refine ⟨D, h1, ?_, fun m hm => (h3 m hm).mono fun _ _ => trivial⟩
 have := RdF.of_own (F := anyB) h2 (fun _ _ => trivial)
 rw [hD] at this |-; exact this
theorem ES.cells {w : World} {B g n : Nat} {L : List PE} {k : Nat} {wr : World} (h : ES w B g n L k wr) (hk : k < n) (hn : L.length = n) : (∃ u, wr.cell? ⟨g, k * 2, none⟩ = some u) /\ (∃ u, wr.cell? ⟨g, k * 2 + 1, none⟩ = some u) /\ (∀ j, wr.frozen? ⟨g, j, none⟩ = false) := by
 obtain ⟨⟨D, h1, h2, -⟩, -⟩ := h
 have hD : D.length = k := by rw [<- yap, h1, List.length_take]; omega
 have hl : (mcells (D ++ List.replicate (n - k) zME)).length = n * 2 := by rw [yaq, List.length_append, List.length_replicate]; omega
 refine ⟨?_, ?_, fun j => h2.frozenAt j⟩
 iterate 2 (·rw [h2.cellAt _ (by omega), List.getElem?_eq_getElem (by omega)]; exact ⟨_, rfl⟩)
set_option maxHeartbeats 4000000 in
theorem yns {F : Nat -> Prop} {w : World} {p : Nat} {L : List PE} (h : TabAt F w p L) :
  Calls Tryz.prog 223 #[.pointer (some ⟨p, 0, none⟩)] w fun e w' => (∃ A c, e = .returned (.slice A L.length c) /\ RdT anyB w' (.slice A L.length c) L) /\ Below w.heap.size w w' := by
 obtain ⟨A1, c1, bo, b2, b3, d0, -, -, -, hrt, -, -, -⟩ := h.cells; have HE := zH hrt; have hlen := h.good.len; obtain ⟨n, hn⟩ : ∃ n, L.length = n := ⟨_, rfl⟩; have HN := zH hn; have HD := zH d0; have HGOOD := zH h.good; rw [hn] at d0 HE HD hlen |-
 have hnI : (n : Int) <= 500 := by omega
 obtain ⟨i0, hi0, hz0, hz1, hz2⟩ := info_parts ybm; have HI := zH hi0; have HZ0 := zH hz0; have HZ1 := zH hz1; have HZ2 := zH hz2; clear hrt h hn hi0 hz0 hz1 hz2
 go_enter Tryz.func223, Tryz.ntmps223
 go_wp2_with (refine wpList_make_full _ rfl (.tmp 10) (.tmp 10) 83 rfl w.heap.size 88 i0 _ 2 Tryz.underlying83 HI.out HZ0.out HZ1.out .i64 .i64 _ _ n rfl rfl rfl rfl (by rw [HZ2.out]; omega) (by simp only [maxLen]; omega) (zN _) ?_; intro w1 ho hg; have HS1 : Hid (ES w w.heap.size w.heap.size n L 0 w1) := ⟨⟨[], rfl, (by rw [List.nil_append, Nat.sub_zero, <- ynn]; exact ho), fun m hm => by cases hm⟩, (zR _ w).grown hg (zN _) (by simp)⟩; have d1 := (HS1.out.bel.cell (p := ⟨p, 0, none⟩) (yaj HD.out)).trans HD.out; clear ho hg d0)
 obtain ⟨g, hg⟩ : ∃ g, w.heap.size = g := ⟨_, rfl⟩; have HG := zH hg
 have HS2 : Hid (ES w g g n L 0 w1) := by rw [<- hg]; exact HS1.out
 rw [hg]; clear hg HS1 d1
 go_loopw [17] (fun i wr => ∃ k : Nat, k <= n /\ i = .int .i64 (k : Nat) /\ Hid (ES w g g n L k wr)) (fun i _ => n - (intOf i).toNat)
 case atStart => exact ⟨0, Nat.zero_le _, rfl, HS2.out⟩
 case round =>
  clear HS2; obtain ⟨k, hk, rfl, HS⟩ := hrel
  by_cases hlt : k < n
  ·obtain ⟨e, he⟩ : ∃ e, L[k]? = some e := ⟨_, List.getElem?_eq_getElem (by rw [HN.out]; exact hlt)⟩
   obtain ⟨g1, o1, vs, vl, rfl, c0, c1, hri, hre⟩ := (HE.out.below HS.out.bel (zN _)).at he; obtain ⟨A2, k2, rfl⟩ := hri.form; obtain ⟨A3, k3, rfl⟩ := hre.form; have HRI := zH hri; have HRE := zH hre; have HEE := zH he
   have hkI : (k : Int) < (n : Int) := by omega
   have hgw : g < wr.heap.size := by obtain ⟨D, _, h2, _⟩ := HS.out.own; exact (World.ownsRow.lt h2 g rfl).2
   have HGW := zH hgw; have HLS := zH (show e.1.length <= 1000000 /\ e.2.length <= 1000000 from ⟨by have := (HGOOD.out.seq e (List.mem_of_getElem? he)).2.1; omega, by have := (HGOOD.out.els e (List.mem_of_getElem? he)).1; omega⟩)
   clear hri hre he hlt hgw
   go_wp2
   have HSX := zH (HS.out.more (yaa wr (.cells #[.slice A2 e.1.length k2, .slice A3 e.2.length k3] 88))); have HRIX := zH (HRI.out.below (yaa wr (.cells #[.slice A2 e.1.length k2, .slice A3 e.2.length k3] 88)) (zN _)); have HREX := zH (HRE.out.below (yaa wr (.cells #[.slice A2 e.1.length k2, .slice A3 e.2.length k3] 88)) (zN _))
   have hx0 : (wr.alloc (.cells #[.slice A2 e.1.length k2, .slice A3 e.2.length k3] 88)).cell? ⟨wr.heap.size, 0, none⟩ = some (.slice A2 e.1.length k2) := by rw [cell_of_row _ _ 0 _ _ _ (heap_alloc_new wr _)]; rfl
   have hx1 : (wr.alloc (.cells #[.slice A2 e.1.length k2, .slice A3 e.2.length k3] 88)).cell? ⟨wr.heap.size, 1, none⟩ = some (.slice A3 e.2.length k3) := by rw [cell_of_row _ _ 1 _ _ _ (heap_alloc_new wr _)]; rfl
   have HX0 := zH hx0; have HX1 := zH hx1
   have HSZ : Hid ((wr.alloc (.cells #[.slice A2 e.1.length k2, .slice A3 e.2.length k3] 88)).heap.size = wr.heap.size + 1) := World.size_alloc _ _
   clear hx0 hx1 HS HRI HRE c0 c1; generalize (wr.alloc (.cells #[.slice A2 e.1.length k2, .slice A3 e.2.length k3] 88)) = wx at HSX HRIX HREX HX0 HX1 HSZ |-; obtain ⟨bx, hbx⟩ : ∃ bx, wr.heap.size = bx := ⟨_, rfl⟩; rw [hbx] at HX0 HX1 HSZ HGW |-; clear hbx; refine yag (m := 10) [22, 23, 24, 25, 26, 27, 28, 29, 30, 31] [SV.eq (.slice (some ⟨g, 0, none⟩) n n), SV.eq (.int .i64 (k : Int)), SV.eq (.pointer (some ⟨bx, 0, none⟩)), SV.eq (.slice A2 e.1.length k2), SV.intsF wx.heap.size e.1, SV.eq (.pointer (some ⟨bx, 1, none⟩)), SV.eq (.slice A3 e.2.length k3), SV.elsF wx.heap.size e.2, SV.entF wx.heap.size e.1 e.2, SV.eq (.pointer (some ⟨g, k * 2, none⟩))] (by kernel_rfl) (by kernel_rfl) ?_ ?_
   ·refine ⟨⟨⟨⟨⟨⟨⟨⟨⟨⟨trivial, ?_⟩, ?_⟩, ?_⟩, ?_⟩, ?_⟩, ?_⟩, ?_⟩, ?_⟩, ?_⟩, ?_⟩
    all_goals (refine OpIs.mk rfl ?_; intro vs w1 hb hd K hK; simp only [frameV, zS, zA, zB, zC, zD] at hK |-)
    iterate 3 (·have HK := zH hK; clear hK; go_simp; exact HK.out _ _ rfl (zR _ _))
    ·have d2 : vs 2 = .pointer (some ⟨bx, 0, none⟩) := hd 2 (by kernel_rfl)
     have c0 := yab hb HX0.out; simp only [d2] at hK |-; have HK := zH hK; clear hK; go_simp; exact HK.out _ _ rfl (zR _ _)
    ·have d3 : vs 3 = .slice A2 e.1.length k2 := hd 3 (by kernel_rfl)
     simp only [d3] at hK |-; have HK := zH hK; clear hK; go_simp
     go_at_call 211
     refine (yfn (HRIX.out.below hb (zN _)) HLS.out.1).mono ?_; rintro r w3 ⟨⟨v', rfl, ho⟩, hb3⟩; exact HK.out _ _ (ybi ho fun j hj => Nat.le_trans hb.size hj) hb3
    ·have HK := zH hK; clear hK; go_simp; exact HK.out _ _ rfl (zR _ _)
    ·have d5 : vs 5 = .pointer (some ⟨bx, 1, none⟩) := hd 5 (by kernel_rfl)
     have c0 := yab hb HX1.out; simp only [d5] at hK |-; have HK := zH hK; clear hK; go_simp; exact HK.out _ _ rfl (zR _ _)
    ·have d6 : vs 6 = .slice A3 e.2.length k3 := hd 6 (by kernel_rfl)
     simp only [d6] at hK |-; have HK := zH hK; clear hK; go_simp
     go_at_call 212
     refine (yed (HREX.out.below hb (zN _)) HLS.out.2).mono ?_; rintro r w3 ⟨⟨v', rfl, ho⟩, hb3⟩; exact HK.out _ _ (ho.rd fun j hj => Nat.le_trans hb.size hj) hb3
    ·have d4 : RdI (fun j => wx.heap.size <= j) w1 (vs 4) e.1 := hd 4 (by kernel_rfl)
     have d7 : RdE (fun j => wx.heap.size <= j) w1 (vs 7) e.2 := hd 7 (by kernel_rfl)
     obtain ⟨Aa, ka, e4⟩ := RdI.form d4; obtain ⟨Ab, kb, e7⟩ := RdE.form d7; simp only [e4, e7] at hK |-; have HK := zH hK; clear hK; go_simp; exact HK.out _ _ ⟨_, _, rfl, e4 ▸ d4, e7 ▸ d7⟩ (zR _ _)
    ·have d0 : vs 0 = .slice (some ⟨g, 0, none⟩) n n := hd 0 (by kernel_rfl)
     have d1 : vs 1 = .int .i64 (k : Int) := hd 1 (by kernel_rfl)
     simp only [d0, d1] at hK |-; have HK := zH hK; clear hK; go_simp; exact HK.out _ _ rfl (zR _ _)
   ·intro vs w3 hb hd; obtain ⟨va, vb, d8, ha, hb8⟩ : ∃ a b, vs 8 = .agg #[a, b] /\ RdI (fun j => wx.heap.size <= j) w3 a e.1 /\ RdE (fun j => wx.heap.size <= j) w3 b e.2 := hd 8 (by omega)
    have d9 : vs 9 = .pointer (some ⟨g, k * 2, none⟩) := hd 9 (by omega)
    have HS3 := zH (HSX.out.more hb); obtain ⟨⟨u0, f0⟩, ⟨u1, f1⟩, ff⟩ := HS3.out.cells (by omega) HN.out
    have ff0 := ff (k * 2); have ff1 := ff (k * 2 + 1); have HS4 := zH (HS3.out.put HN.out HEE.out ha hb8 (by have := HSZ.out; have := HGW.out; omega) (Nat.le_of_eq HG.out))
    obtain ⟨Aa, ka, rfl⟩ := ha.form; obtain ⟨Ab, kb, rfl⟩ := hb8.form; simp only [frameV, zS, zA, zB, List.drop_succ_cons, List.drop_zero, d8, d9]; clear ha hb8 hb hd ff
    go_wp2
    go_roundw
    case rel => exact ⟨k + 1, by omega, by go_num, HS4.out⟩
    case measure => simp [intOf]; omega
  ·obtain rfl : k = n := by omega
   clear hlt
   go_wp2
   go_ret
   exact ⟨⟨_, _, rfl, HS.out.done HN.out⟩, HS.out.bel⟩
structure C4 (w : World) (b : Nat) (P S T : Value) (V : Value) : Prop where
 blk : w.heap[b]? = some (.cells #[P, S, T, V] 77 (0, 0))
theorem C4.below {w w' : World} {b : Nat} {P S T V : Value} (h : C4 w b P S T V) (hb : Below w.heap.size w w') : C4 w' b P S T V := ⟨(hb.block b (R4.yad h.blk)).trans h.blk⟩
theorem C4.cells {w : World} {b : Nat} {P S T V : Value} (h : C4 w b P S T V) : w.cell? ⟨b, 0, none⟩ = some P /\ w.cell? ⟨b, 1, none⟩ = some S /\ w.cell? ⟨b, 2, none⟩ = some T /\ w.cell? ⟨b, 3, none⟩ = some V := by
 refine ⟨?_, ?_, ?_, ?_⟩ <;> rw [cell_of_row _ _ _ _ _ _ h.blk] <;> rfl
theorem C4.fz {w : World} {b : Nat} {P S T V : Value} (h : C4 w b P S T V) (i : Nat) : w.frozen? ⟨b, i, none⟩ = false := frozen_of_row w b i _ _ h.blk
theorem C4.set {w : World} {b : Nat} {P S T V : Value} (h : C4 w b P S T V) (P' S' T' V' : Value) : C4 ((((w.setCell ⟨b, 0, none⟩ P').setCell ⟨b, 1, none⟩ S').setCell ⟨b, 2, none⟩ T').setCell ⟨b, 3, none⟩ V') b P' S' T' V' := by
 have h1 : (w.setCell ⟨b, 0, none⟩ P').heap[b]? = some (.cells #[P', S, T, V] 77 (0, 0)) := heap_setCell_same w b 0 _ _ P' h.blk
 have h2 : ((w.setCell ⟨b, 0, none⟩ P').setCell ⟨b, 1, none⟩ S').heap[b]? = some (.cells #[P', S', T, V] 77 (0, 0)) := heap_setCell_same _ b 1 _ _ S' h1
 have h3 : (((w.setCell ⟨b, 0, none⟩ P').setCell ⟨b, 1, none⟩ S').setCell ⟨b, 2, none⟩ T').heap[b]? = some (.cells #[P', S', T', V] 77 (0, 0)) := heap_setCell_same _ b 2 _ _ T' h2
 exact ⟨heap_setCell_same _ b 3 _ _ V' h3⟩
theorem C4.bel {w w0 : World} {B b : Nat} {P' S' T' V' : Value} (h : Below B w0 w) (hB : B <= b) : Below B w0 ((((w.setCell ⟨b, 0, none⟩ P').setCell ⟨b, 1, none⟩ S').setCell ⟨b, 2, none⟩ T').setCell ⟨b, 3, none⟩ V') :=
 (((h.setCell (by show B <= b; exact hB) _).setCell (by show B <= b; exact hB) _).setCell (by show B <= b; exact hB) _).setCell (by show B <= b; exact hB) _
theorem C4.set0 {w : World} {b : Nat} {P S T V : Value} (h : C4 w b P S T V) (X : Value) : C4 (w.setCell ⟨b, 0, none⟩ X) b X S T V := ⟨heap_setCell_same w b 0 _ _ X h.blk⟩
theorem C4.set1 {w : World} {b : Nat} {P S T V : Value} (h : C4 w b P S T V) (X : Value) : C4 (w.setCell ⟨b, 1, none⟩ X) b P X T V := ⟨heap_setCell_same w b 1 _ _ X h.blk⟩
theorem C4.set2 {w : World} {b : Nat} {P S T V : Value} (h : C4 w b P S T V) (X : Value) : C4 (w.setCell ⟨b, 2, none⟩ X) b P S X V := ⟨heap_setCell_same w b 2 _ _ X h.blk⟩
theorem C4.off {w : World} {b i : Nat} {a : Nat} {P S T V X : Value} (h : C4 w b P S T V) (hab : b ≠ a) : C4 (w.setCell ⟨a, i, none⟩ X) b P S T V := ⟨(Below.heap_setCell _ _ _ _ hab).trans h.blk⟩
end Go.Proofs.YteibnfeokgibmaaGreat
