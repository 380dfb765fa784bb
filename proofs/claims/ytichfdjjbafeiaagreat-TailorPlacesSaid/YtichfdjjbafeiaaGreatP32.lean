/-
  PACKED for a claim.
-/
import Derived.Deep.CutRange
import Derived.Test.YtichfdjjbafeiaaGreatP31
set_option linter.unusedVariables false
set_option linter.unusedSimpArgs false
set_option maxRecDepth 100000
namespace Go.Proofs.YtichfdjjbafeiaaGreat
open Go.RowKit
theorem cnt_at {L : List PE} {s : List Int} {a : Nat} (ha : a <= L.length) (h1 : ∀ k e, k < a -> L[k]? = some e -> befB e.1 s = true) (h2 : ∀ k e, a <= k -> L[k]? = some e -> befB e.1 s = false) : cnt L s = a := by
 have h : L = L.take a ++ L.drop a := (List.take_append_drop a L).symm
 have c1 : (L.take a).countP (fun e => befB e.1 s) = a := by
  rw [List.countP_eq_length.2, List.length_take]
  ·omega
  ·intro e he; obtain ⟨k, hk⟩ := List.mem_iff_getElem?.1 he; rw [List.getElem?_take] at hk
   split at hk
   ·rename_i hka; exact h1 k e hka hk
   ·cases hk
 have c2 : (L.drop a).countP (fun e => befB e.1 s) = 0 := by
  rw [List.countP_eq_zero]; intro e he; obtain ⟨k, hk⟩ := List.mem_iff_getElem?.1 he; rw [List.getElem?_drop] at hk; rw [h2 (a + k) e (by omega) hk]; simp
 unfold cnt; rw [h, List.countP_append, c1, c2]; rfl
theorem ymz {L : List PE} (hs : Srt L) {s : List Int} {i j : Nat} {e f : PE} (hi : L[i]? = some e) (hj : L[j]? = some f) (hij : i <= j) (h : befB f.1 s = true) : befB e.1 s = true := by
 rcases Nat.lt_or_eq_of_le hij with hlt | rfl
 ·have h1 : ord e.1 f.1 < 0 := by
   obtain ⟨hi1, hi2⟩ := List.getElem?_eq_some_iff.1 hi; obtain ⟨hj1, hj2⟩ := List.getElem?_eq_some_iff.1 hj
   have := List.pairwise_iff_getElem.1 hs i j hi1 hj1 hlt
   rw [hi2, hj2] at this; exact this
  unfold befB at h |-
  simp at h |-
  exact to_ord.trans _ _ _ h1 h
 ·rw [hi] at hj; cases hj; exact h
set_option maxHeartbeats 16000000 in
theorem ynk {F G : Nat -> Prop} {w : World} {v : Value} {M : List ME} {x : ME} (hM : RdM F w v M) (hx : EntOk G w x) (hs : Srt (pls M)) (hl : ∀ m ∈ M, 1 <= m.s.length /\ m.s.length <= 3) (h1 : 1 <= x.s.length) (h3 : x.s.length <= 3) (hn : M.length <= 500) {q : Nat} (hq : cnt (pls M) x.s = q) :
  Calls Tryz.prog 158 #[v, .agg #[x.vs, x.vl], .func (.func 29) #[] #[]] w fun e w' => (∃ b, e = .returned (.tuple #[.int .i64 (q : Nat), .bool b])) /\ Below w.heap.size w w' := by
 obtain ⟨A, c, rfl⟩ := hM.form; obtain ⟨a1, n1, e1⟩ := hx.1.form; obtain ⟨a2, n2, e2⟩ := hx.2.form; have hA := yab w (.cells #[x.vs, x.vl] 45); have HM := zH (hM.below hA (zN _)); have HX := zH ((hx.mono (G := anyB) fun _ _ => trivial).below hA (zN _))
 have hx0 : (w.alloc (.cells #[x.vs, x.vl] 45)).cell? ⟨w.heap.size, 0, none⟩ = some x.vs := by rw [cell_of_row _ _ 0 _ _ _ (heap_alloc_new w _)]; rfl
 have hx1 : (w.alloc (.cells #[x.vs, x.vl] 45)).cell? ⟨w.heap.size, 1, none⟩ = some x.vl := by rw [cell_of_row _ _ 1 _ _ _ (heap_alloc_new w _)]; rfl
 rw [e1, e2] at hx0 hx1 hA HM HX; rw [e1, e2]; have HB0 := zH hA; have HX0 := zH hx0; have HX1 := zH hx1; have HS := zH hs; have HL := zH hl; have HQ := zH hq; have HE1 := zH e1; have HE2 := zH e2; obtain ⟨n, hnn⟩ : ∃ n, M.length = n := ⟨_, rfl⟩; have HN := zH hnn
 have HF : Hid (∀ k (m : ME), M[k]? = some m -> (pls M)[k]? = some m.pl) := fun k m hk => pls_at hk
 rw [hnn] at HM hn |-
 have hnI : (n : Int) <= 500 := by omega
 clear hM hx hs hl hx0 hx1 hA hq hnn e1 e2
 go_enter Tryz.func158, Tryz.ntmps158
 go_wp2
 generalize (w.alloc (.cells #[.slice a1 x.s.length n1, .slice a2 x.l.length n2] 45)) = w0 at HM HX HB0 HX0 HX1 |-; obtain ⟨bx, hbx⟩ : ∃ b, w.heap.size = b := ⟨_, rfl⟩; have HBX := zH hbx; rw [hbx] at HX0 HX1; rw [show (({ block := w.heap.size, off := 0 } : Addr)) = ⟨bx, 0, none⟩ by rw [hbx]]
 clear hbx
 go_loopw [9, 10] (fun i j wr => ∃ a b : Nat, a <= b /\ b <= n /\ i = .int .i64 (a : Nat) /\ j = .int .i64 (b : Nat) /\ Hid (Below w0.heap.size w0 wr) /\ Hid (∀ k e, k < a -> (pls M)[k]? = some e -> befB e.1 x.s = true) /\ Hid (∀ k e, b <= k -> (pls M)[k]? = some e -> befB e.1 x.s = false)) (fun i j _ => (intOf j).toNat - (intOf i).toNat)
 case atStart => exact ⟨0, n, Nat.zero_le _, zN _, rfl, rfl, zR _ _, fun k e hk => absurd hk (Nat.not_lt_zero _), fun k e hk he => absurd (List.getElem?_eq_some_iff.1 he).1 (by rw [yao, HN.out]; omega)⟩
 case round =>
  obtain ⟨a, b, hab, hbn, rfl, rfl, HB, HA1, HA2⟩ := hrel
  by_cases hlt : a < b
  ·have hltI : (a : Int) < (b : Int) := by omega
   obtain ⟨h, hh⟩ : ∃ h, (a + b) / 2 = h := ⟨_, rfl⟩
   have hha : a <= h := by omega
   have hhb : h < b := by omega
   have r1 : IntKind.i64.wrap ((a : Int) + (b : Int)) = (a : Int) + (b : Int) := IntWalk.i64_in _ (by omega)
   obtain ⟨m, hm⟩ : ∃ m, M[h]? = some m := ⟨_, List.getElem?_eq_getElem (by rw [HN.out]; omega)⟩
   obtain ⟨g1, o1, rfl, c0, c1, hok⟩ := (HM.out.below HB.out (zN _)).at hm; obtain ⟨A2, k2, e2⟩ := hok.1.form; obtain ⟨A3, k3, e3⟩ := hok.2.form; have HOK := zH (hok.mono (G := anyB) fun _ _ => trivial)
   have HF2 := zH e2; have HF3 := zH e3; rw [e2] at c0; rw [e3] at c1; have HC0 := zH c0; have HC1 := zH c1; have HMM := zH hm; have cx0 := (HB.out.cell (p := ⟨bx, 0, none⟩) (yag HX0.out)).trans HX0.out; have cx1 := (HB.out.cell (p := ⟨bx, 1, none⟩) (yag HX1.out)).trans HX1.out; have HCX0 := zH cx0; have HCX1 := zH cx1; have HXR := zH (HX.out.below HB.out (zN _)); obtain ⟨z, hz⟩ : ∃ z, ord m.s x.s = z := ⟨_, rfl⟩; have HZ := zH hz
   have hhI : (h : Int) < (n : Int) := by omega
   clear hok e2 e3 c0 c1 cx0 cx1 hm hz
   go_upto_region 5 with fail
   rw [show ((a : Int) + (b : Int)) / 2 = (h : Int) by omega]
   have CO : Hid (∀ w1, Below wr.heap.size wr w1 -> Calls Tryz.prog 29 #[.agg #[.slice A2 m.s.length k2, .slice A3 m.l.length k3], .agg #[.slice a1 x.s.length n1, .slice a2 x.l.length n2]] w1 fun e w' => e = .returned (.int .i64 z) /\ Below w1.heap.size w1 w') := fun w1 hb => by
    rw [<- HF2.out, <- HF3.out, <- HE1.out, <- HE2.out, <- HZ.out]; refine (ygf (HOK.out.below hb (zN _)) (HXR.out.below hb (zN _)) (HL.out m (List.mem_of_getElem? HMM.out)).1 h1 (by have := (HL.out m (List.mem_of_getElem? HMM.out)).2; omega) (by omega)).mono fun e w' hh => ⟨hh.1, hh.2.below⟩
   refine ybc (m := 7) [24, 25, 26, 27, 28, 29, 30] [SV.eq (.func (.func 29) #[] #[]), SV.eq (.slice (some ⟨g1, o1, none⟩) n c), SV.eq (.int .i64 (h : Int)), SV.eq (.pointer (some ⟨g1, o1 + h * 2, none⟩)), SV.eq (.agg #[.slice A2 m.s.length k2, .slice A3 m.l.length k3]), SV.eq (.agg #[.slice a1 x.s.length n1, .slice a2 x.l.length n2]), SV.eq (.int .i64 z)] (by kernel_rfl) (by kernel_rfl) ?_ ?_
   ·refine ⟨⟨⟨⟨⟨⟨⟨trivial, ?_⟩, ?_⟩, ?_⟩, ?_⟩, ?_⟩, ?_⟩, ?_⟩
    all_goals (refine OpIs.mk rfl ?_; intro vs w1 hb hd K hK; simp only [frameV, zS, zA, zB, zC, zD] at hK |-)
    iterate 3 (·have HK := zH hK; clear hK; go_simp; exact HK.out _ _ rfl (zR _ _))
    ·have d1 : vs 1 = .slice (some ⟨g1, o1, none⟩) n c := hd 1 (by kernel_rfl)
     have d2 : vs 2 = .int .i64 (h : Int) := hd 2 (by kernel_rfl)
     simp only [d1, d2] at hK |-; have HK := zH hK; clear hK; go_simp; exact HK.out _ _ rfl (zR _ _)
    ·have d3 : vs 3 = .pointer (some ⟨g1, o1 + h * 2, none⟩) := hd 3 (by kernel_rfl)
     have c0 := yae hb HC0.out; have c1 := yae hb HC1.out; simp only [d3] at hK |-; have HK := zH hK; clear hK; go_simp; exact HK.out _ _ rfl (zR _ _)
    ·have c0 := yae hb HCX0.out; have c1 := yae hb HCX1.out; have HK := zH hK; clear hK; go_simp; exact HK.out _ _ rfl (zR _ _)
    ·have d0 : vs 0 = .func (.func 29) #[] #[] := hd 0 (by kernel_rfl)
     have d4 : vs 4 = .agg #[.slice A2 m.s.length k2, .slice A3 m.l.length k3] := hd 4 (by kernel_rfl)
     have d5 : vs 5 = .agg #[.slice a1 x.s.length n1, .slice a2 x.l.length n2] := hd 5 (by kernel_rfl)
     simp only [d0, d4, d5] at hK |-; have HK := zH hK; clear hK; go_simp
     go_at_call 29
     refine (CO.out w1 hb).mono ?_; rintro r w3 ⟨rfl, hb3⟩; exact HK.out _ _ rfl hb3
   ·intro vs w3 hb hd
    have d6 : vs 6 = .int .i64 z := hd 6 (by omega)
    have HB3 := zH (HB.out.trans (hb.mono HB.out.size)); simp only [frameV, zS, zA, zB, List.drop_succ_cons, List.drop_zero, d6]; clear hb hd
    by_cases hz0 : z < 0
    ·have r2 : IntKind.i64.wrap ((h : Int) + 1) = (h : Int) + 1 := IntWalk.i64_in _ (by omega)
     go_wp2
     go_roundw
     case rel => exact ⟨h + 1, b, by omega, by omega, by go_num, rfl, HB3.out, fun k e hk he => ymz HS.out he (HF.out h m HMM.out) (by omega) (by show befB m.s x.s = true; unfold befB; rw [HZ.out]; simp [hz0]), HA2.out⟩
     case measure => simp [intOf]; omega
    ·go_wp2
     go_roundw
     case rel => exact ⟨a, h, by omega, by omega, rfl, rfl, HB3.out, HA1.out, fun k e hk he => (by cases hq : befB e.1 x.s with | false => rfl | true => exact absurd (ymz HS.out (HF.out h m HMM.out) he hk hq) (by show ¬ befB m.s x.s = true; unfold befB; rw [HZ.out]; simp; omega))⟩
     case measure => simp [intOf]; omega
  ·obtain rfl : a = b := by omega
   have hqa : q = a := by rw [<- HQ.out]; exact cnt_at (by rw [yao, HN.out]; exact hbn) HA1.out HA2.out
   subst hqa; clear hlt
   by_cases hlt : q < n
   ·skip
    have hltI : (q : Int) < (n : Int) := by omega
    obtain ⟨m, hm⟩ : ∃ m, M[q]? = some m := ⟨_, List.getElem?_eq_getElem (by rw [HN.out]; omega)⟩
    obtain ⟨g1, o1, rfl, c0, c1, hok⟩ := (HM.out.below HB.out (zN _)).at hm; obtain ⟨A2, k2, e2⟩ := hok.1.form; obtain ⟨A3, k3, e3⟩ := hok.2.form; have HOK := zH (hok.mono (G := anyB) fun _ _ => trivial)
    have HF2 := zH e2; have HF3 := zH e3; rw [e2] at c0; rw [e3] at c1; have HC0 := zH c0; have HC1 := zH c1; have HMM := zH hm; have cx0 := (HB.out.cell (p := ⟨bx, 0, none⟩) (yag HX0.out)).trans HX0.out; have cx1 := (HB.out.cell (p := ⟨bx, 1, none⟩) (yag HX1.out)).trans HX1.out; have HCX0 := zH cx0; have HCX1 := zH cx1; have HXR := zH (HX.out.below HB.out (zN _)); obtain ⟨z, hz⟩ : ∃ z, ord m.s x.s = z := ⟨_, rfl⟩; have HZ := zH hz; clear hok e2 e3 c0 c1 cx0 cx1 hm hz hlt
    have CO : Hid (∀ w1, Below wr.heap.size wr w1 -> Calls Tryz.prog 29 #[.agg #[.slice A2 m.s.length k2, .slice A3 m.l.length k3], .agg #[.slice a1 x.s.length n1, .slice a2 x.l.length n2]] w1 fun e w' => e = .returned (.int .i64 z) /\ Below w1.heap.size w1 w') := fun w1 hb => by
     rw [<- HF2.out, <- HF3.out, <- HE1.out, <- HE2.out, <- HZ.out]; refine (ygf (HOK.out.below hb (zN _)) (HXR.out.below hb (zN _)) (HL.out m (List.mem_of_getElem? HMM.out)).1 h1 (by have := (HL.out m (List.mem_of_getElem? HMM.out)).2; omega) (by omega)).mono fun e w' hh => ⟨hh.1, hh.2.below⟩
    go_wp2
    obtain ⟨zb, hzb⟩ : ∃ b, (z == 0) = b := ⟨_, rfl⟩; refine ybc (m := 15) [35, 36, 37, 38, 39, 40, 41, 42, 43, 44, 45, 46, 47, 48, 6] [SV.eq (.int .i64 (q : Int)), SV.eq (.int .i64 (q : Int)), SV.eq (.int .i64 (n : Int)), SV.eq (.bool true), SV.eq (.bool true), SV.eq (.func (.func 29) #[] #[]), SV.eq (.slice (some ⟨g1, o1, none⟩) n c), SV.eq (.int .i64 (q : Int)), SV.eq (.pointer (some ⟨g1, o1 + q * 2, none⟩)), SV.eq (.agg #[.slice A2 m.s.length k2, .slice A3 m.l.length k3]), SV.eq (.agg #[.slice a1 x.s.length n1, .slice a2 x.l.length n2]), SV.eq (.int .i64 z), SV.eq (.bool zb), SV.eq (.bool zb), SV.eq (.int .i64 (q : Int))] (by kernel_rfl) (by kernel_rfl) ?_ ?_
    ·refine ⟨⟨⟨⟨⟨⟨⟨⟨⟨⟨⟨⟨⟨⟨⟨trivial, ?_⟩, ?_⟩, ?_⟩, ?_⟩, ?_⟩, ?_⟩, ?_⟩, ?_⟩, ?_⟩, ?_⟩, ?_⟩, ?_⟩, ?_⟩, ?_⟩, ?_⟩
     all_goals (refine OpIs.mk rfl ?_; intro vs w1 hb hd K hK; simp only [frameV, zS, zA, zB, zC, zD] at hK |-)
     iterate 3 (·have HK := zH hK; clear hK; go_simp; exact HK.out _ _ rfl (zR _ _))
     ·have d1 : vs 1 = .int .i64 (q : Int) := hd 1 (by kernel_rfl)
      have d2 : vs 2 = .int .i64 (n : Int) := hd 2 (by kernel_rfl)
      simp only [d1, d2] at hK |-; have HK := zH hK; clear hK; go_simp; exact HK.out _ _ rfl (zR _ _)
     ·have d3 : vs 3 = .bool true := hd 3 (by kernel_rfl)
      simp only [d3] at hK |-; have HK := zH hK; clear hK; go_simp; exact HK.out _ _ rfl (zR _ _)
     ·have d4 : vs 4 = .bool true := hd 4 (by kernel_rfl)
      simp only [d4] at hK |-; have HK := zH hK; clear hK; go_simp; exact HK.out _ _ rfl (zR _ _)
     ·have d4 : vs 4 = .bool true := hd 4 (by kernel_rfl)
      simp only [d4] at hK |-; have HK := zH hK; clear hK; go_simp; exact HK.out _ _ rfl (zR _ _)
     ·have d4 : vs 4 = .bool true := hd 4 (by kernel_rfl)
      simp only [d4] at hK |-; have HK := zH hK; clear hK; go_simp; exact HK.out _ _ rfl (zR _ _)
     ·have d6 : vs 6 = .slice (some ⟨g1, o1, none⟩) n c := hd 6 (by kernel_rfl)
      have d7 : vs 7 = .int .i64 (q : Int) := hd 7 (by kernel_rfl)
      have d4 : vs 4 = .bool true := hd 4 (by kernel_rfl)
      simp only [d6, d7, d4] at hK |-; have HK := zH hK; clear hK; go_simp; exact HK.out _ _ rfl (zR _ _)
     ·have d8 : vs 8 = .pointer (some ⟨g1, o1 + q * 2, none⟩) := hd 8 (by kernel_rfl)
      have d4 : vs 4 = .bool true := hd 4 (by kernel_rfl)
      have c0 := yae hb HC0.out; have c1 := yae hb HC1.out; simp only [d8, d4] at hK |-; have HK := zH hK; clear hK; go_simp; exact HK.out _ _ rfl (zR _ _)
     ·have d4 : vs 4 = .bool true := hd 4 (by kernel_rfl)
      have c0 := yae hb HCX0.out; have c1 := yae hb HCX1.out; simp only [d4] at hK |-; have HK := zH hK; clear hK; go_simp; exact HK.out _ _ rfl (zR _ _)
     ·have d5 : vs 5 = .func (.func 29) #[] #[] := hd 5 (by kernel_rfl)
      have d9 : vs 9 = .agg #[.slice A2 m.s.length k2, .slice A3 m.l.length k3] := hd 9 (by kernel_rfl)
      have d10 : vs 10 = .agg #[.slice a1 x.s.length n1, .slice a2 x.l.length n2] := hd 10 (by kernel_rfl)
      have d4 : vs 4 = .bool true := hd 4 (by kernel_rfl)
      simp only [d5, d9, d10, d4] at hK |-; have HK := zH hK; clear hK; go_simp
      go_at_call 29
      refine (CO.out w1 hb).mono ?_; rintro r w3 ⟨rfl, hb3⟩; exact HK.out _ _ rfl hb3
     ·have d11 : vs 11 = .int .i64 z := hd 11 (by kernel_rfl)
      have d4 : vs 4 = .bool true := hd 4 (by kernel_rfl)
      simp only [d11, d4] at hK |-; have HK := zH hK; clear hK; go_simp; exact HK.out _ _ rfl (zR _ _)
     ·have d4 : vs 4 = .bool true := hd 4 (by kernel_rfl)
      have d12 : vs 12 = .bool zb := hd 12 (by kernel_rfl)
      simp only [d4, d12] at hK |-; have HK := zH hK; clear hK; go_simp; exact HK.out _ _ rfl (zR _ _)
     ·have d0 : vs 0 = .int .i64 (q : Int) := hd 0 (by kernel_rfl)
      simp only [d0] at hK |-; have HK := zH hK; clear hK; go_simp; exact HK.out _ _ rfl (zR _ _)
    ·intro vs w3 hb hd
     have d14 : vs 14 = .int .i64 (q : Int) := hd 14 (by omega)
     have d13 : vs 13 = .bool zb := hd 13 (by omega)
     have HB3 := zH (HB0.out.trans ((HB.out.trans (hb.mono HB.out.size)).mono HB0.out.size)); simp only [frameV, zS, zA, zB, List.drop_succ_cons, List.drop_zero, d14, d13]; clear hb hd
     go_wp2
     go_ret2
     exact ⟨⟨_, rfl⟩, HB3.out⟩
   ·skip
    have hltI : ¬ (q : Int) < (n : Int) := by omega
    have hltN : ¬ q < n := hlt
    clear hlt
    go_wp2
    refine ybc (m := 15) [35, 36, 37, 38, 39, 40, 41, 42, 43, 44, 45, 46, 47, 48, 6] [SV.eq (.int .i64 (q : Int)), SV.eq (.int .i64 (q : Int)), SV.eq (.int .i64 (n : Int)), SV.eq (.bool false), SV.eq (.bool false), SV.any, SV.any, SV.any, SV.any, SV.any, SV.any, SV.any, SV.any, SV.eq (.bool false), SV.eq (.int .i64 (q : Int))] (by kernel_rfl) (by kernel_rfl) ?_ ?_
    ·refine ⟨⟨⟨⟨⟨⟨⟨⟨⟨⟨⟨⟨⟨⟨⟨trivial, ?_⟩, ?_⟩, ?_⟩, ?_⟩, ?_⟩, ?_⟩, ?_⟩, ?_⟩, ?_⟩, ?_⟩, ?_⟩, ?_⟩, ?_⟩, ?_⟩, ?_⟩
     all_goals (refine OpIs.mk rfl ?_; intro vs w1 hb hd K hK; simp only [frameV, zS, zA, zB, zC, zD] at hK |-)
     iterate 3 (·have HK := zH hK; clear hK; go_simp; exact HK.out _ _ rfl (zR _ _))
     ·have d1 : vs 1 = .int .i64 (q : Int) := hd 1 (by kernel_rfl)
      have d2 : vs 2 = .int .i64 (n : Int) := hd 2 (by kernel_rfl)
      simp only [d1, d2] at hK |-; have HK := zH hK; clear hK; go_simp; exact HK.out _ _ rfl (zR _ _)
     ·have d3 : vs 3 = .bool false := hd 3 (by kernel_rfl)
      simp only [d3] at hK |-; have HK := zH hK; clear hK; go_simp; exact HK.out _ _ rfl (zR _ _)
     ·have d4 : vs 4 = .bool false := hd 4 (by kernel_rfl)
      simp only [d4] at hK |-; have HK := zH hK; clear hK; go_simp; exact HK.out _ _ trivial (zR _ _)
     ·have d4 : vs 4 = .bool false := hd 4 (by kernel_rfl)
      simp only [d4] at hK |-; have HK := zH hK; clear hK; go_simp; exact HK.out _ _ trivial (zR _ _)
     ·have d4 : vs 4 = .bool false := hd 4 (by kernel_rfl)
      simp only [d4] at hK |-; have HK := zH hK; clear hK; go_simp; exact HK.out _ _ trivial (zR _ _)
     ·have d4 : vs 4 = .bool false := hd 4 (by kernel_rfl)
      simp only [d4] at hK |-; have HK := zH hK; clear hK; go_simp; exact HK.out _ _ trivial (zR _ _)
     ·have d4 : vs 4 = .bool false := hd 4 (by kernel_rfl)
      simp only [d4] at hK |-; have HK := zH hK; clear hK; go_simp; exact HK.out _ _ trivial (zR _ _)
     ·have d4 : vs 4 = .bool false := hd 4 (by kernel_rfl)
      simp only [d4] at hK |-; have HK := zH hK; clear hK; go_simp; exact HK.out _ _ trivial (zR _ _)
     ·have d4 : vs 4 = .bool false := hd 4 (by kernel_rfl)
      simp only [d4] at hK |-; have HK := zH hK; clear hK; go_simp; exact HK.out _ _ trivial (zR _ _)
     ·have d4 : vs 4 = .bool false := hd 4 (by kernel_rfl)
      simp only [d4] at hK |-; have HK := zH hK; clear hK; go_simp; exact HK.out _ _ trivial (zR _ _)
     ·have d4 : vs 4 = .bool false := hd 4 (by kernel_rfl)
      simp only [d4] at hK |-; have HK := zH hK; clear hK; go_simp; exact HK.out _ _ rfl (zR _ _)
     ·have d0 : vs 0 = .int .i64 (q : Int) := hd 0 (by kernel_rfl)
      simp only [d0] at hK |-; have HK := zH hK; clear hK; go_simp; exact HK.out _ _ rfl (zR _ _)
    ·intro vs w3 hb hd
     have d14 : vs 14 = .int .i64 (q : Int) := hd 14 (by omega)
     have d13 : vs 13 = .bool false := hd 13 (by omega)
     have HB3 := zH (HB0.out.trans ((HB.out.trans (hb.mono HB.out.size)).mono HB0.out.size)); simp only [frameV, zS, zA, zB, List.drop_succ_cons, List.drop_zero, d14, d13]; clear hb hd
     go_wp2
     go_ret2
     exact ⟨⟨_, rfl⟩, HB3.out⟩
end Go.Proofs.YtichfdjjbafeiaaGreat
