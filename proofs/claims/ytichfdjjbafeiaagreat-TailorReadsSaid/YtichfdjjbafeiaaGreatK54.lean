/-
  PACKED for a claim.
-/
import Derived.Test.YtichfdjjbafeiaaGreatK51
import Derived.Test.YtichfdjjbafeiaaGreatK52
import Derived.Test.YtichfdjjbafeiaaGreatK53
set_option linter.unusedVariables false
set_option linter.unusedSimpArgs false
set_option maxRecDepth 100000
namespace Go.Proofs.YtichfdjjbafeiaaGreat
open Go.RowKit
theorem yso : Lim 0 rootP := by
 have h : (rootP.all fun e => e.2.all fun x => decide (wgt 2 x <= 150) && decide (wgt 3 x <= 60)) = true := by decide +kernel
 intro e he x hx; have h2 := List.all_eq_true.1 (List.all_eq_true.1 h e he) x hx; simp only [Bool.and_eq_true, decide_eq_true_eq] at h2; exact ⟨h2.1, h2.2⟩
theorem ylg {s : ByteArray} (w : World) (hs : s.size <= 1000000) {l : List S6.RV} {at' E : Nat} (hR : S6.parse s.data.toList = (l, at', E)) :
  Calls Tryz.prog 48 #[.string s] w fun e w' => (∃ (A : Option Addr) (n c : Nat), e = .returned (.agg #[.slice A n c, .int .i64 (at' : Nat), .int .i64 (E : Nat)]) /\ n = l.length /\ S6.RdRs w' (.slice A n c) l) /\ Below w.heap.size w w' := by
 refine (S6.ywr w hs hR).mono fun e w' hh => ?_
 obtain ⟨⟨v, rfl, hr⟩, hb⟩ := hh; obtain ⟨A, c, rfl⟩ := hr.form; exact ⟨⟨A, _, c, rfl, rfl, hr⟩, hb⟩
def RReadIs (L : List PE) (k : Nat) (E : Int) (w : World) (q : Ending) (w' : World) : Prop :=
 (E = 0 -> ∃ u : Value, q = .returned (.tuple #[.agg #[u], .int .i64 (k : Nat), .int .i64 0]) /\ RefT w' u L) /\ (E ≠ 0 -> q = .returned (.tuple #[.agg #[.slice none 0 0], .int .i64 (k : Nat), .int .i64 E])) /\ Below w.heap.size w w'
set_option maxHeartbeats 4000000 in
theorem ysk {s : ByteArray} (w : World) (hs : s.size <= 1000000) {l : List S6.RV} {at' E : Nat} (hR : S6.parse s.data.toList = (l, at', E)) (hE : E ≠ 0) (L : List PE) :
  Calls Tryz.prog 21 #[.string s] w (RReadIs L at' E w) := by
 have CP := zH (ylg (w.alloc (.cells #[.slice none 0 0] 52)) hs hR); have H0 := zH (heap_alloc_new w (.cells #[.slice none 0 0] 52)); have HB := zH (yaa w (.cells #[.slice none 0 0] 52))
 have hen : ((E : Int) != 0) = true := by simpa using hE
 have HE : Hid (¬ (E : Int) = 0) := by show ¬ _; omega
 clear hs hR hE
 go_enter Tryz.func21, Tryz.ntmps21
 go_upto_region 3 with (go_at_call 48; refine (CP.out).mono ?_; rintro q w1 ⟨⟨A, n, c, rfl, -, hr⟩, hb⟩; have hal := yaa w1 (.cells #[.slice A n c, .int .i64 (at' : Nat), .int .i64 (E : Nat)] 105); have hx := heap_alloc_new w1 (.cells #[.slice A n c, .int .i64 (at' : Nat), .int .i64 (E : Nat)] 105); have HX := zH hx; have x0 := yad (i := 0) (v := .slice A n c) hx rfl; have x1 := yad (i := 1) (v := .int .i64 (at' : Nat)) hx rfl; have x2 := yad (i := 2) (v := .int .i64 (E : Nat)) hx rfl; have r1 := (hb.block w.heap.size (R4.yac H0.out)).trans H0.out; have r2 := (hal.block w.heap.size (R4.yac r1)).trans r1; have R2 := zH r2; have y2 := yad (i := 0) (v := .slice none 0 0) r2 rfl; have y2f := frozen_of_row _ w.heap.size 0 _ _ r2; have HR := zH (hr.below hal (zN _)); have HB2 := zH (HB.out.trans ((hb.trans (hal.mono hb.size)).mono HB.out.size)); clear hal hx r1 r2 hr hb)
 generalize (w1.alloc (.cells #[.slice A n c, .int .i64 (at' : Nat), .int .i64 (E : Nat)] 105)) = wc at HX R2 HR HB2 x0 x1 x2 y2 y2f |-
 go_region
 go_wp2
 have h9 := heap_setCell_same wc w.heap.size 0 _ _ (.slice none 0 0) R2.out
 have x9 : ((wc.setCell ⟨w.heap.size, 0, none⟩ (.slice none 0 0)).drew).cell? ⟨w.heap.size, 0, none⟩ = some (.slice none 0 0) := yad (i := 0) (v := .slice none 0 0) h9 rfl
 refine bodyPost_ret (v := .tuple #[.agg #[.slice none 0 0], .int .i64 (at' : Nat), .int .i64 (E : Nat)]) (by simp [results, Tryz.results21, go_sem, x9]) rfl ⟨fun h => absurd h HE.out, fun _ => rfl, (HB2.out.setCell (p := ⟨w.heap.size, 0, none⟩) (zN _) _).drew⟩
set_option maxHeartbeats 8000000 in
theorem ywq {s : ByteArray} (w : World) (hs : s.size <= 1000000) {l : List S6.RV} {at' : Nat} (hR : S6.parse s.data.toList = (l, at', 0)) {E : Int} (hE : appE rootP l = E) {L : List PE} (hL : appL rootP l = L) :
  Calls Tryz.prog 21 #[.string s] w (RReadIs L 0 E w) := by
 have CP : Hid (Calls Tryz.prog 48 #[.string s] (w.alloc (.cells #[.slice none 0 0] 52)) fun e w' => (∃ (A : Option Addr) (n c : Nat), e = .returned (.agg #[.slice A n c, .int .i64 (at' : Nat), .int .i64 0]) /\ n = l.length /\ S6.RdRs w' (.slice A n c) l) /\ Below (w.alloc (.cells #[.slice none 0 0] 52)).heap.size (w.alloc (.cells #[.slice none 0 0] 52)) w') := ylg _ hs hR
 have H0 := zH (heap_alloc_new w (.cells #[.slice none 0 0] 52)); have HB := zH (yaa w (.cells #[.slice none 0 0] 52)); have HRU := zH (yoi s.data.toList); rw [hR] at HRU; have HE := zH hE; have HL := zH hL
 have CA : Hid (∀ (w1 : World) (u rv : Value), RefT w1 u rootP -> S6.RdRs w1 rv l -> Calls Tryz.prog 19 #[.agg #[u], rv] w1 (RAppIs L E w1)) := fun w1 u rv ht hr => yqg ht root_good (by decide +kernel) hr (Nat.le_trans HRU.out.1 (by omega)) HRU.out.2 yso (by have h1 : l.length <= 40 := HRU.out.1; omega) HE.out HL.out
 obtain ⟨k, hk⟩ : ∃ e : Int, (at' : Int) = e := ⟨_, rfl⟩; rw [hk] at CP; clear hs hR hE hL hk HRU HE HL
 go_enter Tryz.func21, Tryz.ntmps21
 go_upto_region 4 with (go_at_call 48; refine (CP.out).mono ?_; rintro q w1 ⟨⟨A, n, c, rfl, -, hr⟩, hb⟩; have hal := yaa w1 (.cells #[.slice A n c, .int .i64 k, .int .i64 0] 105); have hx := heap_alloc_new w1 (.cells #[.slice A n c, .int .i64 k, .int .i64 0] 105); have HX := zH hx; have x0 := yad (i := 0) (v := .slice A n c) hx rfl; have x1 := yad (i := 1) (v := .int .i64 k) hx rfl; have x2 := yad (i := 2) (v := .int .i64 0) hx rfl; have r1 := (hb.block w.heap.size (R4.yac H0.out)).trans H0.out; have r2 := (hal.block w.heap.size (R4.yac r1)).trans r1; have R2 := zH r2; have y2 := yad (i := 0) (v := .slice none 0 0) r2 rfl; have y2f := frozen_of_row _ w.heap.size 0 _ _ r2; have HR := zH (hr.below hal (zN _)); have HB2 := zH (HB.out.trans ((hb.trans (hal.mono hb.size)).mono HB.out.size)); clear hal hx r1 r2 hr hb)
 clear x1 x2 y2 y2f; have X0 := zH x0; clear x0; obtain ⟨b2, hb2⟩ : ∃ b, w.heap.size = b := ⟨_, rfl⟩
 have HBL : Hid (w.heap.size <= b2) := by show _ <= _; omega
 obtain ⟨b5, hb5⟩ : ∃ b, w1.heap.size = b := ⟨_, rfl⟩; rw [hb5] at X0 |-; rw [hb2] at R2; rw [show (({ block := w.heap.size, off := 0 } : Addr)) = ⟨b2, 0, none⟩ by rw [hb2]]
 clear hb2 hb5 CP H0 HB HX; generalize (w1.alloc (.cells #[.slice A n c, .int .i64 k, .int .i64 0] 105)) = wc at X0 R2 HR HB2 |-
 by_cases hE0 : E = 0
 ·subst hE0; refine ycq (m := 8) 6 [19, 20, 21, 22, 18, 23, 24, 6] [SV.ref rootP, SV.eq (.pointer (some ⟨b5, 0, none⟩)), SV.eq (.slice A n c), SV.rw L, SV.rw L, SV.ref L, SV.eq (.int .i64 0), SV.newT wc.heap.size] (by kernel_rfl) (by kernel_rfl) ?_ ?_ ?_
  ·refine ⟨⟨⟨⟨⟨⟨⟨⟨trivial, ?_⟩, ?_⟩, ?_⟩, ?_⟩, ?_⟩, ?_⟩, ?_⟩, ?_⟩
   all_goals (refine OpIs.mk rfl ?_; intro vs w1 hb hd K hK; simp only [frameV, zS, zA, zB, zC, zD] at hK |-)
   ·have HK := zH hK; clear hK; go_simp
    go_at_call 18
    refine (ylf w1).mono ?_; rintro r5 w5 ⟨⟨u5, rfl, hu5⟩, hb5⟩; exact HK.out _ _ ⟨u5, rfl, hu5⟩ hb5
   ·have HK := zH hK; clear hK; go_simp; exact HK.out _ _ rfl (zR _ _)
   ·have d1 : vs 1 = .pointer (some ⟨b5, 0, none⟩) := hd 1 (by kernel_rfl)
    have c0 := yab hb X0.out; simp only [d1] at hK |-; have HK := zH hK; clear hK; go_simp; exact HK.out _ _ rfl (zR _ _)
   ·have d0 : ∃ u, (vs 0) = .agg #[u] /\ RefT w1 u rootP := hd 0 (by kernel_rfl)
    have d2 : vs 2 = .slice A n c := hd 2 (by kernel_rfl)
    have h7 := Exists.choose_spec d0; generalize Exists.choose d0 = u7 at h7; have e7 := h7.1; have hu7 := zH h7.2; clear h7 d0; simp only [d2] at hK |-; simp only [e7] at hK |-; have HK := zH hK; clear hK; go_simp
    go_at_call 19
    refine (CA.out w1 _ _ hu7.out (HR.out.below hb (zN _))).mono ?_; rintro r5 w5 ⟨h1, -, hb5⟩; obtain ⟨u5, rfl, hu5⟩ := h1 rfl; exact HK.out _ _ ⟨u5, rfl, hu5⟩ hb5
   ·have d3 : (SV.rw L).p (vs 3) w1 := hd 3 (by kernel_rfl)
    have h7 := Exists.choose_spec (SV.rw_get d3); generalize Exists.choose (SV.rw_get d3) = u7 at h7; have e7 := h7.1; have hu7 := zH h7.2; clear h7 d3; simp only [e7] at hK |-; have HK := zH hK; clear hK; go_simp; exact HK.out _ _ ⟨_, rfl, hu7.out⟩ (zR _ _)
   ·have d4 : (SV.rw L).p (vs 4) w1 := hd 4 (by kernel_rfl)
    have h7 := Exists.choose_spec (SV.rw_get d4); generalize Exists.choose (SV.rw_get d4) = u7 at h7; have e7 := h7.1; have hu7 := zH h7.2; clear h7 d4; simp only [e7] at hK |-; have HK := zH hK; clear hK; go_simp; exact HK.out _ _ ⟨_, rfl, hu7.out⟩ (zR _ _)
   ·have d4 : (SV.rw L).p (vs 4) w1 := hd 4 (by kernel_rfl)
    have h7 := Exists.choose_spec (SV.rw_get d4); generalize Exists.choose (SV.rw_get d4) = u7 at h7; have e7 := h7.1; have hu7 := zH h7.2; clear h7 d4; simp only [e7] at hK |-; have HK := zH hK; clear hK; go_simp; exact HK.out _ _ rfl (zR _ _)
   ·have HK := zH hK; clear hK; go_simp; exact HK.out _ _ ⟨_, rfl, hb.size, heap_alloc_new w1 _⟩ (yaa w1 _)
  ·intro vs w5 hb hd; obtain ⟨u5, e13, hu5⟩ : ∃ u, vs 5 = .agg #[u] /\ RefT w5 u L := hd 5 (by omega)
   obtain ⟨A5, c5, f5⟩ := hu5.form; obtain ⟨n5, hn5⟩ : ∃ n5, L.length = n5 := ⟨_, rfl⟩; rw [hn5] at f5; subst f5
   have e14 : vs 6 = .int .i64 0 := hd 6 (by omega)
   obtain ⟨g13, e15, hg13, hr13⟩ : ∃ g, vs 7 = .pointer (some ⟨g, 0, none⟩) /\ wc.heap.size <= g /\ w5.heap[g]? = some (.cells #[.slice none 0 0] 52 (0, 0)) := hd 7 (by omega)
   have x1 := yad (i := 0) (v := .slice none 0 0) hr13 rfl
   have x2 : w5.frozen? ⟨g13, 0, none⟩ = false := frozen_of_row _ _ 0 _ _ hr13
   have r5 := (hb.block b2 (R4.yac R2.out)).trans R2.out
   have ne2 : b2 ≠ g13 := by have := R4.yac R2.out; omega
   have HB5 := zH (HB2.out.trans (hb.mono HB2.out.size)); have h13 := heap_setCell_same w5 g13 0 _ _ (.slice A5 n5 c5) hr13; have r6 := (Below.heap_setCell w5 ⟨g13, 0, none⟩ (.slice A5 n5 c5) b2 ne2).trans r5; have R6 := zH r6; have y13 := yad (i := 0) (v := .slice A5 n5 c5) h13 rfl; have y2 := yad (i := 0) (v := .slice none 0 0) r6 rfl; have y2f := frozen_of_row _ b2 0 _ _ r6
   have HB6 : Hid (Below w.heap.size w (w5.setCell ⟨g13, 0, none⟩ (.slice A5 n5 c5))) := HB5.out.setCell (by show _ <= g13; have := HB2.out.size; omega) _
   have HU6 : Hid (RefT (w5.setCell ⟨g13, 0, none⟩ (.slice A5 n5 c5)) (.slice A5 n5 c5) L) := hu5.off (R4.yaf w5 ⟨g13, 0, none⟩ _) hr13 (by decide) (by decide) (by decide)
   simp only [frameV, zS, zA, zB, List.drop_succ_cons, List.drop_zero, List.take_succ_cons, List.take_zero, List.cons_append, List.nil_append, e13, e14, e15]; clear hb hd e13 e14 e15 hg13 hr13 r5 ne2 h13 r6 hu5 hn5
   go_wp2
   have h9 := heap_setCell_same (w5.setCell ⟨g13, 0, none⟩ (.slice A5 n5 c5)) b2 0 _ _ (.slice A5 n5 c5) R6.out; have x9 := yad (i := 0) (v := .slice A5 n5 c5) h9 rfl; refine bodyPost_ret (v := .tuple #[.agg #[.slice A5 n5 c5], .int .i64 0, .int .i64 0]) (by simp [results, Tryz.results21, go_sem, x9]) rfl ?_
   exact ⟨fun _ => ⟨_, rfl, HU6.out.off (R4.yaf _ ⟨b2, 0, none⟩ _) R6.out (by decide) (by decide) (by decide)⟩, fun h => absurd rfl h, HB6.out.setCell (by show _ <= b2; exact HBL.out) _⟩
  ·intro vs w5 hb hd; obtain ⟨u5, e13, hu5⟩ : ∃ u, vs 5 = .agg #[u] /\ RefT w5 u L := hd 5 (by omega) (by omega)
   obtain ⟨A5, c5, f5⟩ := hu5.form; obtain ⟨n5, hn5⟩ : ∃ n5, L.length = n5 := ⟨_, rfl⟩; rw [hn5] at f5; subst f5; obtain ⟨u8, e14, -⟩ : ∃ u, vs 4 = .tuple #[.agg #[u], .int .i64 0] /\ RefT w5 u L := hd 4 (by omega) (by omega)
   obtain ⟨g13, e15, hg13, hr13⟩ : ∃ g, vs 7 = .pointer (some ⟨g, 0, none⟩) /\ wc.heap.size <= g /\ w5.heap[g]? = some (.cells #[.slice none 0 0] 52 (0, 0)) := hd 7 (by omega) (by omega)
   have x1 := yad (i := 0) (v := .slice none 0 0) hr13 rfl
   have x2 : w5.frozen? ⟨g13, 0, none⟩ = false := frozen_of_row _ _ 0 _ _ hr13
   have r5 := (hb.block b2 (R4.yac R2.out)).trans R2.out
   have ne2 : b2 ≠ g13 := by have := R4.yac R2.out; omega
   have HB5 := zH (HB2.out.trans (hb.mono HB2.out.size)); have h13 := heap_setCell_same w5 g13 0 _ _ (.slice A5 n5 c5) hr13; have r6 := (Below.heap_setCell w5 ⟨g13, 0, none⟩ (.slice A5 n5 c5) b2 ne2).trans r5; have R6 := zH r6; have y13 := yad (i := 0) (v := .slice A5 n5 c5) h13 rfl; have y2 := yad (i := 0) (v := .slice none 0 0) r6 rfl; have y2f := frozen_of_row _ b2 0 _ _ r6
   have HB6 : Hid (Below w.heap.size w (w5.setCell ⟨g13, 0, none⟩ (.slice A5 n5 c5))) := HB5.out.setCell (by show _ <= g13; have := HB2.out.size; omega) _
   have HU6 : Hid (RefT (w5.setCell ⟨g13, 0, none⟩ (.slice A5 n5 c5)) (.slice A5 n5 c5) L) := hu5.off (R4.yaf w5 ⟨g13, 0, none⟩ _) hr13 (by decide) (by decide) (by decide)
   simp only [frameV, zS, zA, zB, List.drop_succ_cons, List.drop_zero, List.take_succ_cons, List.take_zero, List.cons_append, List.nil_append, e13, e14, e15]; clear hb hd e13 e14 e15 hg13 hr13 r5 ne2 h13 r6 hu5 hn5
   go_wp2
   have h9 := heap_setCell_same (w5.setCell ⟨g13, 0, none⟩ (.slice A5 n5 c5)) b2 0 _ _ (.slice A5 n5 c5) R6.out; have x9 := yad (i := 0) (v := .slice A5 n5 c5) h9 rfl; refine bodyPost_ret (v := .tuple #[.agg #[.slice A5 n5 c5], .int .i64 0, .int .i64 0]) (by simp [results, Tryz.results21, go_sem, x9]) rfl ?_
   exact ⟨fun _ => ⟨_, rfl, HU6.out.off (R4.yaf _ ⟨b2, 0, none⟩ _) R6.out (by decide) (by decide) (by decide)⟩, fun h => absurd rfl h, HB6.out.setCell (by show _ <= b2; exact HBL.out) _⟩
 ·have HE0 := zH hE0
  have hen : (E != 0) = true := by simpa using hE0
  clear hE0; refine ycq (m := 8) 6 [19, 20, 21, 22, 18, 23, 24, 6] [SV.ref rootP, SV.eq (.pointer (some ⟨b5, 0, none⟩)), SV.eq (.slice A n c), SV.eq (.tuple #[.agg #[.slice none 0 0], .int .i64 E]), SV.eq (.tuple #[.agg #[.slice none 0 0], .int .i64 E]), SV.eq (.agg #[.slice none 0 0]), SV.eq (.int .i64 E), SV.newT wc.heap.size] (by kernel_rfl) (by kernel_rfl) ?_ ?_ ?_
  ·refine ⟨⟨⟨⟨⟨⟨⟨⟨trivial, ?_⟩, ?_⟩, ?_⟩, ?_⟩, ?_⟩, ?_⟩, ?_⟩, ?_⟩
   all_goals (refine OpIs.mk rfl ?_; intro vs w1 hb hd K hK; simp only [frameV, zS, zA, zB, zC, zD] at hK |-)
   ·have HK := zH hK; clear hK; go_simp
    go_at_call 18
    refine (ylf w1).mono ?_; rintro r5 w5 ⟨⟨u5, rfl, hu5⟩, hb5⟩; exact HK.out _ _ ⟨u5, rfl, hu5⟩ hb5
   ·have HK := zH hK; clear hK; go_simp; exact HK.out _ _ rfl (zR _ _)
   ·have d1 : vs 1 = .pointer (some ⟨b5, 0, none⟩) := hd 1 (by kernel_rfl)
    have c0 := yab hb X0.out; simp only [d1] at hK |-; have HK := zH hK; clear hK; go_simp; exact HK.out _ _ rfl (zR _ _)
   ·have d0 : ∃ u, (vs 0) = .agg #[u] /\ RefT w1 u rootP := hd 0 (by kernel_rfl)
    have d2 : vs 2 = .slice A n c := hd 2 (by kernel_rfl)
    have h7 := Exists.choose_spec d0; generalize Exists.choose d0 = u7 at h7; have e7 := h7.1; have hu7 := zH h7.2; clear h7 d0; simp only [d2] at hK |-; simp only [e7] at hK |-; have HK := zH hK; clear hK; go_simp
    go_at_call 19
    refine (CA.out w1 _ _ hu7.out (HR.out.below hb (zN _))).mono ?_; rintro r5 w5 ⟨-, h1, hb5⟩; have h2 := h1 HE0.out; subst h2; exact HK.out _ _ rfl hb5
   ·have d3 : vs 3 = .tuple #[.agg #[.slice none 0 0], .int .i64 E] := hd 3 (by kernel_rfl)
    simp only [d3] at hK |-; have HK := zH hK; clear hK; go_simp; exact HK.out _ _ rfl (zR _ _)
   ·have d4 : vs 4 = .tuple #[.agg #[.slice none 0 0], .int .i64 E] := hd 4 (by kernel_rfl)
    simp only [d4] at hK |-; have HK := zH hK; clear hK; go_simp; exact HK.out _ _ rfl (zR _ _)
   ·have d4 : vs 4 = .tuple #[.agg #[.slice none 0 0], .int .i64 E] := hd 4 (by kernel_rfl)
    simp only [d4] at hK |-; have HK := zH hK; clear hK; go_simp; exact HK.out _ _ rfl (zR _ _)
   ·have HK := zH hK; clear hK; go_simp; exact HK.out _ _ ⟨_, rfl, hb.size, heap_alloc_new w1 _⟩ (yaa w1 _)
  ·intro vs w5 hb hd
   have e13 : vs 5 = .agg #[.slice none 0 0] := hd 5 (by omega)
   have e14 : vs 6 = .int .i64 E := hd 6 (by omega)
   obtain ⟨g13, e15, hg13, hr13⟩ : ∃ g, vs 7 = .pointer (some ⟨g, 0, none⟩) /\ wc.heap.size <= g /\ w5.heap[g]? = some (.cells #[.slice none 0 0] 52 (0, 0)) := hd 7 (by omega)
   have x1 := yad (i := 0) (v := .slice none 0 0) hr13 rfl
   have x2 : w5.frozen? ⟨g13, 0, none⟩ = false := frozen_of_row _ _ 0 _ _ hr13
   have r5 := (hb.block b2 (R4.yac R2.out)).trans R2.out
   have ne2 : b2 ≠ g13 := by have := R4.yac R2.out; omega
   have HB5 := zH (HB2.out.trans (hb.mono HB2.out.size)); have h13 := heap_setCell_same w5 g13 0 _ _ (.slice none 0 0) hr13; have r6 := (Below.heap_setCell w5 ⟨g13, 0, none⟩ (.slice none 0 0) b2 ne2).trans r5; have R6 := zH r6; have y13 := yad (i := 0) (v := .slice none 0 0) h13 rfl; have y2 := yad (i := 0) (v := .slice none 0 0) r6 rfl; have y2f := frozen_of_row _ b2 0 _ _ r6
   have HB6 : Hid (Below w.heap.size w (w5.setCell ⟨g13, 0, none⟩ (.slice none 0 0))) := HB5.out.setCell (by show _ <= g13; have := HB2.out.size; omega) _
   simp only [frameV, zS, zA, zB, List.drop_succ_cons, List.drop_zero, List.take_succ_cons, List.take_zero, List.cons_append, List.nil_append, e13, e14, e15]; clear hb hd e13 e14 e15 hg13 hr13 r5 ne2 h13 r6
   go_wp2
   have h9 := heap_setCell_same (w5.setCell ⟨g13, 0, none⟩ (.slice none 0 0)) b2 0 _ _ (.slice none 0 0) R6.out; have x9 := yad (i := 0) (v := .slice none 0 0) h9 rfl; refine bodyPost_ret (v := .tuple #[.agg #[.slice none 0 0], .int .i64 0, .int .i64 E]) (by simp [results, Tryz.results21, go_sem, x9]) rfl ?_
   exact ⟨fun h => absurd h HE0.out, fun _ => rfl, HB6.out.setCell (by show _ <= b2; exact HBL.out) _⟩
  ·intro vs w5 hb hd
   have e13 : vs 5 = .agg #[.slice none 0 0] := hd 5 (by omega) (by omega)
   have e14 : vs 4 = .tuple #[.agg #[.slice none 0 0], .int .i64 E] := hd 4 (by omega) (by omega)
   obtain ⟨g13, e15, hg13, hr13⟩ : ∃ g, vs 7 = .pointer (some ⟨g, 0, none⟩) /\ wc.heap.size <= g /\ w5.heap[g]? = some (.cells #[.slice none 0 0] 52 (0, 0)) := hd 7 (by omega) (by omega)
   have x1 := yad (i := 0) (v := .slice none 0 0) hr13 rfl
   have x2 : w5.frozen? ⟨g13, 0, none⟩ = false := frozen_of_row _ _ 0 _ _ hr13
   have r5 := (hb.block b2 (R4.yac R2.out)).trans R2.out
   have ne2 : b2 ≠ g13 := by have := R4.yac R2.out; omega
   have HB5 := zH (HB2.out.trans (hb.mono HB2.out.size)); have h13 := heap_setCell_same w5 g13 0 _ _ (.slice none 0 0) hr13; have r6 := (Below.heap_setCell w5 ⟨g13, 0, none⟩ (.slice none 0 0) b2 ne2).trans r5; have R6 := zH r6; have y13 := yad (i := 0) (v := .slice none 0 0) h13 rfl; have y2 := yad (i := 0) (v := .slice none 0 0) r6 rfl; have y2f := frozen_of_row _ b2 0 _ _ r6
   have HB6 : Hid (Below w.heap.size w (w5.setCell ⟨g13, 0, none⟩ (.slice none 0 0))) := HB5.out.setCell (by show _ <= g13; have := HB2.out.size; omega) _
   simp only [frameV, zS, zA, zB, List.drop_succ_cons, List.drop_zero, List.take_succ_cons, List.take_zero, List.cons_append, List.nil_append, e13, e14, e15]; clear hb hd e13 e14 e15 hg13 hr13 r5 ne2 h13 r6
   go_wp2
   have h9 := heap_setCell_same (w5.setCell ⟨g13, 0, none⟩ (.slice none 0 0)) b2 0 _ _ (.slice none 0 0) R6.out; have x9 := yad (i := 0) (v := .slice none 0 0) h9 rfl; refine bodyPost_ret (v := .tuple #[.agg #[.slice none 0 0], .int .i64 0, .int .i64 E]) (by simp [results, Tryz.results21, go_sem, x9]) rfl ?_
   exact ⟨fun h => absurd h HE0.out, fun _ => rfl, HB6.out.setCell (by show _ <= b2; exact HBL.out) _⟩
theorem ytc {s : ByteArray} (w : World) (hs : s.size <= 1000000) : Calls Tryz.prog 21 #[.string s] w (RReadIs (rdL s) (rdK s) (rdE s) w) := by
 obtain ⟨R, hR⟩ : ∃ R, S6.parse s.data.toList = R := ⟨_, rfl⟩; obtain ⟨l, k, e⟩ := R; unfold rdL rdK rdE; rw [hR]
 by_cases he : e = 0
 ·subst he; exact ywq w hs hR rfl rfl
 ·simp only [if_neg he]; exact ysk w hs hR he _
theorem ysx {s : ByteArray} (h : rdE s = 0) : checkP (rdL s) = 0 := by
 unfold rdE at h; unfold rdL
 split at h
 ·unfold appE at h; unfold appL
  split at h
  ·rename_i h2; exact absurd h h2
  ·exact h
 ·rename_i h2; exact absurd (by omega) h2
set_option maxHeartbeats 4000000 in
theorem ygl (a0 : ByteArray) (w : World) (h0 : a0.size <= maxLen) : Calls Tryz.prog 6 #[.string a0] w fun e w' => e = .returned (.bool true) /\ Below w.heap.size w w' := by
 by_cases hbig : 300 < a0.size
 ·have hI : (300 : Int) < (a0.size : Int) := by omega
  have HA := zH yjf
  go_enter Tryz.func6, Tryz.ntmps6
  go_wp2_with (go_at_call 12; refine (HA.out _).mono ?_; rintro e w1 ⟨rfl, hb⟩)
  go_ret
  exact ⟨rfl, hb⟩
 ·have hI : ¬ (300 : Int) < (a0.size : Int) := by omega
  have CR := zH (fun w => ypn (s := a0) w (by omega))
  have CF := zH (fun w => ytc (s := a0) w (by omega))
  have hck := ysx (s := a0); obtain ⟨E, hE⟩ : ∃ E, rdE a0 = E := ⟨_, rfl⟩; obtain ⟨k, hk⟩ : ∃ E, rdK a0 = E := ⟨_, rfl⟩; obtain ⟨L, hL⟩ : ∃ E, rdL a0 = E := ⟨_, rfl⟩; rw [hE, hk, hL] at CR CF; rw [hE, hL] at hck; have HA := zH yjf; have HB0 := zH (zR w.heap.size w)
  by_cases hE0 : E = 0
  ·have HCK := zH (hck hE0); subst hE0; clear h0 hbig hck hE hk hL
   go_enter Tryz.func6, Tryz.ntmps6
   go_wp2_with (first
    | (go_at_call 9; refine (CR.out _).mono ?_; rintro e w1 ⟨h1, -, hb⟩; have h2 := h1 rfl; obtain ⟨p, rfl, ht⟩ := h2; have HT1 := zH ht; have HB1 := zH hb; clear h1 ht hb)
    | (go_at_call 21; refine (CF.out _).mono ?_; rintro e w2 ⟨h1, -, hb⟩; have h2 := h1 rfl; obtain ⟨u, rfl, hu⟩ := h2; obtain ⟨Au, cu, rfl⟩ := hu.form; obtain ⟨nu, hnu⟩ : ∃ m, L.length = m := ⟨_, rfl⟩; rw [hnu] at hu |-; have hal := yaa w2 (.cells #[.slice Au nu cu] 52); have x6 := yad (i := 0) (v := .slice Au nu cu) (heap_alloc_new w2 (.cells #[.slice Au nu cu] 52)) rfl; have HT2 := zH ((HT1.out.below hb (zN _)).below hal (zN _)); have HU2 := zH (hu.below hal (zN _)); have HB2 := zH (HB1.out.trans ((hb.trans (hal.mono hb.size)).mono HB1.out.size)); clear h1 hu hb hal hnu)
    | (go_at_call 20; refine (yxz HT2.out HU2.out).mono ?_; rintro e w3 ⟨rfl, hb⟩; have HT3 := zH (HT2.out.below hb (zN _)); have HB3 := zH (HB2.out.trans (hb.mono HB2.out.size)); clear hb x6)
    | (go_at_call 11; refine (ymc HT3.out HCK.out).mono ?_; rintro e w4 ⟨rfl, hb⟩; have HB4 := zH (HB3.out.trans (hb.mono HB3.out.size)); clear hb)
    | (go_at_call 12; refine (HA.out _).mono ?_; rintro e w5 ⟨rfl, hb⟩; have HB5 := zH (HB4.out.trans (hb.mono HB4.out.size)); clear hb))
   go_ret
   exact ⟨rfl, HB5.out⟩
  ·have HE0 := zH hE0
   have hen : (E != 0) = true := by simpa using hE0
   have hef : (E == 0) = false := by simpa using hE0
   clear h0 hbig hck hE hk hL hE0
   go_enter Tryz.func6, Tryz.ntmps6
   go_wp2_with (first
    | (go_at_call 9; refine (CR.out _).mono ?_; rintro e w1 ⟨-, h1, hb⟩; have h2 := h1 HE0.out; subst h2; have HB1 := zH hb; clear h1 hb)
    | (go_at_call 21; refine (CF.out _).mono ?_; rintro e w2 ⟨-, h1, hb⟩; have h2 := h1 HE0.out; subst h2; have hal := yaa w2 (.cells #[.slice none 0 0] 52); have HB2 := zH (HB1.out.trans ((hb.trans (hal.mono hb.size)).mono HB1.out.size)); clear h1 hb hal)
    | (go_at_call 12; refine (HA.out _).mono ?_; rintro e w5 ⟨rfl, hb⟩; have HB5 := zH (HB2.out.trans (hb.mono HB2.out.size)); clear hb))
   go_ret
   exact ⟨rfl, HB5.out⟩
end Go.Proofs.YtichfdjjbafeiaaGreat
