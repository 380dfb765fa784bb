/-
  PACKED for a claim.
-/
import Derived.Test.YteibnfeokgibmaaGreatP40
set_option linter.unusedVariables false
set_option linter.unusedSimpArgs false
set_option maxRecDepth 100000
namespace Go.Proofs.YteibnfeokgibmaaGreat
open Go.RowKit
set_option maxHeartbeats 8000000 in
theorem kind_no {k l : Int} {sh bk : Bool} {P : Option Addr} (hO : ∀ w : World, Calls Tryz.prog 19 #[.agg #[.int .i64 k, .int .i64 l, .bool sh, .bool bk, .pointer P]] w fun e w' => e = .returned (.bool false) /\ Below w.heap.size w w') (w : World) :
  Calls Tryz.prog 27 #[.agg #[.int .i64 k, .int .i64 l, .bool sh, .bool bk, .pointer P]] w fun e w' => e = .returned (.agg #[.func (.func 58) #[] #[], .func (.func 59) #[] #[], .func (.func 60) #[] #[]]) /\ Below w.heap.size w w' := by
 have CO := zH hO; clear hO
 have hix : ∀ w : World, (Instr.index 72 (.agg #[.nilFunc, .nilFunc, .nilFunc, .func (.func 58) #[] #[], .func (.func 59) #[] #[], .func (.func 60) #[] #[], .func (.func 58) #[] #[], .func (.func 59) #[] #[], .func (.func 61) #[] #[], .func (.func 62) #[] #[], .func (.func 63) #[] #[], .func (.func 64) #[] #[]]) (.int .i64 1)).run Tryz.prog w = .ok (.agg #[.func (.func 58) #[] #[], .func (.func 59) #[] #[], .func (.func 60) #[] #[]]) w := fun _ => rfl
 have hb1 := belAlloc w (.cells #[.int .i64 k, .int .i64 l, .bool sh, .bool bk, .pointer P] 25); have hb2 := belAlloc (w.alloc (.cells #[.int .i64 k, .int .i64 l, .bool sh, .bool bk, .pointer P] 25)) (.cells #[.nilFunc, .nilFunc, .nilFunc] 59); have hx := heap_alloc_new (w.alloc (.cells #[.int .i64 k, .int .i64 l, .bool sh, .bool bk, .pointer P] 25)) (.cells #[.nilFunc, .nilFunc, .nilFunc] 59); have hc := (hb2.block w.heap.size (by simp)).trans (heap_alloc_new w (.cells #[.int .i64 k, .int .i64 l, .bool sh, .bool bk, .pointer P] 25))
 have HX := zH hx; have HC := zH hc; have HB := zH (hb1.trans (hb2.mono hb1.size))
 have HS : Hid ((w.alloc (.cells #[.int .i64 k, .int .i64 l, .bool sh, .bool bk, .pointer P] 25)).heap.size = w.heap.size + 1) := World.size_alloc _ _
 have HS2 : Hid (((w.alloc (.cells #[.int .i64 k, .int .i64 l, .bool sh, .bool bk, .pointer P] 25)).alloc (.cells #[.nilFunc, .nilFunc, .nilFunc] 59)).heap.size = w.heap.size + 2) := by show _ = _; rw [World.size_alloc, World.size_alloc]
 clear hb1 hb2 hx hc
 go_enter Tryz.func27, Tryz.ntmps27
 go_upto_region 1 with (fail)
 generalize hw1 : (w.alloc (.cells #[.int .i64 k, .int .i64 l, .bool sh, .bool bk, .pointer P] 25)) = w1 at HX HB HS HS2 HC |-; rw [HS.out] at HX; clear hw1; generalize (w1.alloc (.cells #[.nilFunc, .nilFunc, .nilFunc] 59)) = w2 at HX HB HS2 HC |-; obtain ⟨bx, hbx⟩ : ∃ b, w.heap.size = b := ⟨_, rfl⟩; have HBX := zH hbx; rw [hbx] at HX HB HS2 HC; rw [show (({ block := w.heap.size + 1, off := 0 } : Addr)) = ⟨bx + 1, 0, none⟩ by rw [hbx], show (({ block := w.heap.size, off := 0 } : Addr)) = ⟨bx, 0, none⟩ by rw [hbx]]
 clear hbx; have c0 := cellAt (i := 0) (v := .int .i64 k) HC.out rfl; have c1 := cellAt (i := 1) (v := .int .i64 l) HC.out rfl; have c2 := cellAt (i := 2) (v := .bool sh) HC.out rfl; have c3 := cellAt (i := 3) (v := .bool bk) HC.out rfl; have c4 := cellAt (i := 4) (v := .pointer P) HC.out rfl
 go_wp2_with (first | (go_at_call 19; refine (CO.out _).mono ?_; rintro e w3 ⟨rfl, hb⟩; have hC3 := (hb.block bx (by rw [HS2.out]; omega)).trans HC.out; have hX3 := (hb.block (bx + 1) (by rw [HS2.out]; omega)).trans HX.out; have HC3 := zH hC3; have HX3 := zH hX3; have HB3 := zH (HB.out.trans (hb.mono (by rw [HS2.out]; omega))); have HS3 : Hid (bx + 2 <= w3.heap.size) := (by have := hb.size; rw [HS2.out] at this; exact this); clear c0 c1 c2 c3 c4 hb hC3 hX3) | (go_at_call 34; refine (ycm _).mono ?_; rintro e w4 ⟨rfl, hb⟩; have hX4 := (hb.block (bx + 1) (by have := HS3.out; omega)).trans HX3.out; have HX4 := zH hX4; have HB4 := zH (HB3.out.trans (hb.mono (by have := HS3.out; omega))); have x0 := cellAt (i := 0) (v := .nilFunc) hX4 rfl; have f0 := frozen_of_row _ (bx + 1) 0 _ _ hX4; have x1 := cellAt (i := 1) (v := .nilFunc) hX4 rfl; have f1 := frozen_of_row _ (bx + 1) 1 _ _ hX4; have x2 := cellAt (i := 2) (v := .nilFunc) hX4 rfl; have f2 := frozen_of_row _ (bx + 1) 2 _ _ hX4; clear hb hX4))
 have h1 := heap_setCell_same _ (bx + 1) 0 _ _ (.func (.func 58) #[] #[]) HX4.out; have h2 := heap_setCell_same _ (bx + 1) 1 _ _ (.func (.func 59) #[] #[]) h1; have h3 := heap_setCell_same _ (bx + 1) 2 _ _ (.func (.func 60) #[] #[]) h2; have z0 := cellAt (i := 0) (v := .func (.func 58) #[] #[]) h3 rfl; have z1 := cellAt (i := 1) (v := .func (.func 59) #[] #[]) h3 rfl; have z2 := cellAt (i := 2) (v := .func (.func 60) #[] #[]) h3 rfl; refine bodyPost_ret (v := .agg #[.func (.func 58) #[] #[], .func (.func 59) #[] #[], .func (.func 60) #[] #[]]) (by simp [results, Tryz.results27, go_sem, z0, z1, z2]) rfl ⟨rfl, ?_⟩
 rw [HBX.out]; exact ((HB4.out.setCell (p := ⟨bx + 1, 0, none⟩) (by show bx <= bx + 1; omega) _).setCell (p := ⟨bx + 1, 1, none⟩) (by show bx <= bx + 1; omega) _).setCell (p := ⟨bx + 1, 2, none⟩) (by show bx <= bx + 1; omega) _
set_option maxHeartbeats 8000000 in
theorem kind_1 {l : Int} {sh bk : Bool} {P : Option Addr} (hO : ∀ w : World, Calls Tryz.prog 19 #[.agg #[.int .i64 1, .int .i64 l, .bool sh, .bool bk, .pointer P]] w fun e w' => e = .returned (.bool true) /\ Below w.heap.size w w') (w : World) :
  Calls Tryz.prog 27 #[.agg #[.int .i64 1, .int .i64 l, .bool sh, .bool bk, .pointer P]] w fun e w' => e = .returned (.agg #[.func (.func 58) #[] #[], .func (.func 59) #[] #[], .func (.func 60) #[] #[]]) /\ Below w.heap.size w w' := by
 have CO := zH hO; clear hO; have hb1 := belAlloc w (.cells #[.int .i64 1, .int .i64 l, .bool sh, .bool bk, .pointer P] 25); have hb2 := belAlloc (w.alloc (.cells #[.int .i64 1, .int .i64 l, .bool sh, .bool bk, .pointer P] 25)) (.cells #[.nilFunc, .nilFunc, .nilFunc] 59); have hx := heap_alloc_new (w.alloc (.cells #[.int .i64 1, .int .i64 l, .bool sh, .bool bk, .pointer P] 25)) (.cells #[.nilFunc, .nilFunc, .nilFunc] 59); have hc := (hb2.block w.heap.size (by simp)).trans (heap_alloc_new w (.cells #[.int .i64 1, .int .i64 l, .bool sh, .bool bk, .pointer P] 25))
 have HX := zH hx; have HC := zH hc; have HB := zH (hb1.trans (hb2.mono hb1.size))
 have HS : Hid ((w.alloc (.cells #[.int .i64 1, .int .i64 l, .bool sh, .bool bk, .pointer P] 25)).heap.size = w.heap.size + 1) := World.size_alloc _ _
 have HS2 : Hid (((w.alloc (.cells #[.int .i64 1, .int .i64 l, .bool sh, .bool bk, .pointer P] 25)).alloc (.cells #[.nilFunc, .nilFunc, .nilFunc] 59)).heap.size = w.heap.size + 2) := by show _ = _; rw [World.size_alloc, World.size_alloc]
 clear hb1 hb2 hx hc
 go_enter Tryz.func27, Tryz.ntmps27
 go_upto_region 1 with (fail)
 generalize hw1 : (w.alloc (.cells #[.int .i64 1, .int .i64 l, .bool sh, .bool bk, .pointer P] 25)) = w1 at HX HB HS HS2 HC |-; rw [HS.out] at HX; clear hw1; generalize (w1.alloc (.cells #[.nilFunc, .nilFunc, .nilFunc] 59)) = w2 at HX HB HS2 HC |-; obtain ⟨bx, hbx⟩ : ∃ b, w.heap.size = b := ⟨_, rfl⟩; have HBX := zH hbx; rw [hbx] at HX HB HS2 HC; rw [show (({ block := w.heap.size + 1, off := 0 } : Addr)) = ⟨bx + 1, 0, none⟩ by rw [hbx], show (({ block := w.heap.size, off := 0 } : Addr)) = ⟨bx, 0, none⟩ by rw [hbx]]
 clear hbx; have c0 := cellAt (i := 0) (v := .int .i64 1) HC.out rfl; have c1 := cellAt (i := 1) (v := .int .i64 l) HC.out rfl; have c2 := cellAt (i := 2) (v := .bool sh) HC.out rfl; have c3 := cellAt (i := 3) (v := .bool bk) HC.out rfl; have c4 := cellAt (i := 4) (v := .pointer P) HC.out rfl
 go_upto_region 3 with (go_at_call 19; refine (CO.out _).mono ?_; rintro e w3 ⟨rfl, hb⟩; have hC3 := (hb.block bx (by rw [HS2.out]; omega)).trans HC.out; have hX3 := (hb.block (bx + 1) (by rw [HS2.out]; omega)).trans HX.out; have HC3 := zH hC3; have HX3 := zH hX3; have HB3 := zH (HB.out.trans (hb.mono (by rw [HS2.out]; omega))); have HS3 : Hid (bx + 2 <= w3.heap.size) := (by have := hb.size; rw [HS2.out] at this; exact this); clear c0 c1 c2 c3 c4 hb hC3 hX3)
 have X0 := zH (cellAt (i := 0) (v := .int .i64 1) HC3.out rfl); refine yag (m := 4) [8, 9, 10, 11] [SV.eq (.agg #[.nilFunc, .nilFunc, .nilFunc, .func (.func 58) #[] #[], .func (.func 59) #[] #[], .func (.func 60) #[] #[], .func (.func 58) #[] #[], .func (.func 59) #[] #[], .func (.func 61) #[] #[], .func (.func 62) #[] #[], .func (.func 63) #[] #[], .func (.func 64) #[] #[]]), SV.eq (.pointer (some ⟨bx, 0, none⟩)), SV.eq (.int .i64 1), SV.eq (.agg #[.func (.func 58) #[] #[], .func (.func 59) #[] #[], .func (.func 60) #[] #[]])] (by kernel_rfl) (by kernel_rfl) ?_ ?_
 ·refine ⟨⟨⟨⟨trivial, ?_⟩, ?_⟩, ?_⟩, ?_⟩
  all_goals (refine OpIs.mk rfl ?_; intro vs w1 hb hd K hK; simp only [frameV, zS, zA, zB, zC, zD] at hK |-)
  ·have HK := zH hK; clear hK; go_simp
   go_at_call 34
   refine (ycm _).mono ?_; rintro e w4 ⟨rfl, hb3⟩; exact HK.out _ _ rfl hb3
  ·have HK := zH hK; clear hK; go_simp; exact HK.out _ _ rfl (zR _ _)
  ·have d1 : vs 1 = .pointer (some ⟨bx, 0, none⟩) := hd 1 (by kernel_rfl)
   have c0 := yab hb X0.out; simp only [d1] at hK |-; have HK := zH hK; clear hK; go_simp; exact HK.out _ _ rfl (zR _ _)
  ·have d0 : vs 0 = .agg #[.nilFunc, .nilFunc, .nilFunc, .func (.func 58) #[] #[], .func (.func 59) #[] #[], .func (.func 60) #[] #[], .func (.func 58) #[] #[], .func (.func 59) #[] #[], .func (.func 61) #[] #[], .func (.func 62) #[] #[], .func (.func 63) #[] #[], .func (.func 64) #[] #[]] := hd 0 (by kernel_rfl)
   have d2 : vs 2 = .int .i64 1 := hd 2 (by kernel_rfl)
   simp only [d0, d2] at hK |-; have HK := zH hK; clear hK; go_simp; exact HK.out _ _ rfl (zR _ _)
 ·intro vs w4 hb hd
  have d3 : vs 3 = .agg #[.func (.func 58) #[] #[], .func (.func 59) #[] #[], .func (.func 60) #[] #[]] := hd 3 (by omega)
  have hX4 := (hb.block (bx + 1) (by have := HS3.out; omega)).trans HX3.out
  have HX4 := zH hX4; have HB4 := zH (HB3.out.trans (hb.mono (by have := HS3.out; omega)))
  simp only [frameV, zS, zA, zB, List.drop_succ_cons, List.drop_zero, d3]; have x0 := cellAt (i := 0) (v := .nilFunc) hX4 rfl; have f0 := frozen_of_row _ (bx + 1) 0 _ _ hX4; have x1 := cellAt (i := 1) (v := .nilFunc) hX4 rfl; have f1 := frozen_of_row _ (bx + 1) 1 _ _ hX4; have x2 := cellAt (i := 2) (v := .nilFunc) hX4 rfl; have f2 := frozen_of_row _ (bx + 1) 2 _ _ hX4; clear hb hd d3 hX4
  go_wp2
  have h1 := heap_setCell_same _ (bx + 1) 0 _ _ (.func (.func 58) #[] #[]) HX4.out; have h2 := heap_setCell_same _ (bx + 1) 1 _ _ (.func (.func 59) #[] #[]) h1; have h3 := heap_setCell_same _ (bx + 1) 2 _ _ (.func (.func 60) #[] #[]) h2; have z0 := cellAt (i := 0) (v := .func (.func 58) #[] #[]) h3 rfl; have z1 := cellAt (i := 1) (v := .func (.func 59) #[] #[]) h3 rfl; have z2 := cellAt (i := 2) (v := .func (.func 60) #[] #[]) h3 rfl; refine bodyPost_ret (v := .agg #[.func (.func 58) #[] #[], .func (.func 59) #[] #[], .func (.func 60) #[] #[]]) (by simp [results, Tryz.results27, go_sem, z0, z1, z2]) rfl ⟨rfl, ?_⟩
  rw [HBX.out]; exact ((HB4.out.setCell (p := ⟨bx + 1, 0, none⟩) (by show bx <= bx + 1; omega) _).setCell (p := ⟨bx + 1, 1, none⟩) (by show bx <= bx + 1; omega) _).setCell (p := ⟨bx + 1, 2, none⟩) (by show bx <= bx + 1; omega) _
set_option maxHeartbeats 8000000 in
theorem kind_2 {l : Int} {sh bk : Bool} {P : Option Addr} (hO : ∀ w : World, Calls Tryz.prog 19 #[.agg #[.int .i64 2, .int .i64 l, .bool sh, .bool bk, .pointer P]] w fun e w' => e = .returned (.bool true) /\ Below w.heap.size w w') (w : World) :
  Calls Tryz.prog 27 #[.agg #[.int .i64 2, .int .i64 l, .bool sh, .bool bk, .pointer P]] w fun e w' => e = .returned (.agg #[.func (.func 58) #[] #[], .func (.func 59) #[] #[], .func (.func 61) #[] #[]]) /\ Below w.heap.size w w' := by
 have CO := zH hO; clear hO; have hb1 := belAlloc w (.cells #[.int .i64 2, .int .i64 l, .bool sh, .bool bk, .pointer P] 25); have hb2 := belAlloc (w.alloc (.cells #[.int .i64 2, .int .i64 l, .bool sh, .bool bk, .pointer P] 25)) (.cells #[.nilFunc, .nilFunc, .nilFunc] 59); have hx := heap_alloc_new (w.alloc (.cells #[.int .i64 2, .int .i64 l, .bool sh, .bool bk, .pointer P] 25)) (.cells #[.nilFunc, .nilFunc, .nilFunc] 59); have hc := (hb2.block w.heap.size (by simp)).trans (heap_alloc_new w (.cells #[.int .i64 2, .int .i64 l, .bool sh, .bool bk, .pointer P] 25))
 have HX := zH hx; have HC := zH hc; have HB := zH (hb1.trans (hb2.mono hb1.size))
 have HS : Hid ((w.alloc (.cells #[.int .i64 2, .int .i64 l, .bool sh, .bool bk, .pointer P] 25)).heap.size = w.heap.size + 1) := World.size_alloc _ _
 have HS2 : Hid (((w.alloc (.cells #[.int .i64 2, .int .i64 l, .bool sh, .bool bk, .pointer P] 25)).alloc (.cells #[.nilFunc, .nilFunc, .nilFunc] 59)).heap.size = w.heap.size + 2) := by show _ = _; rw [World.size_alloc, World.size_alloc]
 clear hb1 hb2 hx hc
 go_enter Tryz.func27, Tryz.ntmps27
 go_upto_region 1 with (fail)
 generalize hw1 : (w.alloc (.cells #[.int .i64 2, .int .i64 l, .bool sh, .bool bk, .pointer P] 25)) = w1 at HX HB HS HS2 HC |-; rw [HS.out] at HX; clear hw1; generalize (w1.alloc (.cells #[.nilFunc, .nilFunc, .nilFunc] 59)) = w2 at HX HB HS2 HC |-; obtain ⟨bx, hbx⟩ : ∃ b, w.heap.size = b := ⟨_, rfl⟩; have HBX := zH hbx; rw [hbx] at HX HB HS2 HC; rw [show (({ block := w.heap.size + 1, off := 0 } : Addr)) = ⟨bx + 1, 0, none⟩ by rw [hbx], show (({ block := w.heap.size, off := 0 } : Addr)) = ⟨bx, 0, none⟩ by rw [hbx]]
 clear hbx; have c0 := cellAt (i := 0) (v := .int .i64 2) HC.out rfl; have c1 := cellAt (i := 1) (v := .int .i64 l) HC.out rfl; have c2 := cellAt (i := 2) (v := .bool sh) HC.out rfl; have c3 := cellAt (i := 3) (v := .bool bk) HC.out rfl; have c4 := cellAt (i := 4) (v := .pointer P) HC.out rfl
 go_upto_region 3 with (go_at_call 19; refine (CO.out _).mono ?_; rintro e w3 ⟨rfl, hb⟩; have hC3 := (hb.block bx (by rw [HS2.out]; omega)).trans HC.out; have hX3 := (hb.block (bx + 1) (by rw [HS2.out]; omega)).trans HX.out; have HC3 := zH hC3; have HX3 := zH hX3; have HB3 := zH (HB.out.trans (hb.mono (by rw [HS2.out]; omega))); have HS3 : Hid (bx + 2 <= w3.heap.size) := (by have := hb.size; rw [HS2.out] at this; exact this); clear c0 c1 c2 c3 c4 hb hC3 hX3)
 have X0 := zH (cellAt (i := 0) (v := .int .i64 2) HC3.out rfl); refine yag (m := 4) [8, 9, 10, 11] [SV.eq (.agg #[.nilFunc, .nilFunc, .nilFunc, .func (.func 58) #[] #[], .func (.func 59) #[] #[], .func (.func 60) #[] #[], .func (.func 58) #[] #[], .func (.func 59) #[] #[], .func (.func 61) #[] #[], .func (.func 62) #[] #[], .func (.func 63) #[] #[], .func (.func 64) #[] #[]]), SV.eq (.pointer (some ⟨bx, 0, none⟩)), SV.eq (.int .i64 2), SV.eq (.agg #[.func (.func 58) #[] #[], .func (.func 59) #[] #[], .func (.func 61) #[] #[]])] (by kernel_rfl) (by kernel_rfl) ?_ ?_
 ·refine ⟨⟨⟨⟨trivial, ?_⟩, ?_⟩, ?_⟩, ?_⟩
  all_goals (refine OpIs.mk rfl ?_; intro vs w1 hb hd K hK; simp only [frameV, zS, zA, zB, zC, zD] at hK |-)
  ·have HK := zH hK; clear hK; go_simp
   go_at_call 34
   refine (ycm _).mono ?_; rintro e w4 ⟨rfl, hb3⟩; exact HK.out _ _ rfl hb3
  ·have HK := zH hK; clear hK; go_simp; exact HK.out _ _ rfl (zR _ _)
  ·have d1 : vs 1 = .pointer (some ⟨bx, 0, none⟩) := hd 1 (by kernel_rfl)
   have c0 := yab hb X0.out; simp only [d1] at hK |-; have HK := zH hK; clear hK; go_simp; exact HK.out _ _ rfl (zR _ _)
  ·have d0 : vs 0 = .agg #[.nilFunc, .nilFunc, .nilFunc, .func (.func 58) #[] #[], .func (.func 59) #[] #[], .func (.func 60) #[] #[], .func (.func 58) #[] #[], .func (.func 59) #[] #[], .func (.func 61) #[] #[], .func (.func 62) #[] #[], .func (.func 63) #[] #[], .func (.func 64) #[] #[]] := hd 0 (by kernel_rfl)
   have d2 : vs 2 = .int .i64 2 := hd 2 (by kernel_rfl)
   simp only [d0, d2] at hK |-; have HK := zH hK; clear hK; go_simp; exact HK.out _ _ rfl (zR _ _)
 ·intro vs w4 hb hd
  have d3 : vs 3 = .agg #[.func (.func 58) #[] #[], .func (.func 59) #[] #[], .func (.func 61) #[] #[]] := hd 3 (by omega)
  have hX4 := (hb.block (bx + 1) (by have := HS3.out; omega)).trans HX3.out
  have HX4 := zH hX4; have HB4 := zH (HB3.out.trans (hb.mono (by have := HS3.out; omega)))
  simp only [frameV, zS, zA, zB, List.drop_succ_cons, List.drop_zero, d3]; have x0 := cellAt (i := 0) (v := .nilFunc) hX4 rfl; have f0 := frozen_of_row _ (bx + 1) 0 _ _ hX4; have x1 := cellAt (i := 1) (v := .nilFunc) hX4 rfl; have f1 := frozen_of_row _ (bx + 1) 1 _ _ hX4; have x2 := cellAt (i := 2) (v := .nilFunc) hX4 rfl; have f2 := frozen_of_row _ (bx + 1) 2 _ _ hX4; clear hb hd d3 hX4
  go_wp2
  have h1 := heap_setCell_same _ (bx + 1) 0 _ _ (.func (.func 58) #[] #[]) HX4.out; have h2 := heap_setCell_same _ (bx + 1) 1 _ _ (.func (.func 59) #[] #[]) h1; have h3 := heap_setCell_same _ (bx + 1) 2 _ _ (.func (.func 61) #[] #[]) h2; have z0 := cellAt (i := 0) (v := .func (.func 58) #[] #[]) h3 rfl; have z1 := cellAt (i := 1) (v := .func (.func 59) #[] #[]) h3 rfl; have z2 := cellAt (i := 2) (v := .func (.func 61) #[] #[]) h3 rfl; refine bodyPost_ret (v := .agg #[.func (.func 58) #[] #[], .func (.func 59) #[] #[], .func (.func 61) #[] #[]]) (by simp [results, Tryz.results27, go_sem, z0, z1, z2]) rfl ⟨rfl, ?_⟩
  rw [HBX.out]; exact ((HB4.out.setCell (p := ⟨bx + 1, 0, none⟩) (by show bx <= bx + 1; omega) _).setCell (p := ⟨bx + 1, 1, none⟩) (by show bx <= bx + 1; omega) _).setCell (p := ⟨bx + 1, 2, none⟩) (by show bx <= bx + 1; omega) _
set_option maxHeartbeats 8000000 in
theorem kind_3 {l : Int} {sh bk : Bool} {P : Option Addr} (hO : ∀ w : World, Calls Tryz.prog 19 #[.agg #[.int .i64 3, .int .i64 l, .bool sh, .bool bk, .pointer P]] w fun e w' => e = .returned (.bool true) /\ Below w.heap.size w w') (w : World) :
  Calls Tryz.prog 27 #[.agg #[.int .i64 3, .int .i64 l, .bool sh, .bool bk, .pointer P]] w fun e w' => e = .returned (.agg #[.func (.func 62) #[] #[], .func (.func 63) #[] #[], .func (.func 64) #[] #[]]) /\ Below w.heap.size w w' := by
 have CO := zH hO; clear hO; have hb1 := belAlloc w (.cells #[.int .i64 3, .int .i64 l, .bool sh, .bool bk, .pointer P] 25); have hb2 := belAlloc (w.alloc (.cells #[.int .i64 3, .int .i64 l, .bool sh, .bool bk, .pointer P] 25)) (.cells #[.nilFunc, .nilFunc, .nilFunc] 59); have hx := heap_alloc_new (w.alloc (.cells #[.int .i64 3, .int .i64 l, .bool sh, .bool bk, .pointer P] 25)) (.cells #[.nilFunc, .nilFunc, .nilFunc] 59); have hc := (hb2.block w.heap.size (by simp)).trans (heap_alloc_new w (.cells #[.int .i64 3, .int .i64 l, .bool sh, .bool bk, .pointer P] 25))
 have HX := zH hx; have HC := zH hc; have HB := zH (hb1.trans (hb2.mono hb1.size))
 have HS : Hid ((w.alloc (.cells #[.int .i64 3, .int .i64 l, .bool sh, .bool bk, .pointer P] 25)).heap.size = w.heap.size + 1) := World.size_alloc _ _
 have HS2 : Hid (((w.alloc (.cells #[.int .i64 3, .int .i64 l, .bool sh, .bool bk, .pointer P] 25)).alloc (.cells #[.nilFunc, .nilFunc, .nilFunc] 59)).heap.size = w.heap.size + 2) := by show _ = _; rw [World.size_alloc, World.size_alloc]
 clear hb1 hb2 hx hc
 go_enter Tryz.func27, Tryz.ntmps27
 go_upto_region 1 with (fail)
 generalize hw1 : (w.alloc (.cells #[.int .i64 3, .int .i64 l, .bool sh, .bool bk, .pointer P] 25)) = w1 at HX HB HS HS2 HC |-; rw [HS.out] at HX; clear hw1; generalize (w1.alloc (.cells #[.nilFunc, .nilFunc, .nilFunc] 59)) = w2 at HX HB HS2 HC |-; obtain ⟨bx, hbx⟩ : ∃ b, w.heap.size = b := ⟨_, rfl⟩; have HBX := zH hbx; rw [hbx] at HX HB HS2 HC; rw [show (({ block := w.heap.size + 1, off := 0 } : Addr)) = ⟨bx + 1, 0, none⟩ by rw [hbx], show (({ block := w.heap.size, off := 0 } : Addr)) = ⟨bx, 0, none⟩ by rw [hbx]]
 clear hbx; have c0 := cellAt (i := 0) (v := .int .i64 3) HC.out rfl; have c1 := cellAt (i := 1) (v := .int .i64 l) HC.out rfl; have c2 := cellAt (i := 2) (v := .bool sh) HC.out rfl; have c3 := cellAt (i := 3) (v := .bool bk) HC.out rfl; have c4 := cellAt (i := 4) (v := .pointer P) HC.out rfl
 go_upto_region 3 with (go_at_call 19; refine (CO.out _).mono ?_; rintro e w3 ⟨rfl, hb⟩; have hC3 := (hb.block bx (by rw [HS2.out]; omega)).trans HC.out; have hX3 := (hb.block (bx + 1) (by rw [HS2.out]; omega)).trans HX.out; have HC3 := zH hC3; have HX3 := zH hX3; have HB3 := zH (HB.out.trans (hb.mono (by rw [HS2.out]; omega))); have HS3 : Hid (bx + 2 <= w3.heap.size) := (by have := hb.size; rw [HS2.out] at this; exact this); clear c0 c1 c2 c3 c4 hb hC3 hX3)
 have X0 := zH (cellAt (i := 0) (v := .int .i64 3) HC3.out rfl); refine yag (m := 4) [8, 9, 10, 11] [SV.eq (.agg #[.nilFunc, .nilFunc, .nilFunc, .func (.func 58) #[] #[], .func (.func 59) #[] #[], .func (.func 60) #[] #[], .func (.func 58) #[] #[], .func (.func 59) #[] #[], .func (.func 61) #[] #[], .func (.func 62) #[] #[], .func (.func 63) #[] #[], .func (.func 64) #[] #[]]), SV.eq (.pointer (some ⟨bx, 0, none⟩)), SV.eq (.int .i64 3), SV.eq (.agg #[.func (.func 62) #[] #[], .func (.func 63) #[] #[], .func (.func 64) #[] #[]])] (by kernel_rfl) (by kernel_rfl) ?_ ?_
 ·refine ⟨⟨⟨⟨trivial, ?_⟩, ?_⟩, ?_⟩, ?_⟩
  all_goals (refine OpIs.mk rfl ?_; intro vs w1 hb hd K hK; simp only [frameV, zS, zA, zB, zC, zD] at hK |-)
  ·have HK := zH hK; clear hK; go_simp
   go_at_call 34
   refine (ycm _).mono ?_; rintro e w4 ⟨rfl, hb3⟩; exact HK.out _ _ rfl hb3
  ·have HK := zH hK; clear hK; go_simp; exact HK.out _ _ rfl (zR _ _)
  ·have d1 : vs 1 = .pointer (some ⟨bx, 0, none⟩) := hd 1 (by kernel_rfl)
   have c0 := yab hb X0.out; simp only [d1] at hK |-; have HK := zH hK; clear hK; go_simp; exact HK.out _ _ rfl (zR _ _)
  ·have d0 : vs 0 = .agg #[.nilFunc, .nilFunc, .nilFunc, .func (.func 58) #[] #[], .func (.func 59) #[] #[], .func (.func 60) #[] #[], .func (.func 58) #[] #[], .func (.func 59) #[] #[], .func (.func 61) #[] #[], .func (.func 62) #[] #[], .func (.func 63) #[] #[], .func (.func 64) #[] #[]] := hd 0 (by kernel_rfl)
   have d2 : vs 2 = .int .i64 3 := hd 2 (by kernel_rfl)
   simp only [d0, d2] at hK |-; have HK := zH hK; clear hK; go_simp; exact HK.out _ _ rfl (zR _ _)
 ·intro vs w4 hb hd
  have d3 : vs 3 = .agg #[.func (.func 62) #[] #[], .func (.func 63) #[] #[], .func (.func 64) #[] #[]] := hd 3 (by omega)
  have hX4 := (hb.block (bx + 1) (by have := HS3.out; omega)).trans HX3.out
  have HX4 := zH hX4; have HB4 := zH (HB3.out.trans (hb.mono (by have := HS3.out; omega)))
  simp only [frameV, zS, zA, zB, List.drop_succ_cons, List.drop_zero, d3]; have x0 := cellAt (i := 0) (v := .nilFunc) hX4 rfl; have f0 := frozen_of_row _ (bx + 1) 0 _ _ hX4; have x1 := cellAt (i := 1) (v := .nilFunc) hX4 rfl; have f1 := frozen_of_row _ (bx + 1) 1 _ _ hX4; have x2 := cellAt (i := 2) (v := .nilFunc) hX4 rfl; have f2 := frozen_of_row _ (bx + 1) 2 _ _ hX4; clear hb hd d3 hX4
  go_wp2
  have h1 := heap_setCell_same _ (bx + 1) 0 _ _ (.func (.func 62) #[] #[]) HX4.out; have h2 := heap_setCell_same _ (bx + 1) 1 _ _ (.func (.func 63) #[] #[]) h1; have h3 := heap_setCell_same _ (bx + 1) 2 _ _ (.func (.func 64) #[] #[]) h2; have z0 := cellAt (i := 0) (v := .func (.func 62) #[] #[]) h3 rfl; have z1 := cellAt (i := 1) (v := .func (.func 63) #[] #[]) h3 rfl; have z2 := cellAt (i := 2) (v := .func (.func 64) #[] #[]) h3 rfl; refine bodyPost_ret (v := .agg #[.func (.func 62) #[] #[], .func (.func 63) #[] #[], .func (.func 64) #[] #[]]) (by simp [results, Tryz.results27, go_sem, z0, z1, z2]) rfl ⟨rfl, ?_⟩
  rw [HBX.out]; exact ((HB4.out.setCell (p := ⟨bx + 1, 0, none⟩) (by show bx <= bx + 1; omega) _).setCell (p := ⟨bx + 1, 1, none⟩) (by show bx <= bx + 1; omega) _).setCell (p := ⟨bx + 1, 2, none⟩) (by show bx <= bx + 1; omega) _
theorem bsz {b : Nat} {w w1 : World} (h : Below b w w1) (e : w.heap.size = b) : b <= w1.heap.size := by have := h.size; rw [e] at this; exact this
def SV.plc (p : PL) : SV := ⟨fun v w => PlcAt w v p, fun _ _ _ h hb => h.below hb (zN _)⟩
set_option maxHeartbeats 8000000 in
theorem yyw {w : World} {pu pv : Value} {p q : PL} (hp : PlcAt w pu p) (hq : PlcAt w pv q) {r : Int} (hr : cmpP p q = r) : Calls Tryz.prog 28 #[pu, pv] w fun e w' => e = .returned (.int .i64 r) /\ Below w.heap.size w w' := by
 obtain ⟨s, us, rfl, es, rs, ss⟩ := hp; obtain ⟨s', us', rfl, es', rs', ss'⟩ := hq; obtain ⟨A1, k1, rfl⟩ := rs.form; obtain ⟨A2, k2, rfl⟩ := rs'.form; obtain ⟨n1, hn1⟩ : ∃ n, p.lists.length = n := ⟨_, rfl⟩; obtain ⟨n2, hn2⟩ : ∃ n, q.lists.length = n := ⟨_, rfl⟩; rw [hn1] at rs; rw [hn2] at rs'; have CS := zH (fun w => yxu s s' w)
 rw [es, es'] at CS; unfold cmpP at hr; obtain ⟨r1, hr1⟩ : ∃ x, cmpB p.bytes q.bytes = x := ⟨_, rfl⟩; obtain ⟨r2, hr2⟩ : ∃ x, cmpLL p.lists q.lists = x := ⟨_, rfl⟩; rw [hr1] at CS hr; rw [hr2] at hr
 have CL : Hid (∀ w1 : World, Below w.heap.size w w1 -> Calls Tryz.prog 48 #[.slice A1 n1 k1, .slice A2 n2 k2, .func (.func 49) #[] #[]] w1 fun e w' => e = .returned (.int .i64 r2) /\ w1 = w') := fun w1 hb => ynu (rs.below hb (zN _)) (rs'.below hb (zN _)) ss ss' hr2
 have HR := zH hr; rw [hn1, hn2]; have hb1 := belAlloc w (.cells #[.string s, .slice A1 n1 k1] 63); have hb2 := belAlloc (w.alloc (.cells #[.string s, .slice A1 n1 k1] 63)) (.cells #[.string s', .slice A2 n2 k2] 63); have hx := heap_alloc_new (w.alloc (.cells #[.string s, .slice A1 n1 k1] 63)) (.cells #[.string s', .slice A2 n2 k2] 63); have hc := (hb2.block w.heap.size (by simp)).trans (heap_alloc_new w (.cells #[.string s, .slice A1 n1 k1] 63))
 have HX := zH hx; have HC := zH hc; have HB := zH (hb1.trans (hb2.mono hb1.size))
 have HS : Hid ((w.alloc (.cells #[.string s, .slice A1 n1 k1] 63)).heap.size = w.heap.size + 1) := World.size_alloc _ _
 have HS2 : Hid (((w.alloc (.cells #[.string s, .slice A1 n1 k1] 63)).alloc (.cells #[.string s', .slice A2 n2 k2] 63)).heap.size = w.heap.size + 2) := by show _ = _; rw [World.size_alloc, World.size_alloc]
 clear hb1 hb2 hx hc es es' rs rs' ss ss' hr1 hr2 hr hn1 hn2
 go_enter Tryz.func28, Tryz.ntmps28
 go_upto_region 1 with (fail)
 generalize hw1 : (w.alloc (.cells #[.string s, .slice A1 n1 k1] 63)) = w1 at HX HB HS HS2 HC |-; rw [HS.out] at HX; clear hw1; generalize (w1.alloc (.cells #[.string s', .slice A2 n2 k2] 63)) = w2 at HX HB HS2 HC |-; obtain ⟨bx, hbx⟩ : ∃ b, w.heap.size = b := ⟨_, rfl⟩; have HBX := zH hbx; rw [hbx] at HX HB HS2 HC CL; rw [show (({ block := w.heap.size + 1, off := 0 } : Addr)) = ⟨bx + 1, 0, none⟩ by rw [hbx], show (({ block := w.heap.size, off := 0 } : Addr)) = ⟨bx, 0, none⟩ by rw [hbx]]
 clear hbx; have X0 := zH (cellAt (i := 0) (v := .string s) HC.out rfl); have X1 := zH (cellAt (i := 1) (v := .slice A1 n1 k1) HC.out rfl); have Y0 := zH (cellAt (i := 0) (v := .string s') HX.out rfl); have Y1 := zH (cellAt (i := 1) (v := .slice A2 n2 k2) HX.out rfl); refine yag (m := 10) [5, 6, 7, 8, 9, 10, 11, 12, 13, 14] [SV.eq (.pointer (some ⟨bx, 0, none⟩)), SV.eq (.string s), SV.eq (.pointer (some ⟨bx + 1, 0, none⟩)), SV.eq (.string s'), SV.eq (.int .i64 r1), SV.eq (.pointer (some ⟨bx, 1, none⟩)), SV.eq (.slice A1 n1 k1), SV.eq (.pointer (some ⟨bx + 1, 1, none⟩)), SV.eq (.slice A2 n2 k2), SV.eq (.int .i64 r2)] (by kernel_rfl) (by kernel_rfl) ?_ ?_
 ·refine ⟨⟨⟨⟨⟨⟨⟨⟨⟨⟨trivial, ?_⟩, ?_⟩, ?_⟩, ?_⟩, ?_⟩, ?_⟩, ?_⟩, ?_⟩, ?_⟩, ?_⟩
  all_goals (refine OpIs.mk rfl ?_; intro vs w1 hb hd K hK; simp only [frameV, zS, zA, zB, zC, zD] at hK |-)
  ·have HK := zH hK; clear hK; go_simp; exact HK.out _ _ rfl (zR _ _)
  ·have d0 : vs 0 = .pointer (some ⟨bx, 0, none⟩) := hd 0 (by kernel_rfl)
   have c0 := yab hb X0.out; simp only [d0] at hK |-; have HK := zH hK; clear hK; go_simp; exact HK.out _ _ rfl (zR _ _)
  ·have HK := zH hK; clear hK; go_simp; exact HK.out _ _ rfl (zR _ _)
  ·have d2 : vs 2 = .pointer (some ⟨bx + 1, 0, none⟩) := hd 2 (by kernel_rfl)
   have c0 := yab hb Y0.out; simp only [d2] at hK |-; have HK := zH hK; clear hK; go_simp; exact HK.out _ _ rfl (zR _ _)
  ·have d1 : vs 1 = .string s := hd 1 (by kernel_rfl)
   have d3 : vs 3 = .string s' := hd 3 (by kernel_rfl)
   simp only [d1, d3] at hK |-; have HK := zH hK; clear hK; go_simp
   go_at_call 47
   refine (CS.out _).mono ?_; rintro e w3 ⟨rfl, rfl⟩; exact HK.out _ _ rfl (zR _ _)
  ·have HK := zH hK; clear hK; go_simp; exact HK.out _ _ rfl (zR _ _)
  ·have d5 : vs 5 = .pointer (some ⟨bx, 1, none⟩) := hd 5 (by kernel_rfl)
   have c0 := yab hb X1.out; simp only [d5] at hK |-; have HK := zH hK; clear hK; go_simp; exact HK.out _ _ rfl (zR _ _)
  ·have HK := zH hK; clear hK; go_simp; exact HK.out _ _ rfl (zR _ _)
  ·have d7 : vs 7 = .pointer (some ⟨bx + 1, 1, none⟩) := hd 7 (by kernel_rfl)
   have c0 := yab hb Y1.out; simp only [d7] at hK |-; have HK := zH hK; clear hK; go_simp; exact HK.out _ _ rfl (zR _ _)
  ·have d6 : vs 6 = .slice A1 n1 k1 := hd 6 (by kernel_rfl)
   have d8 : vs 8 = .slice A2 n2 k2 := hd 8 (by kernel_rfl)
   simp only [d6, d8] at hK |-; have HK := zH hK; clear hK; go_simp
   go_at_call 48
   refine (CL.out _ (HB.out.trans (hb.mono (by rw [HS2.out]; omega)))).mono ?_
   rintro e w3 ⟨rfl, rfl⟩; exact HK.out _ _ rfl (zR _ _)
 ·intro vs w3 hb hd
  have d4 : vs 4 = .int .i64 r1 := hd 4 (by omega)
  have d9 : vs 9 = .int .i64 r2 := hd 9 (by omega)
  have HB3 := zH (HB.out.trans (hb.mono (by rw [HS2.out]; omega)))
  simp only [frameV, zS, zA, zB, List.drop_succ_cons, List.drop_zero, d4, d9]; have hy := heap_alloc_new w3 (.cells #[.int .i64 r1, .int .i64 r2] 3); have CO := zH (or_two (cellAt (i := 0) (v := .int .i64 r1) hy rfl) (cellAt (i := 0 + 1) (v := .int .i64 r2) hy rfl) (zN 2) HR.out); have HB4 := zH (HB3.out.trans ((belAlloc w3 (.cells #[.int .i64 r1, .int .i64 r2] 3)).mono (bsz HB3.out HBX.out))); clear hb hd d4 d9 hy
  go_wp2_with (go_at_call 46; refine (CO.out).mono ?_; rintro e w' ⟨rfl, rfl⟩)
  go_ret
  exact ⟨rfl, by rw [HBX.out]; exact HB4.out⟩
set_option maxHeartbeats 8000000 in
theorem Cmp_gen {k l : Int} {sh bk : Bool} {P : Option Addr} {w : World} {a b : ByteArray} {f1 f2 f3 : Nat} {p q : PL}
  (eg : ∀ args w, (callFunc f3 args).run Tryz.prog w = .ok (.enter f3 args) w)
  (hk : ∀ w : World, Calls Tryz.prog 27 #[.agg #[.int .i64 k, .int .i64 l, .bool sh, .bool bk, .pointer P]] w fun e w' => e = .returned (.agg #[.func (.func f1) #[] #[], .func (.func f2) #[] #[], .func (.func f3) #[] #[]]) /\ Below w.heap.size w w')
  (hp : ∀ w1 : World, Below w.heap.size w w1 -> Calls Tryz.prog f3 #[.agg #[.int .i64 k, .int .i64 l, .bool sh, .bool bk, .pointer P], .string a] w1 fun e w' => (∃ v, e = .returned v /\ PlcAt w' v p) /\ Below w1.heap.size w1 w')
  (hq : ∀ w1 : World, Below w.heap.size w w1 -> Calls Tryz.prog f3 #[.agg #[.int .i64 k, .int .i64 l, .bool sh, .bool bk, .pointer P], .string b] w1 fun e w' => (∃ v, e = .returned v /\ PlcAt w' v q) /\ Below w1.heap.size w1 w') {r : Int} (hr : cmpP p q = r) :
  Calls Tryz.prog 15 #[.agg #[.int .i64 k, .int .i64 l, .bool sh, .bool bk, .pointer P], .string a, .string b] w fun e w' => e = .returned (.int .i64 r) /\ Below w.heap.size w w' := by
 have CK := zH hk; have CP := zH hp; have CQ := zH hq; have HR := zH hr; clear hk hp hq hr; have HX := zH (heap_alloc_new w (.cells #[.int .i64 k, .int .i64 l, .bool sh, .bool bk, .pointer P] 25)); have HB := zH (belAlloc w (.cells #[.int .i64 k, .int .i64 l, .bool sh, .bool bk, .pointer P] 25))
 go_enter Tryz.func15, Tryz.ntmps15
 go_upto_region 1 with (fail)
 generalize (w.alloc (.cells #[.int .i64 k, .int .i64 l, .bool sh, .bool bk, .pointer P] 25)) = w1 at HX HB |-; obtain ⟨bx, hbx⟩ : ∃ b, w.heap.size = b := ⟨_, rfl⟩; have HBX := zH hbx; rw [hbx] at HX HB; rw [show (({ block := w.heap.size, off := 0 } : Addr)) = ⟨bx, 0, none⟩ by rw [hbx]]
 clear hbx; have X0 := zH (cellAt (i := 0) (v := .int .i64 k) HX.out rfl); have X1 := zH (cellAt (i := 1) (v := .int .i64 l) HX.out rfl); have X2 := zH (cellAt (i := 2) (v := .bool sh) HX.out rfl); have X3 := zH (cellAt (i := 3) (v := .bool bk) HX.out rfl); have X4 := zH (cellAt (i := 4) (v := .pointer P) HX.out rfl); have c0 := X0.out; have c1 := X1.out; have c2 := X2.out; have c3 := X3.out; have c4 := X4.out
 go_upto_region 2 with (go_at_call 27; refine (CK.out _).mono ?_; rintro e w3 ⟨rfl, hb⟩; have hC3 := (hb.block bx (R4.yad HX.out)).trans HX.out; have hC4 := ((belAlloc w3 (.cells #[.func (.func f1) #[] #[], .func (.func f2) #[] #[], .func (.func f3) #[] #[]] 59)).block bx (R4.yad hC3)).trans hC3; have HC4 := zH hC4; have HF4 := zH (heap_alloc_new w3 (.cells #[.func (.func f1) #[] #[], .func (.func f2) #[] #[], .func (.func f3) #[] #[]] 59)); have HB4 := zH ((HB.out.trans (hb.mono (bsz HB.out HBX.out))).trans ((belAlloc w3 (.cells #[.func (.func f1) #[] #[], .func (.func f2) #[] #[], .func (.func f3) #[] #[]] 59)).mono (Nat.le_trans (bsz HB.out HBX.out) hb.size))); have HS4 : Hid (bx < w3.heap.size) := (R4.yad hC3); clear c0 c1 c2 c3 c4 hb hC3 hC4)
 generalize (w3.alloc (.cells #[.func (.func f1) #[] #[], .func (.func f2) #[] #[], .func (.func f3) #[] #[]] 59)) = w4 at HC4 HF4 HB4 |-; obtain ⟨fx, hfx⟩ : ∃ b, w3.heap.size = b := ⟨_, rfl⟩; rw [hfx] at HF4 HS4 |-; clear hfx X0 X1 X2 X3 X4; have X0 := zH (cellAt (i := 0) (v := .int .i64 k) HC4.out rfl); have X1 := zH (cellAt (i := 1) (v := .int .i64 l) HC4.out rfl); have X2 := zH (cellAt (i := 2) (v := .bool sh) HC4.out rfl); have X3 := zH (cellAt (i := 3) (v := .bool bk) HC4.out rfl); have X4 := zH (cellAt (i := 4) (v := .pointer P) HC4.out rfl); have F2 := zH (cellAt (i := 2) (v := .func (.func f3) #[] #[]) HF4.out rfl); refine yag (m := 11) [10, 11, 12, 13, 14, 15, 16, 17, 18, 19, 20] [SV.eq (.pointer (some ⟨fx, 2, none⟩)), SV.eq (.func (.func f3) #[] #[]), SV.eq (.agg #[.int .i64 k, .int .i64 l, .bool sh, .bool bk, .pointer P]), SV.eq (.string a), SV.plc p, SV.eq (.pointer (some ⟨fx, 2, none⟩)), SV.eq (.func (.func f3) #[] #[]), SV.eq (.agg #[.int .i64 k, .int .i64 l, .bool sh, .bool bk, .pointer P]), SV.eq (.string b), SV.plc q, SV.eq (.int .i64 r)] (by kernel_rfl) (by kernel_rfl) ?_ ?_
 ·refine ⟨⟨⟨⟨⟨⟨⟨⟨⟨⟨⟨trivial, ?_⟩, ?_⟩, ?_⟩, ?_⟩, ?_⟩, ?_⟩, ?_⟩, ?_⟩, ?_⟩, ?_⟩, ?_⟩
  all_goals (refine OpIs.mk rfl ?_; intro vs w1 hb hd K hK; simp only [frameV, zS, zA, zB, zC, zD] at hK |-)
  ·have HK := zH hK; clear hK; go_simp; exact HK.out _ _ rfl (zR _ _)
  ·have d0 : vs 0 = .pointer (some ⟨fx, 2, none⟩) := hd 0 (by kernel_rfl)
   have c0 := yab hb F2.out; simp only [d0] at hK |-; have HK := zH hK; clear hK; go_simp; exact HK.out _ _ rfl (zR _ _)
  ·have c0 := yab hb X0.out; have c1 := yab hb X1.out; have c2 := yab hb X2.out; have c3 := yab hb X3.out; have c4 := yab hb X4.out; have HK := zH hK; clear hK; go_simp; exact HK.out _ _ rfl (zR _ _)
  ·have HK := zH hK; clear hK; go_simp; exact HK.out _ _ rfl (zR _ _)
  ·have d1 : vs 1 = .func (.func f3) #[] #[] := hd 1 (by kernel_rfl)
   have d2 : vs 2 = .agg #[.int .i64 k, .int .i64 l, .bool sh, .bool bk, .pointer P] := hd 2 (by kernel_rfl)
   have d3 : vs 3 = .string a := hd 3 (by kernel_rfl)
   simp only [d1, d2, d3] at hK |-; have HK := zH hK; clear hK; go_simp; refine (CP.out _ (by rw [HBX.out]; exact HB4.out.trans (hb.mono (bsz HB4.out HBX.out)))).mono ?_
   rintro e w5 ⟨⟨v, rfl, hv⟩, hb5⟩; exact HK.out _ _ hv hb5
  ·have HK := zH hK; clear hK; go_simp; exact HK.out _ _ rfl (zR _ _)
  ·have d5 : vs 5 = .pointer (some ⟨fx, 2, none⟩) := hd 5 (by kernel_rfl)
   have c0 := yab hb F2.out; simp only [d5] at hK |-; have HK := zH hK; clear hK; go_simp; exact HK.out _ _ rfl (zR _ _)
  ·have c0 := yab hb X0.out; have c1 := yab hb X1.out; have c2 := yab hb X2.out; have c3 := yab hb X3.out; have c4 := yab hb X4.out; have HK := zH hK; clear hK; go_simp; exact HK.out _ _ rfl (zR _ _)
  ·have HK := zH hK; clear hK; go_simp; exact HK.out _ _ rfl (zR _ _)
  ·have d6 : vs 6 = .func (.func f3) #[] #[] := hd 6 (by kernel_rfl)
   have d7 : vs 7 = .agg #[.int .i64 k, .int .i64 l, .bool sh, .bool bk, .pointer P] := hd 7 (by kernel_rfl)
   have d8 : vs 8 = .string b := hd 8 (by kernel_rfl)
   simp only [d6, d7, d8] at hK |-; have HK := zH hK; clear hK; go_simp; refine (CQ.out _ (by rw [HBX.out]; exact HB4.out.trans (hb.mono (bsz HB4.out HBX.out)))).mono ?_
   rintro e w5 ⟨⟨v, rfl, hv⟩, hb5⟩; exact HK.out _ _ hv hb5
  ·have d4 : (SV.plc p).p (vs 4) w1 := hd 4 (by kernel_rfl)
   have d9 : (SV.plc q).p (vs 9) w1 := hd 9 (by kernel_rfl)
   have HK := zH hK; clear hK; go_simp
   go_at_call 28
   refine (yyw d4 d9 HR.out).mono ?_; rintro e w5 ⟨rfl, hb5⟩; exact HK.out _ _ rfl hb5
 ·intro vs w5 hb hd
  have d10 : vs 10 = .int .i64 r := hd 10 (by omega)
  have HB5 := zH (HB4.out.trans (hb.mono (bsz HB4.out HBX.out))); simp only [frameV, zS, zA, zB, List.drop_succ_cons, List.drop_zero, d10]; clear hb hd d10
  go_wp2
  go_ret
  exact ⟨rfl, by rw [HBX.out]; exact HB5.out⟩
def okV (k l : Int) (P : Option Addr) : Bool := decide (k = 1) || decide (k = 2) || (decide (k = 3) && tabB l P)
theorem ok_all (k l : Int) (sh bk : Bool) (P : Option Addr) (w : World) : Calls Tryz.prog 19 #[.agg #[.int .i64 k, .int .i64 l, .bool sh, .bool bk, .pointer P]] w fun e w' => e = .returned (.bool (okV k l P)) /\ Below w.heap.size w w' := by
 by_cases h1 : k = 1
 ·subst h1; exact ok_1 l sh bk P w
 by_cases h2 : k = 2
 ·subst h2; exact ok_2 l sh bk P w
 by_cases h3 : k = 3
 ·subst h3
  have := ok_3 l sh bk P w
  have e : okV 3 l P = tabB l P := by unfold okV; simp
  rw [e]; exact this
 ·have e : okV k l P = false := by unfold okV; simp [h1, h2, h3]
  rw [e]
  by_cases h : 1 <= k
  ·exact ok_high h (by omega) l sh bk P w
  ·exact ok_low h l sh bk P w
def ColAt (w : World) (v : Value) (K : CK) : Prop := ∃ (k l : Int) (sh bk : Bool) (P : Option Addr), v = .agg #[.int .i64 k, .int .i64 l, .bool sh, .bool bk, .pointer P] /\ match K with
 | .bytes => k = 1 \/ okV k l P = false
 | .fold => k = 2
 | .table n s b L => k = 3 /\ l = (n : Nat) /\ 1 <= n /\ n <= 3 /\ sh = s /\ bk = b /\ ∃ p : Nat, P = some ⟨p, 0, none⟩ /\ TabAt anyB w p L
theorem ColAt.below {B : Nat} {w w' : World} {v : Value} {K : CK} (h : ColAt w v K) (hb : Below B w w') (hB : w.heap.size <= B) : ColAt w' v K := by
 obtain ⟨k, l, sh, bk, P, e, h⟩ := h; refine ⟨k, l, sh, bk, P, e, ?_⟩
 cases K with
 | bytes => exact h
 | fold => exact h
 | table n s b L =>
  obtain ⟨h1, h2, h3, h4, h5, h6, p, h7, h8⟩ := h; exact ⟨h1, h2, h3, h4, h5, h6, p, h7, h8.below hb hB⟩
theorem shL_ws {n : Nat} (hn : n <= 3) (sh bk : Bool) {E : List Nat} (hE : E.length <= 1000000) : ∀ lv, ShL (wsL sh bk E n lv) := by
 intro lv; refine ⟨by rw [ymn]; omega, ?_⟩
 have : ∀ n lv, ∀ x ∈ wsL sh bk E n lv, x.length <= 10000000 := by
  intro n
  induction n with
  | zero => intro lv x h; cases h
  | succ n ih =>
   intro lv x h
   rcases List.mem_cons.1 h with rfl | h
   ·have := yse lv sh E
    unfold wsP
    split
    ·rw [List.length_reverse]; omega
    ·omega
   ·exact ih _ x h
 exact this n lv
def kf1 : CK -> Nat | .table .. => 62 | _ => 58
def kf2 : CK -> Nat | .table .. => 63 | _ => 59
def kf3 : CK -> Nat | .table .. => 64 | .fold => 61 | .bytes => 60
theorem yzw {w0 : World} {v : Value} {K : CK} (h : ColAt w0 v K) (w : World) : Calls Tryz.prog 27 #[v] w fun e w' => e = .returned (.agg #[.func (.func (kf1 K)) #[] #[], .func (.func (kf2 K)) #[] #[], .func (.func (kf3 K)) #[] #[]]) /\ Below w.heap.size w w' := by
 obtain ⟨k, l, sh, bk, P, rfl, h⟩ := h; have HO := fun w => ok_all k l sh bk P w
 cases K with
 | bytes =>
  rcases h with rfl | h
  ·exact kind_1 (fun w => ok_1 l sh bk P w) w
  ·rw [h] at HO; exact kind_no HO w
 | fold =>
  obtain rfl : k = 2 := h; exact kind_2 (fun w => ok_2 l sh bk P w) w
 | table n s b L =>
  obtain ⟨rfl, rfl, h3, h4, rfl, rfl, p, rfl, -⟩ := h
  have e : okV 3 (n : Nat) (some ⟨p, 0, none⟩) = true := by
   unfold okV tabB
   have a1 : (1 : Int) <= (n : Nat) := by omega
   have a2 : ((n : Nat) : Int) <= 3 := by omega
   simp [a1, a2]
  rw [e] at HO; exact kind_3 HO w
theorem eg_1 : ∀ args w, (callFunc 60 args).run Tryz.prog w = .ok (.enter 60 args) w := enters_of Tryz.func60 (by kernel_rfl) rfl
theorem eg_2 : ∀ args w, (callFunc 61 args).run Tryz.prog w = .ok (.enter 61 args) w := enters_of Tryz.func61 (by kernel_rfl) rfl
theorem eg_3 : ∀ args w, (callFunc 64 args).run Tryz.prog w = .ok (.enter 64 args) w := enters_of Tryz.func64 (by kernel_rfl) rfl
theorem eg_all (K : CK) : ∀ args w, (callFunc (kf3 K) args).run Tryz.prog w = .ok (.enter (kf3 K) args) w := by
 cases K with
 | bytes => exact eg_1
 | fold => exact eg_2
 | table n s b L => exact eg_3
theorem yln {w : World} {v : Value} {K : CK} (h : ColAt w v K) (b : ByteArray) (hb : b.size <= 100000) : Calls Tryz.prog (kf3 K) #[v, .string b] w fun e w' => (∃ u, e = .returned u /\ PlcAt w' u (plK K b.data.toList)) /\ Below w.heap.size w w' := by
 obtain ⟨k, l, sh, bk, P, rfl, h⟩ := h
 cases K with
 | bytes => exact (yyv k l sh bk (.pointer P) b w).mono fun e w' ⟨h1, h2⟩ => ⟨⟨_, h1, b, _, rfl, rfl, RdLL.nil _, ysw⟩, h2⟩
 | fold => exact (pl_fold k l sh bk (.pointer P) b w (by omega)).mono fun e w' ⟨h1, h2⟩ => ⟨⟨_, h1, _, _, rfl, rfl, RdLL.nil _, ysw⟩, h2⟩
 | table n s b' L =>
  obtain ⟨rfl, rfl, h3, h4, rfl, rfl, p, rfl, ht⟩ := h; have hl := ykw ht.good (T2.sgs b.data.toList); have hs := T2.yeo b.data.toList; rw [T2.ba_len] at hs; exact (yyu ht b hb 3 h3 h4 sh bk rfl).mono fun e w' ⟨⟨u, h1, h2⟩, h5⟩ => ⟨⟨_, h1, _, u, rfl, rfl, h2, shL_ws h4 sh bk (by omega) 1⟩, h5⟩
theorem yef {w : World} {v : Value} {K : CK} (h : ColAt w v K) {a b : ByteArray} (ha : a.size <= 100000) (hb : b.size <= 100000) {r : Int} (hr : colK K a.data.toList b.data.toList = r) :
  Calls Tryz.prog 15 #[v, .string a, .string b] w fun e w' => e = .returned (.int .i64 r) /\ Below w.heap.size w w' := by
 have hk := fun w1 => yzw h w1
 have hp := fun (w1 : World) (hB : Below w.heap.size w w1) => yln (h.below hB (zN _)) a ha
 have hq := fun (w1 : World) (hB : Below w.heap.size w w1) => yln (h.below hB (zN _)) b hb
 obtain ⟨k, l, sh, bk, P, rfl, -⟩ := h; exact Cmp_gen (eg_all K) hk hp hq hr
set_option maxHeartbeats 1000000 in
theorem Same_any {w : World} {v : Value} {K : CK} (h : ColAt w v K) {a b : ByteArray} (ha : a.size <= 100000) (hb : b.size <= 100000) {r : Bool} (hr : decide (colK K a.data.toList b.data.toList = 0) = r) :
  Calls Tryz.prog 20 #[v, .string a, .string b] w fun e w' => e = .returned (.bool r) /\ Below w.heap.size w w' := by
 obtain ⟨z, hz⟩ : ∃ z, colK K a.data.toList b.data.toList = z := ⟨_, rfl⟩
 have CC : Hid (∀ w1 : World, Below w.heap.size w w1 -> Calls Tryz.prog 15 #[v, .string a, .string b] w1 fun e w' => e = .returned (.int .i64 z) /\ Below w1.heap.size w1 w') := fun w1 hB => yef (h.below hB (zN _)) ha hb hz
 have hr : ((z : Int) == 0) = r := by
  rw [<- hr, hz]
  by_cases e : z = 0 <;> simp [e]
 obtain ⟨k, l, sh, bk, P, rfl, -⟩ := h; have hx := heap_alloc_new w (.cells #[.int .i64 k, .int .i64 l, .bool sh, .bool bk, .pointer P] 25); have c0 := cellAt (i := 0) (v := .int .i64 k) hx rfl; have c1 := cellAt (i := 1) (v := .int .i64 l) hx rfl; have c2 := cellAt (i := 2) (v := .bool sh) hx rfl; have c3 := cellAt (i := 3) (v := .bool bk) hx rfl; have c4 := cellAt (i := 4) (v := .pointer P) hx rfl; have HB := zH (belAlloc w (.cells #[.int .i64 k, .int .i64 l, .bool sh, .bool bk, .pointer P] 25)); clear hx hz ha hb
 go_enter Tryz.func20, Tryz.ntmps20
 go_wp2_with (go_at_call 15; refine (CC.out _ HB.out).mono ?_; rintro e w3 ⟨rfl, hb⟩; have HB3 := zH (HB.out.trans (hb.mono HB.out.size)); clear hb c0 c1 c2 c3 c4)
 go_ret
 exact ⟨rfl, HB3.out⟩
end Go.Proofs.YteibnfeokgibmaaGreat
