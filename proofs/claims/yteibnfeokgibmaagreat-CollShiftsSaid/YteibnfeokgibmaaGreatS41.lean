/-
  PACKED for a claim.
-/
import Derived.Test.YteibnfeokgibmaaGreatS40
set_option linter.unusedVariables false
set_option linter.unusedSimpArgs false
set_option maxRecDepth 100000
namespace Go.Proofs.YteibnfeokgibmaaGreat
open Go.RowKit
set_option maxHeartbeats 8000000 in
theorem yyj {k l : Int} {sh bk : Bool} {P : Option Addr} (hO : ∀ w : World, Calls Tryz.prog 19 #[.agg #[.int .i64 k, .int .i64 l, .bool sh, .bool bk, .pointer P]] w fun e w' => e = .returned (.bool false) /\ Below w.heap.size w w') (w : World) :
  Calls Tryz.prog 27 #[.agg #[.int .i64 k, .int .i64 l, .bool sh, .bool bk, .pointer P]] w fun e w' => e = .returned (.agg #[.func (.func 58) #[] #[], .func (.func 59) #[] #[], .func (.func 60) #[] #[]]) /\ Below w.heap.size w w' := by
 have CO := zH hO; clear hO
 have hix : ∀ w : World, (Instr.index 72 (.agg #[.nilFunc, .nilFunc, .nilFunc, .func (.func 58) #[] #[], .func (.func 59) #[] #[], .func (.func 60) #[] #[], .func (.func 58) #[] #[], .func (.func 59) #[] #[], .func (.func 61) #[] #[], .func (.func 62) #[] #[], .func (.func 63) #[] #[], .func (.func 64) #[] #[]]) (.int .i64 1)).run Tryz.prog w = .ok (.agg #[.func (.func 58) #[] #[], .func (.func 59) #[] #[], .func (.func 60) #[] #[]]) w := fun _ => rfl
 have hb1 := belAlloc w (.cells #[.int .i64 k, .int .i64 l, .bool sh, .bool bk, .pointer P] 25); have hb2 := belAlloc (w.alloc (.cells #[.int .i64 k, .int .i64 l, .bool sh, .bool bk, .pointer P] 25)) (.cells #[.nilFunc, .nilFunc, .nilFunc] 59); have hx := heap_alloc_new (w.alloc (.cells #[.int .i64 k, .int .i64 l, .bool sh, .bool bk, .pointer P] 25)) (.cells #[.nilFunc, .nilFunc, .nilFunc] 59); have hc := (hb2.block w.heap.size (by simp)).trans (heap_alloc_new w (.cells #[.int .i64 k, .int .i64 l, .bool sh, .bool bk, .pointer P] 25))
 have HX := zH hx; have HC := zH hc; have HB := zH (hb1.trans (hb2.mono hb1.size))
 have HS : Hid ((w.alloc (.cells #[.int .i64 k, .int .i64 l, .bool sh, .bool bk, .pointer P] 25)).heap.size = w.heap.size + 1) := World.size_alloc _ _
 have HS2 : Hid (((w.alloc (.cells #[.int .i64 k, .int .i64 l, .bool sh, .bool bk, .pointer P] 25)).alloc (.cells #[.nilFunc, .nilFunc, .nilFunc] 59)).heap.size = w.heap.size + 2) := by show _ = _; rw [World.size_alloc, World.size_alloc]
 clear hb1 hb2 hx hc
 go_enter Tryz.func27, Tryz.ntmps27
 go_upto_region 1 with (fail)
 generalize hw1 : (w.alloc (.cells #[.int .i64 k, .int .i64 l, .bool sh, .bool bk, .pointer P] 25)) = w1 at HX HB HS HS2 HC |-; rw [HS.out] at HX; clear hw1; generalize (w1.alloc (.cells #[.nilFunc, .nilFunc, .nilFunc] 59)) = w2 at HX HB HS2 HC |-; obtain ⟨bx, hbx⟩ : ∃ b, w.heap.size = b := ⟨_, rfl⟩; have HBX := zH hbx; rw [hbx] at HX HB HS2 HC; rw [show (({ block := w.heap.size + 1, off := 0 } : Addr)) = ⟨bx + 1, 0, none⟩ by rw [hbx], show (({ block := w.heap.size, off := 0 } : Addr)) = ⟨bx, 0, none⟩ by rw [hbx]]
 clear hbx; have c0 := cellAt (i := 0) (v := .int .i64 k) HC.out rfl; have c1 := cellAt (i := 1) (v := .int .i64 l) HC.out rfl; have c2 := cellAt (i := 2) (v := .bool sh) HC.out rfl; have c3 := cellAt (i := 3) (v := .bool bk) HC.out rfl; have c4 := cellAt (i := 4) (v := .pointer P) HC.out rfl
 go_wp2_with (first | (go_at_call 19; refine (CO.out _).mono ?_; rintro e w3 ⟨rfl, hb⟩; have hC3 := (hb.block bx (by rw [HS2.out]; omega)).trans HC.out; have hX3 := (hb.block (bx + 1) (by rw [HS2.out]; omega)).trans HX.out; have HC3 := zH hC3; have HX3 := zH hX3; have HB3 := zH (HB.out.trans (hb.mono (by rw [HS2.out]; omega))); have HS3 : Hid (bx + 2 <= w3.heap.size) := (by have := hb.size; rw [HS2.out] at this; exact this); clear c0 c1 c2 c3 c4 hb hC3 hX3) | (go_at_call 34; refine (yca _).mono ?_; rintro e w4 ⟨rfl, hb⟩; have hX4 := (hb.block (bx + 1) (by have := HS3.out; omega)).trans HX3.out; have HX4 := zH hX4; have HB4 := zH (HB3.out.trans (hb.mono (by have := HS3.out; omega))); have x0 := cellAt (i := 0) (v := .nilFunc) hX4 rfl; have f0 := frozen_of_row _ (bx + 1) 0 _ _ hX4; have x1 := cellAt (i := 1) (v := .nilFunc) hX4 rfl; have f1 := frozen_of_row _ (bx + 1) 1 _ _ hX4; have x2 := cellAt (i := 2) (v := .nilFunc) hX4 rfl; have f2 := frozen_of_row _ (bx + 1) 2 _ _ hX4; clear hb hX4))
 have h1 := heap_setCell_same _ (bx + 1) 0 _ _ (.func (.func 58) #[] #[]) HX4.out; have h2 := heap_setCell_same _ (bx + 1) 1 _ _ (.func (.func 59) #[] #[]) h1; have h3 := heap_setCell_same _ (bx + 1) 2 _ _ (.func (.func 60) #[] #[]) h2; have z0 := cellAt (i := 0) (v := .func (.func 58) #[] #[]) h3 rfl; have z1 := cellAt (i := 1) (v := .func (.func 59) #[] #[]) h3 rfl; have z2 := cellAt (i := 2) (v := .func (.func 60) #[] #[]) h3 rfl; refine bodyPost_ret (v := .agg #[.func (.func 58) #[] #[], .func (.func 59) #[] #[], .func (.func 60) #[] #[]]) (by simp [results, Tryz.results27, go_sem, z0, z1, z2]) rfl ⟨rfl, ?_⟩
 rw [HBX.out]; exact ((HB4.out.setCell (p := ⟨bx + 1, 0, none⟩) (by show bx <= bx + 1; omega) _).setCell (p := ⟨bx + 1, 1, none⟩) (by show bx <= bx + 1; omega) _).setCell (p := ⟨bx + 1, 2, none⟩) (by show bx <= bx + 1; omega) _
set_option maxHeartbeats 8000000 in
theorem kind_1 {l : Int} {sh bk : Bool} {P : Option Addr} (hO : ∀ w : World, Calls Tryz.prog 19 #[.agg #[.int .i64 1, .int .i64 l, .bool sh, .bool bk, .pointer P]] w fun e w' => e = .returned (.bool true) /\ Below w.heap.size w w') (w : World) :
  Calls Tryz.prog 27 #[.agg #[.int .i64 1, .int .i64 l, .bool sh, .bool bk, .pointer P]] w fun e w' => e = .returned (.agg #[.func (.func 58) #[] #[], .func (.func 59) #[] #[], .func (.func 60) #[] #[]]) /\ Below w.heap.size w w' := by
 have CO := zH hO; clear hO; have hb1 := belAlloc w (.cells #[.int .i64 1, .int .i64 l, .bool sh, .bool bk, .pointer P] 25); have hb2 := belAlloc (w.alloc (.cells #[.int .i64 1, .int .i64 l, .bool sh, .bool bk, .pointer P] 25)) (.cells #[.nilFunc, .nilFunc, .nilFunc] 59); have hx := heap_alloc_new (w.alloc (.cells #[.int .i64 1, .int .i64 l, .bool sh, .bool bk, .pointer P] 25)) (.cells #[.nilFunc, .nilFunc, .nilFunc] 59); have hc := (hb2.block w.heap.size (by simp)).trans (heap_alloc_new w (.cells #[.int .i64 1, .int .i64 l, .bool sh, .bool bk, .pointer P] 25))
 have HX := zH hx; have HC := zH hc; have HB := zH (hb1.trans (hb2.mono hb1.size))
 have HS : Hid ((w.alloc (.cells #[.int .i64 1, .int .i64 l, .bool sh, .bool bk, .pointer P] 25)).heap.size = w.heap.size + 1) := World.size_alloc _ _
 have HS2 : Hid (((w.alloc (.cells #[.int .i64 1, .int .i64 l, .bool sh, .bool bk, .pointer P] 25)).alloc (.cells #[.nilFunc, .nilFunc, .nilFunc] 59)).heap.size = w.heap.size + 2) := by show _ = _; rw [World.size_alloc, World.size_alloc]
 clear hb1 hb2 hx hc
 go_enter Tryz.func27, Tryz.ntmps27
 go_upto_region 1 with (fail)
 generalize hw1 : (w.alloc (.cells #[.int .i64 1, .int .i64 l, .bool sh, .bool bk, .pointer P] 25)) = w1 at HX HB HS HS2 HC |-; rw [HS.out] at HX; clear hw1; generalize (w1.alloc (.cells #[.nilFunc, .nilFunc, .nilFunc] 59)) = w2 at HX HB HS2 HC |-; obtain ⟨bx, hbx⟩ : ∃ b, w.heap.size = b := ⟨_, rfl⟩; have HBX := zH hbx; rw [hbx] at HX HB HS2 HC; rw [show (({ block := w.heap.size + 1, off := 0 } : Addr)) = ⟨bx + 1, 0, none⟩ by rw [hbx], show (({ block := w.heap.size, off := 0 } : Addr)) = ⟨bx, 0, none⟩ by rw [hbx]]
 clear hbx; have c0 := cellAt (i := 0) (v := .int .i64 1) HC.out rfl; have c1 := cellAt (i := 1) (v := .int .i64 l) HC.out rfl; have c2 := cellAt (i := 2) (v := .bool sh) HC.out rfl; have c3 := cellAt (i := 3) (v := .bool bk) HC.out rfl; have c4 := cellAt (i := 4) (v := .pointer P) HC.out rfl
 go_upto_region 3 with (go_at_call 19; refine (CO.out _).mono ?_; rintro e w3 ⟨rfl, hb⟩; have hC3 := (hb.block bx (by rw [HS2.out]; omega)).trans HC.out; have hX3 := (hb.block (bx + 1) (by rw [HS2.out]; omega)).trans HX.out; have HC3 := zH hC3; have HX3 := zH hX3; have HB3 := zH (HB.out.trans (hb.mono (by rw [HS2.out]; omega))); have HS3 : Hid (bx + 2 <= w3.heap.size) := (by have := hb.size; rw [HS2.out] at this; exact this); clear c0 c1 c2 c3 c4 hb hC3 hX3)
 have X0 := zH (cellAt (i := 0) (v := .int .i64 1) HC3.out rfl); refine yaj (m := 4) [8, 9, 10, 11] [SV.eq (.agg #[.nilFunc, .nilFunc, .nilFunc, .func (.func 58) #[] #[], .func (.func 59) #[] #[], .func (.func 60) #[] #[], .func (.func 58) #[] #[], .func (.func 59) #[] #[], .func (.func 61) #[] #[], .func (.func 62) #[] #[], .func (.func 63) #[] #[], .func (.func 64) #[] #[]]), SV.eq (.pointer (some ⟨bx, 0, none⟩)), SV.eq (.int .i64 1), SV.eq (.agg #[.func (.func 58) #[] #[], .func (.func 59) #[] #[], .func (.func 60) #[] #[]])] (by kernel_rfl) (by kernel_rfl) ?_ ?_
 ·refine ⟨⟨⟨⟨trivial, ?_⟩, ?_⟩, ?_⟩, ?_⟩
  all_goals (refine OpIs.mk rfl ?_; intro vs w1 hb hd K hK; simp only [frameV, zS, zA, zB, zC, zD] at hK |-)
  ·have HK := zH hK; clear hK; go_simp
   go_at_call 34
   refine (yca _).mono ?_; rintro e w4 ⟨rfl, hb3⟩; exact HK.out _ _ rfl hb3
  ·have HK := zH hK; clear hK; go_simp; exact HK.out _ _ rfl (zR _ _)
  ·have d1 : vs 1 = .pointer (some ⟨bx, 0, none⟩) := hd 1 (by kernel_rfl)
   have c0 := yac hb X0.out; simp only [d1] at hK |-; have HK := zH hK; clear hK; go_simp; exact HK.out _ _ rfl (zR _ _)
  ·have d0 : vs 0 = .agg #[.nilFunc, .nilFunc, .nilFunc, .func (.func 58) #[] #[], .func (.func 59) #[] #[], .func (.func 60) #[] #[], .func (.func 58) #[] #[], .func (.func 59) #[] #[], .func (.func 61) #[] #[], .func (.func 62) #[] #[], .func (.func 63) #[] #[], .func (.func 64) #[] #[]] := hd 0 (by kernel_rfl)
   have d2 : vs 2 = .int .i64 1 := hd 2 (by kernel_rfl)
   simp only [d0, d2] at hK |-; have HK := zH hK; clear hK; go_simp; exact HK.out _ _ rfl (zR _ _)
 ·intro vs w4 hb hd
  have d3 : vs 3 = .agg #[.func (.func 58) #[] #[], .func (.func 59) #[] #[], .func (.func 60) #[] #[]] := hd 3 (by omega)
  have hX4 := (hb.block (bx + 1) (by have := HS3.out; omega)).trans HX3.out
  have HX4 := zH hX4; have HB4 := zH (HB3.out.trans (hb.mono (by have := HS3.out; omega)))
  simp only [frameV, zS, zA, zB, List.drop_succ_cons, List.drop_zero, d3]; have x0 := cellAt (i := 0) (v := .nilFunc) hX4 rfl; have f0 := frozen_of_row _ (bx + 1) 0 _ _ hX4; have x1 := cellAt (i := 1) (v := .nilFunc) hX4 rfl; have f1 := frozen_of_row _ (bx + 1) 1 _ _ hX4; have x2 := cellAt (i := 2) (v := .nilFunc) hX4 rfl; have f2 := frozen_of_row _ (bx + 1) 2 _ _ hX4; clear hb hd d3 hX4
  go_wp2
  have h1 := heap_setCell_same _ (bx + 1) 0 _ _ (.func (.func 58) #[] #[]) HX4.out; have h2 := heap_setCell_same _ (bx + 1) 1 _ _ (.func (.func 59) #[] #[]) h1; have h3 := heap_setCell_same _ (bx + 1) 2 _ _ (.func (.func 60) #[] #[]) h2; have z0 := cellAt (i := 0) (v := .func (.func 58) #[] #[]) h3 rfl; have z1 := cellAt (i := 1) (v := .func (.func 59) #[] #[]) h3 rfl; have z2 := cellAt (i := 2) (v := .func (.func 60) #[] #[]) h3 rfl; refine bodyPost_ret (v := .agg #[.func (.func 58) #[] #[], .func (.func 59) #[] #[], .func (.func 60) #[] #[]]) (by simp [results, Tryz.results27, go_sem, z0, z1, z2]) rfl ⟨rfl, ?_⟩
  rw [HBX.out]; exact ((HB4.out.setCell (p := ⟨bx + 1, 0, none⟩) (by show bx <= bx + 1; omega) _).setCell (p := ⟨bx + 1, 1, none⟩) (by show bx <= bx + 1; omega) _).setCell (p := ⟨bx + 1, 2, none⟩) (by show bx <= bx + 1; omega) _
set_option maxHeartbeats 8000000 in
theorem kind_2 {l : Int} {sh bk : Bool} {P : Option Addr} (hO : ∀ w : World, Calls Tryz.prog 19 #[.agg #[.int .i64 2, .int .i64 l, .bool sh, .bool bk, .pointer P]] w fun e w' => e = .returned (.bool true) /\ Below w.heap.size w w') (w : World) :
  Calls Tryz.prog 27 #[.agg #[.int .i64 2, .int .i64 l, .bool sh, .bool bk, .pointer P]] w fun e w' => e = .returned (.agg #[.func (.func 58) #[] #[], .func (.func 59) #[] #[], .func (.func 61) #[] #[]]) /\ Below w.heap.size w w' := by
 have CO := zH hO; clear hO; have hb1 := belAlloc w (.cells #[.int .i64 2, .int .i64 l, .bool sh, .bool bk, .pointer P] 25); have hb2 := belAlloc (w.alloc (.cells #[.int .i64 2, .int .i64 l, .bool sh, .bool bk, .pointer P] 25)) (.cells #[.nilFunc, .nilFunc, .nilFunc] 59); have hx := heap_alloc_new (w.alloc (.cells #[.int .i64 2, .int .i64 l, .bool sh, .bool bk, .pointer P] 25)) (.cells #[.nilFunc, .nilFunc, .nilFunc] 59); have hc := (hb2.block w.heap.size (by simp)).trans (heap_alloc_new w (.cells #[.int .i64 2, .int .i64 l, .bool sh, .bool bk, .pointer P] 25))
 have HX := zH hx; have HC := zH hc; have HB := zH (hb1.trans (hb2.mono hb1.size))
 have HS : Hid ((w.alloc (.cells #[.int .i64 2, .int .i64 l, .bool sh, .bool bk, .pointer P] 25)).heap.size = w.heap.size + 1) := World.size_alloc _ _
 have HS2 : Hid (((w.alloc (.cells #[.int .i64 2, .int .i64 l, .bool sh, .bool bk, .pointer P] 25)).alloc (.cells #[.nilFunc, .nilFunc, .nilFunc] 59)).heap.size = w.heap.size + 2) := by show _ = _; rw [World.size_alloc, World.size_alloc]
 clear hb1 hb2 hx hc
 go_enter Tryz.func27, Tryz.ntmps27
 go_upto_region 1 with (fail)
 generalize hw1 : (w.alloc (.cells #[.int .i64 2, .int .i64 l, .bool sh, .bool bk, .pointer P] 25)) = w1 at HX HB HS HS2 HC |-; rw [HS.out] at HX; clear hw1; generalize (w1.alloc (.cells #[.nilFunc, .nilFunc, .nilFunc] 59)) = w2 at HX HB HS2 HC |-; obtain ⟨bx, hbx⟩ : ∃ b, w.heap.size = b := ⟨_, rfl⟩; have HBX := zH hbx; rw [hbx] at HX HB HS2 HC; rw [show (({ block := w.heap.size + 1, off := 0 } : Addr)) = ⟨bx + 1, 0, none⟩ by rw [hbx], show (({ block := w.heap.size, off := 0 } : Addr)) = ⟨bx, 0, none⟩ by rw [hbx]]
 clear hbx; have c0 := cellAt (i := 0) (v := .int .i64 2) HC.out rfl; have c1 := cellAt (i := 1) (v := .int .i64 l) HC.out rfl; have c2 := cellAt (i := 2) (v := .bool sh) HC.out rfl; have c3 := cellAt (i := 3) (v := .bool bk) HC.out rfl; have c4 := cellAt (i := 4) (v := .pointer P) HC.out rfl
 go_upto_region 3 with (go_at_call 19; refine (CO.out _).mono ?_; rintro e w3 ⟨rfl, hb⟩; have hC3 := (hb.block bx (by rw [HS2.out]; omega)).trans HC.out; have hX3 := (hb.block (bx + 1) (by rw [HS2.out]; omega)).trans HX.out; have HC3 := zH hC3; have HX3 := zH hX3; have HB3 := zH (HB.out.trans (hb.mono (by rw [HS2.out]; omega))); have HS3 : Hid (bx + 2 <= w3.heap.size) := (by have := hb.size; rw [HS2.out] at this; exact this); clear c0 c1 c2 c3 c4 hb hC3 hX3)
 have X0 := zH (cellAt (i := 0) (v := .int .i64 2) HC3.out rfl); refine yaj (m := 4) [8, 9, 10, 11] [SV.eq (.agg #[.nilFunc, .nilFunc, .nilFunc, .func (.func 58) #[] #[], .func (.func 59) #[] #[], .func (.func 60) #[] #[], .func (.func 58) #[] #[], .func (.func 59) #[] #[], .func (.func 61) #[] #[], .func (.func 62) #[] #[], .func (.func 63) #[] #[], .func (.func 64) #[] #[]]), SV.eq (.pointer (some ⟨bx, 0, none⟩)), SV.eq (.int .i64 2), SV.eq (.agg #[.func (.func 58) #[] #[], .func (.func 59) #[] #[], .func (.func 61) #[] #[]])] (by kernel_rfl) (by kernel_rfl) ?_ ?_
 ·refine ⟨⟨⟨⟨trivial, ?_⟩, ?_⟩, ?_⟩, ?_⟩
  all_goals (refine OpIs.mk rfl ?_; intro vs w1 hb hd K hK; simp only [frameV, zS, zA, zB, zC, zD] at hK |-)
  ·have HK := zH hK; clear hK; go_simp
   go_at_call 34
   refine (yca _).mono ?_; rintro e w4 ⟨rfl, hb3⟩; exact HK.out _ _ rfl hb3
  ·have HK := zH hK; clear hK; go_simp; exact HK.out _ _ rfl (zR _ _)
  ·have d1 : vs 1 = .pointer (some ⟨bx, 0, none⟩) := hd 1 (by kernel_rfl)
   have c0 := yac hb X0.out; simp only [d1] at hK |-; have HK := zH hK; clear hK; go_simp; exact HK.out _ _ rfl (zR _ _)
  ·have d0 : vs 0 = .agg #[.nilFunc, .nilFunc, .nilFunc, .func (.func 58) #[] #[], .func (.func 59) #[] #[], .func (.func 60) #[] #[], .func (.func 58) #[] #[], .func (.func 59) #[] #[], .func (.func 61) #[] #[], .func (.func 62) #[] #[], .func (.func 63) #[] #[], .func (.func 64) #[] #[]] := hd 0 (by kernel_rfl)
   have d2 : vs 2 = .int .i64 2 := hd 2 (by kernel_rfl)
   simp only [d0, d2] at hK |-; have HK := zH hK; clear hK; go_simp; exact HK.out _ _ rfl (zR _ _)
 ·intro vs w4 hb hd
  have d3 : vs 3 = .agg #[.func (.func 58) #[] #[], .func (.func 59) #[] #[], .func (.func 61) #[] #[]] := hd 3 (by omega)
  have hX4 := (hb.block (bx + 1) (by have := HS3.out; omega)).trans HX3.out
  have HX4 := zH hX4; have HB4 := zH (HB3.out.trans (hb.mono (by have := HS3.out; omega)))
  simp only [frameV, zS, zA, zB, List.drop_succ_cons, List.drop_zero, d3]; have x0 := cellAt (i := 0) (v := .nilFunc) hX4 rfl; have f0 := frozen_of_row _ (bx + 1) 0 _ _ hX4; have x1 := cellAt (i := 1) (v := .nilFunc) hX4 rfl; have f1 := frozen_of_row _ (bx + 1) 1 _ _ hX4; have x2 := cellAt (i := 2) (v := .nilFunc) hX4 rfl; have f2 := frozen_of_row _ (bx + 1) 2 _ _ hX4; clear hb hd d3 hX4
  go_wp2
  have h1 := heap_setCell_same _ (bx + 1) 0 _ _ (.func (.func 58) #[] #[]) HX4.out; have h2 := heap_setCell_same _ (bx + 1) 1 _ _ (.func (.func 59) #[] #[]) h1; have h3 := heap_setCell_same _ (bx + 1) 2 _ _ (.func (.func 61) #[] #[]) h2; have z0 := cellAt (i := 0) (v := .func (.func 58) #[] #[]) h3 rfl; have z1 := cellAt (i := 1) (v := .func (.func 59) #[] #[]) h3 rfl; have z2 := cellAt (i := 2) (v := .func (.func 61) #[] #[]) h3 rfl; refine bodyPost_ret (v := .agg #[.func (.func 58) #[] #[], .func (.func 59) #[] #[], .func (.func 61) #[] #[]]) (by simp [results, Tryz.results27, go_sem, z0, z1, z2]) rfl ⟨rfl, ?_⟩
  rw [HBX.out]; exact ((HB4.out.setCell (p := ⟨bx + 1, 0, none⟩) (by show bx <= bx + 1; omega) _).setCell (p := ⟨bx + 1, 1, none⟩) (by show bx <= bx + 1; omega) _).setCell (p := ⟨bx + 1, 2, none⟩) (by show bx <= bx + 1; omega) _
set_option maxHeartbeats 8000000 in
theorem kind_3 {l : Int} {sh bk : Bool} {P : Option Addr} (hO : ∀ w : World, Calls Tryz.prog 19 #[.agg #[.int .i64 3, .int .i64 l, .bool sh, .bool bk, .pointer P]] w fun e w' => e = .returned (.bool true) /\ Below w.heap.size w w') (w : World) :
  Calls Tryz.prog 27 #[.agg #[.int .i64 3, .int .i64 l, .bool sh, .bool bk, .pointer P]] w fun e w' => e = .returned (.agg #[.func (.func 62) #[] #[], .func (.func 63) #[] #[], .func (.func 64) #[] #[]]) /\ Below w.heap.size w w' := by
 have CO := zH hO; clear hO; have hb1 := belAlloc w (.cells #[.int .i64 3, .int .i64 l, .bool sh, .bool bk, .pointer P] 25); have hb2 := belAlloc (w.alloc (.cells #[.int .i64 3, .int .i64 l, .bool sh, .bool bk, .pointer P] 25)) (.cells #[.nilFunc, .nilFunc, .nilFunc] 59); have hx := heap_alloc_new (w.alloc (.cells #[.int .i64 3, .int .i64 l, .bool sh, .bool bk, .pointer P] 25)) (.cells #[.nilFunc, .nilFunc, .nilFunc] 59); have hc := (hb2.block w.heap.size (by simp)).trans (heap_alloc_new w (.cells #[.int .i64 3, .int .i64 l, .bool sh, .bool bk, .pointer P] 25))
 have HX := zH hx; have HC := zH hc; have HB := zH (hb1.trans (hb2.mono hb1.size))
 have HS : Hid ((w.alloc (.cells #[.int .i64 3, .int .i64 l, .bool sh, .bool bk, .pointer P] 25)).heap.size = w.heap.size + 1) := World.size_alloc _ _
 have HS2 : Hid (((w.alloc (.cells #[.int .i64 3, .int .i64 l, .bool sh, .bool bk, .pointer P] 25)).alloc (.cells #[.nilFunc, .nilFunc, .nilFunc] 59)).heap.size = w.heap.size + 2) := by show _ = _; rw [World.size_alloc, World.size_alloc]
 clear hb1 hb2 hx hc
 go_enter Tryz.func27, Tryz.ntmps27
 go_upto_region 1 with (fail)
 generalize hw1 : (w.alloc (.cells #[.int .i64 3, .int .i64 l, .bool sh, .bool bk, .pointer P] 25)) = w1 at HX HB HS HS2 HC |-; rw [HS.out] at HX; clear hw1; generalize (w1.alloc (.cells #[.nilFunc, .nilFunc, .nilFunc] 59)) = w2 at HX HB HS2 HC |-; obtain ⟨bx, hbx⟩ : ∃ b, w.heap.size = b := ⟨_, rfl⟩; have HBX := zH hbx; rw [hbx] at HX HB HS2 HC; rw [show (({ block := w.heap.size + 1, off := 0 } : Addr)) = ⟨bx + 1, 0, none⟩ by rw [hbx], show (({ block := w.heap.size, off := 0 } : Addr)) = ⟨bx, 0, none⟩ by rw [hbx]]
 clear hbx; have c0 := cellAt (i := 0) (v := .int .i64 3) HC.out rfl; have c1 := cellAt (i := 1) (v := .int .i64 l) HC.out rfl; have c2 := cellAt (i := 2) (v := .bool sh) HC.out rfl; have c3 := cellAt (i := 3) (v := .bool bk) HC.out rfl; have c4 := cellAt (i := 4) (v := .pointer P) HC.out rfl
 go_upto_region 3 with (go_at_call 19; refine (CO.out _).mono ?_; rintro e w3 ⟨rfl, hb⟩; have hC3 := (hb.block bx (by rw [HS2.out]; omega)).trans HC.out; have hX3 := (hb.block (bx + 1) (by rw [HS2.out]; omega)).trans HX.out; have HC3 := zH hC3; have HX3 := zH hX3; have HB3 := zH (HB.out.trans (hb.mono (by rw [HS2.out]; omega))); have HS3 : Hid (bx + 2 <= w3.heap.size) := (by have := hb.size; rw [HS2.out] at this; exact this); clear c0 c1 c2 c3 c4 hb hC3 hX3)
 have X0 := zH (cellAt (i := 0) (v := .int .i64 3) HC3.out rfl); refine yaj (m := 4) [8, 9, 10, 11] [SV.eq (.agg #[.nilFunc, .nilFunc, .nilFunc, .func (.func 58) #[] #[], .func (.func 59) #[] #[], .func (.func 60) #[] #[], .func (.func 58) #[] #[], .func (.func 59) #[] #[], .func (.func 61) #[] #[], .func (.func 62) #[] #[], .func (.func 63) #[] #[], .func (.func 64) #[] #[]]), SV.eq (.pointer (some ⟨bx, 0, none⟩)), SV.eq (.int .i64 3), SV.eq (.agg #[.func (.func 62) #[] #[], .func (.func 63) #[] #[], .func (.func 64) #[] #[]])] (by kernel_rfl) (by kernel_rfl) ?_ ?_
 ·refine ⟨⟨⟨⟨trivial, ?_⟩, ?_⟩, ?_⟩, ?_⟩
  all_goals (refine OpIs.mk rfl ?_; intro vs w1 hb hd K hK; simp only [frameV, zS, zA, zB, zC, zD] at hK |-)
  ·have HK := zH hK; clear hK; go_simp
   go_at_call 34
   refine (yca _).mono ?_; rintro e w4 ⟨rfl, hb3⟩; exact HK.out _ _ rfl hb3
  ·have HK := zH hK; clear hK; go_simp; exact HK.out _ _ rfl (zR _ _)
  ·have d1 : vs 1 = .pointer (some ⟨bx, 0, none⟩) := hd 1 (by kernel_rfl)
   have c0 := yac hb X0.out; simp only [d1] at hK |-; have HK := zH hK; clear hK; go_simp; exact HK.out _ _ rfl (zR _ _)
  ·have d0 : vs 0 = .agg #[.nilFunc, .nilFunc, .nilFunc, .func (.func 58) #[] #[], .func (.func 59) #[] #[], .func (.func 60) #[] #[], .func (.func 58) #[] #[], .func (.func 59) #[] #[], .func (.func 61) #[] #[], .func (.func 62) #[] #[], .func (.func 63) #[] #[], .func (.func 64) #[] #[]] := hd 0 (by kernel_rfl)
   have d2 : vs 2 = .int .i64 3 := hd 2 (by kernel_rfl)
   simp only [d0, d2] at hK |-; have HK := zH hK; clear hK; go_simp; exact HK.out _ _ rfl (zR _ _)
 ·intro vs w4 hb hd
  have d3 : vs 3 = .agg #[.func (.func 62) #[] #[], .func (.func 63) #[] #[], .func (.func 64) #[] #[]] := hd 3 (by omega)
  have hX4 := (hb.block (bx + 1) (by have := HS3.out; omega)).trans HX3.out
  have HX4 := zH hX4; have HB4 := zH (HB3.out.trans (hb.mono (by have := HS3.out; omega)))
  simp only [frameV, zS, zA, zB, List.drop_succ_cons, List.drop_zero, d3]; have x0 := cellAt (i := 0) (v := .nilFunc) hX4 rfl; have f0 := frozen_of_row _ (bx + 1) 0 _ _ hX4; have x1 := cellAt (i := 1) (v := .nilFunc) hX4 rfl; have f1 := frozen_of_row _ (bx + 1) 1 _ _ hX4; have x2 := cellAt (i := 2) (v := .nilFunc) hX4 rfl; have f2 := frozen_of_row _ (bx + 1) 2 _ _ hX4; clear hb hd d3 hX4
  go_wp2
  have h1 := heap_setCell_same _ (bx + 1) 0 _ _ (.func (.func 62) #[] #[]) HX4.out; have h2 := heap_setCell_same _ (bx + 1) 1 _ _ (.func (.func 63) #[] #[]) h1; have h3 := heap_setCell_same _ (bx + 1) 2 _ _ (.func (.func 64) #[] #[]) h2; have z0 := cellAt (i := 0) (v := .func (.func 62) #[] #[]) h3 rfl; have z1 := cellAt (i := 1) (v := .func (.func 63) #[] #[]) h3 rfl; have z2 := cellAt (i := 2) (v := .func (.func 64) #[] #[]) h3 rfl; refine bodyPost_ret (v := .agg #[.func (.func 62) #[] #[], .func (.func 63) #[] #[], .func (.func 64) #[] #[]]) (by simp [results, Tryz.results27, go_sem, z0, z1, z2]) rfl ⟨rfl, ?_⟩
  rw [HBX.out]; exact ((HB4.out.setCell (p := ⟨bx + 1, 0, none⟩) (by show bx <= bx + 1; omega) _).setCell (p := ⟨bx + 1, 1, none⟩) (by show bx <= bx + 1; omega) _).setCell (p := ⟨bx + 1, 2, none⟩) (by show bx <= bx + 1; omega) _
end Go.Proofs.YteibnfeokgibmaaGreat
