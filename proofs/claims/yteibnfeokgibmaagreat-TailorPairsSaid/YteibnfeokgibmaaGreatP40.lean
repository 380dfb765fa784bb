/-
  PACKED for a claim.
-/
import Derived.Laws.EntriesVeiled
import Derived.Test.YteibnfeokgibmaaGreatP39
set_option linter.unusedVariables false
set_option linter.unusedSimpArgs false
set_option maxRecDepth 100000
namespace Go.Proofs.YteibnfeokgibmaaGreat
open Go.RowKit
set_option maxHeartbeats 8000000 in
theorem ycm (w : World) : Calls Tryz.prog 34 #[] w fun e w' => e = .returned (.agg #[.nilFunc, .nilFunc, .nilFunc, .func (.func 58) #[] #[], .func (.func 59) #[] #[], .func (.func 60) #[] #[], .func (.func 58) #[] #[], .func (.func 59) #[] #[], .func (.func 61) #[] #[], .func (.func 62) #[] #[], .func (.func 63) #[] #[], .func (.func 64) #[] #[]]) /\ Below w.heap.size w w' := by
 have HX := zH (heap_alloc_new w (.cells #[.nilFunc, .nilFunc, .nilFunc, .nilFunc, .nilFunc, .nilFunc, .nilFunc, .nilFunc, .nilFunc, .nilFunc, .nilFunc, .nilFunc] 72)); have HB := zH (belAlloc w (.cells #[.nilFunc, .nilFunc, .nilFunc, .nilFunc, .nilFunc, .nilFunc, .nilFunc, .nilFunc, .nilFunc, .nilFunc, .nilFunc, .nilFunc] 72))
 go_enter Tryz.func34, Tryz.ntmps34
 go_upto_region 1 with (fail)
 generalize (w.alloc (.cells #[.nilFunc, .nilFunc, .nilFunc, .nilFunc, .nilFunc, .nilFunc, .nilFunc, .nilFunc, .nilFunc, .nilFunc, .nilFunc, .nilFunc] 72)) = w1 at HX HB |-; obtain ⟨g, hg⟩ : ∃ g, w.heap.size = g := ⟨_, rfl⟩; have HG := zH hg; rw [hg] at HX HB; rw [show (({ block := w.heap.size, off := 0 } : Addr)) = ⟨g, 0, none⟩ by rw [hg]]
 clear hg; have x0 := cellAt (i := 0) (v := .nilFunc) HX.out rfl; have f0 := frozen_of_row _ g 0 _ _ HX.out; have x1 := cellAt (i := 1) (v := .nilFunc) HX.out rfl; have f1 := frozen_of_row _ g 1 _ _ HX.out; have x2 := cellAt (i := 2) (v := .nilFunc) HX.out rfl; have f2 := frozen_of_row _ g 2 _ _ HX.out; have x3 := cellAt (i := 3) (v := .nilFunc) HX.out rfl; have f3 := frozen_of_row _ g 3 _ _ HX.out; have x4 := cellAt (i := 4) (v := .nilFunc) HX.out rfl; have f4 := frozen_of_row _ g 4 _ _ HX.out; have x5 := cellAt (i := 5) (v := .nilFunc) HX.out rfl; have f5 := frozen_of_row _ g 5 _ _ HX.out; have x6 := cellAt (i := 6) (v := .nilFunc) HX.out rfl; have f6 := frozen_of_row _ g 6 _ _ HX.out; have x7 := cellAt (i := 7) (v := .nilFunc) HX.out rfl; have f7 := frozen_of_row _ g 7 _ _ HX.out; have x8 := cellAt (i := 8) (v := .nilFunc) HX.out rfl; have f8 := frozen_of_row _ g 8 _ _ HX.out; have x9 := cellAt (i := 9) (v := .nilFunc) HX.out rfl; have f9 := frozen_of_row _ g 9 _ _ HX.out; have x10 := cellAt (i := 10) (v := .nilFunc) HX.out rfl; have f10 := frozen_of_row _ g 10 _ _ HX.out; have x11 := cellAt (i := 11) (v := .nilFunc) HX.out rfl; have f11 := frozen_of_row _ g 11 _ _ HX.out
 go_wp2
 have h0 := HX.out; have h1 := heap_setCell_same _ g 0 _ _ (.nilFunc) h0; have h2 := heap_setCell_same _ g 1 _ _ (.nilFunc) h1; have h3 := heap_setCell_same _ g 2 _ _ (.nilFunc) h2; have h4 := heap_setCell_same _ g 3 _ _ (.func (.func 58) #[] #[]) h3; have h5 := heap_setCell_same _ g 4 _ _ (.func (.func 59) #[] #[]) h4; have h6 := heap_setCell_same _ g 5 _ _ (.func (.func 60) #[] #[]) h5; have h7 := heap_setCell_same _ g 6 _ _ (.func (.func 58) #[] #[]) h6; have h8 := heap_setCell_same _ g 7 _ _ (.func (.func 59) #[] #[]) h7; have h9 := heap_setCell_same _ g 8 _ _ (.func (.func 61) #[] #[]) h8; have h10 := heap_setCell_same _ g 9 _ _ (.func (.func 62) #[] #[]) h9; have h11 := heap_setCell_same _ g 10 _ _ (.func (.func 63) #[] #[]) h10; have h12 := heap_setCell_same _ g 11 _ _ (.func (.func 64) #[] #[]) h11; have z0 := cellAt (i := 0) (v := .nilFunc) h12 rfl; have z1 := cellAt (i := 1) (v := .nilFunc) h12 rfl; have z2 := cellAt (i := 2) (v := .nilFunc) h12 rfl; have z3 := cellAt (i := 3) (v := .func (.func 58) #[] #[]) h12 rfl; have z4 := cellAt (i := 4) (v := .func (.func 59) #[] #[]) h12 rfl; have z5 := cellAt (i := 5) (v := .func (.func 60) #[] #[]) h12 rfl; have z6 := cellAt (i := 6) (v := .func (.func 58) #[] #[]) h12 rfl; have z7 := cellAt (i := 7) (v := .func (.func 59) #[] #[]) h12 rfl; have z8 := cellAt (i := 8) (v := .func (.func 61) #[] #[]) h12 rfl; have z9 := cellAt (i := 9) (v := .func (.func 62) #[] #[]) h12 rfl; have z10 := cellAt (i := 10) (v := .func (.func 63) #[] #[]) h12 rfl; have z11 := cellAt (i := 11) (v := .func (.func 64) #[] #[]) h12 rfl; refine bodyPost_ret (v := .agg #[.nilFunc, .nilFunc, .nilFunc, .func (.func 58) #[] #[], .func (.func 59) #[] #[], .func (.func 60) #[] #[], .func (.func 58) #[] #[], .func (.func 59) #[] #[], .func (.func 61) #[] #[], .func (.func 62) #[] #[], .func (.func 63) #[] #[], .func (.func 64) #[] #[]]) (by simp [results, Tryz.results34, go_sem, z0, z1, z2, z3, z4, z5, z6, z7, z8, z9, z10, z11]) rfl ⟨rfl, ?_⟩
 rw [HG.out]; exact (((((((((((HB.out.setCell (p := ⟨g, 0, none⟩) (zN _) _).setCell (p := ⟨g, 1, none⟩) (zN _) _).setCell (p := ⟨g, 2, none⟩) (zN _) _).setCell (p := ⟨g, 3, none⟩) (zN _) _).setCell (p := ⟨g, 4, none⟩) (zN _) _).setCell (p := ⟨g, 5, none⟩) (zN _) _).setCell (p := ⟨g, 6, none⟩) (zN _) _).setCell (p := ⟨g, 7, none⟩) (zN _) _).setCell (p := ⟨g, 8, none⟩) (zN _) _).setCell (p := ⟨g, 9, none⟩) (zN _) _).setCell (p := ⟨g, 10, none⟩) (zN _) _).setCell (p := ⟨g, 11, none⟩) (zN _) _
set_option maxHeartbeats 1000000 in
theorem ylt (k l : Int) (sh bk : Bool) (P : Option Addr) (w : World) : Calls Tryz.prog 58 #[.agg #[.int .i64 k, .int .i64 l, .bool sh, .bool bk, .pointer P]] w fun e w' => e = .returned (.bool true) /\ Below w.heap.size w w' := by
 have HB := zH (belAlloc w (.cells #[.int .i64 k, .int .i64 l, .bool sh, .bool bk, .pointer P] 25))
 go_enter Tryz.func58, Tryz.ntmps58
 go_wp2
 go_ret
 exact ⟨rfl, HB.out⟩
def tabB (l : Int) (P : Option Addr) : Bool := P.isSome && (decide (1 <= l) && decide (l <= 3))
set_option maxHeartbeats 8000000 in
theorem yrc (k l : Int) (sh bk : Bool) (P : Option Addr) (w : World) : Calls Tryz.prog 62 #[.agg #[.int .i64 k, .int .i64 l, .bool sh, .bool bk, .pointer P]] w fun e w' => e = .returned (.bool (tabB l P)) /\ Below w.heap.size w w' := by
 obtain ⟨r, hr⟩ : ∃ r, tabB l P = r := ⟨_, rfl⟩; rw [hr]; have HX := zH (heap_alloc_new w (.cells #[.int .i64 k, .int .i64 l, .bool sh, .bool bk, .pointer P] 25)); have HB := zH (belAlloc w (.cells #[.int .i64 k, .int .i64 l, .bool sh, .bool bk, .pointer P] 25))
 go_enter Tryz.func62, Tryz.ntmps62
 go_upto_region 1 with (fail)
 generalize (w.alloc (.cells #[.int .i64 k, .int .i64 l, .bool sh, .bool bk, .pointer P] 25)) = w1 at HX HB |-; obtain ⟨bx, hbx⟩ : ∃ b, w.heap.size = b := ⟨_, rfl⟩; have HBX := zH hbx; rw [hbx] at HX HB; rw [show (({ block := w.heap.size, off := 0 } : Addr)) = ⟨bx, 0, none⟩ by rw [hbx]]
 clear hbx; have X0 := zH (cellAt (i := 0) (v := .int .i64 k) HX.out rfl); have X1 := zH (cellAt (i := 1) (v := .int .i64 l) HX.out rfl); have X2 := zH (cellAt (i := 2) (v := .bool sh) HX.out rfl); have X3 := zH (cellAt (i := 3) (v := .bool bk) HX.out rfl); have X4 := zH (cellAt (i := 4) (v := .pointer P) HX.out rfl); have c1 := X1.out; have c4 := X4.out
 cases P with
 | none =>
  obtain rfl : r = false := hr.symm; clear hr
  go_wp2
  go_ret
  exact ⟨rfl, by rw [HBX.out]; exact HB.out⟩
 | some ad =>
  by_cases h1 : 1 <= l
  ·by_cases h2 : l <= 3
   ·obtain rfl : r = true := by rw [<- hr]; simp [tabB, h1, h2]
    clear hr
    go_wp2
    go_ret
    exact ⟨rfl, by rw [HBX.out]; exact HB.out⟩
   ·obtain rfl : r = false := by rw [<- hr]; simp [tabB, h2]
    clear hr
    go_wp2
    go_ret
    exact ⟨rfl, by rw [HBX.out]; exact HB.out⟩
  ·obtain rfl : r = false := by rw [<- hr]; simp [tabB, h1]
   clear hr
   go_wp2
   go_ret
   exact ⟨rfl, by rw [HBX.out]; exact HB.out⟩
set_option maxHeartbeats 8000000 in
theorem ok_1 (l : Int) (sh bk : Bool) (P : Option Addr) (w : World) : Calls Tryz.prog 19 #[.agg #[.int .i64 1, .int .i64 l, .bool sh, .bool bk, .pointer P]] w fun e w' => e = .returned (.bool true) /\ Below w.heap.size w w' := by
 have HX := zH (heap_alloc_new w (.cells #[.int .i64 1, .int .i64 l, .bool sh, .bool bk, .pointer P] 25)); have HB := zH (belAlloc w (.cells #[.int .i64 1, .int .i64 l, .bool sh, .bool bk, .pointer P] 25))
 go_enter Tryz.func19, Tryz.ntmps19
 go_upto_region 1 with (fail)
 generalize (w.alloc (.cells #[.int .i64 1, .int .i64 l, .bool sh, .bool bk, .pointer P] 25)) = w1 at HX HB |-; obtain ⟨bx, hbx⟩ : ∃ b, w.heap.size = b := ⟨_, rfl⟩; have HBX := zH hbx; rw [hbx] at HX HB; rw [show (({ block := w.heap.size, off := 0 } : Addr)) = ⟨bx, 0, none⟩ by rw [hbx]]
 clear hbx; have X0 := zH (cellAt (i := 0) (v := .int .i64 1) HX.out rfl); have X1 := zH (cellAt (i := 1) (v := .int .i64 l) HX.out rfl); have X2 := zH (cellAt (i := 2) (v := .bool sh) HX.out rfl); have X3 := zH (cellAt (i := 3) (v := .bool bk) HX.out rfl); have X4 := zH (cellAt (i := 4) (v := .pointer P) HX.out rfl); refine yag (m := 17) [3, 4, 5, 6, 7, 8, 9, 10, 11, 12, 13, 14, 15, 16, 17, 18, 19] [SV.eq (.pointer (some ⟨bx, 0, none⟩)), SV.eq (.int .i64 1), SV.eq (.bool true), SV.eq (.bool true), SV.eq (.pointer (some ⟨bx, 0, none⟩)), SV.eq (.int .i64 1), SV.eq (.bool true), SV.eq (.bool true), SV.eq (.bool true), SV.eq (.agg #[.nilFunc, .nilFunc, .nilFunc, .func (.func 58) #[] #[], .func (.func 59) #[] #[], .func (.func 60) #[] #[], .func (.func 58) #[] #[], .func (.func 59) #[] #[], .func (.func 61) #[] #[], .func (.func 62) #[] #[], .func (.func 63) #[] #[], .func (.func 64) #[] #[]]), SV.eq (.pointer (some ⟨bx, 0, none⟩)), SV.eq (.int .i64 1), SV.eq (.agg #[.func (.func 58) #[] #[], .func (.func 59) #[] #[], .func (.func 60) #[] #[]]), SV.eq (.func (.func 58) #[] #[]), SV.eq (.agg #[.int .i64 1, .int .i64 l, .bool sh, .bool bk, .pointer P]), SV.eq (.bool true), SV.eq (.bool true)] (by kernel_rfl) (by kernel_rfl) ?_ ?_
 ·refine ⟨⟨⟨⟨⟨⟨⟨⟨⟨⟨⟨⟨⟨⟨⟨⟨⟨trivial, ?_⟩, ?_⟩, ?_⟩, ?_⟩, ?_⟩, ?_⟩, ?_⟩, ?_⟩, ?_⟩, ?_⟩, ?_⟩, ?_⟩, ?_⟩, ?_⟩, ?_⟩, ?_⟩, ?_⟩
  all_goals (refine OpIs.mk rfl ?_; intro vs w1 hb hd K hK; simp only [frameV, zS, zA, zB, zC, zD] at hK |-)
  ·have HK := zH hK; clear hK; go_simp; exact HK.out _ _ rfl (zR _ _)
  ·have d0 : vs 0 = .pointer (some ⟨bx, 0, none⟩) := hd 0 (by kernel_rfl)
   have c0 := yab hb X0.out; simp only [d0] at hK |-; have HK := zH hK; clear hK; go_simp; exact HK.out _ _ rfl (zR _ _)
  ·have d1 : vs 1 = .int .i64 1 := hd 1 (by kernel_rfl)
   simp only [d1] at hK |-; have HK := zH hK; clear hK; go_simp; exact HK.out _ _ rfl (zR _ _)
  ·have d2 : vs 2 = .bool true := hd 2 (by kernel_rfl)
   simp only [d2] at hK |-; have HK := zH hK; clear hK; go_simp; exact HK.out _ _ rfl (zR _ _)
  ·have d3 : vs 3 = .bool true := hd 3 (by kernel_rfl)
   simp only [d3] at hK |-; have HK := zH hK; clear hK; go_simp; exact HK.out _ _ rfl (zR _ _)
  ·have d4 : vs 4 = .pointer (some ⟨bx, 0, none⟩) := hd 4 (by kernel_rfl)
   have d3 : vs 3 = .bool true := hd 3 (by kernel_rfl)
   have c0 := yab hb X0.out; simp only [d4, d3] at hK |-; have HK := zH hK; clear hK; go_simp; exact HK.out _ _ rfl (zR _ _)
  ·have d5 : vs 5 = .int .i64 1 := hd 5 (by kernel_rfl)
   have d3 : vs 3 = .bool true := hd 3 (by kernel_rfl)
   simp only [d5, d3] at hK |-; have HK := zH hK; clear hK; go_simp; exact HK.out _ _ rfl (zR _ _)
  ·have d3 : vs 3 = .bool true := hd 3 (by kernel_rfl)
   have d6 : vs 6 = .bool true := hd 6 (by kernel_rfl)
   simp only [d3, d6] at hK |-; have HK := zH hK; clear hK; go_simp; exact HK.out _ _ rfl (zR _ _)
  ·have d7 : vs 7 = .bool true := hd 7 (by kernel_rfl)
   simp only [d7] at hK |-; have HK := zH hK; clear hK; go_simp; exact HK.out _ _ rfl (zR _ _)
  ·have d8 : vs 8 = .bool true := hd 8 (by kernel_rfl)
   simp only [d8] at hK |-; have HK := zH hK; clear hK; go_simp
   go_at_call 34
   refine (ycm _).mono ?_; rintro e w3 ⟨rfl, hb3⟩; exact HK.out _ _ rfl hb3
  ·have d8 : vs 8 = .bool true := hd 8 (by kernel_rfl)
   simp only [d8] at hK |-; have HK := zH hK; clear hK; go_simp; exact HK.out _ _ rfl (zR _ _)
  ·have d10 : vs 10 = .pointer (some ⟨bx, 0, none⟩) := hd 10 (by kernel_rfl)
   have d8 : vs 8 = .bool true := hd 8 (by kernel_rfl)
   have c0 := yab hb X0.out; simp only [d10, d8] at hK |-; have HK := zH hK; clear hK; go_simp; exact HK.out _ _ rfl (zR _ _)
  ·have d9 : vs 9 = .agg #[.nilFunc, .nilFunc, .nilFunc, .func (.func 58) #[] #[], .func (.func 59) #[] #[], .func (.func 60) #[] #[], .func (.func 58) #[] #[], .func (.func 59) #[] #[], .func (.func 61) #[] #[], .func (.func 62) #[] #[], .func (.func 63) #[] #[], .func (.func 64) #[] #[]] := hd 9 (by kernel_rfl)
   have d11 : vs 11 = .int .i64 1 := hd 11 (by kernel_rfl)
   have d8 : vs 8 = .bool true := hd 8 (by kernel_rfl)
   simp only [d9, d11, d8] at hK |-; have HK := zH hK; clear hK; go_simp; exact HK.out _ _ rfl (zR _ _)
  ·have d12 : vs 12 = .agg #[.func (.func 58) #[] #[], .func (.func 59) #[] #[], .func (.func 60) #[] #[]] := hd 12 (by kernel_rfl)
   have d8 : vs 8 = .bool true := hd 8 (by kernel_rfl)
   simp only [d12, d8] at hK |-; have HK := zH hK; clear hK; go_simp; exact HK.out _ _ rfl (zR _ _)
  ·have d8 : vs 8 = .bool true := hd 8 (by kernel_rfl)
   have c0 := yab hb X0.out; have c1 := yab hb X1.out; have c2 := yab hb X2.out; have c3 := yab hb X3.out; have c4 := yab hb X4.out; simp only [d8] at hK |-; have HK := zH hK; clear hK; go_simp; exact HK.out _ _ rfl (zR _ _)
  ·have d13 : vs 13 = .func (.func 58) #[] #[] := hd 13 (by kernel_rfl)
   have d14 : vs 14 = .agg #[.int .i64 1, .int .i64 l, .bool sh, .bool bk, .pointer P] := hd 14 (by kernel_rfl)
   have d8 : vs 8 = .bool true := hd 8 (by kernel_rfl)
   simp only [d13, d14, d8] at hK |-; have HK := zH hK; clear hK; go_simp
   go_at_call 58
   refine (ylt _ _ _ _ _ _).mono ?_; rintro e w3 ⟨rfl, hb3⟩; exact HK.out _ _ rfl hb3
  ·have d8 : vs 8 = .bool true := hd 8 (by kernel_rfl)
   have d15 : vs 15 = .bool true := hd 15 (by kernel_rfl)
   simp only [d8, d15] at hK |-; have HK := zH hK; clear hK; go_simp; exact HK.out _ _ rfl (zR _ _)
 ·intro vs w3 hb hd
  have d16 : vs 16 = .bool true := hd 16 (by omega)
  have HB3 := zH (HB.out.trans (hb.mono (by have := HB.out.size; rw [HBX.out] at this; exact this)))
  simp only [frameV, zS, zA, zB, List.drop_succ_cons, List.drop_zero, d16]; clear hb hd d16
  go_wp2
  go_ret
  exact ⟨rfl, by rw [HBX.out]; exact HB3.out⟩
set_option maxHeartbeats 8000000 in
theorem ok_2 (l : Int) (sh bk : Bool) (P : Option Addr) (w : World) : Calls Tryz.prog 19 #[.agg #[.int .i64 2, .int .i64 l, .bool sh, .bool bk, .pointer P]] w fun e w' => e = .returned (.bool true) /\ Below w.heap.size w w' := by
 have HX := zH (heap_alloc_new w (.cells #[.int .i64 2, .int .i64 l, .bool sh, .bool bk, .pointer P] 25)); have HB := zH (belAlloc w (.cells #[.int .i64 2, .int .i64 l, .bool sh, .bool bk, .pointer P] 25))
 go_enter Tryz.func19, Tryz.ntmps19
 go_upto_region 1 with (fail)
 generalize (w.alloc (.cells #[.int .i64 2, .int .i64 l, .bool sh, .bool bk, .pointer P] 25)) = w1 at HX HB |-; obtain ⟨bx, hbx⟩ : ∃ b, w.heap.size = b := ⟨_, rfl⟩; have HBX := zH hbx; rw [hbx] at HX HB; rw [show (({ block := w.heap.size, off := 0 } : Addr)) = ⟨bx, 0, none⟩ by rw [hbx]]
 clear hbx; have X0 := zH (cellAt (i := 0) (v := .int .i64 2) HX.out rfl); have X1 := zH (cellAt (i := 1) (v := .int .i64 l) HX.out rfl); have X2 := zH (cellAt (i := 2) (v := .bool sh) HX.out rfl); have X3 := zH (cellAt (i := 3) (v := .bool bk) HX.out rfl); have X4 := zH (cellAt (i := 4) (v := .pointer P) HX.out rfl); refine yag (m := 17) [3, 4, 5, 6, 7, 8, 9, 10, 11, 12, 13, 14, 15, 16, 17, 18, 19] [SV.eq (.pointer (some ⟨bx, 0, none⟩)), SV.eq (.int .i64 2), SV.eq (.bool true), SV.eq (.bool true), SV.eq (.pointer (some ⟨bx, 0, none⟩)), SV.eq (.int .i64 2), SV.eq (.bool true), SV.eq (.bool true), SV.eq (.bool true), SV.eq (.agg #[.nilFunc, .nilFunc, .nilFunc, .func (.func 58) #[] #[], .func (.func 59) #[] #[], .func (.func 60) #[] #[], .func (.func 58) #[] #[], .func (.func 59) #[] #[], .func (.func 61) #[] #[], .func (.func 62) #[] #[], .func (.func 63) #[] #[], .func (.func 64) #[] #[]]), SV.eq (.pointer (some ⟨bx, 0, none⟩)), SV.eq (.int .i64 2), SV.eq (.agg #[.func (.func 58) #[] #[], .func (.func 59) #[] #[], .func (.func 61) #[] #[]]), SV.eq (.func (.func 58) #[] #[]), SV.eq (.agg #[.int .i64 2, .int .i64 l, .bool sh, .bool bk, .pointer P]), SV.eq (.bool true), SV.eq (.bool true)] (by kernel_rfl) (by kernel_rfl) ?_ ?_
 ·refine ⟨⟨⟨⟨⟨⟨⟨⟨⟨⟨⟨⟨⟨⟨⟨⟨⟨trivial, ?_⟩, ?_⟩, ?_⟩, ?_⟩, ?_⟩, ?_⟩, ?_⟩, ?_⟩, ?_⟩, ?_⟩, ?_⟩, ?_⟩, ?_⟩, ?_⟩, ?_⟩, ?_⟩, ?_⟩
  all_goals (refine OpIs.mk rfl ?_; intro vs w1 hb hd K hK; simp only [frameV, zS, zA, zB, zC, zD] at hK |-)
  ·have HK := zH hK; clear hK; go_simp; exact HK.out _ _ rfl (zR _ _)
  ·have d0 : vs 0 = .pointer (some ⟨bx, 0, none⟩) := hd 0 (by kernel_rfl)
   have c0 := yab hb X0.out; simp only [d0] at hK |-; have HK := zH hK; clear hK; go_simp; exact HK.out _ _ rfl (zR _ _)
  ·have d1 : vs 1 = .int .i64 2 := hd 1 (by kernel_rfl)
   simp only [d1] at hK |-; have HK := zH hK; clear hK; go_simp; exact HK.out _ _ rfl (zR _ _)
  ·have d2 : vs 2 = .bool true := hd 2 (by kernel_rfl)
   simp only [d2] at hK |-; have HK := zH hK; clear hK; go_simp; exact HK.out _ _ rfl (zR _ _)
  ·have d3 : vs 3 = .bool true := hd 3 (by kernel_rfl)
   simp only [d3] at hK |-; have HK := zH hK; clear hK; go_simp; exact HK.out _ _ rfl (zR _ _)
  ·have d4 : vs 4 = .pointer (some ⟨bx, 0, none⟩) := hd 4 (by kernel_rfl)
   have d3 : vs 3 = .bool true := hd 3 (by kernel_rfl)
   have c0 := yab hb X0.out; simp only [d4, d3] at hK |-; have HK := zH hK; clear hK; go_simp; exact HK.out _ _ rfl (zR _ _)
  ·have d5 : vs 5 = .int .i64 2 := hd 5 (by kernel_rfl)
   have d3 : vs 3 = .bool true := hd 3 (by kernel_rfl)
   simp only [d5, d3] at hK |-; have HK := zH hK; clear hK; go_simp; exact HK.out _ _ rfl (zR _ _)
  ·have d3 : vs 3 = .bool true := hd 3 (by kernel_rfl)
   have d6 : vs 6 = .bool true := hd 6 (by kernel_rfl)
   simp only [d3, d6] at hK |-; have HK := zH hK; clear hK; go_simp; exact HK.out _ _ rfl (zR _ _)
  ·have d7 : vs 7 = .bool true := hd 7 (by kernel_rfl)
   simp only [d7] at hK |-; have HK := zH hK; clear hK; go_simp; exact HK.out _ _ rfl (zR _ _)
  ·have d8 : vs 8 = .bool true := hd 8 (by kernel_rfl)
   simp only [d8] at hK |-; have HK := zH hK; clear hK; go_simp
   go_at_call 34
   refine (ycm _).mono ?_; rintro e w3 ⟨rfl, hb3⟩; exact HK.out _ _ rfl hb3
  ·have d8 : vs 8 = .bool true := hd 8 (by kernel_rfl)
   simp only [d8] at hK |-; have HK := zH hK; clear hK; go_simp; exact HK.out _ _ rfl (zR _ _)
  ·have d10 : vs 10 = .pointer (some ⟨bx, 0, none⟩) := hd 10 (by kernel_rfl)
   have d8 : vs 8 = .bool true := hd 8 (by kernel_rfl)
   have c0 := yab hb X0.out; simp only [d10, d8] at hK |-; have HK := zH hK; clear hK; go_simp; exact HK.out _ _ rfl (zR _ _)
  ·have d9 : vs 9 = .agg #[.nilFunc, .nilFunc, .nilFunc, .func (.func 58) #[] #[], .func (.func 59) #[] #[], .func (.func 60) #[] #[], .func (.func 58) #[] #[], .func (.func 59) #[] #[], .func (.func 61) #[] #[], .func (.func 62) #[] #[], .func (.func 63) #[] #[], .func (.func 64) #[] #[]] := hd 9 (by kernel_rfl)
   have d11 : vs 11 = .int .i64 2 := hd 11 (by kernel_rfl)
   have d8 : vs 8 = .bool true := hd 8 (by kernel_rfl)
   simp only [d9, d11, d8] at hK |-; have HK := zH hK; clear hK; go_simp; exact HK.out _ _ rfl (zR _ _)
  ·have d12 : vs 12 = .agg #[.func (.func 58) #[] #[], .func (.func 59) #[] #[], .func (.func 61) #[] #[]] := hd 12 (by kernel_rfl)
   have d8 : vs 8 = .bool true := hd 8 (by kernel_rfl)
   simp only [d12, d8] at hK |-; have HK := zH hK; clear hK; go_simp; exact HK.out _ _ rfl (zR _ _)
  ·have d8 : vs 8 = .bool true := hd 8 (by kernel_rfl)
   have c0 := yab hb X0.out; have c1 := yab hb X1.out; have c2 := yab hb X2.out; have c3 := yab hb X3.out; have c4 := yab hb X4.out; simp only [d8] at hK |-; have HK := zH hK; clear hK; go_simp; exact HK.out _ _ rfl (zR _ _)
  ·have d13 : vs 13 = .func (.func 58) #[] #[] := hd 13 (by kernel_rfl)
   have d14 : vs 14 = .agg #[.int .i64 2, .int .i64 l, .bool sh, .bool bk, .pointer P] := hd 14 (by kernel_rfl)
   have d8 : vs 8 = .bool true := hd 8 (by kernel_rfl)
   simp only [d13, d14, d8] at hK |-; have HK := zH hK; clear hK; go_simp
   go_at_call 58
   refine (ylt _ _ _ _ _ _).mono ?_; rintro e w3 ⟨rfl, hb3⟩; exact HK.out _ _ rfl hb3
  ·have d8 : vs 8 = .bool true := hd 8 (by kernel_rfl)
   have d15 : vs 15 = .bool true := hd 15 (by kernel_rfl)
   simp only [d8, d15] at hK |-; have HK := zH hK; clear hK; go_simp; exact HK.out _ _ rfl (zR _ _)
 ·intro vs w3 hb hd
  have d16 : vs 16 = .bool true := hd 16 (by omega)
  have HB3 := zH (HB.out.trans (hb.mono (by have := HB.out.size; rw [HBX.out] at this; exact this)))
  simp only [frameV, zS, zA, zB, List.drop_succ_cons, List.drop_zero, d16]; clear hb hd d16
  go_wp2
  go_ret
  exact ⟨rfl, by rw [HBX.out]; exact HB3.out⟩
set_option maxHeartbeats 8000000 in
theorem ok_3 (l : Int) (sh bk : Bool) (P : Option Addr) (w : World) : Calls Tryz.prog 19 #[.agg #[.int .i64 3, .int .i64 l, .bool sh, .bool bk, .pointer P]] w fun e w' => e = .returned (.bool (tabB l P)) /\ Below w.heap.size w w' := by
 have CH := zH (fun w => yrc 3 l sh bk P w)
 obtain ⟨r, hr⟩ : ∃ r, tabB l P = r := ⟨_, rfl⟩; rw [hr] at CH |-; clear hr; have HX := zH (heap_alloc_new w (.cells #[.int .i64 3, .int .i64 l, .bool sh, .bool bk, .pointer P] 25)); have HB := zH (belAlloc w (.cells #[.int .i64 3, .int .i64 l, .bool sh, .bool bk, .pointer P] 25))
 go_enter Tryz.func19, Tryz.ntmps19
 go_upto_region 1 with (fail)
 generalize (w.alloc (.cells #[.int .i64 3, .int .i64 l, .bool sh, .bool bk, .pointer P] 25)) = w1 at HX HB |-; obtain ⟨bx, hbx⟩ : ∃ b, w.heap.size = b := ⟨_, rfl⟩; have HBX := zH hbx; rw [hbx] at HX HB; rw [show (({ block := w.heap.size, off := 0 } : Addr)) = ⟨bx, 0, none⟩ by rw [hbx]]
 clear hbx; have X0 := zH (cellAt (i := 0) (v := .int .i64 3) HX.out rfl); have X1 := zH (cellAt (i := 1) (v := .int .i64 l) HX.out rfl); have X2 := zH (cellAt (i := 2) (v := .bool sh) HX.out rfl); have X3 := zH (cellAt (i := 3) (v := .bool bk) HX.out rfl); have X4 := zH (cellAt (i := 4) (v := .pointer P) HX.out rfl); refine yag (m := 17) [3, 4, 5, 6, 7, 8, 9, 10, 11, 12, 13, 14, 15, 16, 17, 18, 19] [SV.eq (.pointer (some ⟨bx, 0, none⟩)), SV.eq (.int .i64 3), SV.eq (.bool true), SV.eq (.bool true), SV.eq (.pointer (some ⟨bx, 0, none⟩)), SV.eq (.int .i64 3), SV.eq (.bool true), SV.eq (.bool true), SV.eq (.bool true), SV.eq (.agg #[.nilFunc, .nilFunc, .nilFunc, .func (.func 58) #[] #[], .func (.func 59) #[] #[], .func (.func 60) #[] #[], .func (.func 58) #[] #[], .func (.func 59) #[] #[], .func (.func 61) #[] #[], .func (.func 62) #[] #[], .func (.func 63) #[] #[], .func (.func 64) #[] #[]]), SV.eq (.pointer (some ⟨bx, 0, none⟩)), SV.eq (.int .i64 3), SV.eq (.agg #[.func (.func 62) #[] #[], .func (.func 63) #[] #[], .func (.func 64) #[] #[]]), SV.eq (.func (.func 62) #[] #[]), SV.eq (.agg #[.int .i64 3, .int .i64 l, .bool sh, .bool bk, .pointer P]), SV.eq (.bool r), SV.eq (.bool r)] (by kernel_rfl) (by kernel_rfl) ?_ ?_
 ·refine ⟨⟨⟨⟨⟨⟨⟨⟨⟨⟨⟨⟨⟨⟨⟨⟨⟨trivial, ?_⟩, ?_⟩, ?_⟩, ?_⟩, ?_⟩, ?_⟩, ?_⟩, ?_⟩, ?_⟩, ?_⟩, ?_⟩, ?_⟩, ?_⟩, ?_⟩, ?_⟩, ?_⟩, ?_⟩
  all_goals (refine OpIs.mk rfl ?_; intro vs w1 hb hd K hK; simp only [frameV, zS, zA, zB, zC, zD] at hK |-)
  ·have HK := zH hK; clear hK; go_simp; exact HK.out _ _ rfl (zR _ _)
  ·have d0 : vs 0 = .pointer (some ⟨bx, 0, none⟩) := hd 0 (by kernel_rfl)
   have c0 := yab hb X0.out; simp only [d0] at hK |-; have HK := zH hK; clear hK; go_simp; exact HK.out _ _ rfl (zR _ _)
  ·have d1 : vs 1 = .int .i64 3 := hd 1 (by kernel_rfl)
   simp only [d1] at hK |-; have HK := zH hK; clear hK; go_simp; exact HK.out _ _ rfl (zR _ _)
  ·have d2 : vs 2 = .bool true := hd 2 (by kernel_rfl)
   simp only [d2] at hK |-; have HK := zH hK; clear hK; go_simp; exact HK.out _ _ rfl (zR _ _)
  ·have d3 : vs 3 = .bool true := hd 3 (by kernel_rfl)
   simp only [d3] at hK |-; have HK := zH hK; clear hK; go_simp; exact HK.out _ _ rfl (zR _ _)
  ·have d4 : vs 4 = .pointer (some ⟨bx, 0, none⟩) := hd 4 (by kernel_rfl)
   have d3 : vs 3 = .bool true := hd 3 (by kernel_rfl)
   have c0 := yab hb X0.out; simp only [d4, d3] at hK |-; have HK := zH hK; clear hK; go_simp; exact HK.out _ _ rfl (zR _ _)
  ·have d5 : vs 5 = .int .i64 3 := hd 5 (by kernel_rfl)
   have d3 : vs 3 = .bool true := hd 3 (by kernel_rfl)
   simp only [d5, d3] at hK |-; have HK := zH hK; clear hK; go_simp; exact HK.out _ _ rfl (zR _ _)
  ·have d3 : vs 3 = .bool true := hd 3 (by kernel_rfl)
   have d6 : vs 6 = .bool true := hd 6 (by kernel_rfl)
   simp only [d3, d6] at hK |-; have HK := zH hK; clear hK; go_simp; exact HK.out _ _ rfl (zR _ _)
  ·have d7 : vs 7 = .bool true := hd 7 (by kernel_rfl)
   simp only [d7] at hK |-; have HK := zH hK; clear hK; go_simp; exact HK.out _ _ rfl (zR _ _)
  ·have d8 : vs 8 = .bool true := hd 8 (by kernel_rfl)
   simp only [d8] at hK |-; have HK := zH hK; clear hK; go_simp
   go_at_call 34
   refine (ycm _).mono ?_; rintro e w3 ⟨rfl, hb3⟩; exact HK.out _ _ rfl hb3
  ·have d8 : vs 8 = .bool true := hd 8 (by kernel_rfl)
   simp only [d8] at hK |-; have HK := zH hK; clear hK; go_simp; exact HK.out _ _ rfl (zR _ _)
  ·have d10 : vs 10 = .pointer (some ⟨bx, 0, none⟩) := hd 10 (by kernel_rfl)
   have d8 : vs 8 = .bool true := hd 8 (by kernel_rfl)
   have c0 := yab hb X0.out; simp only [d10, d8] at hK |-; have HK := zH hK; clear hK; go_simp; exact HK.out _ _ rfl (zR _ _)
  ·have d9 : vs 9 = .agg #[.nilFunc, .nilFunc, .nilFunc, .func (.func 58) #[] #[], .func (.func 59) #[] #[], .func (.func 60) #[] #[], .func (.func 58) #[] #[], .func (.func 59) #[] #[], .func (.func 61) #[] #[], .func (.func 62) #[] #[], .func (.func 63) #[] #[], .func (.func 64) #[] #[]] := hd 9 (by kernel_rfl)
   have d11 : vs 11 = .int .i64 3 := hd 11 (by kernel_rfl)
   have d8 : vs 8 = .bool true := hd 8 (by kernel_rfl)
   simp only [d9, d11, d8] at hK |-; have HK := zH hK; clear hK; go_simp; exact HK.out _ _ rfl (zR _ _)
  ·have d12 : vs 12 = .agg #[.func (.func 62) #[] #[], .func (.func 63) #[] #[], .func (.func 64) #[] #[]] := hd 12 (by kernel_rfl)
   have d8 : vs 8 = .bool true := hd 8 (by kernel_rfl)
   simp only [d12, d8] at hK |-; have HK := zH hK; clear hK; go_simp; exact HK.out _ _ rfl (zR _ _)
  ·have d8 : vs 8 = .bool true := hd 8 (by kernel_rfl)
   have c0 := yab hb X0.out; have c1 := yab hb X1.out; have c2 := yab hb X2.out; have c3 := yab hb X3.out; have c4 := yab hb X4.out; simp only [d8] at hK |-; have HK := zH hK; clear hK; go_simp; exact HK.out _ _ rfl (zR _ _)
  ·have d13 : vs 13 = .func (.func 62) #[] #[] := hd 13 (by kernel_rfl)
   have d14 : vs 14 = .agg #[.int .i64 3, .int .i64 l, .bool sh, .bool bk, .pointer P] := hd 14 (by kernel_rfl)
   have d8 : vs 8 = .bool true := hd 8 (by kernel_rfl)
   simp only [d13, d14, d8] at hK |-; have HK := zH hK; clear hK; go_simp
   go_at_call 62
   refine (CH.out _).mono ?_; rintro e w3 ⟨rfl, hb3⟩; exact HK.out _ _ rfl hb3
  ·have d8 : vs 8 = .bool true := hd 8 (by kernel_rfl)
   have d15 : vs 15 = .bool r := hd 15 (by kernel_rfl)
   simp only [d8, d15] at hK |-; have HK := zH hK; clear hK; go_simp; exact HK.out _ _ rfl (zR _ _)
 ·intro vs w3 hb hd
  have d16 : vs 16 = .bool r := hd 16 (by omega)
  have HB3 := zH (HB.out.trans (hb.mono (by have := HB.out.size; rw [HBX.out] at this; exact this)))
  simp only [frameV, zS, zA, zB, List.drop_succ_cons, List.drop_zero, d16]; clear hb hd d16
  go_wp2
  go_ret
  exact ⟨rfl, by rw [HBX.out]; exact HB3.out⟩
set_option maxHeartbeats 8000000 in
theorem ok_low {k : Int} (hk : ¬ 1 <= k) (l : Int) (sh bk : Bool) (P : Option Addr) (w : World) : Calls Tryz.prog 19 #[.agg #[.int .i64 k, .int .i64 l, .bool sh, .bool bk, .pointer P]] w fun e w' => e = .returned (.bool false) /\ Below w.heap.size w w' := by
 have HX := zH (heap_alloc_new w (.cells #[.int .i64 k, .int .i64 l, .bool sh, .bool bk, .pointer P] 25)); have HB := zH (belAlloc w (.cells #[.int .i64 k, .int .i64 l, .bool sh, .bool bk, .pointer P] 25))
 go_enter Tryz.func19, Tryz.ntmps19
 go_upto_region 1 with (fail)
 generalize (w.alloc (.cells #[.int .i64 k, .int .i64 l, .bool sh, .bool bk, .pointer P] 25)) = w1 at HX HB |-; obtain ⟨bx, hbx⟩ : ∃ b, w.heap.size = b := ⟨_, rfl⟩; have HBX := zH hbx; rw [hbx] at HX HB; rw [show (({ block := w.heap.size, off := 0 } : Addr)) = ⟨bx, 0, none⟩ by rw [hbx]]
 clear hbx; have X0 := zH (cellAt (i := 0) (v := .int .i64 k) HX.out rfl); have X1 := zH (cellAt (i := 1) (v := .int .i64 l) HX.out rfl); have X2 := zH (cellAt (i := 2) (v := .bool sh) HX.out rfl); have X3 := zH (cellAt (i := 3) (v := .bool bk) HX.out rfl); have X4 := zH (cellAt (i := 4) (v := .pointer P) HX.out rfl); refine yag (m := 17) [3, 4, 5, 6, 7, 8, 9, 10, 11, 12, 13, 14, 15, 16, 17, 18, 19] [SV.eq (.pointer (some ⟨bx, 0, none⟩)), SV.eq (.int .i64 k), SV.eq (.bool false), SV.eq (.bool false), SV.any, SV.any, SV.any, SV.eq (.bool false), SV.eq (.bool false), SV.any, SV.any, SV.any, SV.any, SV.any, SV.any, SV.any, SV.eq (.bool false)] (by kernel_rfl) (by kernel_rfl) ?_ ?_
 ·refine ⟨⟨⟨⟨⟨⟨⟨⟨⟨⟨⟨⟨⟨⟨⟨⟨⟨trivial, ?_⟩, ?_⟩, ?_⟩, ?_⟩, ?_⟩, ?_⟩, ?_⟩, ?_⟩, ?_⟩, ?_⟩, ?_⟩, ?_⟩, ?_⟩, ?_⟩, ?_⟩, ?_⟩, ?_⟩
  all_goals (refine OpIs.mk rfl ?_; intro vs w1 hb hd K hK; simp only [frameV, zS, zA, zB, zC, zD] at hK |-)
  ·have HK := zH hK; clear hK; go_simp; exact HK.out _ _ rfl (zR _ _)
  ·have d0 : vs 0 = .pointer (some ⟨bx, 0, none⟩) := hd 0 (by kernel_rfl)
   have c0 := yab hb X0.out; simp only [d0] at hK |-; have HK := zH hK; clear hK; go_simp; exact HK.out _ _ rfl (zR _ _)
  ·have d1 : vs 1 = .int .i64 k := hd 1 (by kernel_rfl)
   simp only [d1] at hK |-; have HK := zH hK; clear hK; go_simp; exact HK.out _ _ rfl (zR _ _)
  ·have d2 : vs 2 = .bool false := hd 2 (by kernel_rfl)
   simp only [d2] at hK |-; have HK := zH hK; clear hK; go_simp; exact HK.out _ _ rfl (zR _ _)
  ·have d3 : vs 3 = .bool false := hd 3 (by kernel_rfl)
   simp only [d3] at hK |-; have HK := zH hK; clear hK; go_simp; exact HK.out _ _ trivial (zR _ _)
  ·have d3 : vs 3 = .bool false := hd 3 (by kernel_rfl)
   simp only [d3] at hK |-; have HK := zH hK; clear hK; go_simp; exact HK.out _ _ trivial (zR _ _)
  ·have d3 : vs 3 = .bool false := hd 3 (by kernel_rfl)
   simp only [d3] at hK |-; have HK := zH hK; clear hK; go_simp; exact HK.out _ _ trivial (zR _ _)
  ·have d3 : vs 3 = .bool false := hd 3 (by kernel_rfl)
   simp only [d3] at hK |-; have HK := zH hK; clear hK; go_simp; exact HK.out _ _ rfl (zR _ _)
  ·have d7 : vs 7 = .bool false := hd 7 (by kernel_rfl)
   simp only [d7] at hK |-; have HK := zH hK; clear hK; go_simp; exact HK.out _ _ rfl (zR _ _)
  ·have d8 : vs 8 = .bool false := hd 8 (by kernel_rfl)
   simp only [d8] at hK |-; have HK := zH hK; clear hK; go_simp; exact HK.out _ _ trivial (zR _ _)
  ·have d8 : vs 8 = .bool false := hd 8 (by kernel_rfl)
   simp only [d8] at hK |-; have HK := zH hK; clear hK; go_simp; exact HK.out _ _ trivial (zR _ _)
  ·have d8 : vs 8 = .bool false := hd 8 (by kernel_rfl)
   simp only [d8] at hK |-; have HK := zH hK; clear hK; go_simp; exact HK.out _ _ trivial (zR _ _)
  ·have d8 : vs 8 = .bool false := hd 8 (by kernel_rfl)
   simp only [d8] at hK |-; have HK := zH hK; clear hK; go_simp; exact HK.out _ _ trivial (zR _ _)
  ·have d8 : vs 8 = .bool false := hd 8 (by kernel_rfl)
   simp only [d8] at hK |-; have HK := zH hK; clear hK; go_simp; exact HK.out _ _ trivial (zR _ _)
  ·have d8 : vs 8 = .bool false := hd 8 (by kernel_rfl)
   simp only [d8] at hK |-; have HK := zH hK; clear hK; go_simp; exact HK.out _ _ trivial (zR _ _)
  ·have d8 : vs 8 = .bool false := hd 8 (by kernel_rfl)
   simp only [d8] at hK |-; have HK := zH hK; clear hK; go_simp; exact HK.out _ _ trivial (zR _ _)
  ·have d8 : vs 8 = .bool false := hd 8 (by kernel_rfl)
   simp only [d8] at hK |-; have HK := zH hK; clear hK; go_simp; exact HK.out _ _ rfl (zR _ _)
 ·intro vs w3 hb hd
  have d16 : vs 16 = .bool false := hd 16 (by omega)
  have HB3 := zH (HB.out.trans (hb.mono (by have := HB.out.size; rw [HBX.out] at this; exact this)))
  simp only [frameV, zS, zA, zB, List.drop_succ_cons, List.drop_zero, d16]; clear hb hd d16
  go_wp2
  go_ret
  exact ⟨rfl, by rw [HBX.out]; exact HB3.out⟩
set_option maxHeartbeats 8000000 in
theorem ok_high {k : Int} (h1 : 1 <= k) (hk : ¬ k <= 3) (l : Int) (sh bk : Bool) (P : Option Addr) (w : World) : Calls Tryz.prog 19 #[.agg #[.int .i64 k, .int .i64 l, .bool sh, .bool bk, .pointer P]] w fun e w' => e = .returned (.bool false) /\ Below w.heap.size w w' := by
 have HX := zH (heap_alloc_new w (.cells #[.int .i64 k, .int .i64 l, .bool sh, .bool bk, .pointer P] 25)); have HB := zH (belAlloc w (.cells #[.int .i64 k, .int .i64 l, .bool sh, .bool bk, .pointer P] 25))
 go_enter Tryz.func19, Tryz.ntmps19
 go_upto_region 1 with (fail)
 generalize (w.alloc (.cells #[.int .i64 k, .int .i64 l, .bool sh, .bool bk, .pointer P] 25)) = w1 at HX HB |-; obtain ⟨bx, hbx⟩ : ∃ b, w.heap.size = b := ⟨_, rfl⟩; have HBX := zH hbx; rw [hbx] at HX HB; rw [show (({ block := w.heap.size, off := 0 } : Addr)) = ⟨bx, 0, none⟩ by rw [hbx]]
 clear hbx; have X0 := zH (cellAt (i := 0) (v := .int .i64 k) HX.out rfl); have X1 := zH (cellAt (i := 1) (v := .int .i64 l) HX.out rfl); have X2 := zH (cellAt (i := 2) (v := .bool sh) HX.out rfl); have X3 := zH (cellAt (i := 3) (v := .bool bk) HX.out rfl); have X4 := zH (cellAt (i := 4) (v := .pointer P) HX.out rfl); refine yag (m := 17) [3, 4, 5, 6, 7, 8, 9, 10, 11, 12, 13, 14, 15, 16, 17, 18, 19] [SV.eq (.pointer (some ⟨bx, 0, none⟩)), SV.eq (.int .i64 k), SV.eq (.bool true), SV.eq (.bool true), SV.eq (.pointer (some ⟨bx, 0, none⟩)), SV.eq (.int .i64 k), SV.eq (.bool false), SV.eq (.bool false), SV.eq (.bool false), SV.any, SV.any, SV.any, SV.any, SV.any, SV.any, SV.any, SV.eq (.bool false)] (by kernel_rfl) (by kernel_rfl) ?_ ?_
 ·refine ⟨⟨⟨⟨⟨⟨⟨⟨⟨⟨⟨⟨⟨⟨⟨⟨⟨trivial, ?_⟩, ?_⟩, ?_⟩, ?_⟩, ?_⟩, ?_⟩, ?_⟩, ?_⟩, ?_⟩, ?_⟩, ?_⟩, ?_⟩, ?_⟩, ?_⟩, ?_⟩, ?_⟩, ?_⟩
  all_goals (refine OpIs.mk rfl ?_; intro vs w1 hb hd K hK; simp only [frameV, zS, zA, zB, zC, zD] at hK |-)
  ·have HK := zH hK; clear hK; go_simp; exact HK.out _ _ rfl (zR _ _)
  ·have d0 : vs 0 = .pointer (some ⟨bx, 0, none⟩) := hd 0 (by kernel_rfl)
   have c0 := yab hb X0.out; simp only [d0] at hK |-; have HK := zH hK; clear hK; go_simp; exact HK.out _ _ rfl (zR _ _)
  ·have d1 : vs 1 = .int .i64 k := hd 1 (by kernel_rfl)
   simp only [d1] at hK |-; have HK := zH hK; clear hK; go_simp; exact HK.out _ _ rfl (zR _ _)
  ·have d2 : vs 2 = .bool true := hd 2 (by kernel_rfl)
   simp only [d2] at hK |-; have HK := zH hK; clear hK; go_simp; exact HK.out _ _ rfl (zR _ _)
  ·have d3 : vs 3 = .bool true := hd 3 (by kernel_rfl)
   simp only [d3] at hK |-; have HK := zH hK; clear hK; go_simp; exact HK.out _ _ rfl (zR _ _)
  ·have d4 : vs 4 = .pointer (some ⟨bx, 0, none⟩) := hd 4 (by kernel_rfl)
   have d3 : vs 3 = .bool true := hd 3 (by kernel_rfl)
   have c0 := yab hb X0.out; simp only [d4, d3] at hK |-; have HK := zH hK; clear hK; go_simp; exact HK.out _ _ rfl (zR _ _)
  ·have d5 : vs 5 = .int .i64 k := hd 5 (by kernel_rfl)
   have d3 : vs 3 = .bool true := hd 3 (by kernel_rfl)
   simp only [d5, d3] at hK |-; have HK := zH hK; clear hK; go_simp; exact HK.out _ _ rfl (zR _ _)
  ·have d3 : vs 3 = .bool true := hd 3 (by kernel_rfl)
   have d6 : vs 6 = .bool false := hd 6 (by kernel_rfl)
   simp only [d3, d6] at hK |-; have HK := zH hK; clear hK; go_simp; exact HK.out _ _ rfl (zR _ _)
  ·have d7 : vs 7 = .bool false := hd 7 (by kernel_rfl)
   simp only [d7] at hK |-; have HK := zH hK; clear hK; go_simp; exact HK.out _ _ rfl (zR _ _)
  ·have d8 : vs 8 = .bool false := hd 8 (by kernel_rfl)
   simp only [d8] at hK |-; have HK := zH hK; clear hK; go_simp; exact HK.out _ _ trivial (zR _ _)
  ·have d8 : vs 8 = .bool false := hd 8 (by kernel_rfl)
   simp only [d8] at hK |-; have HK := zH hK; clear hK; go_simp; exact HK.out _ _ trivial (zR _ _)
  ·have d8 : vs 8 = .bool false := hd 8 (by kernel_rfl)
   simp only [d8] at hK |-; have HK := zH hK; clear hK; go_simp; exact HK.out _ _ trivial (zR _ _)
  ·have d8 : vs 8 = .bool false := hd 8 (by kernel_rfl)
   simp only [d8] at hK |-; have HK := zH hK; clear hK; go_simp; exact HK.out _ _ trivial (zR _ _)
  ·have d8 : vs 8 = .bool false := hd 8 (by kernel_rfl)
   simp only [d8] at hK |-; have HK := zH hK; clear hK; go_simp; exact HK.out _ _ trivial (zR _ _)
  ·have d8 : vs 8 = .bool false := hd 8 (by kernel_rfl)
   simp only [d8] at hK |-; have HK := zH hK; clear hK; go_simp; exact HK.out _ _ trivial (zR _ _)
  ·have d8 : vs 8 = .bool false := hd 8 (by kernel_rfl)
   simp only [d8] at hK |-; have HK := zH hK; clear hK; go_simp; exact HK.out _ _ trivial (zR _ _)
  ·have d8 : vs 8 = .bool false := hd 8 (by kernel_rfl)
   simp only [d8] at hK |-; have HK := zH hK; clear hK; go_simp; exact HK.out _ _ rfl (zR _ _)
 ·intro vs w3 hb hd
  have d16 : vs 16 = .bool false := hd 16 (by omega)
  have HB3 := zH (HB.out.trans (hb.mono (by have := HB.out.size; rw [HBX.out] at this; exact this)))
  simp only [frameV, zS, zA, zB, List.drop_succ_cons, List.drop_zero, d16]; clear hb hd d16
  go_wp2
  go_ret
  exact ⟨rfl, by rw [HBX.out]; exact HB3.out⟩
end Go.Proofs.YteibnfeokgibmaaGreat
