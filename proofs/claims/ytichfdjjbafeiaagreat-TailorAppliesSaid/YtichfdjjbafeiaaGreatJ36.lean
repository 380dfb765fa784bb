/-
  PACKED for a claim.
-/
import Derived.Test.YtichfdjjbafeiaaGreatJ28
set_option linter.unusedVariables false
set_option linter.unusedSimpArgs false
set_option maxRecDepth 100000
namespace Go.Proofs.YtichfdjjbafeiaaGreat
open Go.RowKit
set_option maxHeartbeats 1000000 in
theorem yay {lv : Nat} (hl : Lv lv) (P S T : Int) (V : Bool) {r : Int} (hr : (if lv = 1 then P else if lv = 2 then S else T) = r) (w : World) :
  Calls Tryz.prog 79 #[.agg #[.int .i64 P, .int .i64 S, .int .i64 T, .bool V], .int .i64 (lv : Nat)] w fun e w' => e = .returned (.int .i64 r) /\ Below w.heap.size w w' := by
 subst hr
 have c0 : (w.alloc (.cells #[.int .i64 P, .int .i64 S, .int .i64 T, .bool V] 91)).cell? ⟨w.heap.size, 0, none⟩ = some (.int .i64 P) := by rw [cell_of_row _ _ 0 _ _ _ (heap_alloc_new w _)]; rfl
 have c1 : (w.alloc (.cells #[.int .i64 P, .int .i64 S, .int .i64 T, .bool V] 91)).cell? ⟨w.heap.size, 1, none⟩ = some (.int .i64 S) := by rw [cell_of_row _ _ 1 _ _ _ (heap_alloc_new w _)]; rfl
 have c2 : (w.alloc (.cells #[.int .i64 P, .int .i64 S, .int .i64 T, .bool V] 91)).cell? ⟨w.heap.size, 2, none⟩ = some (.int .i64 T) := by rw [cell_of_row _ _ 2 _ _ _ (heap_alloc_new w _)]; rfl
 rcases hl with rfl | rfl | rfl
 ·show Calls _ _ #[_, .int .i64 1] _ _
  go_enter Tryz.func79, Tryz.ntmps79
  go_wp2
  go_ret
  exact ⟨rfl, yaa _ _⟩
 ·show Calls _ _ #[_, .int .i64 2] _ _
  go_enter Tryz.func79, Tryz.ntmps79
  go_wp2
  go_ret
  exact ⟨rfl, yaa _ _⟩
 ·show Calls _ _ #[_, .int .i64 3] _ _
  go_enter Tryz.func79, Tryz.ntmps79
  go_wp2
  go_ret
  exact ⟨rfl, yaa _ _⟩
structure C4 (w : World) (b : Nat) (P S T : Value) (V : Value) : Prop where
 blk : w.heap[b]? = some (.cells #[P, S, T, V] 91 (0, 0))
theorem C4.below {w w' : World} {b : Nat} {P S T V : Value} (h : C4 w b P S T V) (hb : Below w.heap.size w w') : C4 w' b P S T V := ⟨(hb.block b (R4.yac h.blk)).trans h.blk⟩
theorem C4.cells {w : World} {b : Nat} {P S T V : Value} (h : C4 w b P S T V) : w.cell? ⟨b, 0, none⟩ = some P /\ w.cell? ⟨b, 1, none⟩ = some S /\ w.cell? ⟨b, 2, none⟩ = some T /\ w.cell? ⟨b, 3, none⟩ = some V := by
 refine ⟨?_, ?_, ?_, ?_⟩ <;> rw [cell_of_row _ _ _ _ _ _ h.blk] <;> rfl
theorem C4.fz {w : World} {b : Nat} {P S T V : Value} (h : C4 w b P S T V) (i : Nat) : w.frozen? ⟨b, i, none⟩ = false := frozen_of_row w b i _ _ h.blk
theorem C4.set {w : World} {b : Nat} {P S T V : Value} (h : C4 w b P S T V) (P' S' T' V' : Value) : C4 ((((w.setCell ⟨b, 0, none⟩ P').setCell ⟨b, 1, none⟩ S').setCell ⟨b, 2, none⟩ T').setCell ⟨b, 3, none⟩ V') b P' S' T' V' := by
 have h1 : (w.setCell ⟨b, 0, none⟩ P').heap[b]? = some (.cells #[P', S, T, V] 91 (0, 0)) := heap_setCell_same w b 0 _ _ P' h.blk
 have h2 : ((w.setCell ⟨b, 0, none⟩ P').setCell ⟨b, 1, none⟩ S').heap[b]? = some (.cells #[P', S', T, V] 91 (0, 0)) := heap_setCell_same _ b 1 _ _ S' h1
 have h3 : (((w.setCell ⟨b, 0, none⟩ P').setCell ⟨b, 1, none⟩ S').setCell ⟨b, 2, none⟩ T').heap[b]? = some (.cells #[P', S', T', V] 91 (0, 0)) := heap_setCell_same _ b 2 _ _ T' h2
 exact ⟨heap_setCell_same _ b 3 _ _ V' h3⟩
theorem C4.bel {w w0 : World} {B b : Nat} {P' S' T' V' : Value} (h : Below B w0 w) (hB : B <= b) : Below B w0 ((((w.setCell ⟨b, 0, none⟩ P').setCell ⟨b, 1, none⟩ S').setCell ⟨b, 2, none⟩ T').setCell ⟨b, 3, none⟩ V') :=
 (((h.setCell (by show B <= b; exact hB) _).setCell (by show B <= b; exact hB) _).setCell (by show B <= b; exact hB) _).setCell (by show B <= b; exact hB) _
theorem C4.set0 {w : World} {b : Nat} {P S T V : Value} (h : C4 w b P S T V) (X : Value) : C4 (w.setCell ⟨b, 0, none⟩ X) b X S T V := ⟨heap_setCell_same w b 0 _ _ X h.blk⟩
theorem C4.set1 {w : World} {b : Nat} {P S T V : Value} (h : C4 w b P S T V) (X : Value) : C4 (w.setCell ⟨b, 1, none⟩ X) b P X T V := ⟨heap_setCell_same w b 1 _ _ X h.blk⟩
theorem C4.set2 {w : World} {b : Nat} {P S T V : Value} (h : C4 w b P S T V) (X : Value) : C4 (w.setCell ⟨b, 2, none⟩ X) b P S X V := ⟨heap_setCell_same w b 2 _ _ X h.blk⟩
theorem C4.off {w : World} {b i : Nat} {a : Nat} {P S T V X : Value} (h : C4 w b P S T V) (hab : b ≠ a) : C4 (w.setCell ⟨a, i, none⟩ X) b P S T V := ⟨(Below.heap_setCell _ _ _ _ hab).trans h.blk⟩
set_option maxHeartbeats 4000000 in
theorem ymw {lv : Nat} (hl : Lv lv) (P S T : Int) (V : Bool) {W fr bd : Int} (hW : (if lv = 1 then P else if lv = 2 then S else T) = W) (hk : W <= fr \/ bd <= W) (w : World) :
  Calls Tryz.prog 126 #[.agg #[.int .i64 P, .int .i64 S, .int .i64 T, .bool V], .int .i64 (lv : Nat), .int .i64 fr, .int .i64 bd] w fun e w' => e = .returned (.agg #[.int .i64 P, .int .i64 S, .int .i64 T, .bool V]) /\ Below w.heap.size w w' := by
 have CW := zH (fun w => yay hl P S T V hW w)
 have ha := yaa w (.cells #[.int .i64 P, .int .i64 S, .int .i64 T, .bool V] 91); have hb := yaa (w.alloc (.cells #[.int .i64 P, .int .i64 S, .int .i64 T, .bool V] 91)) (.cells #[.int .i64 0, .int .i64 0, .int .i64 0, .bool false] 91); have HA := zH (C4.below ⟨heap_alloc_new w (.cells #[.int .i64 P, .int .i64 S, .int .i64 T, .bool V] 91)⟩ hb)
 have HZ : Hid (C4 ((w.alloc (.cells #[.int .i64 P, .int .i64 S, .int .i64 T, .bool V] 91)).alloc (.cells #[.int .i64 0, .int .i64 0, .int .i64 0, .bool false] 91)) (w.heap.size + 1) (.int .i64 0) (.int .i64 0) (.int .i64 0) (.bool false)) := ⟨by
  have h := heap_alloc_new (w.alloc (.cells #[.int .i64 P, .int .i64 S, .int .i64 T, .bool V] 91)) (.cells #[.int .i64 0, .int .i64 0, .int .i64 0, .bool false] 91); rw [World.size_alloc] at h; exact h⟩
 have HB := zH (ha.trans (hb.mono ha.size)); have a0 := HA.out.cells.1; have a1 := HA.out.cells.2.1; have a2 := HA.out.cells.2.2.1; have a3 := HA.out.cells.2.2.2
 by_cases h1 : W <= fr
 ·clear hk hW ha hb
  go_enter Tryz.func126, Tryz.ntmps126
  go_wp2_with (go_at_call 79; refine (CW.out _).mono ?_; rintro q w1 ⟨rfl, hb⟩; clear a0 a1 a2 a3; have HA1 := zH (HA.out.below hb); have HZ1 := zH (HZ.out.below hb); obtain ⟨a0, a1, a2, a3⟩ := HA1.out.cells; obtain ⟨z0, z1, z2, z3⟩ := HZ1.out.cells; have f0 := HZ1.out.fz 0; have f1 := HZ1.out.fz 1; have f2 := HZ1.out.fz 2; have f3 := HZ1.out.fz 3; have HB1 := zH (HB.out.trans (hb.mono HB.out.size)); clear hb)
  obtain ⟨d0, d1, d2, d3⟩ := (HZ1.out.set (.int .i64 P) (.int .i64 S) (.int .i64 T) (.bool V)).cells; exact bodyPost_ret (v := .agg #[.int .i64 P, .int .i64 S, .int .i64 T, .bool V]) (by simp [results, Tryz.results126, go_sem, d0, d1, d2, d3]) rfl ⟨rfl, C4.bel HB1.out (Nat.le_succ _)⟩
 ·have h2 : bd <= W := by rcases hk with h | h
                          · exact absurd h h1
                          · exact h
  have h1b : decide (W <= fr) = false := decide_eq_false h1
  have tok : True := trivial
  clear hk hW ha hb
  go_enter Tryz.func126, Tryz.ntmps126
  go_wp2_with (first
   | (go_at_call 79; have _t := tok; refine (CW.out _).mono ?_; rintro q w1 ⟨rfl, hb⟩; clear a0 a1 a2 a3; have HA1 := zH (HA.out.below hb); have HZ1 := zH (HZ.out.below hb); obtain ⟨a0, a1, a2, a3⟩ := HA1.out.cells; obtain ⟨z0, z1, z2, z3⟩ := HZ1.out.cells; have f0 := HZ1.out.fz 0; have f1 := HZ1.out.fz 1; have f2 := HZ1.out.fz 2; have f3 := HZ1.out.fz 3; have HB1 := zH (HB.out.trans (hb.mono HB.out.size)); clear hb _t tok)
   | (go_at_call 79; refine (CW.out _).mono ?_; rintro q w2 ⟨rfl, hb⟩; clear a0 a1 a2 a3 z0 z1 z2 z3 f0 f1 f2 f3; have HA2 := zH (HA1.out.below hb); have HZ2 := zH (HZ1.out.below hb); obtain ⟨a0, a1, a2, a3⟩ := HA2.out.cells; obtain ⟨z0, z1, z2, z3⟩ := HZ2.out.cells; have f0 := HZ2.out.fz 0; have f1 := HZ2.out.fz 1; have f2 := HZ2.out.fz 2; have f3 := HZ2.out.fz 3; have HB2 := zH (HB1.out.trans (hb.mono HB1.out.size)); clear hb))
  obtain ⟨d0, d1, d2, d3⟩ := (HZ2.out.set (.int .i64 P) (.int .i64 S) (.int .i64 T) (.bool V)).cells; exact bodyPost_ret (v := .agg #[.int .i64 P, .int .i64 S, .int .i64 T, .bool V]) (by simp [results, Tryz.results126, go_sem, d0, d1, d2, d3]) rfl ⟨rfl, C4.bel HB2.out (Nat.le_succ _)⟩
set_option maxHeartbeats 4000000 in
theorem ywq (P S T : Int) (V : Bool) {fr bd : Int} (h1 : ¬ P <= fr) (h2 : ¬ bd <= P) (hr : 0 <= P /\ P <= 1000000) (w : World) :
  Calls Tryz.prog 126 #[.agg #[.int .i64 P, .int .i64 S, .int .i64 T, .bool V], .int .i64 1, .int .i64 fr, .int .i64 bd] w fun e w' => e = .returned (.agg #[.int .i64 (P + 1), .int .i64 S, .int .i64 T, .bool V]) /\ Below w.heap.size w w' := by
 have CW : Hid (∀ w, Calls Tryz.prog 79 #[.agg #[.int .i64 P, .int .i64 S, .int .i64 T, .bool V], .int .i64 1] w fun e w' => e = .returned (.int .i64 P) /\ Below w.heap.size w w') := fun w => yay (lv := 1) (by unfold Lv; omega) P S T V rfl w
 have ha := yaa w (.cells #[.int .i64 P, .int .i64 S, .int .i64 T, .bool V] 91); have hb := yaa (w.alloc (.cells #[.int .i64 P, .int .i64 S, .int .i64 T, .bool V] 91)) (.cells #[.int .i64 0, .int .i64 0, .int .i64 0, .bool false] 91); have HA := zH (C4.below ⟨heap_alloc_new w (.cells #[.int .i64 P, .int .i64 S, .int .i64 T, .bool V] 91)⟩ hb)
 have HZ : Hid (C4 ((w.alloc (.cells #[.int .i64 P, .int .i64 S, .int .i64 T, .bool V] 91)).alloc (.cells #[.int .i64 0, .int .i64 0, .int .i64 0, .bool false] 91)) (w.heap.size + 1) (.int .i64 0) (.int .i64 0) (.int .i64 0) (.bool false)) := ⟨by
  have h := heap_alloc_new (w.alloc (.cells #[.int .i64 P, .int .i64 S, .int .i64 T, .bool V] 91)) (.cells #[.int .i64 0, .int .i64 0, .int .i64 0, .bool false] 91); rw [World.size_alloc] at h; exact h⟩
 have HB := zH (ha.trans (hb.mono ha.size)); have a0 := HA.out.cells.1; have a1 := HA.out.cells.2.1; have a2 := HA.out.cells.2.2.1; have a3 := HA.out.cells.2.2.2
 have h1b : decide (P <= fr) = false := decide_eq_false h1
 have h2b : decide (bd <= P) = false := decide_eq_false h2
 have hwr : IntKind.i64.wrap (P + 1) = P + 1 := by rw [IntKind.wrap_i64]; omega
 have tok : True := trivial
 clear ha hb hr
 go_enter Tryz.func126, Tryz.ntmps126
 go_wp2_with (first
  | (go_at_call 79; have _t := tok; refine (CW.out _).mono ?_; rintro q w1 ⟨rfl, hb⟩; clear a0 a1 a2 a3; have HA1 := zH (HA.out.below hb); have HZ1 := zH (HZ.out.below hb); obtain ⟨a0, a1, a2, a3⟩ := HA1.out.cells; obtain ⟨z0, z1, z2, z3⟩ := HZ1.out.cells; have f0 := HZ1.out.fz 0; have f1 := HZ1.out.fz 1; have f2 := HZ1.out.fz 2; have f3 := HZ1.out.fz 3; have HB1 := zH (HB.out.trans (hb.mono HB.out.size)); clear hb _t tok)
  | (go_at_call 79; refine (CW.out _).mono ?_; rintro q w2 ⟨rfl, hb⟩; clear a0 a1 a2 a3 z0 z1 z2 z3 f0 f1 f2 f3; have HA2 := zH (HA1.out.below hb); have HZ2 := zH (HZ1.out.below hb); obtain ⟨a0, a1, a2, a3⟩ := HA2.out.cells; obtain ⟨z0, z1, z2, z3⟩ := HZ2.out.cells; have f0 := HZ2.out.fz 0; have f1 := HZ2.out.fz 1; have f2 := HZ2.out.fz 2; have f3 := HZ2.out.fz 3; have HB2 := zH (HB1.out.trans (hb.mono HB1.out.size)); clear hb; have HC := zH (HA2.out.set0 (.int .i64 (P + 1))); have HY : Hid (C4 (w2.setCell ⟨w.heap.size, 0, none⟩ (.int .i64 (P + 1))) (w.heap.size + 1) (.int .i64 0) (.int .i64 0) (.int .i64 0) (.bool false)) := HZ2.out.off (by omega); have g0 := HA2.out.fz 0; obtain ⟨x0, x1, x2, x3⟩ := HC.out.cells; obtain ⟨y0, y1, y2, y3⟩ := HY.out.cells; have k0 := HY.out.fz 0; have k1 := HY.out.fz 1; have k2 := HY.out.fz 2; have k3 := HY.out.fz 3))
 obtain ⟨d0, d1, d2, d3⟩ := (HY.out.set (.int .i64 (P + 1)) (.int .i64 S) (.int .i64 T) (.bool V)).cells; exact bodyPost_ret (v := .agg #[.int .i64 (P + 1), .int .i64 S, .int .i64 T, .bool V]) (by simp [results, Tryz.results126, go_sem, d0, d1, d2, d3]) rfl ⟨rfl, C4.bel (HB2.out.setCell (by show w.heap.size <= w.heap.size; exact zN _) _) (Nat.le_succ _)⟩
set_option maxHeartbeats 4000000 in
theorem ywp (P S T : Int) (V : Bool) {fr bd : Int} (h1 : ¬ S <= fr) (h2 : ¬ bd <= S) (hr : 0 <= S /\ S <= 1000000) (w : World) :
  Calls Tryz.prog 126 #[.agg #[.int .i64 P, .int .i64 S, .int .i64 T, .bool V], .int .i64 2, .int .i64 fr, .int .i64 bd] w fun e w' => e = .returned (.agg #[.int .i64 P, .int .i64 (S + 1), .int .i64 T, .bool V]) /\ Below w.heap.size w w' := by
 have CW : Hid (∀ w, Calls Tryz.prog 79 #[.agg #[.int .i64 P, .int .i64 S, .int .i64 T, .bool V], .int .i64 2] w fun e w' => e = .returned (.int .i64 S) /\ Below w.heap.size w w') := fun w => yay (lv := 2) (by unfold Lv; omega) P S T V rfl w
 have ha := yaa w (.cells #[.int .i64 P, .int .i64 S, .int .i64 T, .bool V] 91); have hb := yaa (w.alloc (.cells #[.int .i64 P, .int .i64 S, .int .i64 T, .bool V] 91)) (.cells #[.int .i64 0, .int .i64 0, .int .i64 0, .bool false] 91); have HA := zH (C4.below ⟨heap_alloc_new w (.cells #[.int .i64 P, .int .i64 S, .int .i64 T, .bool V] 91)⟩ hb)
 have HZ : Hid (C4 ((w.alloc (.cells #[.int .i64 P, .int .i64 S, .int .i64 T, .bool V] 91)).alloc (.cells #[.int .i64 0, .int .i64 0, .int .i64 0, .bool false] 91)) (w.heap.size + 1) (.int .i64 0) (.int .i64 0) (.int .i64 0) (.bool false)) := ⟨by
  have h := heap_alloc_new (w.alloc (.cells #[.int .i64 P, .int .i64 S, .int .i64 T, .bool V] 91)) (.cells #[.int .i64 0, .int .i64 0, .int .i64 0, .bool false] 91); rw [World.size_alloc] at h; exact h⟩
 have HB := zH (ha.trans (hb.mono ha.size)); have a0 := HA.out.cells.1; have a1 := HA.out.cells.2.1; have a2 := HA.out.cells.2.2.1; have a3 := HA.out.cells.2.2.2
 have h1b : decide (S <= fr) = false := decide_eq_false h1
 have h2b : decide (bd <= S) = false := decide_eq_false h2
 have hwr : IntKind.i64.wrap (S + 1) = S + 1 := by rw [IntKind.wrap_i64]; omega
 have tok : True := trivial
 clear ha hb hr
 go_enter Tryz.func126, Tryz.ntmps126
 go_wp2_with (first
  | (go_at_call 79; have _t := tok; refine (CW.out _).mono ?_; rintro q w1 ⟨rfl, hb⟩; clear a0 a1 a2 a3; have HA1 := zH (HA.out.below hb); have HZ1 := zH (HZ.out.below hb); obtain ⟨a0, a1, a2, a3⟩ := HA1.out.cells; obtain ⟨z0, z1, z2, z3⟩ := HZ1.out.cells; have f0 := HZ1.out.fz 0; have f1 := HZ1.out.fz 1; have f2 := HZ1.out.fz 2; have f3 := HZ1.out.fz 3; have HB1 := zH (HB.out.trans (hb.mono HB.out.size)); clear hb _t tok)
  | (go_at_call 79; refine (CW.out _).mono ?_; rintro q w2 ⟨rfl, hb⟩; clear a0 a1 a2 a3 z0 z1 z2 z3 f0 f1 f2 f3; have HA2 := zH (HA1.out.below hb); have HZ2 := zH (HZ1.out.below hb); obtain ⟨a0, a1, a2, a3⟩ := HA2.out.cells; obtain ⟨z0, z1, z2, z3⟩ := HZ2.out.cells; have f0 := HZ2.out.fz 0; have f1 := HZ2.out.fz 1; have f2 := HZ2.out.fz 2; have f3 := HZ2.out.fz 3; have HB2 := zH (HB1.out.trans (hb.mono HB1.out.size)); clear hb; have HC := zH (HA2.out.set1 (.int .i64 (S + 1))); have HY : Hid (C4 (w2.setCell ⟨w.heap.size, 1, none⟩ (.int .i64 (S + 1))) (w.heap.size + 1) (.int .i64 0) (.int .i64 0) (.int .i64 0) (.bool false)) := HZ2.out.off (by omega); have g0 := HA2.out.fz 1; obtain ⟨x0, x1, x2, x3⟩ := HC.out.cells; obtain ⟨y0, y1, y2, y3⟩ := HY.out.cells; have k0 := HY.out.fz 0; have k1 := HY.out.fz 1; have k2 := HY.out.fz 2; have k3 := HY.out.fz 3))
 obtain ⟨d0, d1, d2, d3⟩ := (HY.out.set (.int .i64 P) (.int .i64 (S + 1)) (.int .i64 T) (.bool V)).cells; exact bodyPost_ret (v := .agg #[.int .i64 P, .int .i64 (S + 1), .int .i64 T, .bool V]) (by simp [results, Tryz.results126, go_sem, d0, d1, d2, d3]) rfl ⟨rfl, C4.bel (HB2.out.setCell (by show w.heap.size <= w.heap.size; exact zN _) _) (Nat.le_succ _)⟩
set_option maxHeartbeats 4000000 in
theorem ywo (P S T : Int) (V : Bool) {fr bd : Int} (h1 : ¬ T <= fr) (h2 : ¬ bd <= T) (hr : 0 <= T /\ T <= 1000000) (w : World) :
  Calls Tryz.prog 126 #[.agg #[.int .i64 P, .int .i64 S, .int .i64 T, .bool V], .int .i64 3, .int .i64 fr, .int .i64 bd] w fun e w' => e = .returned (.agg #[.int .i64 P, .int .i64 S, .int .i64 (T + 1), .bool V]) /\ Below w.heap.size w w' := by
 have CW : Hid (∀ w, Calls Tryz.prog 79 #[.agg #[.int .i64 P, .int .i64 S, .int .i64 T, .bool V], .int .i64 3] w fun e w' => e = .returned (.int .i64 T) /\ Below w.heap.size w w') := fun w => yay (lv := 3) (by unfold Lv; omega) P S T V rfl w
 have ha := yaa w (.cells #[.int .i64 P, .int .i64 S, .int .i64 T, .bool V] 91); have hb := yaa (w.alloc (.cells #[.int .i64 P, .int .i64 S, .int .i64 T, .bool V] 91)) (.cells #[.int .i64 0, .int .i64 0, .int .i64 0, .bool false] 91); have HA := zH (C4.below ⟨heap_alloc_new w (.cells #[.int .i64 P, .int .i64 S, .int .i64 T, .bool V] 91)⟩ hb)
 have HZ : Hid (C4 ((w.alloc (.cells #[.int .i64 P, .int .i64 S, .int .i64 T, .bool V] 91)).alloc (.cells #[.int .i64 0, .int .i64 0, .int .i64 0, .bool false] 91)) (w.heap.size + 1) (.int .i64 0) (.int .i64 0) (.int .i64 0) (.bool false)) := ⟨by
  have h := heap_alloc_new (w.alloc (.cells #[.int .i64 P, .int .i64 S, .int .i64 T, .bool V] 91)) (.cells #[.int .i64 0, .int .i64 0, .int .i64 0, .bool false] 91); rw [World.size_alloc] at h; exact h⟩
 have HB := zH (ha.trans (hb.mono ha.size)); have a0 := HA.out.cells.1; have a1 := HA.out.cells.2.1; have a2 := HA.out.cells.2.2.1; have a3 := HA.out.cells.2.2.2
 have h1b : decide (T <= fr) = false := decide_eq_false h1
 have h2b : decide (bd <= T) = false := decide_eq_false h2
 have hwr : IntKind.i64.wrap (T + 1) = T + 1 := by rw [IntKind.wrap_i64]; omega
 have tok : True := trivial
 clear ha hb hr
 go_enter Tryz.func126, Tryz.ntmps126
 go_wp2_with (first
  | (go_at_call 79; have _t := tok; refine (CW.out _).mono ?_; rintro q w1 ⟨rfl, hb⟩; clear a0 a1 a2 a3; have HA1 := zH (HA.out.below hb); have HZ1 := zH (HZ.out.below hb); obtain ⟨a0, a1, a2, a3⟩ := HA1.out.cells; obtain ⟨z0, z1, z2, z3⟩ := HZ1.out.cells; have f0 := HZ1.out.fz 0; have f1 := HZ1.out.fz 1; have f2 := HZ1.out.fz 2; have f3 := HZ1.out.fz 3; have HB1 := zH (HB.out.trans (hb.mono HB.out.size)); clear hb _t tok)
  | (go_at_call 79; refine (CW.out _).mono ?_; rintro q w2 ⟨rfl, hb⟩; clear a0 a1 a2 a3 z0 z1 z2 z3 f0 f1 f2 f3; have HA2 := zH (HA1.out.below hb); have HZ2 := zH (HZ1.out.below hb); obtain ⟨a0, a1, a2, a3⟩ := HA2.out.cells; obtain ⟨z0, z1, z2, z3⟩ := HZ2.out.cells; have f0 := HZ2.out.fz 0; have f1 := HZ2.out.fz 1; have f2 := HZ2.out.fz 2; have f3 := HZ2.out.fz 3; have HB2 := zH (HB1.out.trans (hb.mono HB1.out.size)); clear hb; have HC := zH (HA2.out.set2 (.int .i64 (T + 1))); have HY : Hid (C4 (w2.setCell ⟨w.heap.size, 2, none⟩ (.int .i64 (T + 1))) (w.heap.size + 1) (.int .i64 0) (.int .i64 0) (.int .i64 0) (.bool false)) := HZ2.out.off (by omega); have g0 := HA2.out.fz 2; obtain ⟨x0, x1, x2, x3⟩ := HC.out.cells; obtain ⟨y0, y1, y2, y3⟩ := HY.out.cells; have k0 := HY.out.fz 0; have k1 := HY.out.fz 1; have k2 := HY.out.fz 2; have k3 := HY.out.fz 3))
 obtain ⟨d0, d1, d2, d3⟩ := (HY.out.set (.int .i64 P) (.int .i64 S) (.int .i64 (T + 1)) (.bool V)).cells; exact bodyPost_ret (v := .agg #[.int .i64 P, .int .i64 S, .int .i64 (T + 1), .bool V]) (by simp [results, Tryz.results126, go_sem, d0, d1, d2, d3]) rfl ⟨rfl, C4.bel (HB2.out.setCell (by show w.heap.size <= w.heap.size; exact zN _) _) (Nat.le_succ _)⟩
end Go.Proofs.YtichfdjjbafeiaaGreat
