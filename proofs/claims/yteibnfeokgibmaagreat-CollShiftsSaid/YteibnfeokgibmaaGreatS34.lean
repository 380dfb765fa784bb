/-
  PACKED for a claim.
-/
import Derived.Deep.CutRange
import Derived.Test.YteibnfeokgibmaaGreatS33
set_option linter.unusedVariables false
set_option linter.unusedSimpArgs false
set_option maxRecDepth 100000
namespace Go.Proofs.YteibnfeokgibmaaGreat
open Go.RowKit
def zME : ME := ⟨.slice none 0 0, .slice none 0 0, [], []⟩
theorem yhw {D R : List ME} {z m : ME} {k : Nat} (hk : D.length = k) : ((mcells (D ++ z :: R)).set (k * 2) m.vs).set (k * 2 + 1) m.vl = mcells (D ++ [m] ++ R) := by
 subst hk; rw [ybl, ybl, ybl, ydt, List.append_assoc]; have hl := yax D; rw [<- hl, List.set_append_right _ _ (zN _), List.set_append_right _ _ (by omega)]
 simp [mcells]
theorem yuh {n k : Nat} (h : k < n) : List.replicate (n - k) zME = zME :: List.replicate (n - (k + 1)) zME := by
 rw [show n - k = (n - (k + 1)) + 1 by omega, List.replicate_succ]
structure ES (w : World) (B g n : Nat) (L : List PE) (k : Nat) (wr : World) : Prop where
 own : ∃ D, pls D = L.take k /\ wr.ownsRow B 88 2 (.slice (some ⟨g, 0, none⟩) n n) n (mcells (D ++ List.replicate (n - k) zME)) /\ ∀ m ∈ D, EntOk (fun j => j ≠ g) wr m
 bel : Below w.heap.size w wr
theorem EntOk.miss {w w' : World} {g : Nat} {m : ME} (h : EntOk (fun j => j ≠ g) w m) (hg : w.grownBy w' (some g)) : EntOk (fun j => j ≠ g) w' m := h.frame fun k hk hl => hg.block k hl (by intro e; injection e with e; exact hk e)
theorem ES.more {w : World} {B g n : Nat} {L : List PE} {k : Nat} {wr wr' : World} (h : ES w B g n L k wr) (hb : Below wr.heap.size wr wr') : ES w B g n L k wr' := by
 obtain ⟨⟨D, h1, h2, h3⟩, h4⟩ := h; exact ⟨⟨D, h1, R4.yas h2 hb (zN _), fun m hm => (h3 m hm).below hb (zN _)⟩, h4.trans (hb.mono h4.size)⟩
theorem ES.put {w : World} {B g n : Nat} {L : List PE} {k : Nat} {wr : World} {e : PE} {a b : Value} {N : Nat} (h : ES w B g n L k wr) (hn : L.length = n) (hk : L[k]? = some e) (ha : RdI (fun j => N <= j) wr a e.1) (hb : RdE (fun j => N <= j) wr b e.2) (hN : g < N) (hB : w.heap.size <= B) :
  ES w B g n L (k + 1) ((wr.setCell ⟨g, k * 2, none⟩ a).setCell ⟨g, k * 2 + 1, none⟩ b) := by
 obtain ⟨⟨D, h1, h2, h3⟩, h4⟩ := h
 have hkn : k < n := by rw [<- hn]; exact (List.getElem?_eq_some_iff.1 hk).1
 have hD : D.length = k := by rw [<- yap, h1, List.length_take]; omega
 obtain ⟨s1, g1⟩ := h2.stored (k * 2) a; obtain ⟨s2, g2⟩ := s1.stored (k * 2 + 1) b
 have hgB : B <= g := (World.ownsRow.lt h2 g rfl).1
 refine ⟨⟨D ++ [⟨a, b, e.1, e.2⟩], ?_, ?_, fun m hm => ?_⟩, (h4.setCell (by show _ <= g; omega) _).setCell (by show _ <= g; omega) _⟩
 ·rw [yav, h1, List.take_add_one, hk]; rfl
 ·rw [yuh hkn] at s2; rw [<- yhw (m := ⟨a, b, e.1, e.2⟩) hD]; exact s2
 ·rcases List.mem_append.1 hm with hm | hm
  ·exact ((h3 m hm).miss g1).miss g2
  ·simp at hm
   subst hm; exact EntOk.miss (EntOk.miss ⟨RdF.mono ha fun j hj => by omega, RdF.mono hb fun j hj => by omega⟩ g1) g2
theorem ES.done {w : World} {B g n : Nat} {L : List PE} {wr : World} (h : ES w B g n L n wr) (hn : L.length = n) : RdT anyB wr (.slice (some ⟨g, 0, none⟩) n n) L := by
 obtain ⟨⟨D, h1, h2, h3⟩, -⟩ := h; rw [<- hn, List.take_length] at h1
 have hD : D.length = n := by rw [<- yap, h1, hn]
 rw [Nat.sub_self, List.replicate_zero, List.append_nil, <- hD] at h2; refine ⟨D, h1, ?_, fun m hm => (h3 m hm).mono fun _ _ => trivial⟩
 have := RdF.of_own (F := anyB) h2 (fun _ _ => trivial)
 rw [hD] at this |-; exact this
theorem ES.cells {w : World} {B g n : Nat} {L : List PE} {k : Nat} {wr : World} (h : ES w B g n L k wr) (hk : k < n) (hn : L.length = n) : (∃ u, wr.cell? ⟨g, k * 2, none⟩ = some u) /\ (∃ u, wr.cell? ⟨g, k * 2 + 1, none⟩ = some u) /\ (∀ j, wr.frozen? ⟨g, j, none⟩ = false) := by
 obtain ⟨⟨D, h1, h2, -⟩, -⟩ := h
 have hD : D.length = k := by rw [<- yap, h1, List.length_take]; omega
 have hl : (mcells (D ++ List.replicate (n - k) zME)).length = n * 2 := by rw [yax, List.length_append, List.length_replicate]; omega
 refine ⟨?_, ?_, fun j => h2.frozenAt j⟩
 iterate 2 (·rw [h2.cellAt _ (by omega), List.getElem?_eq_getElem (by omega)]; exact ⟨_, rfl⟩)
structure C4 (w : World) (b : Nat) (P S T : Value) (V : Value) : Prop where
 blk : w.heap[b]? = some (.cells #[P, S, T, V] 77 (0, 0))
theorem C4.below {w w' : World} {b : Nat} {P S T V : Value} (h : C4 w b P S T V) (hb : Below w.heap.size w w') : C4 w' b P S T V := ⟨(hb.block b (R4.yad h.blk)).trans h.blk⟩
theorem C4.cells {w : World} {b : Nat} {P S T V : Value} (h : C4 w b P S T V) : w.cell? ⟨b, 0, none⟩ = some P /\ w.cell? ⟨b, 1, none⟩ = some S /\ w.cell? ⟨b, 2, none⟩ = some T /\ w.cell? ⟨b, 3, none⟩ = some V := by
 refine ⟨?_, ?_, ?_, ?_⟩ <;> rw [cell_of_row _ _ _ _ _ _ h.blk] <;> rfl
theorem C4.fz {w : World} {b : Nat} {P S T V : Value} (h : C4 w b P S T V) (i : Nat) : w.frozen? ⟨b, i, none⟩ = false := frozen_of_row w b i _ _ h.blk
theorem C4.set {w : World} {b : Nat} {P S T V : Value} (h : C4 w b P S T V) (P' S' T' V' : Value) : C4 ((((w.setCell ⟨b, 0, none⟩ P').setCell ⟨b, 1, none⟩ S').setCell ⟨b, 2, none⟩ T').setCell ⟨b, 3, none⟩ V') b P' S' T' V' := by
 have h1 : (w.setCell ⟨b, 0, none⟩ P').heap[b]? = some (.cells #[P', S, T, V] 77 (0, 0)) := heap_setCell_same w b 0 _ _ P' h.blk
 have h2 : ((w.setCell ⟨b, 0, none⟩ P').setCell ⟨b, 1, none⟩ S').heap[b]? = some (.cells #[P', S', T, V] 77 (0, 0)) := heap_setCell_same _ b 1 _ _ S' h1
 have h3 : (((w.setCell ⟨b, 0, none⟩ P').setCell ⟨b, 1, none⟩ S').setCell ⟨b, 2, none⟩ T').heap[b]? = some (.cells #[P', S', T', V] 77 (0, 0)) := heap_setCell_same _ b 2 _ _ T' h2
 exact ⟨heap_setCell_same _ b 3 _ _ V' h3⟩
theorem C4.bel {w w0 : World} {B b : Nat} {P' S' T' V' : Value} (h : Below B w0 w) (hB : B <= b) : Below B w0 ((((w.setCell ⟨b, 0, none⟩ P').setCell ⟨b, 1, none⟩ S').setCell ⟨b, 2, none⟩ T').setCell ⟨b, 3, none⟩ V') :=
 (((h.setCell (by show B <= b; exact hB) _).setCell (by show B <= b; exact hB) _).setCell (by show B <= b; exact hB) _).setCell (by show B <= b; exact hB) _
theorem C4.set0 {w : World} {b : Nat} {P S T V : Value} (h : C4 w b P S T V) (X : Value) : C4 (w.setCell ⟨b, 0, none⟩ X) b X S T V := ⟨heap_setCell_same w b 0 _ _ X h.blk⟩
theorem C4.set1 {w : World} {b : Nat} {P S T V : Value} (h : C4 w b P S T V) (X : Value) : C4 (w.setCell ⟨b, 1, none⟩ X) b P X T V := ⟨heap_setCell_same w b 1 _ _ X h.blk⟩
theorem C4.set2 {w : World} {b : Nat} {P S T V : Value} (h : C4 w b P S T V) (X : Value) : C4 (w.setCell ⟨b, 2, none⟩ X) b P S X V := ⟨heap_setCell_same w b 2 _ _ X h.blk⟩
theorem C4.off {w : World} {b i : Nat} {a : Nat} {P S T V X : Value} (h : C4 w b P S T V) (hab : b ≠ a) : C4 (w.setCell ⟨a, i, none⟩ X) b P S T V := ⟨(Below.heap_setCell _ _ _ _ hab).trans h.blk⟩
end Go.Proofs.YteibnfeokgibmaaGreat
