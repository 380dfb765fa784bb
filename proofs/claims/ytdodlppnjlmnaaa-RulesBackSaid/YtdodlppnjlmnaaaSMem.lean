/-
  A READER IN MEMORY: its text and its place; the words for what moves it.
-/
import Derived.Test.YtdodlppnjlmnaaaCAny
import Derived.Test.YtdodlppnjlmnaaaSPure
import Derived.Test.YtdodlppnjlmnaaaShelf
import Derived.Test.YtdodlppnjlmnaaaT2D
import Derived.Test.YtdodlppnjlmnaaaT2F
import Derived.Deep.QuietTactic
import Derived.BigQuiet
import Derived.Deep.LoopGhost
namespace Go.Proofs.Ytdodlppnjlmnaaa
open Go.RowKit
set_option linter.unusedVariables false
set_option linter.unusedSimpArgs false
/-- The block g is a reader of s, ahead of the byte k. -/
def RD (T : TypeId) (w : World) (g : Nat) (s : ByteArray) (k : Nat) : Prop := w.heap[g]? = some (.cells #[.string s, .int .i64 (k : Int)] T (0, 0))
theorem RD.c0 {T : TypeId} {w : World} {g : Nat} {s : ByteArray} {k : Nat} (h : RD T w g s k) : w.cell? ⟨g, 0, none⟩ = some (.string s) := cell_of_row w g 0 _ _ _ h
theorem RD.c1 {T : TypeId} {w : World} {g : Nat} {s : ByteArray} {k : Nat} (h : RD T w g s k) : w.cell? ⟨g, 1, none⟩ = some (.int .i64 (k : Int)) := cell_of_row w g 1 _ _ _ h
theorem RD.fz {T : TypeId} {w : World} {g : Nat} {s : ByteArray} {k : Nat} (h : RD T w g s k) : w.frozen? ⟨g, 1, none⟩ = false := frozen_of_row w g 1 _ _ h
theorem RD.lt {T : TypeId} {w : World} {g : Nat} {s : ByteArray} {k : Nat} (h : RD T w g s k) : g < w.heap.size := (Array.getElem?_eq_some_iff.1 h).1
theorem RD.set {T : TypeId} {w : World} {g : Nat} {s : ByteArray} {k m : Nat} (h : RD T w g s k) : RD T (w.setCell ⟨g, 1, none⟩ (.int .i64 (m : Int))) g s m :=
  heap_setCell_same w g 1 _ _ _ h
theorem RD.set' {T : TypeId} {w : World} {g : Nat} {s : ByteArray} {k m : Nat} {i : Int} (h : RD T w g s k) (e : i = (m : Int)) : RD T (w.setCell ⟨g, 1, none⟩ (.int .i64 i)) g s m := by subst e; exact h.set
theorem RD.below {T : TypeId} {w w' : World} {B g : Nat} {s : ByteArray} {k : Nat} (h : RD T w g s k) (hb : Below B w w') (hB : w.heap.size ≤ B) : RD T w' g s k := (hb.block g (Nat.lt_of_lt_of_le h.lt hB)).trans h
/-- Only the block g was written; what is new lies behind. -/
abbrev Mv (g : Nat) (w w' : World) : Prop := w.grownBy w' (some g)
theorem Mv.refl (g : Nat) (w : World) : Mv g w w := World.grownBy.refl _ _
theorem Mv.set {g : Nat} (w : World) (u : Value) : Mv g w (w.setCell ⟨g, 1, none⟩ u) := R4.grown_setCell w ⟨g, 1, none⟩ u
theorem Mv.of_below {g : Nat} {w w' : World} (h : Below w.heap.size w w') : Mv g w w' := ⟨h.os, h.tape, h.output, h.size, fun i hi _ => h.block i hi⟩
theorem Mv.trans {g : Nat} {a b c : World} (h : Mv g a b) (k : Mv g b c) : Mv g a c := World.grownBy.trans h k
theorem Mv.below {g B : Nat} {a w w' : World} (h : Below B a w) (k : Mv g w w') (hB : B ≤ w.heap.size) (hg : B ≤ g) : Below B a w' := h.grown k hB fun j e => by cases e; exact hg
theorem RD.low {T : TypeId} {w w' : World} {B g : Nat} {s : ByteArray} {k : Nat} (h : RD T w g s k) (hb : Below B w w') (hg : g < B) : RD T w' g s k := (hb.block g hg).trans h
theorem Mv.low {g B : Nat} {a w w' : World} (h : Mv g a w) (hb : Below B w w') (hB : a.heap.size ≤ B) : Mv g a w' :=
  ⟨hb.os.trans h.os, hb.tape.trans h.tape, hb.output.trans h.output, Nat.le_trans h.size hb.size, fun i hi hn => (hb.block i (Nat.lt_of_lt_of_le hi hB)).trans (h.block i hi hn)⟩
abbrev BLK : ByteArray := ⟨#[32, 10]⟩
abbrev END : ByteArray := ⟨#[32, 10, 38, 60, 61, 47]⟩
end Go.Proofs.Ytdodlppnjlmnaaa
