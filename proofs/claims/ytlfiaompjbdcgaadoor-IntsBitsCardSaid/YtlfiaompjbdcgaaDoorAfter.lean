/-
  THE LIBRARY's TABLE stays what it is in every world that is as the first one was below its own blocks; awake in such a world.
-/
import Derived.Test.YtlfiaompjbdcgaaDoorLaid
import Derived.Lib.SmallJoins
namespace Go.Proofs.YtlfiaompjbdcgaaDoor
open Go.RowKit
theorem tab_after {w w1 : World} (ht : Tab w) (hb : Below w.heap.size w w1) : Tab w1 := Lib.tabBelow_of_tabIs ht w1 hb
theorem below_q (w : World) (n : Nat) : Below w.heap.size w (w.drewN n) := Below.refl _ _ |>.trans ⟨rfl, rfl, rfl, Nat.le_refl _, fun _ _ => rfl⟩
theorem awake_after (w w1 : World) (ht : Tab w) (hb : Below w.heap.size w w1) :
    Calls Tryd.prog 16 #[] w1 fun e w' => e = .returned (.bool true) ∧ Below w.heap.size w w' :=
  (awake_any w1 (tab_after ht hb)).mono fun _ _ h => ⟨h.1, hb.trans (h.2.mono hb.size)⟩
theorem awake_q (w : World) (n : Nat) (ht : Tab w) :
    Calls Tryd.prog 16 #[] (w.drewN n) fun e w' => e = .returned (.bool true) ∧ Below w.heap.size w w' :=
  awake_after w _ ht (below_q w n)
end Go.Proofs.YtlfiaompjbdcgaaDoor
