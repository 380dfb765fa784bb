/-
  PACKED for a claim.
-/
import Derived.WalkKit
import Derived.Below
import Derived.Lib.Hide
set_option linter.unusedVariables false
set_option linter.unusedSimpArgs false
set_option maxRecDepth 100000
namespace Go.Proofs.YteibnfeokgibmaaGreat
theorem zS {α : Type _} (l : List α) (i : Nat) (a : α) : l.toArray.setIfInBounds i a = (l.set i a).toArray := List.setIfInBounds_toArray l i a
theorem zA {α : Type _} {x : α} {xs : List α} {a : α} : (x :: xs).set 0 a = a :: xs := rfl
theorem zB {α : Type _} {x : α} {xs : List α} {i : Nat} {a : α} : (x :: xs).set (i + 1) a = x :: xs.set i a := rfl
theorem zC {α : Type _} {x : α} {xs : List α} {d : α} : (x :: xs).getD 0 d = x := List.getD_cons_zero
theorem zD {α : Type _} {x : α} {xs : List α} {n : Nat} {d : α} : (x :: xs).getD (n + 1) d = xs.getD n d := List.getD_cons_succ
theorem zH {p : Prop} (h : p) : RowKit.Hid p := Lib.hid h
theorem zN (n : Nat) : n ≤ n := Nat.le_refl n
theorem zR (n : Nat) (w : World) : RowKit.Below n w w := RowKit.Below.refl n w
end Go.Proofs.YteibnfeokgibmaaGreat
