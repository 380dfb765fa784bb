/-
  CARRIED by carry.py out of the templates of an earlier stage: XRLay2 XRBld XRRd.
-/
import Derived.Test.YtdodlppnjlmnaaaR4C
import Derived.Deep.Slices
import Derived.WalkSpells
import Derived.Lib.SliceRun
namespace Go.Proofs.Ytdodlppnjlmnaaa.R4
open Go.RowKit
set_option linter.unusedVariables false
set_option linter.unusedSimpArgs false
theorem range_new (w : World) (cs : List Value) (t : TypeId) : (w.alloc (.cells cs.toArray t)).rangeAt w.heap.size 0 cs := fun j u hu => by
  have := cells_new w cs t j u hu
  rw [Addr.add_lit, Nat.zero_add] at this
  rw [Nat.zero_add]
  exact this
theorem range_grown {w w' : World} {b o : Nat} {cs : List Value} {row : Option Nat} (h : w.rangeAt b o cs) (hg : w.grownBy w' row) (hne : some b ≠ row) : w'.rangeAt b o cs := fun j u hu => hg.cell (h j u hu) hne
end Go.Proofs.Ytdodlppnjlmnaaa.R4
namespace Go.Proofs.Ytdodlppnjlmnaaa.R4
open Go.RowKit
set_option linter.unusedVariables false
set_option linter.unusedSimpArgs false

end Go.Proofs.Ytdodlppnjlmnaaa.R4
namespace Go.Proofs.Ytdodlppnjlmnaaa.R4
open Go.RowKit
set_option linter.unusedVariables false
set_option linter.unusedSimpArgs false
/-- A slice of pairs: its cells lie below block B. -/
def RdP (B : Nat) (w : World) (v : Value) (l : List (Int × Int)) : Prop :=
  ∃ A c, v = .slice A l.length c ∧ l.length ≤ c ∧ (0 < l.length → ∃ g o : Nat, A = some ⟨g, o, none⟩ ∧ g < B ∧ ∀ j u, (pcells l)[j]? = some u → w.cell? ⟨g, o + j, none⟩ = some u)
theorem RdP.below {B : Nat} {w w' : World} {v : Value} {l : List (Int × Int)} (h : RdP B w v l) (hb : Below B w w') : RdP B w' v l := by
  obtain ⟨A, c, rfl, hlc, h⟩ := h
  refine ⟨A, c, rfl, hlc, fun hn => ?_⟩
  obtain ⟨g, o, e, hlt, hc⟩ := h hn
  exact ⟨g, o, e, hlt, fun j u hu => (hb.cell (p := ⟨g, o + j, none⟩) hlt).trans (hc j u hu)⟩
theorem RdP.more {B B' : Nat} {w : World} {v : Value} {l : List (Int × Int)} (h : RdP B w v l) (hB : B ≤ B') : RdP B' w v l := by
  obtain ⟨A, c, rfl, hlc, h⟩ := h
  refine ⟨A, c, rfl, hlc, fun hn => ?_⟩
  obtain ⟨g, o, e, hlt, hc⟩ := h hn
  exact ⟨g, o, e, by omega, hc⟩
theorem RdP.form {B : Nat} {w : World} {v : Value} {l : List (Int × Int)} (h : RdP B w v l) : ∃ A c, v = .slice A l.length c := by
  obtain ⟨A, c, e, _⟩ := h; exact ⟨A, c, e⟩
theorem RdP.cap {B : Nat} {w : World} {A : Option Addr} {n c : Nat} {l : List (Int × Int)} (h : RdP B w (.slice A n c) l) : l.length ≤ c := by
  obtain ⟨A', c', e, hlc, _⟩ := h
  cases e
  exact hlc
theorem RdP.at {B : Nat} {w : World} {A : Option Addr} {n c : Nat} {l : List (Int × Int)} (h : RdP B w (.slice A n c) l) {k : Nat} {p : Int × Int} (hk : l[k]? = some p) :
    ∃ g o : Nat, A = some ⟨g, o, none⟩ ∧ w.cell? ⟨g, o + k * 2, none⟩ = some (.int .i64 p.1) ∧ w.cell? ⟨g, o + k * 2 + 1, none⟩ = some (.int .i64 p.2) := by
  obtain ⟨A', c', e, _, h⟩ := h
  cases e
  have hl : k < l.length := (List.getElem?_eq_some_iff.1 hk).1
  obtain ⟨g, o, e, _, hc⟩ := h (by omega)
  obtain ⟨h1, h2⟩ := pcells_at hk
  exact ⟨g, o, e, hc _ _ h1, by rw [Nat.add_assoc]; exact hc _ _ h2⟩
theorem findP_drop {l : List (Int × Int)} {k : Nat} {p : Int × Int} (hk : l[k]? = some p) (c : Int) : findP (l.drop k) c = if p.1 = c then p.2 else findP (l.drop (k + 1)) c := by
  have hl : k < l.length := (List.getElem?_eq_some_iff.1 hk).1
  rw [List.drop_eq_getElem_cons hl, findP]
  have : l[k] = p := by rw [List.getElem?_eq_getElem hl] at hk; exact Option.some.inj hk
  rw [this]
def mayB (c v : Int) : Bool := fitB c v
end Go.Proofs.Ytdodlppnjlmnaaa.R4
