/-
  CARRIED by carry.py out of the templates of an earlier stage: XRMem XRLeaf XRGet.
-/
import Derived.Test.YtdodlppnjlmnaaaR4A
import Derived.WalkKit
import Derived.Below
import Derived.Maps.AppendAt
import Derived.Deep.AppendLies
import Derived.Deep.DeepAppendRoom
import Derived.OwnWalk
import Derived.Laws.OwnMore
import Derived.Laws.Rows
import Derived.Deep.QuietTactic
import Derived.BigQuiet
import Derived.BigRegion
import Derived.LoopTactic
import Derived.Deep.RegionHeld3
import Derived.Carry
namespace Go.Proofs.Ytdodlppnjlmnaaa.R4
open Go.RowKit
set_option linter.unusedVariables false
set_option linter.unusedSimpArgs false
def uvals (ix : List Nat) : List Value := ix.map fun k : Nat => Value.int .u16 (k : Int)
def bcells (bs : List (List Int)) : List Value := bs.flatMap cellsB
def pcells (l : List (Int × Int)) : List Value := l.flatMap fun p => [Value.int .i64 p.1, Value.int .i64 p.2]
theorem uvals_len (l : List Nat) : (uvals l).length = l.length := by simp [uvals]
theorem uvals_app (a b : List Nat) : uvals (a ++ b) = uvals a ++ uvals b := by simp [uvals]
theorem uvals_one (l : List Nat) : ∀ u ∈ uvals l, u.oneCell' = true := by
  intro u hu
  obtain ⟨k, _, rfl⟩ := List.mem_map.1 hu
  rfl
theorem cellsB_one (x : List Int) : ∀ u ∈ cellsB x, u.oneCell' = true := by
  intro u hu
  obtain ⟨k, _, rfl⟩ := List.mem_map.1 hu
  rfl
theorem pcells_app (a b : List (Int × Int)) : pcells (a ++ b) = pcells a ++ pcells b := by simp [pcells]
theorem bcells_app (a b : List (List Int)) : bcells (a ++ b) = bcells a ++ bcells b := by simp [bcells]
theorem pcells_len (l : List (Int × Int)) : (pcells l).length = l.length * 2 := by
  induction l with
  | nil => rfl
  | cons p t ih => rw [show pcells (p :: t) = [Value.int .i64 p.1, Value.int .i64 p.2] ++ pcells t from rfl, List.length_append, ih]; simp; omega
theorem pcells_at {l : List (Int × Int)} {k : Nat} {p : Int × Int} (h : l[k]? = some p) : (pcells l)[k * 2]? = some (.int .i64 p.1) ∧ (pcells l)[k * 2 + 1]? = some (.int .i64 p.2) := by
  induction l generalizing k with
  | nil => simp at h
  | cons q t ih =>
    rw [show pcells (q :: t) = Value.int .i64 q.1 :: Value.int .i64 q.2 :: pcells t from rfl]
    cases k with
    | zero => simp at h; subst h; exact ⟨rfl, rfl⟩
    | succ k =>
      simp only [List.getElem?_cons_succ] at h
      obtain ⟨h1, h2⟩ := ih h
      refine ⟨?_, ?_⟩
      · rw [show (k + 1) * 2 = k * 2 + 1 + 1 by omega]; simpa using h1
      · rw [show (k + 1) * 2 + 1 = k * 2 + 1 + 1 + 1 by omega]; simpa using h2
theorem pcells_one (l : List (Int × Int)) : ∀ u ∈ pcells l, u.oneCell' = true := by
  intro u hu
  obtain ⟨p, _, hp⟩ := List.mem_flatMap.1 hu
  simp at hp
  rcases hp with rfl | rfl <;> rfl
theorem bcells_at {bs : List (List Int)} (hg : ∀ x ∈ bs, x.length = 64) {k j : Nat} {x : List Int} (h : bs[k]? = some x) (hj : j < 64) : (bcells bs)[k * 64 + j]? = (cellsB x)[j]? := by
  induction bs generalizing k with
  | nil => simp at h
  | cons y t ih =>
    rw [show bcells (y :: t) = cellsB y ++ bcells t from rfl]
    have hy : (cellsB y).length = 64 := by rw [cellsB_len]; exact hg y (by simp)
    cases k with
    | zero =>
      simp at h
      subst h
      rw [List.getElem?_append_left (by rw [hy]; omega)]
      congr 1; omega
    | succ k =>
      simp only [List.getElem?_cons_succ] at h
      rw [List.getElem?_append_right (by rw [hy]; omega), hy, show (k + 1) * 64 + j - 64 = k * 64 + j by omega]
      exact ih (fun z hz => hg z (by simp [hz])) h
theorem own_block {w : World} {B : Nat} {e : TypeId} {s : Nat} {v : Value} {n : Nat} {xs : List Value} (h : w.ownsRow B e s v n xs) {g : Nat} (hg : v.ownBlock = some g) : ∃ cur, w.heap[g]? = some (.cells cur e (0, 0)) := by
  rcases h.2 with ⟨rfl, _⟩ | ⟨g', cap, cur, rfl, _, hgg, _⟩
  · cases hg
  · simp [Value.ownBlock] at hg
    subst hg
    exact ⟨cur, hgg⟩
theorem own_lt {w : World} {B : Nat} {e : TypeId} {s : Nat} {v : Value} {n : Nat} {xs : List Value} (h : w.ownsRow B e s v n xs) : ∀ k, v.ownBlock = some k → B ≤ k ∧ k < w.heap.size := World.ownsRow.lt h
theorem own_mono {w : World} {B B' : Nat} {e : TypeId} {s : Nat} {v : Value} {n : Nat} {xs : List Value} (h : w.ownsRow B e s v n xs) (hB : B' ≤ B) : w.ownsRow B' e s v n xs := by
  refine ⟨h.1, ?_⟩
  rcases h.2 with hn | ⟨g, cap, cur, e1, hg, rest⟩
  · exact .inl hn
  · exact .inr ⟨g, cap, cur, e1, by omega, rest⟩
theorem own_below {w w' : World} {B B' : Nat} {e : TypeId} {s : Nat} {v : Value} {n : Nat} {xs : List Value} (h : w.ownsRow B e s v n xs) (hb : Below B' w w') (hB : w.heap.size ≤ B') : w'.ownsRow B e s v n xs := by
  refine ⟨h.1, ?_⟩
  rcases h.2 with hn | ⟨g, cap, cur, rfl, hg, hgg, rest⟩
  · exact .inl hn
  · exact .inr ⟨g, cap, cur, rfl, hg, by rw [hb.block g (Nat.lt_of_lt_of_le (Array.getElem?_eq_some_iff.1 hgg).1 hB)]; exact hgg, rest⟩
/-- The row of another type, or a block that is no such row: not the row that was written. -/
theorem own_apart {w : World} {B : Nat} {e e' : TypeId} {s : Nat} {v : Value} {n : Nat} {xs : List Value} (h : w.ownsRow B e s v n xs) {k : Nat} {cs : Array Value} {fr : Nat × Nat} (hk : w.heap[k]? = some (.cells cs e' fr)) (hne : e' ≠ e) : some k ≠ v.ownBlock := by
  intro e0
  obtain ⟨cur, hc⟩ := own_block h e0.symm
  rw [hk] at hc
  injection hc with hc
  injection hc with h1 h2 h3
  exact hne h2
theorem own_apart_map {w : World} {B : Nat} {e : TypeId} {s : Nat} {v : Value} {n : Nat} {xs : List Value} (h : w.ownsRow B e s v n xs) {k : Nat} {es : Array MapEntry} {c : Nat} (hk : w.heap[k]? = some (.map es c)) : some k ≠ v.ownBlock := by
  intro e0
  obtain ⟨cur, hc⟩ := own_block h e0.symm
  rw [hk] at hc
  injection hc with hc
  cases hc
theorem own_apart_own {w : World} {B B' : Nat} {e e' : TypeId} {s s' : Nat} {v v' : Value} {n n' : Nat} {xs xs' : List Value} (h : w.ownsRow B e s v n xs) (h' : w.ownsRow B' e' s' v' n' xs') (hne : e' ≠ e) : v'.ownBlock = none ∨ v'.ownBlock ≠ v.ownBlock := by
  cases hv : v'.ownBlock with
  | none => exact .inl rfl
  | some g =>
    obtain ⟨cur, hc⟩ := own_block h' hv
    exact .inr (own_apart h hc hne)
theorem grown_setCell (w : World) (a : Addr) (v : Value) : w.grownBy (w.setCell a v) (some a.block) :=
  ⟨rfl, rfl, rfl, by simp [World.setCell], fun k _ hk => Below.heap_setCell _ _ _ _ (fun e => hk (by rw [e]))⟩
theorem grown_drew (w : World) : w.grownBy w.drew none := ⟨rfl, rfl, rfl, Nat.le_refl _, fun _ _ _ => rfl⟩
theorem grown_of_below {w w' : World} (h : Below w.heap.size w w') : w.grownBy w' none := ⟨h.os, h.tape, h.output, h.size, fun k hk _ => h.block k hk⟩
theorem heap_lt {w : World} {k : Nat} {o : Obj} (h : w.heap[k]? = some o) : k < w.heap.size := (Array.getElem?_eq_some_iff.1 h).1
theorem heap_ne {w : World} {i k : Nat} {o o' : Obj} (h : w.heap[i]? = some o) (h' : w.heap[k]? = some o') (hne : o ≠ o') : i ≠ k := by
  rintro rfl
  rw [h] at h'
  exact hne (Option.some.inj h')
theorem own_parts {w : World} {B : Nat} {e : TypeId} {s : Nat} {v : Value} {n : Nat} {xs : List Value} (h : w.ownsRow B e s v n xs) :
    ∃ A c, v = .slice A n c ∧ n ≤ c ∧ (0 < n → ∃ g, A = some ⟨g, 0, none⟩ ∧ B ≤ g ∧ g < w.heap.size ∧ ∀ j u, xs[j]? = some u → w.cell? ⟨g, j, none⟩ = some u) := by
  rcases h.2 with ⟨rfl, rfl⟩ | ⟨g, cap, cur, rfl, hg, hgg, hc, _⟩
  · exact ⟨none, 0, rfl, Nat.le_refl _, fun h => absurd h (by omega)⟩
  · refine ⟨_, cap, rfl, hc, fun _ => ⟨g, rfl, hg, heap_lt hgg, fun j u hu => ?_⟩⟩
    have := World.ownsRow.cells h (g := g) rfl j u hu
    rw [Addr.add_lit, Nat.zero_add] at this
    exact this
end Go.Proofs.Ytdodlppnjlmnaaa.R4
namespace Go.Proofs.Ytdodlppnjlmnaaa.R4
open Go.RowKit
set_option linter.unusedVariables false
set_option linter.unusedSimpArgs false
def signB (c : Int) : Bool := decide (0 ≤ c) && decide (c ≤ 1114367)
def fitB (c v : Int) : Bool := signB c && (decide (-2147483648 ≤ v) && decide (v ≤ 2147483647))
theorem signB_iff (c : Int) : signB c = true ↔ 0 ≤ c ∧ c ≤ 1114367 := by simp [signB]
theorem fitB_iff (c v : Int) : fitB c v = true ↔ MayP (c, v) := by simp [fitB, signB, MayP, and_assoc]
end Go.Proofs.Ytdodlppnjlmnaaa.R4
namespace Go.Proofs.Ytdodlppnjlmnaaa.R4
open Go.RowKit
set_option linter.unusedVariables false
set_option linter.unusedSimpArgs false

end Go.Proofs.Ytdodlppnjlmnaaa.R4
