/-
  PLAIN MATHEMATICS of fromSorted: which blocks stand when how many pairs are taken.
-/
import Derived.Test.YtpckmdmfhglmbaaRPure
namespace Go.Proofs.Ytpckmdmfhglmbaa
set_option linter.unusedVariables false
set_option linter.unusedSimpArgs false
def Strict (l : List (Int × Int)) : Prop := l.Pairwise fun p q => p.1 < q.1
theorem Strict.uniq {l : List (Int × Int)} (h : Strict l) : Uniq l := h.imp fun h => by omega
structure FromSt (l pre rest : List (Int × Int)) (k : Nat) : Prop where
  app : l = pre ++ rest
  lo : ∀ p ∈ pre, p.1 < 64 * (k : Int)
  hi : ∀ p ∈ rest, 64 * (k : Int) ≤ p.1
  le : k ≤ 17412
structure InSt (l pre rest : List (Int × Int)) (a : Nat) : Prop where
  app : l = pre ++ rest
  lo : ∀ p ∈ pre, p.1 < 64 * ((a : Int) + 1)
  hi : ∀ p ∈ rest, 64 * (a : Int) ≤ p.1
  lt : a < 17412
theorem FromSt.start (l : List (Int × Int)) (hm : ∀ p ∈ l, MayP p) : FromSt l [] l 0 := ⟨rfl, (fun p hp => absurd hp (by simp)), (fun p hp => by have := (hm p hp).1; omega), by omega⟩
theorem rest_ge {l pre t : List (Int × Int)} {p : Int × Int} (hs : Strict l) (h : l = pre ++ p :: t) : ∀ q ∈ p :: t, p.1 ≤ q.1 := by
  intro q hq
  rw [h] at hs
  have h2 := (List.pairwise_append.1 hs).2.1
  rcases List.mem_cons.1 hq with rfl | hq
  · omega
  · have := (List.pairwise_cons.1 h2).1 q hq; omega
theorem pre_lt {l pre t : List (Int × Int)} {p : Int × Int} (hs : Strict l) (h : l = pre ++ p :: t) : ∀ q ∈ pre, q.1 < p.1 := by
  intro q hq
  rw [h] at hs
  exact (List.pairwise_append.1 hs).2.2 q hq p (by simp)
theorem FromSt.head {l pre t : List (Int × Int)} {p : Int × Int} {k : Nat} (h : FromSt l pre (p :: t) k) (hs : Strict l) (hm : ∀ p ∈ l, MayP p) :
    ∃ a j : Nat, p.1 = ((64 * a + j : Nat) : Int) ∧ j < 64 ∧ k ≤ a ∧ a < 17412 ∧ InSt l pre (p :: t) a := by
  have hp := hm p (by rw [h.app]; simp)
  have h1 := h.hi p (by simp)
  obtain ⟨m0, m1, _⟩ := hp
  refine ⟨p.1.toNat / 64, p.1.toNat % 64, by omega, by omega, by omega, by omega, h.app, ?_, ?_, by omega⟩
  · intro q hq; have := h.lo q hq; omega
  · intro q hq; have := rest_ge hs h.app q hq; omega
theorem InSt.take {l pre t : List (Int × Int)} {p : Int × Int} {a : Nat} (h : InSt l pre (p :: t) a) (ha : p.1 < 64 * ((a : Int) + 1)) : InSt l (pre ++ [p]) t a :=
  ⟨by rw [h.app]; simp, (fun q hq => by
    rcases List.mem_append.1 hq with hq | hq
    · exact h.lo q hq
    · simp at hq; subst hq; exact ha), (fun q hq => h.hi q (by simp [hq])), h.lt⟩
theorem InSt.leave {l pre rest : List (Int × Int)} {a : Nat} (h : InSt l pre rest a) (hs : Strict l) (he : ∀ p t, rest = p :: t → 64 * ((a : Int) + 1) ≤ p.1) : FromSt l pre rest (a + 1) := by
  refine ⟨h.app, fun p hp => by have := h.lo p hp; omega, ?_, by have := h.lt; omega⟩
  intro q hq
  cases rest with
  | nil => cases hq
  | cons p t =>
    have h1 := he p t rfl
    have h2 := rest_ge hs h.app q hq
    omega
theorem findP_big {l : List (Int × Int)} {k : Nat} (h : ∀ p ∈ l, p.1 < 64 * (k : Int)) : ∀ c : Nat, 64 * k ≤ c → findP l (c : Int) = 0 := fun c hc => findP_not fun p hp e => by
  have := h p hp; omega
theorem rows_fill {l pre rest : List (Int × Int)} {k a : Nat} (h : FromSt l pre rest k) (hk : k ≤ a) : rowsF k (findP pre) ++ List.replicate (a - k) zrow = rowsF a (findP pre) := by
  rw [rowsF_more _ _ _ (findP_big h.lo), show k + (a - k) = a by omega]
theorem row_start {l pre rest : List (Int × Int)} {k a : Nat} (h : FromSt l pre rest k) (hk : k ≤ a) : rowF (findP pre) a = zrow :=
  rowF_zero fun j hj => findP_big h.lo _ (by omega)
theorem row_set {l pre t : List (Int × Int)} {p : Int × Int} {a j : Nat} (h : InSt l pre (p :: t) a) (hs : Strict l) (hp : p.1 = ((64 * a + j : Nat) : Int)) (hj : j < 64) :
    (rowF (findP pre) a).set j p.2 = rowF (findP (pre ++ [p])) a := by
  have hne : ∀ q ∈ pre, q.1 ≠ p.1 := fun q hq => by have := pre_lt hs h.app q hq; omega
  apply List.ext_getElem?
  intro i
  rw [List.getElem?_set, rowF_len]
  by_cases hi : i < 64
  · rw [rowF_get _ _ _ hi, rowF_get _ _ _ hi, findP_snoc _ _ hne]
    by_cases e : j = i
    · subst e; rw [if_pos rfl, if_pos hj, if_pos hp]
    · rw [if_neg e, if_neg (by rw [hp]; omega)]
  · rw [if_neg (by omega), List.getElem?_eq_none (by rw [rowF_len]; omega), List.getElem?_eq_none (by rw [rowF_len]; omega)]
theorem rows_take {l pre t : List (Int × Int)} {p : Int × Int} {a : Nat} (h : InSt l pre (p :: t) a) (hs : Strict l) : rowsF a (findP (pre ++ [p])) = rowsF a (findP pre) := by
  have hne : ∀ q ∈ pre, q.1 ≠ p.1 := fun q hq => by have := pre_lt hs h.app q hq; omega
  have hp := h.hi p (by simp)
  unfold rowsF
  refine List.map_congr_left fun i hi => ?_
  have hi' : i < a := by simpa using hi
  refine rowF_congr fun j hj => ?_
  rw [findP_snoc _ _ hne, if_neg (by omega)]
theorem FromSt.all {l pre : List (Int × Int)} {k : Nat} (h : FromSt l pre [] k) : pre = l := by rw [h.app]; simp
end Go.Proofs.Ytpckmdmfhglmbaa
