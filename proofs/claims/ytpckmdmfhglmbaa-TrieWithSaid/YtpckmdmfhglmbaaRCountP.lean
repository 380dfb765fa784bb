/-
  PLAIN MATHEMATICS: how many unlike blocks pairs make.
-/
import Derived.Test.YtpckmdmfhglmbaaRFromP
namespace Go.Proofs.Ytpckmdmfhglmbaa
set_option linter.unusedVariables false
set_option linter.unusedSimpArgs false
/-- The blocks that hold a number, each once, in the order of the pairs. -/
def atsP : List (Int × Int) → List Int → List Int
  | [], acc => acc
  | p :: t, acc => atsP t (if p.2 = 0 ∨ p.1 / 64 ∈ acc then acc else acc ++ [p.1 / 64])
theorem atsP_app (a b : List (Int × Int)) (acc : List Int) : atsP (a ++ b) acc = atsP b (atsP a acc) := by
  induction a generalizing acc with
  | nil => rfl
  | cons p t ih => exact ih _
theorem mem_atsP {b : Int} : ∀ (l : List (Int × Int)) (acc : List Int), b ∈ atsP l acc ↔ b ∈ acc ∨ ∃ p ∈ l, p.2 ≠ 0 ∧ p.1 / 64 = b
  | [], acc => by simp [atsP]
  | p :: t, acc => by
    rw [atsP, mem_atsP t]
    by_cases h : p.2 = 0 ∨ p.1 / 64 ∈ acc
    · rw [if_pos h]
      constructor
      · rintro (h1 | ⟨q, hq, h2, h3⟩)
        · exact .inl h1
        · exact .inr ⟨q, by simp [hq], h2, h3⟩
      · rintro (h1 | ⟨q, hq, h2, h3⟩)
        · exact .inl h1
        · rcases List.mem_cons.1 hq with rfl | hq
          · rcases h with h | h
            · exact absurd h h2
            · exact .inl (h3 ▸ h)
          · exact .inr ⟨q, hq, h2, h3⟩
    · rw [if_neg h]
      have hp : p.2 ≠ 0 := fun e => h (.inl e)
      constructor
      · rintro (h1 | ⟨q, hq, h2, h3⟩)
        · rcases List.mem_append.1 h1 with h1 | h1
          · exact .inl h1
          · simp at h1; exact .inr ⟨p, by simp, hp, h1.symm⟩
        · exact .inr ⟨q, by simp [hq], h2, h3⟩
      · rintro (h1 | ⟨q, hq, h2, h3⟩)
        · exact .inl (by simp [h1])
        · rcases List.mem_cons.1 hq with rfl | hq
          · exact .inl (by simp [h3])
          · exact .inr ⟨q, hq, h2, h3⟩
theorem atsP_len : ∀ (l : List (Int × Int)) (acc : List Int), (atsP l acc).length ≤ acc.length + l.length
  | [], acc => by simp [atsP]
  | p :: t, acc => by
    rw [atsP]
    by_cases h : p.2 = 0 ∨ p.1 / 64 ∈ acc
    · rw [if_pos h]
      have := atsP_len t acc
      simp; omega
    · rw [if_neg h]
      have := atsP_len t (acc ++ [p.1 / 64])
      simp at this ⊢; omega
/-- Block b of f. -/
def rowZ (f : Int → Int) (b : Int) : List Int := (List.range 64).map fun j => f (64 * b + (j : Nat))
theorem rowZ_nat (f : Int → Int) (i : Nat) : rowZ f (i : Int) = rowF f i := by
  unfold rowZ rowF
  refine List.map_congr_left fun j _ => ?_
  congr 1
theorem rowZ_get (f : Int → Int) (b : Int) (j : Nat) (h : j < 64) : (rowZ f b)[j]? = some (f (64 * b + (j : Nat))) := by
  simp [rowZ, List.getElem?_map, List.getElem?_range h]
theorem rowZ_eq {f : Int → Int} {b c : Int} : rowZ f b = rowZ f c ↔ ∀ j : Nat, j < 64 → f (64 * b + (j : Nat)) = f (64 * c + (j : Nat)) := by
  constructor
  · intro h j hj
    have := congrArg (fun l => l[j]?) h
    simp only [rowZ_get _ _ _ hj] at this
    exact Option.some.inj this
  · intro h
    unfold rowZ
    refine List.map_congr_left fun j hj => h j (by simpa using hj)
def blocksP (l : List (Int × Int)) : Nat := 1 + (firsts ((atsP l []).map (rowZ (findP l)))).length
theorem not_all (l : List Int) (n : Nat) (h : l.length < n) : ∃ i : Nat, i < n ∧ (i : Int) ∉ l := by
  by_cases hh : ∃ i : Nat, i < n ∧ (i : Int) ∉ l
  · exact hh
  · exfalso
    have h1 : ∀ x ∈ (List.range n).map (fun i : Nat => (i : Int)), x ∈ l := by
      intro x hx
      obtain ⟨i, hi, rfl⟩ := List.mem_map.1 hx
      by_cases e : (i : Int) ∈ l
      · exact e
      · exact absurd ⟨i, by simpa using hi, e⟩ hh
    have hn : ((List.range n).map (fun i : Nat => (i : Int))).Nodup := by
      have := List.nodup_range (n := n)
      exact List.Pairwise.map _ (fun a b hab e => hab (by omega)) this
    have := sub_len _ _ hn h1
    simp at this
    omega
theorem blocks_eq {l : List (Int × Int)} (hu : Uniq l) (hm : ∀ p ∈ l, MayP p) (hl : l.length < 17412) : (firsts (rowsF 17412 (findP l))).length = blocksP l := by
  have hrow : ∀ b ∈ atsP l [], ∃ i : Nat, b = (i : Int) ∧ i < 17412 ∧ rowZ (findP l) b ≠ zrow := by
    intro b hb
    rcases (mem_atsP l []).1 hb with h | ⟨p, hp, h2, h3⟩
    · cases h
    · obtain ⟨m0, m1, _⟩ := hm p hp
      refine ⟨(p.1 / 64).toNat, by omega, by omega, fun e => ?_⟩
      have hj : (p.1 % 64).toNat < 64 := by omega
      have h4 := rowZ_get (findP l) b (p.1 % 64).toNat hj
      rw [e, show 64 * b + (((p.1 % 64).toNat : Nat) : Int) = p.1 by omega, findP_of hu hp] at h4
      unfold zrow at h4
      rw [List.getElem?_replicate, if_pos hj] at h4
      exact h2 (Option.some.inj h4).symm
  have hB : (zrow :: firsts ((atsP l []).map (rowZ (findP l)))).Nodup := by
    refine List.nodup_cons.2 ⟨fun h => ?_, nodup_firsts _⟩
    obtain ⟨b, hb, e⟩ := List.mem_map.1 ((mem_firsts _ _).1 h)
    obtain ⟨_, _, _, hne⟩ := hrow b hb
    exact hne e
  have := same_len (nodup_firsts (rowsF 17412 (findP l))) hB fun y => ?_
  · rw [this, List.length_cons, blocksP]; omega
  · rw [mem_firsts, List.mem_cons, mem_firsts]
    constructor
    · intro hy
      obtain ⟨i, hi, rfl⟩ := List.mem_map.1 hy
      by_cases hz : ∀ j : Nat, j < 64 → findP l ((64 * i + j : Nat) : Int) = 0
      · exact .inl (rowF_zero hz)
      · right
        obtain ⟨j, hj⟩ : ∃ j : Nat, j < 64 ∧ findP l ((64 * i + j : Nat) : Int) ≠ 0 := by
          by_cases h : ∃ j : Nat, j < 64 ∧ findP l ((64 * i + j : Nat) : Int) ≠ 0
          · exact h
          · exact absurd (fun j hj => by
              by_cases e : findP l ((64 * i + j : Nat) : Int) = 0
              · exact e
              · exact absurd ⟨j, hj, e⟩ h) hz
        rw [← rowZ_nat]
        exact List.mem_map.2 ⟨_, (mem_atsP l []).2 (.inr ⟨_, findP_mem hj.2, hj.2, by simp only []; omega⟩), rfl⟩
    · rintro (rfl | hy)
      · obtain ⟨i, hi, hni⟩ := not_all (l.map fun p => p.1 / 64) 17412 (by simpa using hl)
        refine List.mem_map.2 ⟨i, by simpa using hi, rowF_zero fun j hj => findP_not fun p hp e => hni ?_⟩
        exact List.mem_map.2 ⟨p, hp, by omega⟩
      · obtain ⟨b, hb, rfl⟩ := List.mem_map.1 hy
        obtain ⟨i, rfl, hi, _⟩ := hrow b hb
        exact List.mem_map.2 ⟨i, by simpa using hi, (rowZ_nat _ _).symm⟩
end Go.Proofs.Ytpckmdmfhglmbaa
