/-
  CARRIED by carry.py out of the templates of an earlier stage: XRPure XRFound.
-/
import Derived.Lib.Hide
import Derived.Test.YtdodlppnjlmnaaaProg
import Derived.DeepKeys4
import Derived.Maps.Own
import Derived.Maps.OwnOps
import Derived.Maps.OwnSet
import Derived.Maps.Views
namespace Go.Proofs.Ytdodlppnjlmnaaa.R4
set_option linter.unusedVariables false
set_option linter.unusedSimpArgs false
def zrow : List Int := List.replicate 64 0
def GoodR (x : List Int) : Prop := x.length = 64 ∧ ∀ v ∈ x, -2147483648 ≤ v ∧ v ≤ 2147483647
theorem zrow_good : GoodR zrow := ⟨by simp [zrow], fun v hv => by simp [zrow] at hv; omega⟩
/-! ### the unlike ones -/
def addF (bs : List (List Int)) (x : List Int) : List (List Int) := if x ∈ bs then bs else bs ++ [x]
def firsts (r : List (List Int)) : List (List Int) := r.foldl addF []
def ixs (r : List (List Int)) : List Nat := r.map fun x => (firsts r).idxOf x
theorem firsts_nil : firsts [] = [] := rfl
theorem ixs_nil : ixs [] = [] := rfl
theorem firsts_snoc (r : List (List Int)) (x : List Int) : firsts (r ++ [x]) = addF (firsts r) x := by simp [firsts, List.foldl_append]
theorem addF_twice (bs : List (List Int)) (x : List Int) : addF (addF bs x) x = addF bs x := by
  have h : x ∈ addF bs x := by
    unfold addF
    by_cases h : x ∈ bs
    · rw [if_pos h]; exact h
    · rw [if_neg h]; simp
  rw [addF, if_pos h]
theorem mem_addF {bs : List (List Int)} {x y : List Int} : y ∈ addF bs x ↔ y ∈ bs ∨ y = x := by
  unfold addF
  by_cases h : x ∈ bs
  · rw [if_pos h]
    exact ⟨.inl, fun h' => h'.elim id fun e => e ▸ h⟩
  · rw [if_neg h]; simp
theorem firsts_cases {p : List (List Int) → Prop} (h0 : p []) (h1 : ∀ r x, p r → p (r ++ [x])) : ∀ r, p r := by
  intro r
  have : ∀ n (r : List (List Int)), r.length = n → p r := by
    intro n
    induction n with
    | zero => intro r hr; rw [List.eq_nil_of_length_eq_zero hr]; exact h0
    | succ n ih =>
      intro r hr
      have hne : r ≠ [] := by intro e; rw [e] at hr; simp at hr
      rw [← List.dropLast_concat_getLast hne]
      exact h1 _ _ (ih _ (by rw [List.length_dropLast]; omega))
  exact this _ r rfl
theorem mem_firsts (r : List (List Int)) : ∀ y, y ∈ firsts r ↔ y ∈ r := by
  refine firsts_cases (p := fun r => ∀ y, y ∈ firsts r ↔ y ∈ r) (by simp [firsts]) ?_ r
  intro r x ih y
  rw [firsts_snoc, mem_addF, ih]
  simp
theorem nodup_firsts (r : List (List Int)) : (firsts r).Nodup := by
  refine firsts_cases (p := fun r => (firsts r).Nodup) (by simp [firsts]) ?_ r
  intro r x ih
  rw [firsts_snoc]
  unfold addF
  by_cases h : x ∈ firsts r
  · rw [if_pos h]; exact ih
  · rw [if_neg h, List.nodup_append]
    refine ⟨ih, by simp, ?_⟩
    intro a ha b hb
    simp at hb
    subst hb
    intro e
    subst e
    exact h ha
theorem len_firsts_snoc (r : List (List Int)) (x : List Int) : (firsts (r ++ [x])).length = (firsts r).length + if x ∈ r then 0 else 1 := by
  rw [firsts_snoc]
  unfold addF
  by_cases h : x ∈ r
  · rw [if_pos ((mem_firsts r x).2 h), if_pos h]; rfl
  · rw [if_neg (fun h' => h ((mem_firsts r x).1 h')), if_neg h]; simp
theorem firsts_len (r : List (List Int)) : (firsts r).length ≤ r.length := by
  refine firsts_cases (p := fun r => (firsts r).length ≤ r.length) (by simp [firsts]) ?_ r
  intro r x ih
  rw [len_firsts_snoc, List.length_append]
  split <;> simp <;> omega
theorem firsts_rep (r : List (List Int)) (x : List Int) (n : Nat) : firsts (r ++ List.replicate (n + 1) x) = addF (firsts r) x := by
  induction n with
  | zero => exact firsts_snoc r x
  | succ n ih => rw [List.replicate_succ', ← List.append_assoc, firsts_snoc, ih, addF_twice]
theorem firsts_app (r s : List (List Int)) : ∃ t, firsts (r ++ s) = firsts r ++ t := by
  refine firsts_cases (p := fun s => ∃ t, firsts (r ++ s) = firsts r ++ t) ⟨[], by simp⟩ ?_ s
  intro s x ⟨t, ih⟩
  rw [← List.append_assoc, firsts_snoc, ih]
  unfold addF
  by_cases h : x ∈ firsts r ++ t
  · rw [if_pos h]; exact ⟨t, rfl⟩
  · rw [if_neg h]; exact ⟨t ++ [x], by simp⟩
theorem idx_addF {bs : List (List Int)} {x y : List Int} (hy : y ∈ bs) : (addF bs x).idxOf y = bs.idxOf y := by
  unfold addF
  by_cases h : x ∈ bs
  · rw [if_pos h]
  · rw [if_neg h, List.idxOf_append, if_pos hy]
theorem idx_addF_self {bs : List (List Int)} {x : List Int} : (addF bs x).idxOf x = if x ∈ bs then bs.idxOf x else bs.length := by
  by_cases h : x ∈ bs
  · rw [if_pos h, idx_addF h]
  · rw [if_neg h, addF, if_neg h, List.idxOf_append, if_neg h]
    simp
theorem ixs_rep (r : List (List Int)) (x : List Int) (n : Nat) : ixs (r ++ List.replicate (n + 1) x) = ixs r ++ List.replicate (n + 1) (if x ∈ r then (firsts r).idxOf x else (firsts r).length) := by
  unfold ixs
  rw [firsts_rep, List.map_append, List.map_replicate, idx_addF_self]
  congr 1
  · refine List.map_congr_left fun y hy => ?_
    exact idx_addF ((mem_firsts r y).2 hy)
  · congr 1
    by_cases h : x ∈ r
    · rw [if_pos h, if_pos ((mem_firsts r x).2 h)]
    · rw [if_neg h, if_neg fun h' => h ((mem_firsts r x).1 h')]
theorem ixs_len (r : List (List Int)) : (ixs r).length = r.length := by simp [ixs]
theorem ixs_lt {r : List (List Int)} {i k : Nat} (h : (ixs r)[i]? = some k) : k < (firsts r).length := by
  unfold ixs at h
  rw [List.getElem?_map] at h
  cases hr : r[i]? with
  | none => rw [hr] at h; cases h
  | some x =>
    rw [hr] at h
    simp only [Option.map_some, Option.some.injEq] at h
    rw [← h]
    exact List.idxOf_lt_length_of_mem ((mem_firsts r x).2 (List.mem_of_getElem? hr))
theorem ixs_at {r : List (List Int)} {i : Nat} {x : List Int} (h : r[i]? = some x) : ∃ k, (ixs r)[i]? = some k ∧ (firsts r)[k]? = some x ∧ k < (firsts r).length := by
  have hx : x ∈ firsts r := (mem_firsts r x).2 (List.mem_of_getElem? h)
  refine ⟨(firsts r).idxOf x, by simp [ixs, List.getElem?_map, h], ?_, List.idxOf_lt_length_of_mem hx⟩
  rw [List.getElem?_eq_getElem (List.idxOf_lt_length_of_mem hx), List.getElem_idxOf]
/-- Of two lists without repeats the one within the other is no longer. -/
theorem sub_len {α : Type} [DecidableEq α] : ∀ (a b : List α), a.Nodup → (∀ x ∈ a, x ∈ b) → a.length ≤ b.length
  | [], _, _, _ => by simp
  | x :: a, b, hn, hs => by
    have h1 := List.nodup_cons.1 hn
    have hx : x ∈ b := hs x (by simp)
    have := sub_len a (b.erase x) h1.2 (fun y hy => by
      have hne : y ≠ x := fun e => h1.1 (e ▸ hy)
      exact (List.mem_erase_of_ne hne).2 (hs y (by simp [hy])))
    rw [List.length_erase_of_mem hx] at this
    have h0 : 0 < b.length := List.length_pos_of_mem hx
    simp; omega
theorem same_len {α : Type} [DecidableEq α] {a b : List α} (ha : a.Nodup) (hb : b.Nodup) (h : ∀ x, x ∈ a ↔ x ∈ b) : a.length = b.length :=
  Nat.le_antisymm (sub_len a b ha fun x => (h x).1) (sub_len b a hb fun x => (h x).2)
/-! ### rows of a function -/
def rowF (f : Int → Int) (i : Nat) : List Int := (List.range 64).map fun j => f ((64 * i + j : Nat) : Int)
def rowsF (n : Nat) (f : Int → Int) : List (List Int) := (List.range n).map (rowF f)
def atR (r : List (List Int)) (c : Nat) : Int := (r.getD (c / 64) []).getD (c % 64) 0
theorem rowsF_len (n : Nat) (f : Int → Int) : (rowsF n f).length = n := by simp [rowsF]
theorem rowsF_succ (n : Nat) (f : Int → Int) : rowsF (n + 1) f = rowsF n f ++ [rowF f n] := by simp [rowsF, List.range_succ]
theorem rowsF_get (n : Nat) (f : Int → Int) (i : Nat) (h : i < n) : (rowsF n f)[i]? = some (rowF f i) := by
  simp [rowsF, List.getElem?_map, List.getElem?_range h]
theorem rowF_len (f : Int → Int) (i : Nat) : (rowF f i).length = 64 := by simp [rowF]
theorem rowF_get (f : Int → Int) (i j : Nat) (h : j < 64) : (rowF f i)[j]? = some (f ((64 * i + j : Nat) : Int)) := by
  simp [rowF, List.getElem?_map, List.getElem?_range h]
theorem atR_rowsF (n : Nat) (f : Int → Int) (c : Nat) (h : c < 64 * n) : atR (rowsF n f) c = f (c : Int) := by
  unfold atR
  rw [List.getD_eq_getElem?_getD, List.getD_eq_getElem?_getD, rowsF_get n f (c / 64) (by omega), Option.getD_some, rowF_get f _ _ (by omega), Option.getD_some]
  congr 2
  omega
theorem rowF_good {f : Int → Int} (hf : ∀ c, -2147483648 ≤ f c ∧ f c ≤ 2147483647) (i : Nat) : GoodR (rowF f i) := by
  refine ⟨rowF_len f i, fun v hv => ?_⟩
  unfold rowF at hv
  obtain ⟨j, _, rfl⟩ := List.mem_map.1 hv
  exact hf _
theorem rowsF_good {f : Int → Int} (hf : ∀ c, -2147483648 ≤ f c ∧ f c ≤ 2147483647) (n : Nat) : ∀ x ∈ rowsF n f, GoodR x := by
  intro x hx
  obtain ⟨i, _, rfl⟩ := List.mem_map.1 hx
  exact rowF_good hf i
theorem list_ext {α : Type} {a b : List α} (h : ∀ i : Nat, a[i]? = b[i]?) : a = b := List.ext_getElem? h
theorem rowF_congr {f g : Int → Int} {i k : Nat} (h : ∀ j : Nat, j < 64 → f ((64 * i + j : Nat) : Int) = g ((64 * k + j : Nat) : Int)) : rowF f i = rowF g k := by
  unfold rowF
  refine List.map_congr_left fun j hj => h j ?_
  simpa using hj
theorem rowF_inj {f g : Int → Int} {i k : Nat} (h : rowF f i = rowF g k) : ∀ j : Nat, j < 64 → f ((64 * i + j : Nat) : Int) = g ((64 * k + j : Nat) : Int) := by
  intro j hj
  have := congrArg (fun l => l[j]?) h
  simp only [rowF_get _ _ _ hj] at this
  exact Option.some.inj this
theorem rowF_zero {f : Int → Int} {i : Nat} (h : ∀ j : Nat, j < 64 → f ((64 * i + j : Nat) : Int) = 0) : rowF f i = zrow := by
  have : rowF f i = rowF (fun _ => 0) 0 := rowF_congr h
  rw [this]; rfl
theorem rowsF_more (f : Int → Int) (n m : Nat) (h : ∀ c : Nat, 64 * n ≤ c → f (c : Int) = 0) : rowsF n f ++ List.replicate m zrow = rowsF (n + m) f := by
  induction m with
  | zero => simp
  | succ m ih =>
    rw [List.replicate_succ', ← List.append_assoc, ih, ← Nat.add_assoc, rowsF_succ, rowF_zero (i := n + m)]
    intro j hj
    exact h _ (by omega)
/-! ### pairs -/
def findP : List (Int × Int) → Int → Int
  | [], _ => 0
  | p :: t, c => if p.1 = c then p.2 else findP t c
theorem findP_nil (c : Int) : findP [] c = 0 := rfl
theorem findP_not {l : List (Int × Int)} {c : Int} (h : ∀ p ∈ l, p.1 ≠ c) : findP l c = 0 := by
  induction l with
  | nil => rfl
  | cons p t ih => rw [findP, if_neg (h p (by simp))]; exact ih fun q hq => h q (by simp [hq])
theorem findP_app (a b : List (Int × Int)) (c : Int) : findP (a ++ b) c = if (∃ p ∈ a, p.1 = c) then findP a c else findP b c := by
  induction a with
  | nil => simp
  | cons p t ih =>
    rw [List.cons_append, findP]
    by_cases h : p.1 = c
    · rw [if_pos h, if_pos ⟨p, by simp, h⟩, findP, if_pos h]
    · rw [if_neg h, ih, findP, if_neg h]
      by_cases h2 : ∃ q ∈ t, q.1 = c
      · obtain ⟨q, hq, e⟩ := h2
        rw [if_pos ⟨q, hq, e⟩, if_pos ⟨q, by simp [hq], e⟩]
      · rw [if_neg h2, if_neg]
        rintro ⟨q, hq, e⟩
        rcases List.mem_cons.1 hq with rfl | hq
        · exact h e
        · exact h2 ⟨q, hq, e⟩
theorem findP_snoc (a : List (Int × Int)) (p : Int × Int) (h : ∀ q ∈ a, q.1 ≠ p.1) (c : Int) : findP (a ++ [p]) c = if p.1 = c then p.2 else findP a c := by
  rw [findP_app]
  by_cases h1 : p.1 = c
  · rw [if_pos h1, if_neg, findP, if_pos h1]
    rintro ⟨q, hq, e⟩
    exact h q hq (e.trans h1.symm)
  · rw [if_neg h1]
    by_cases h2 : ∃ q ∈ a, q.1 = c
    · rw [if_pos h2]
    · rw [if_neg h2, findP, if_neg h1, findP_not fun q hq e => h2 ⟨q, hq, e⟩]; rfl
/-- No sign is there twice. -/
def Uniq (l : List (Int × Int)) : Prop := l.Pairwise fun p q => p.1 ≠ q.1
theorem findP_of {l : List (Int × Int)} (hu : Uniq l) {p : Int × Int} (hp : p ∈ l) : findP l p.1 = p.2 := by
  induction l with
  | nil => cases hp
  | cons q t ih =>
    have h := List.pairwise_cons.1 hu
    rw [findP]
    rcases List.mem_cons.1 hp with rfl | hp
    · rw [if_pos rfl]
    · rw [if_neg (h.1 p hp)]; exact ih h.2 hp
theorem findP_mem {l : List (Int × Int)} {c : Int} (h : findP l c ≠ 0) : (c, findP l c) ∈ l := by
  induction l with
  | nil => exact absurd rfl h
  | cons p t ih =>
    rw [findP] at h ⊢
    by_cases e : p.1 = c
    · rw [if_pos e] at h ⊢; rw [← e]; simp
    · rw [if_neg e] at h ⊢; exact List.mem_cons_of_mem _ (ih h)
theorem findP_perm {a b : List (Int × Int)} (hp : a.Perm b) (hu : Uniq a) (c : Int) : findP a c = findP b c := by
  have hub : Uniq b := (List.Perm.pairwise_iff (R := fun p q : Int × Int => p.1 ≠ q.1) (fun {x y} h => h.symm) hp).1 hu
  by_cases h : ∃ p ∈ a, p.1 = c
  · obtain ⟨p, hpa, rfl⟩ := h
    rw [findP_of hu hpa, findP_of hub (hp.mem_iff.1 hpa)]
  · rw [findP_not fun p hpa e => h ⟨p, hpa, e⟩, findP_not fun p hpb e => h ⟨p, hp.mem_iff.2 hpb, e⟩]
/-- What may be there: a sign, an int32. -/
def MayP (p : Int × Int) : Prop := 0 ≤ p.1 ∧ p.1 ≤ 1114367 ∧ -2147483648 ≤ p.2 ∧ p.2 ≤ 2147483647
instance (p : Int × Int) : Decidable (MayP p) := by unfold MayP; exact inferInstance
theorem findP_range {l : List (Int × Int)} (h : ∀ p ∈ l, MayP p) (c : Int) : -2147483648 ≤ findP l c ∧ findP l c ≤ 2147483647 := by
  by_cases e : findP l c = 0
  · rw [e]; omega
  · exact (h _ (findP_mem e)).2.2
/-! ### the pairs that a trie tells -/
def pairsN (f : Nat → Int) : Nat → List (Int × Int)
  | 0 => []
  | n + 1 => pairsN f n ++ if f n = 0 then [] else [((n : Int), f n)]
theorem pairsN_mem {f : Nat → Int} {n : Nat} {p : Int × Int} : p ∈ pairsN f n ↔ ∃ c : Nat, c < n ∧ f c ≠ 0 ∧ p = ((c : Int), f c) := by
  induction n with
  | zero => simp [pairsN]
  | succ n ih =>
    rw [pairsN, List.mem_append, ih]
    constructor
    · rintro (⟨c, h1, h2, h3⟩ | h)
      · exact ⟨c, by omega, h2, h3⟩
      · by_cases e : f n = 0
        · rw [if_pos e] at h; cases h
        · rw [if_neg e] at h; simp at h; exact ⟨n, by omega, e, h⟩
    · rintro ⟨c, h1, h2, h3⟩
      by_cases e : c = n
      · subst e; right; rw [if_neg h2]; simp [h3]
      · left; exact ⟨c, by omega, h2, h3⟩
theorem pairsN_sorted (f : Nat → Int) (n : Nat) : (pairsN f n).Pairwise fun p q => p.1 < q.1 := by
  induction n with
  | zero => simp [pairsN]
  | succ n ih =>
    rw [pairsN, List.pairwise_append]
    refine ⟨ih, ?_, ?_⟩
    · split <;> simp
    · intro p hp q hq
      obtain ⟨c, h1, _, rfl⟩ := pairsN_mem.1 hp
      split at hq
      · cases hq
      · simp at hq; subst hq; simp; omega
theorem pairsN_uniq (f : Nat → Int) (n : Nat) : Uniq (pairsN f n) := (pairsN_sorted f n).imp fun h => by omega
theorem pairsN_find (f : Nat → Int) (n c : Nat) : findP (pairsN f n) (c : Int) = if c < n then f c else 0 := by
  by_cases h : c < n ∧ f c ≠ 0
  · rw [if_pos h.1]
    exact findP_of (pairsN_uniq f n) (p := ((c : Int), f c)) (pairsN_mem.2 ⟨c, h.1, h.2, rfl⟩)
  · rw [findP_not]
    · by_cases h1 : c < n
      · rw [if_pos h1]
        by_cases h2 : f c = 0
        · exact h2.symm
        · exact absurd ⟨h1, h2⟩ h
      · rw [if_neg h1]
    · intro p hp e
      obtain ⟨d, h1, h2, rfl⟩ := pairsN_mem.1 hp
      simp at e
      have : d = c := by omega
      subst this
      exact h ⟨h1, h2⟩
theorem pairsN_len_le (f : Nat → Int) (n : Nat) : (pairsN f n).length ≤ n := by
  induction n with
  | zero => simp [pairsN]
  | succ n ih =>
    rw [pairsN, List.length_append]
    split <;> simp <;> omega
theorem pairsN_nz {f : Nat → Int} {n : Nat} {p : Int × Int} (h : p ∈ pairsN f n) : p.2 ≠ 0 := by
  obtain ⟨c, _, h2, rfl⟩ := pairsN_mem.1 h
  exact h2
theorem pairsN_len {l : List (Int × Int)} (hu : Uniq l) (hm : ∀ p ∈ l, MayP p) {f : Nat → Int} {n : Nat} (hn : 1114368 ≤ n) (hf : ∀ c : Nat, c < n → f c = findP l (c : Int)) :
    (pairsN f n).length = (l.filter fun p => p.2 != 0).length := by
  have hd : ∀ {x : List (Int × Int)}, Uniq x → x.Nodup := fun h => h.imp fun h e => h (by rw [e])
  refine same_len (hd (pairsN_uniq f n)) (hd (List.Pairwise.filter _ hu)) fun p => ?_
  rw [pairsN_mem, List.mem_filter]
  constructor
  · rintro ⟨c, h1, h2, rfl⟩
    rw [hf c h1] at h2 ⊢
    exact ⟨findP_mem h2, by simpa using h2⟩
  · rintro ⟨h1, h2⟩
    have h2' : p.2 ≠ 0 := by simpa using h2
    obtain ⟨m0, m1, _⟩ := hm p h1
    refine ⟨p.1.toNat, by omega, ?_, ?_⟩
    · rw [hf _ (by omega), show ((p.1.toNat : Nat) : Int) = p.1 by omega, findP_of hu h1]; exact h2'
    · rw [hf _ (by omega), show ((p.1.toNat : Nat) : Int) = p.1 by omega, findP_of hu h1]
end Go.Proofs.Ytdodlppnjlmnaaa.R4
namespace Go.Proofs.Ytdodlppnjlmnaaa.R4
open Go.Maps
set_option linter.unusedVariables false
set_option linter.unusedSimpArgs false
theorem laidOut : laidOutB Try.prog = true := by kernel_rfl
def cellsB (x : List Int) : List Value := x.map (Value.int .i32)
def bval (x : List Int) : Value := .agg (cellsB x).toArray
theorem cellsB_len (x : List Int) : (cellsB x).length = x.length := by simp [cellsB]
theorem cellsB_inj {x y : List Int} (h : cellsB x = cellsB y) : x = y := by
  unfold cellsB at h
  exact List.map_inj_right (fun a b h => by cases h; rfl) |>.1 h
theorem bval_inj {x y : List Int} (h : bval x = bval y) : x = y := by
  unfold bval at h
  injection h with h
  exact cellsB_inj (by simpa using h)
theorem cellsOfI32 : Try.prog.cellsOf 21 = 1 := by kernel_rfl
theorem mapM_some {α β : Type} (f : α → Option β) : ∀ l : List α, (∀ a ∈ l, ∃ b, f a = some b) → ∃ bs, l.mapM f = some bs
  | [], _ => ⟨[], rfl⟩
  | a :: l, h => by
    obtain ⟨b, hb⟩ := h a (by simp)
    obtain ⟨bs, hbs⟩ := mapM_some f l fun a ha => h a (by simp [ha])
    exact ⟨b :: bs, by simp [List.mapM_cons, hb, hbs]⟩
theorem wf_i32 {v : Int} (h : -2147483648 ≤ v ∧ v ≤ 2147483647) : (Lit.int .i32 v).wf = true := by
  unfold Lit.wf
  simp [show IntKind.i32.min = -2147483648 from rfl, show IntKind.i32.max = 2147483647 from rfl]; omega
theorem wf_u16 {v : Nat} (h : v < 65536) : (Lit.int .u16 (v : Int)).wf = true := by
  unfold Lit.wf
  simp [show IntKind.u16.min = 0 from rfl, show IntKind.u16.max = 65535 from rfl]; omega
end Go.Proofs.Ytdodlppnjlmnaaa.R4
