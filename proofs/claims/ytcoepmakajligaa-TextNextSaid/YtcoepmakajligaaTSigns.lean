/-
  ALL SIGNS OF SOME BYTES, IN PLAIN LEAN: their bytes lead back; folded texts; the first signs of a text.
-/
import Derived.Test.YtcoepmakajligaaTPure
namespace Go.Proofs.Ytcoepmakajligaa
set_option linter.unusedVariables false
def sgsF : Nat → List UInt8 → List Int
  | 0, _ => []
  | n + 1, l => if l.isEmpty then [] else ((dec l).1 : Int) :: sgsF n (l.drop (dec l).2)
/-- The signs of some bytes. -/
def sgs (l : List UInt8) : List Int := sgsF l.length l
theorem sgsF_enough (n : Nat) (l : List UInt8) (h : l.length ≤ n) : sgsF n l = sgs l := by
  unfold sgs
  induction n using Nat.strongRecOn generalizing l with
  | _ n ih =>
    cases l with
    | nil => cases n <;> rfl
    | cons x r =>
      cases n with
      | zero => simp at h
      | succ m =>
        simp only [List.length_cons] at h ⊢
        simp only [sgsF, List.isEmpty_cons, Bool.false_eq_true, if_false]
        have hp := dec_pos (x :: r)
        have hl : ((x :: r).drop (dec (x :: r)).2).length ≤ r.length := by rw [List.length_drop, List.length_cons]; omega
        rw [ih m (by omega) _ (by omega)]
        by_cases hm : r.length = m
        · subst hm; rw [ih _ (by omega) _ hl]
        · rw [ih r.length (by omega) _ hl]
theorem sgs_nil : sgs [] = [] := rfl
theorem sgs_cons {l : List UInt8} (h : l ≠ []) : sgs l = ((dec l).1 : Int) :: sgs (l.drop (dec l).2) := by
  have hl : 0 < l.length := List.length_pos_iff.2 h
  have hp := dec_pos l
  rw [← sgsF_enough (l.length - 1) (l.drop (dec l).2) (by rw [List.length_drop]; omega)]
  unfold sgs
  obtain ⟨n, hn⟩ : ∃ n, l.length = n + 1 := ⟨l.length - 1, by omega⟩
  rw [hn]
  have : l.isEmpty = false := by simpa using h
  simp only [sgsF, this, Bool.false_eq_true, if_false, Nat.add_sub_cancel]
theorem sgs_ind {p : List UInt8 → Prop} (h0 : p []) (h1 : ∀ l, l ≠ [] → p (l.drop (dec l).2) → p l) (l : List UInt8) : p l := by
  generalize hn : l.length = n
  induction n using Nat.strongRecOn generalizing l with
  | _ n ih =>
    by_cases h : l = []
    · subst h; exact h0
    · have := dec_pos l
      have hl : 0 < l.length := List.length_pos_iff.2 h
      exact h1 l h (ih _ (by rw [← hn]; show (l.drop (dec l).2).length < _; rw [List.length_drop]; omega) _ rfl)
/-- Signs' bytes, one behind the other. -/
def joinS : List Int → List UInt8
  | [] => []
  | c :: r => one c.toNat ++ joinS r
theorem joinS_app (a b : List Int) : joinS (a ++ b) = joinS a ++ joinS b := by
  induction a with
  | nil => rfl
  | cons c r ih => simp only [List.cons_append, joinS, ih, List.append_assoc]
theorem join_sgs (l : List UInt8) : joinS (sgs l) = l := by
  induction l using sgs_ind with
  | h0 => rfl
  | h1 l h ih =>
    rw [sgs_cons h]
    simp only [joinS, Int.toNat_natCast]
    rw [ih, one_dec h, List.take_append_drop]
theorem sgs_sg (l : List UInt8) : (sgs l).all isSg = true := by
  induction l using sgs_ind with
  | h0 => rfl
  | h1 l h ih => rw [sgs_cons h, List.all_cons, ih, dec_sg h]; rfl
theorem sgs_len (l : List UInt8) : (sgs l).length ≤ l.length := by
  induction l using sgs_ind with
  | h0 => exact Nat.le_refl _
  | h1 l h ih =>
    have := dec_pos l
    have := dec_le h
    rw [sgs_cons h, List.length_cons]
    rw [List.length_drop] at ih; omega
theorem joinS_len (l : List Int) : (joinS l).length ≤ 4 * l.length := by
  induction l with
  | nil => exact Nat.le_refl _
  | cons c r ih => have := one_len_le c.toNat; simp only [joinS, List.length_append, List.length_cons]; omega
theorem sgs_ne {l : List UInt8} : sgs l = [] ↔ l = [] := by
  constructor
  · intro h
    by_cases hl : l = []
    · exact hl
    · rw [sgs_cons hl] at h; cases h
  · rintro rfl; rfl

/-- The text that some numbers are the signs of, and the error. -/
def bytL (l : List Int) : List UInt8 := if l.all isSg then if sgs (joinS l) = l then joinS l else [] else []
def bytE (l : List Int) : Int := if l.all isSg then if sgs (joinS l) = l then 0 else 3 else 1
theorem byt_sgs (l : List UInt8) : bytL (sgs l) = l ∧ bytE (sgs l) = 0 := by
  unfold bytL bytE; rw [sgs_sg, join_sgs]; simp
theorem byt_ok {l : List Int} (h : bytE l = 0) : sgs (bytL l) = l := by
  unfold bytE at h; unfold bytL
  by_cases h1 : l.all isSg = true
  · rw [if_pos h1] at h ⊢
    by_cases h2 : sgs (joinS l) = l
    · rw [if_pos h2]; exact h2
    · rw [if_neg h2] at h; cases h
  · rw [if_neg h1] at h; cases h

/-! ### folding -/
def fold (c : Int) : Int :=
  if (65 ≤ c ∧ c ≤ 90) ∨ (192 ≤ c ∧ c ≤ 222 ∧ c ≠ 215) ∨ (913 ≤ c ∧ c ≤ 937 ∧ c ≠ 930) ∨ (1040 ≤ c ∧ c ≤ 1071) then c + 32
  else if 1024 ≤ c ∧ c ≤ 1039 then c + 80 else c
def ft (l : List UInt8) : List UInt8 := joinS ((sgs l).map fold)
theorem fold_ways (c : Int) : (fold c = c + 32 ∧ ((65 ≤ c ∧ c ≤ 90) ∨ (192 ≤ c ∧ c ≤ 222 ∧ c ≠ 215) ∨ (913 ≤ c ∧ c ≤ 937 ∧ c ≠ 930) ∨ (1040 ≤ c ∧ c ≤ 1071))) ∨ (fold c = c + 80 ∧ 1024 ≤ c ∧ c ≤ 1039) ∨
    (fold c = c ∧ ¬ ((65 ≤ c ∧ c ≤ 90) ∨ (192 ≤ c ∧ c ≤ 222 ∧ c ≠ 215) ∨ (913 ≤ c ∧ c ≤ 937 ∧ c ≠ 930) ∨ (1040 ≤ c ∧ c ≤ 1071)) ∧ ¬ (1024 ≤ c ∧ c ≤ 1039)) := by
  unfold fold
  by_cases h : (65 ≤ c ∧ c ≤ 90) ∨ (192 ≤ c ∧ c ≤ 222 ∧ c ≠ 215) ∨ (913 ≤ c ∧ c ≤ 937 ∧ c ≠ 930) ∨ (1040 ≤ c ∧ c ≤ 1071)
  · exact .inl ⟨if_pos h, h⟩
  · by_cases h2 : 1024 ≤ c ∧ c ≤ 1039
    · exact .inr (.inl ⟨by rw [if_neg h, if_pos h2], h2⟩)
    · exact .inr (.inr ⟨by rw [if_neg h, if_neg h2], h, h2⟩)
theorem fold_fold (c : Int) : fold (fold c) = fold c := by
  rcases fold_ways c with ⟨e, h⟩ | ⟨e, h⟩ | ⟨e, h, h'⟩
  · rcases fold_ways (fold c) with ⟨e2, h2⟩ | ⟨e2, h2⟩ | ⟨e2, h2, h2'⟩ <;> omega
  · rcases fold_ways (fold c) with ⟨e2, h2⟩ | ⟨e2, h2⟩ | ⟨e2, h2, h2'⟩ <;> omega
  · rw [e, e]
theorem fold_pt {c : Int} (h : isPt c = true) : isPt (fold c) = true := by
  have h := isPt_iff.1 h
  rw [isPt_iff]
  rcases fold_ways c with ⟨e, h⟩ | ⟨e, h⟩ | ⟨e, h, h'⟩ <;> rw [e] <;> omega
theorem fold_hi {c : Int} (h : 1114111 < c) : fold c = c := by
  rcases fold_ways c with ⟨e, h⟩ | ⟨e, h⟩ | ⟨e, h, h'⟩ <;> omega
theorem fold_len {c : Int} (h : isPt c = true) : (one (fold c).toNat).length = (one c.toNat).length := by
  have h := isPt_iff.1 h
  rcases fold_ways c with ⟨e, h⟩ | ⟨e, h⟩ | ⟨e, h, h'⟩
  · rw [e]
    rcases h with h | h | h | h
    · rw [one_1 (by omega), one_1 (by omega)]; rfl
    · rw [one_2 (by omega) (by omega), one_2 (by omega) (by omega)]; rfl
    · rw [one_2 (by omega) (by omega), one_2 (by omega) (by omega)]; rfl
    · rw [one_2 (by omega) (by omega), one_2 (by omega) (by omega)]; rfl
  · rw [e]; rw [one_2 (by omega) (by omega), one_2 (by omega) (by omega)]; rfl
  · rw [e]
theorem pt_cast {c : Int} (h : isPt c = true) : ((c.toNat : Nat) : Int) = c := by
  have h := isPt_iff.1 h; omega
theorem ft_cons {l : List UInt8} (h : l ≠ []) : ft l = one (fold (dec l).1).toNat ++ ft (l.drop (dec l).2) := by
  unfold ft; rw [sgs_cons h]; rfl
theorem ft_pt {l : List UInt8} (h : l ≠ []) (hp : isPt (dec l).1 = true) : dec (ft l) = ((fold (dec l).1).toNat, (one (fold (dec l).1).toNat).length) := by
  rw [ft_cons h]
  exact dec_one (by rw [pt_cast (fold_pt hp)]; exact fold_pt hp) _
/-- Bytes that go on within a sign stand where they stood. -/
theorem cont_same (t r : List UInt8) (ht : ∀ y ∈ t, isT y.toNat = true) (h : t <+: ft r) : t <+: r := by
  induction t generalizing r with
  | nil => exact List.nil_prefix
  | cons y t ih =>
    by_cases hr : r = []
    · subst hr
      have : ft [] = [] := rfl
      rw [this] at h
      have := h.length_le
      simp at this
    · have hy := ht y (by simp)
      rw [ft_cons hr] at h
      rcases dec_ways hr with ⟨hp, _, _⟩ | ⟨x, r', rfl, hx, hd, ho, _⟩
      · obtain ⟨x, t', e, hn, _⟩ := one_shape (c := (fold (dec r).1).toNat) (by rw [pt_cast (fold_pt hp)]; exact fold_pt hp)
        rw [e] at h
        have := (List.cons_prefix_cons.1 h).1
        subst this
        rw [hy] at hn; cases hn
      · rw [hd] at h
        simp only [fold_hi (c := ((1114112 + x.toNat : Nat) : Int)) (by omega), Int.toNat_natCast, ho, List.cons_append, List.nil_append] at h
        obtain ⟨rfl, h⟩ := List.cons_prefix_cons.1 h
        exact List.cons_prefix_cons.2 ⟨rfl, ih _ (fun z hz => ht z (by simp [hz])) h⟩
/-- The signs of a folded text are the text's, each folded. -/
theorem sgs_ft (l : List UInt8) : sgs (ft l) = (sgs l).map fold := by
  induction l using sgs_ind with
  | h0 => rfl
  | h1 l h ih =>
    have hne : ft l ≠ [] := by
      rw [ft_cons h]; intro e
      have := congrArg List.length e
      have h2 := one_len (fold (dec l).1).toNat
      rw [List.length_append, List.length_nil] at this; omega
    rcases dec_ways h with ⟨hp, _, _⟩ | ⟨x, r', rfl, hx, hd, ho, hno⟩
    · rw [sgs_cons hne, ft_pt h hp, ft_cons h, List.drop_left, ih, sgs_cons h]
      simp only [List.map_cons]
      rw [pt_cast (fold_pt hp)]
    · have e : ft (x :: r') = x :: ft r' := by
        rw [ft_cons h, hd]
        simp only [fold_hi (c := ((1114112 + x.toNat : Nat) : Int)) (by omega), Int.toNat_natCast, ho, List.cons_append, List.nil_append]
        rfl
      have hd' : dec (x :: ft r') = (1114112 + x.toNat, 1) := by
        rcases dec_ways (l := x :: ft r') (by simp) with ⟨hp, e2, _⟩ | ⟨y, r2, e2, _, e3, _⟩
        · exfalso
          generalize (dec (x :: ft r')).1 = c at *
          generalize List.drop (dec (x :: ft r')).2 (x :: ft r') = q at *
          obtain ⟨y, t, e4, hn, hT, hb⟩ := one_shape hp
          rw [e4] at e2
          simp only [List.cons_append, List.cons.injEq] at e2
          obtain ⟨rfl, e2⟩ := e2
          have := cont_same t r' hT ⟨q, e2.symm⟩
          exact hno c hp (by rw [e4]; exact List.cons_prefix_cons.2 ⟨rfl, this⟩)
        · cases e2; exact e3
      rw [e, sgs_cons (by simp), hd', sgs_cons h, hd]
      rw [hd] at ih
      simp only [List.drop_succ_cons, List.drop_zero, List.map_cons] at *
      rw [ih, fold_hi (by omega)]
theorem ft_ft (l : List UInt8) : ft (ft l) = ft l := by
  have : ft (ft l) = joinS (((sgs l).map fold).map fold) := by show joinS ((sgs (ft l)).map fold) = _; rw [sgs_ft]
  rw [this, List.map_map]
  unfold ft
  congr 1
  apply List.map_congr_left
  intro c _
  exact fold_fold c

/-! ### the first signs -/
/-- Where the first k signs of l end. -/
def pos : Nat → List UInt8 → Nat
  | 0, _ => 0
  | k + 1, l => if l.isEmpty then 0 else (dec l).2 + pos k (l.drop (dec l).2)
theorem pos_nil (k : Nat) : pos k [] = 0 := by cases k <;> rfl
theorem pos_cons {l : List UInt8} (h : l ≠ []) (k : Nat) : pos (k + 1) l = (dec l).2 + pos k (l.drop (dec l).2) := by
  have : l.isEmpty = false := by simpa using h
  simp only [pos, this, Bool.false_eq_true, if_false]
theorem pos_le (k : Nat) (l : List UInt8) : pos k l ≤ l.length := by
  induction k generalizing l with
  | zero => exact Nat.zero_le _
  | succ k ih =>
    by_cases h : l = []
    · subst h; exact Nat.le_refl _
    · rw [pos_cons h]
      have := ih (l.drop (dec l).2)
      have := dec_le h
      rw [List.length_drop] at *; omega
theorem pos_next (k : Nat) (l : List UInt8) (h : pos k l < l.length) : pos (k + 1) l = pos k l + (dec (l.drop (pos k l))).2 := by
  induction k generalizing l with
  | zero =>
    have hl : l ≠ [] := by intro e; subst e; simp at h
    rw [pos_cons hl]; simp [pos]
  | succ k ih =>
    have hl : l ≠ [] := by intro e; subst e; simp [pos_nil] at h
    have hp := dec_le hl
    rw [pos_cons hl] at h ⊢
    rw [pos_cons hl k, ih _ (by rw [List.length_drop]; omega), List.drop_drop]; omega
theorem pos_all (k : Nat) (l : List UInt8) (h : l.length ≤ pos k l) : pos k l = l.length := Nat.le_antisymm (pos_le k l) h
theorem dec_take {l : List UInt8} (h : l ≠ []) (m : Nat) (hm : (dec l).2 ≤ m) : dec (l.take m) = dec l := by
  have hpos := dec_pos l
  have hl : 0 < l.length := List.length_pos_iff.2 h
  have hne : l.take m ≠ [] := by
    intro e; have := congrArg List.length e; rw [List.length_take, List.length_nil] at this; omega
  rcases dec_ways h with ⟨hp, e, hlen⟩ | ⟨x, r, rfl, hx, hd, ho, hno⟩
  · generalize hc : (dec l).1 = c at *
    generalize hn : (dec l).2 = n at *
    have : l.take m = one c ++ (l.drop n).take (m - n) := by
      conv => lhs; rw [e]
      rw [List.take_append, List.take_of_length_le (by omega), hlen]
    rw [this, dec_one hp, ← hlen, ← hc, ← hn]
  · rw [hd] at hm
    obtain ⟨m, rfl⟩ : ∃ k, m = k + 1 := ⟨m - 1, by simp only at hm; omega⟩
    rw [List.take_succ_cons]
    rcases dec_ways (l := x :: r.take m) (by simp) with ⟨hp, e2, _⟩ | ⟨y, r2, e2, _, e3, _⟩
    · exfalso
      generalize (dec (x :: r.take m)).1 = c at *
      refine hno c hp ?_
      have h1 : one c <+: x :: r.take m := ⟨_, e2.symm⟩
      exact h1.trans (List.cons_prefix_cons.2 ⟨rfl, List.take_prefix _ _⟩)
    · cases e2; rw [e3, hd]
theorem sgs_pos (k : Nat) (l : List UInt8) : sgs (l.take (pos k l)) = (sgs l).take k ∧ sgs (l.drop (pos k l)) = (sgs l).drop k := by
  induction k generalizing l with
  | zero => simp [pos, sgs_nil]
  | succ k ih =>
    by_cases h : l = []
    · subst h; simp [pos_nil, sgs_nil]
    · have hp := dec_pos l
      have hl : 0 < l.length := List.length_pos_iff.2 h
      obtain ⟨i1, i2⟩ := ih (l.drop (dec l).2)
      have hle := pos_le k (l.drop (dec l).2)
      rw [pos_cons h, sgs_cons h, List.take_succ_cons, List.drop_succ_cons, ← i1, ← i2, List.drop_drop]
      generalize pos k (l.drop (dec l).2) = q at *
      refine ⟨?_, rfl⟩
      have hne : l.take ((dec l).2 + q) ≠ [] := by
        intro e; have := congrArg List.length e; rw [List.length_take, List.length_nil] at this; omega
      have hd := dec_take h ((dec l).2 + q) (by omega)
      rw [sgs_cons hne, hd]
      congr 2
      rw [List.drop_take]; congr 1; omega
theorem sgs_drop (k : Nat) (l : List UInt8) : sgs (l.drop (pos k l)) = (sgs l).drop k := (sgs_pos k l).2
theorem sgs_take (k : Nat) (l : List UInt8) : sgs (l.take (pos k l)) = (sgs l).take k := (sgs_pos k l).1
theorem sgs_at (k : Nat) (l : List UInt8) (h : pos k l < l.length) : sgs l = (sgs l).take k ++ ((dec (l.drop (pos k l))).1 : Int) :: sgs (l.drop (pos (k + 1) l)) := by
  have hne : l.drop (pos k l) ≠ [] := by intro e; have := congrArg List.length e; rw [List.length_drop, List.length_nil] at this; omega
  conv => lhs; rw [← List.take_append_drop k (sgs l), ← sgs_drop, sgs_cons hne, List.drop_drop]
  rw [pos_next k l h]
theorem pos_len (k : Nat) (l : List UInt8) : pos k l < l.length ↔ k < (sgs l).length := by
  have := congrArg List.length (sgs_drop k l)
  rw [List.length_drop] at this
  have hn := @sgs_ne (l.drop (pos k l))
  constructor
  · intro h
    have : sgs (l.drop (pos k l)) ≠ [] := fun e => by have := congrArg List.length (hn.1 e); rw [List.length_drop, List.length_nil] at this; omega
    have := List.length_pos_iff.2 this
    omega
  · intro h
    have h1 : 0 < (sgs (l.drop (pos k l))).length := by omega
    have h2 : l.drop (pos k l) ≠ [] := fun e => by rw [e] at h1; simp [sgs_nil] at h1
    have := List.length_pos_iff.2 h2
    rw [List.length_drop] at this; omega
end Go.Proofs.Ytcoepmakajligaa
