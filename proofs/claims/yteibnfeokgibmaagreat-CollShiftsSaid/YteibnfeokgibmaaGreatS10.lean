/-
  PACKED for a claim.
-/
import Derived.Test.YteibnfeokgibmaaGreatS04
import Derived.Test.YteibnfeokgibmaaGreatS07
set_option linter.unusedVariables false
set_option linter.unusedSimpArgs false
set_option maxRecDepth 100000
namespace Go.Proofs.YteibnfeokgibmaaGreat
def sgsB (l : List Int) : Bool := l.all T2.isSg
def badA (s : List Int) (l : List Nat) : Bool := decide (s.length < 1) || decide (3 < s.length) || decide (8 < l.length) || !sgsB s
def withE (L : List PE) (s : List Int) (l : List Nat) : Int := if badA s l then 1 else if place L s = none /\ 500 <= L.length then 65 else 0
end Go.Proofs.YteibnfeokgibmaaGreat
namespace Go.Proofs.YteibnfeokgibmaaGreat.S6
open T2 (gb dec one isSg isPt sgs)
def isBl (x : Nat) : Bool := decide (x = 32) || decide (x = 10)
def isEn (x : Nat) : Bool := decide (x = 32) || decide (x = 10) || decide (x = 38) || decide (x = 60) || decide (x = 61) || decide (x = 47)
def blk : List UInt8 -> Nat
 | [] => 0
 | x :: t => if isBl x.toNat = true then blk t + 1 else 0
def endd (l : List UInt8) : Bool := decide (l.length = 0) || isEn (gb l 0)
def sg1 (l : List UInt8) : Bool × Int × Nat :=
 if gb l 0 = 92 then (if l.length <= 1 then (false, 0, 1) else (true, ((dec (l.drop 1)).1 : Int), 1 + (dec (l.drop 1)).2)) else (true, ((dec l).1 : Int), (dec l).2)
def colA (L : List UInt8) : Nat -> List Int -> Nat -> Bool × List Int × Nat
 | 0, acc, k => (decide (0 < acc.length), acc, k)
 | n + 1, acc, k => if endd (L.drop k) = true then (decide (0 < acc.length), acc, k)
  else if (sg1 (L.drop k)).1 = true then colA L n (acc ++ [(sg1 (L.drop k)).2.1]) (k + (sg1 (L.drop k)).2.2) else (false, [], k + (sg1 (L.drop k)).2.2)
def colD (L : List UInt8) : Nat -> List Int -> Nat -> Bool × List Int × Nat
 | 0, acc, k => if endd (L.drop k) = true then (decide (0 < acc.length), acc, k) else (false, [], k)
 | n + 1, acc, k => if endd (L.drop k) = true then (decide (0 < acc.length), acc, k)
  else if (sg1 (L.drop k)).1 = true then colD L n (acc ++ [(sg1 (L.drop k)).2.1]) (k + (sg1 (L.drop k)).2.2) else (false, [], k + (sg1 (L.drop k)).2.2)
def mk : Nat -> List UInt8
 | 1 => [38]
 | 2 => [60]
 | 3 => [60, 60]
 | 4 => [60, 60, 60]
 | 5 => [61]
 | _ => []
def relL (l : List UInt8) : Nat -> Nat × Nat
 | 0 => (0, 0)
 | n + 1 => if (mk (n + 1)).isPrefixOf l = true then (n + 1, (mk (n + 1)).length) else relL l n
def lts (l : List UInt8) : Nat := if gb l 1 = 60 then if gb l 2 = 60 then 3 else 2 else 1
def relD (l : List UInt8) : Nat × Nat := if gb l 0 = 38 then (1, 1) else if gb l 0 = 61 then (5, 1) else if gb l 0 = 60 then (1 + lts l, lts l) else (0, 0)
def seqP (L : List UInt8) (k : Nat) : Bool × List Int × Nat := colA L 3 [] (k + blk (L.drop k))
def seqD (L : List UInt8) (k : Nat) : Bool × List Int × Nat := colD L 3 [] (k + blk (L.drop k))
structure RV where
 rel : Int
 seq : List Int
 exp : List Int
instance : DecidableEq RV := fun a b =>
 if h : a.rel = b.rel /\ a.seq = b.seq /\ a.exp = b.exp then .isTrue (by cases a; cases b; obtain ⟨rfl, rfl, rfl⟩ := h; rfl)
 else .isFalse (by rintro rfl; exact h ⟨rfl, rfl, rfl⟩)
instance : Inhabited RV := ⟨⟨0, [], []⟩⟩
def af (L : List UInt8) (k : Nat) : Nat := k + blk (L.drop k)
def ruleP (L : List UInt8) (last k : Nat) : Bool × RV × Nat :=
 if (relL (L.drop k) last).1 = 0 then (false, default, k)
 else if (seqP L (k + (relL (L.drop k) last).2)).1 = false then (false, default, (seqP L (k + (relL (L.drop k) last).2)).2.2)
 else if (relL (L.drop k) last).1 ≠ 1 /\ gb L (af L (seqP L (k + (relL (L.drop k) last).2)).2.2) = 47 then
  ((seqP L (af L (seqP L (k + (relL (L.drop k) last).2)).2.2 + 1)).1, ⟨(relL (L.drop k) last).1, (seqP L (k + (relL (L.drop k) last).2)).2.1, (seqP L (af L (seqP L (k + (relL (L.drop k) last).2)).2.2 + 1)).2.1⟩, (seqP L (af L (seqP L (k + (relL (L.drop k) last).2)).2.2 + 1)).2.2)
 else (true, ⟨(relL (L.drop k) last).1, (seqP L (k + (relL (L.drop k) last).2)).2.1, []⟩, af L (seqP L (k + (relL (L.drop k) last).2)).2.2)
def parP (L : List UInt8) : Nat -> Nat -> List RV -> Nat -> List RV × Nat × Nat
 | 0, n, acc, k => ([], 0, 0)
 | f + 1, n, acc, k => if L.length <= k then (if 40 < n then ([], 0, 65) else (acc, 0, 0))
  else if (ruleP L (if n = 0 then 1 else 5) k).1 = false then ([], (ruleP L (if n = 0 then 1 else 5) k).2.2, 10)
  else parP L f (n + 1) (if n + 1 <= 40 then acc ++ [(ruleP L (if n = 0 then 1 else 5) k).2.1] else acc) (af L (ruleP L (if n = 0 then 1 else 5) k).2.2)
def expD (L : List UInt8) (r : Nat) (k : Nat) : Bool × List Int × Nat :=
 if r ≠ 1 /\ gb L (af L k) = 47 then seqD L (af L k + 1) else (true, [], af L k)
def parD (L : List UInt8) : Nat -> List RV -> Nat -> List RV × Nat × Nat
 | 0, out, k => ([], 0, 0)
 | f + 1, out, k => if L.length <= k then (if 40 < out.length then ([], 0, 65) else (out, 0, 0))
  else if (relD (L.drop k)).1 = 0 \/ (out.length = 0 /\ (relD (L.drop k)).1 ≠ 1) then ([], k, 10)
  else if (seqD L (k + (relD (L.drop k)).2)).1 = false then ([], (seqD L (k + (relD (L.drop k)).2)).2.2, 10)
  else if (expD L (relD (L.drop k)).1 (seqD L (k + (relD (L.drop k)).2)).2.2).1 = false then ([], (expD L (relD (L.drop k)).1 (seqD L (k + (relD (L.drop k)).2)).2.2).2.2, 10)
  else parD L f (out ++ [⟨(relD (L.drop k)).1, (seqD L (k + (relD (L.drop k)).2)).2.1, (expD L (relD (L.drop k)).1 (seqD L (k + (relD (L.drop k)).2)).2.2).2.1⟩]) (af L (expD L (relD (L.drop k)).1 (seqD L (k + (relD (L.drop k)).2)).2.2).2.2)
def parse (L : List UInt8) : List RV × Nat × Nat := parD L (L.length + 2) [] (af L 0)
theorem ydd (L : List UInt8) (k i : Nat) : gb (L.drop k) i = gb L (k + i) := by unfold T2.gb; rw [List.getD_eq_getElem?_getD, List.getD_eq_getElem?_getD, List.getElem?_drop]
theorem gb_out {L : List UInt8} {k : Nat} (h : L.length <= k) : gb L k = 0 := by unfold T2.gb; rw [List.getD_eq_getElem?_getD, List.getElem?_eq_none h]; rfl
theorem blk_in {L : List UInt8} {k : Nat} (hk : k < L.length) (h : isBl (gb L k) = true) : af L k = af L (k + 1) := by
 unfold af; rw [List.drop_eq_getElem_cons hk, blk, if_pos (by rw [T2.gb_at hk] at h; exact h)]; omega
theorem yje {L : List UInt8} {k : Nat} (h : isBl (gb L k) = false) : af L k = k := by
 unfold af
 cases e : L.drop k with
 | nil => rfl
 | cons x t =>
  have : gb L k = x.toNat := by have := ydd L k 0; rw [e, T2.yam] at this; rw [Nat.add_zero] at this; exact this.symm
  rw [blk, if_neg (by rw [<- this, h]; simp)]; rfl
theorem ysx {L : List UInt8} {k : Nat} (h : L.length <= k) : af L k = k := by
 unfold af; rw [List.drop_of_length_le h]; rfl
theorem yyw (l : List UInt8) : blk l <= l.length := by
 induction l with
 | nil => exact zN _
 | cons x t ih => rw [blk]; split <;> simp <;> omega
theorem af_le {L : List UInt8} {k : Nat} (h : k <= L.length) : k <= af L k /\ af L k <= L.length := by
 have := yyw (L.drop k); rw [List.length_drop] at this; unfold af; omega
theorem yft {L : List UInt8} {k : Nat} : endd (L.drop k) = (decide (L.length <= k) || isEn (gb L k)) := by
 unfold endd; rw [ydd, Nat.add_zero, List.length_drop]; congr 1; apply Bool.eq_iff_iff.2; simp; omega
theorem yja {L : List UInt8} {k : Nat} (h : endd (L.drop k) = false) : k < L.length /\ isEn (gb L k) = false := by
 rw [yft] at h; simp at h; exact ⟨by omega, h.2⟩
theorem sg1_le {L : List UInt8} {k : Nat} (h : k < L.length) : k + (sg1 (L.drop k)).2.2 <= L.length := by
 have hl : (L.drop k).length = L.length - k := List.length_drop
 unfold sg1; split
 ·split
  ·simp only; omega
  ·rename_i h2
   have h3 : (L.drop k).drop 1 ≠ [] := by intro e; have := congrArg List.length e; rw [List.length_drop] at this; simp only [List.length_nil] at this; omega
   have := T2.dec_le h3
   rw [List.length_drop] at this
   simp only; omega
 ·have h3 : L.drop k ≠ [] := by intro e; have := congrArg List.length e; simp only [List.length_nil] at this; omega
  have := T2.dec_le h3
  simp only; omega
theorem ysp (L : List UInt8) : ∀ (n : Nat) (acc : List Int) (k : Nat), k <= L.length -> k <= (colA L n acc k).2.2 /\ (colA L n acc k).2.2 <= L.length
 | 0, acc, k, hk => ⟨zN _, hk⟩
 | n + 1, acc, k, hk => by
  rw [colA]; split
  ·exact ⟨zN _, hk⟩
  ·rename_i he
   have he := yja (by simpa using he)
   have h1 := sg1_le he.1
   split
   ·have := ysp L n (acc ++ [(sg1 (L.drop k)).2.1]) _ h1; omega
   ·exact ⟨Nat.le_add_right _ _, h1⟩
theorem yso (L : List UInt8) : ∀ (n : Nat) (acc : List Int) (k : Nat), k <= L.length -> k <= (colD L n acc k).2.2 /\ (colD L n acc k).2.2 <= L.length
 | 0, acc, k, hk => by rw [colD]; split <;> exact ⟨zN _, hk⟩
 | n + 1, acc, k, hk => by
  rw [colD]; split
  ·exact ⟨zN _, hk⟩
  ·rename_i he
   have he := yja (by simpa using he)
   have h1 := sg1_le he.1
   split
   ·have := yso L n (acc ++ [(sg1 (L.drop k)).2.1]) _ h1; omega
   ·exact ⟨Nat.le_add_right _ _, h1⟩
theorem ysn (L : List UInt8) : ∀ (n : Nat) (acc : List Int) (k : Nat), acc.length + n = 3 →
  colA L n acc k = colD L n acc k \/ (∃ a k2, colA L n acc k = (true, a, k2) /\ k2 < L.length /\ isEn (gb L k2) = false /\ colD L n acc k = (false, [], k2))
 | 0, acc, k, hn => by
  rw [colA, colD]; split
  ·exact .inl rfl
  ·rename_i he
   have he := yja (by simpa using he)
   exact .inr ⟨acc, k, by rw [decide_eq_true (by omega)], he.1, he.2, rfl⟩
 | n + 1, acc, k, hn => by
  rw [colA, colD]; split
  ·exact .inl rfl
  ·split
   ·exact ysn L n _ _ (by simp; omega)
   ·exact .inl rfl
theorem yqa (L : List UInt8) (k : Nat) : seqP L k = seqD L k \/ (∃ a k2, seqP L k = (true, a, k2) /\ k2 < L.length /\ isEn (gb L k2) = false /\ seqD L k = (false, [], k2)) := ysn L 3 [] _ rfl
theorem yeo {L : List UInt8} {k : Nat} (h : k <= L.length) : k <= (seqP L k).2.2 /\ (seqP L k).2.2 <= L.length := by
 have h1 := af_le h
 have := ysp L 3 [] (k + blk (L.drop k)) h1.2
 unfold seqP af at *; omega
theorem yim {L : List UInt8} {k : Nat} (h : k <= L.length) : k <= (seqD L k).2.2 /\ (seqD L k).2.2 <= L.length := by
 have h1 := af_le h
 have := yso L 3 [] (k + blk (L.drop k)) h1.2
 unfold seqD af at *; omega
theorem u8_eq {x : UInt8} {n : Nat} (hn : n < 256) : x.toNat = n ↔ x = UInt8.ofNat n := by
 constructor
 ·intro h; exact (T2.ybf hn h.symm).symm
 ·intro h; rw [h, T2.yai hn]
theorem rel1 (l : List UInt8) : relL l 1 = if gb l 0 = 38 then (1, 1) else (0, 0) := by
 simp only [relL, mk]
 cases l with
 | nil => rw [if_neg (by decide), gb_out (by simp), if_neg (by decide)]
 | cons a r =>
  rw [T2.yam]
  by_cases h : a.toNat = 38
  ·have h := (u8_eq (by omega)).1 h
   subst h; rfl
  ·rw [if_neg h, if_neg]; simp only [List.isPrefixOf, Bool.and_true, beq_iff_eq]; intro e; exact h (by rw [<- e]; rfl)
theorem yec (a b : UInt8) (l m : List UInt8) : (a :: l).isPrefixOf (b :: m) = (decide (b.toNat = a.toNat) && l.isPrefixOf m) := by
 rw [List.isPrefixOf]
 congr 1
 apply Bool.eq_iff_iff.2
 simp only [beq_iff_eq, decide_eq_true_eq]
 constructor
 ·rintro rfl; rfl
 ·intro h; exact (UInt8.toNat_inj.1 h).symm
theorem rel5 (l : List UInt8) : relL l 5 = relD l := by
 have e38 : (38 : UInt8).toNat = 38 := rfl
 have e60 : (60 : UInt8).toNat = 60 := rfl
 have e61 : (61 : UInt8).toNat = 61 := rfl
 have k60 : ∀ b : UInt8, (60 : UInt8) = b ↔ b.toNat = 60 := fun b => ⟨by rintro rfl; rfl, fun h => (UInt8.toNat_inj.1 h).symm⟩
 match l with
 | [] => unfold relD lts T2.gb; rfl
 | [a] =>
  have h1 : gb [a] 1 = 0 := gb_out (by simp)
  unfold relD lts; simp only [relL, mk, yec, List.isPrefixOf, T2.yam, h1, e38, e60, e61, Bool.and_true, Bool.and_false, decide_eq_true_eq, List.length_cons, List.length_nil, Bool.and_eq_true, if_false, Bool.false_eq_true]
  by_cases c1 : a.toNat = 61 <;> by_cases c2 : a.toNat = 60 <;> by_cases c3 : a.toNat = 38 <;> simp [c1, c2, c3] <;> omega
 | [a, b] =>
  have h1 : gb [a, b] 2 = 0 := gb_out (by simp)
  unfold relD lts; simp only [relL, mk, yec, List.isPrefixOf, T2.yam, T2.ycb, h1, e38, e60, e61, Bool.and_true, Bool.and_false, decide_eq_true_eq, List.length_cons, List.length_nil, Bool.and_eq_true, if_false, Bool.false_eq_true]
  by_cases c1 : a.toNat = 61 <;> by_cases c2 : a.toNat = 60 <;> by_cases c3 : a.toNat = 38 <;> by_cases c4 : b.toNat = 60 <;> simp [c1, c2, c3, c4, e60, k60]
 | a :: b :: c :: r =>
  unfold relD lts; simp only [relL, mk, yec, List.isPrefixOf, T2.yam, T2.ycb, e38, e60, e61, Bool.and_true, Bool.and_false, decide_eq_true_eq, List.length_cons, List.length_nil, Bool.and_eq_true, if_false, Bool.false_eq_true]
  by_cases c1 : a.toNat = 61 <;> by_cases c2 : a.toNat = 60 <;> by_cases c3 : a.toNat = 38 <;> by_cases c4 : b.toNat = 60 <;> by_cases c5 : c.toNat = 60 <;> simp [c1, c2, c3, c4, c5, e60, k60]
theorem lts_le (l : List UInt8) : 1 <= lts l /\ lts l <= 3 := by
 unfold lts; split
 ·split <;> omega
 ·omega
theorem ycj (l : List UInt8) : (relD l = (0, 0)) \/ (1 <= (relD l).1 /\ (relD l).1 <= 5 /\ 1 <= (relD l).2 /\ (relD l).2 <= l.length /\ isEn (gb l 0) = true) := by
 unfold relD
 have hlt : ∀ {i}, gb l i ≠ 0 -> i < l.length := fun {i} h => by
  rcases Nat.lt_or_ge i l.length with h1 | h1
  ·exact h1
  ·exact absurd (gb_out h1) h
 split
 ·rename_i h; have := hlt (i := 0) (by omega); right; simp only [h, isEn]; refine ⟨by omega, by omega, by omega, by omega, rfl⟩
 ·split
  ·rename_i h; have := hlt (i := 0) (by omega); right; simp only [h, isEn]; refine ⟨by omega, by omega, by omega, by omega, rfl⟩
  ·split
   ·rename_i h; have h0 := hlt (i := 0) (by omega); right; simp only [h, isEn]
    have h3 := lts_le l; refine ⟨by omega, by omega, by omega, ?_, rfl⟩
    unfold lts; split
    ·rename_i h1; have h1 := hlt (i := 1) (by omega); split
     ·rename_i h2; exact hlt (i := 2) (by omega)
     ·omega
    ·omega
   ·exact .inl rfl
theorem yxk {l : List UInt8} (h : isEn (gb l 0) = false) : relD l = (0, 0) := by
 rcases ycj l with h1 | h1
 ·exact h1
 ·rw [h1.2.2.2.2] at h; cases h
theorem yrv {x : Nat} (h : isEn x = false) : isBl x = false := by
 unfold isEn at h; unfold isBl; simp at h |-; omega
theorem ymn {L : List UInt8} {f n k : Nat} {acc : List RV} (hk : k < L.length) (h : isEn (gb L k) = false) : parP L (f + 1) (n + 1) acc k = ([], k, 10) := by
 rw [parP, if_neg (by omega), if_neg (by omega : ¬ n + 1 = 0)]
 have : ruleP L 5 k = (false, default, k) := by
  unfold ruleP; rw [rel5, yxk (by rw [ydd, Nat.add_zero]; exact h), if_pos rfl]
 rw [this, if_pos rfl]
theorem yui {L : List UInt8} {k n : Nat} : relL (L.drop k) (if n = 0 then 1 else 5) = if (relD (L.drop k)).1 = 0 \/ (n = 0 /\ (relD (L.drop k)).1 ≠ 1) then (0, 0) else relD (L.drop k) := by
 by_cases hn : n = 0
 ·rw [if_pos hn, rel1]; unfold relD
  have := lts_le (L.drop k)
  by_cases h : gb (L.drop k) 0 = 38
  ·rw [if_pos h, if_pos h, if_neg (by simp)]
  ·rw [if_neg h, if_neg h]; rw [if_pos]
   split
   ·right; exact ⟨hn, by simp⟩
   ·split
    ·right; exact ⟨hn, by simp only; omega⟩
    ·left; rfl
 ·rw [if_neg hn, rel5]
  split
  ·rename_i h
   have h : (relD (L.drop k)).1 = 0 := by rcases h with h | h; · exact h
                                          exact absurd h.1 hn
   rcases ycj (L.drop k) with h1 | h1
   ·exact h1
   ·omega
  ·rfl
theorem par_eq (L : List UInt8) : ∀ (f g : Nat) (out : List RV) (k : Nat), k <= L.length -> L.length + 1 < k + f -> L.length < k + g →
  parP L f out.length (out.take 40) k = parD L g out k
 | 0, g, out, k, hk, hf, hg => by omega
 | f + 1, 0, out, k, hk, hf, hg => by omega
 | f + 1, g + 1, out, k, hk, hf, hg => by
  rw [parP, parD]
  by_cases hend : L.length <= k
  ·rw [if_pos hend, if_pos hend]
   split
   ·rfl
   ·rw [List.take_of_length_le (by omega)]
  ·rw [if_neg hend, if_neg hend]
   have hk2 : k < L.length := by omega
   unfold ruleP; rw [yui]
   by_cases hr : (relD (L.drop k)).1 = 0 \/ (out.length = 0 /\ (relD (L.drop k)).1 ≠ 1)
   ·simp only [if_pos hr]
    rfl
   ·simp only [if_neg hr]
    have hw : 1 <= (relD (L.drop k)).1 /\ (relD (L.drop k)).1 <= 5 /\ 1 <= (relD (L.drop k)).2 /\ (relD (L.drop k)).2 <= (L.drop k).length := by
     rcases ycj (L.drop k) with h1 | h1
     ·rw [h1] at hr; simp at hr
     ·exact ⟨h1.1, h1.2.1, h1.2.2.1, h1.2.2.2.1⟩
    rw [List.length_drop] at hw; obtain ⟨rc, hrc⟩ : ∃ rc, relD (L.drop k) = rc := ⟨_, rfl⟩; rw [hrc] at hr hw |-; obtain ⟨r, c⟩ := rc
    simp only at hr hw |-
    have hr0 : ¬ r = 0 := by omega
    simp only [if_neg hr0]
    have hkc : k + c <= L.length := by omega
    have hsl := yim hkc
    rcases yqa L (k + c) with hs | ⟨a, k2, hs1, hs2, hs3, hs4⟩
    ·rw [hs]
     by_cases hq : (seqD L (k + c)).1 = false
     ·simp only [if_pos hq]
      rfl
     ·simp only [if_neg hq]; obtain ⟨q, hqq⟩ : ∃ q, seqD L (k + c) = q := ⟨_, rfl⟩; rw [hqq] at hsl |-; have hal := af_le hsl.2
      by_cases hx : r ≠ 1 /\ gb L (af L q.2.2) = 47
      ·unfold expD; simp only [if_pos hx]
       have h3 : af L q.2.2 < L.length := by
        rcases Nat.lt_or_ge (af L q.2.2) L.length with h4 | h4
        ·exact h4
        ·rw [gb_out h4] at hx; omega
       have hsl2 := yim (L := L) (k := af L q.2.2 + 1) (by omega)
       rcases yqa L (af L q.2.2 + 1) with ht | ⟨a, k2, ht1, ht2, ht3, ht4⟩
       ·rw [ht]
        by_cases hp : (seqD L (af L q.2.2 + 1)).1 = false
        ·simp only [if_pos hp]
        ·simp only [if_neg hp]; have hb := af_le hsl2.2
         have := par_eq L f g (out ++ [⟨r, q.2.1, (seqD L (af L q.2.2 + 1)).2.1⟩]) (af L (seqD L (af L q.2.2 + 1)).2.2) hb.2 (by omega) (by omega)
         rw [<- this, List.length_append, List.length_singleton]
         congr 1
         split
         ·rw [List.take_of_length_le (by omega), List.take_of_length_le (by simp; omega)]
         ·rw [List.take_append_of_le_length (by omega)]
       ·rw [ht1, ht4]; simp only [if_true, Bool.true_eq_false, if_false]
        have ha : af L k2 = k2 := yje (yrv ht3)
        rw [ha]; obtain ⟨f', rfl⟩ : ∃ f', f = f' + 1 := ⟨f - 1, by rw [ht4] at hsl2; simp only at hsl2; omega⟩
        rw [ymn ht2 ht3]
      ·unfold expD; simp only [if_neg hx, Bool.true_eq_false, if_false]; have hb := af_le hal.2
       have := par_eq L f g (out ++ [⟨r, q.2.1, []⟩]) (af L (af L q.2.2)) hb.2 (by omega) (by omega)
       rw [<- this, List.length_append, List.length_singleton]
       congr 1
       split
       ·rw [List.take_of_length_le (by omega), List.take_of_length_le (by simp; omega)]
       ·rw [List.take_append_of_le_length (by omega)]
    ·rw [hs1, hs4]; simp only [if_true, Bool.true_eq_false, if_false]
     have ha : af L k2 = k2 := yje (yrv hs3)
     have h47 : ¬ (r ≠ 1 /\ gb L k2 = 47) := by
      rintro ⟨-, h⟩; rw [h] at hs3; cases hs3
     simp only [ha, if_neg h47, Bool.true_eq_false, if_false]; obtain ⟨f', rfl⟩ : ∃ f', f = f' + 1 := ⟨f - 1, by rw [hs4] at hsl; simp only at hsl; omega⟩
     rw [ymn hs2 hs3]
theorem yus (L : List UInt8) : parP L (L.length + 2) 0 [] (af L 0) = parse L := by
 have h := af_le (L := L) (k := 0) (Nat.zero_le _); exact par_eq L (L.length + 2) (L.length + 2) [] (af L 0) h.2 (by omega) (by omega)
end Go.Proofs.YteibnfeokgibmaaGreat.S6
namespace Go.Proofs.YteibnfeokgibmaaGreat
def wgt (lv e : Nat) : Nat := if lv = 1 then e / 65536 else if lv = 2 then e / 256 % 256 else e / 2 % 128
def mpE (f : Nat -> Nat) (e : PE) : PE := (e.1, e.2.map f)
def mapP (f : Nat -> Nat) (L : List PE) : List PE := L.map (mpE f)
structure ST where
 L : List PE
 A : Option (List Nat)
def Lv (lv : Nat) : Prop := lv = 1 \/ lv = 2 \/ lv = 3
theorem yrn (f : Nat -> Nat) (L : List PE) : (mapP f L).map (·.1) = L.map (·.1) := by
 unfold mapP; rw [List.map_map]; rfl
theorem ycs (f : Nat -> Nat) (L : List PE) : (mapP f L).length = L.length := List.length_map _
theorem yvt {f : Nat -> Nat} (hf : ∀ x, x < 4294967296 -> f x < 4294967296) {L : List PE} (h : GoodT L) : GoodT (mapP f L) where
 srt := by
  unfold Srt mapP; rw [List.pairwise_map]; exact h.srt
 seq e he := by
  obtain ⟨g, hg, rfl⟩ := List.mem_map.1 he; exact h.seq g hg
 els e he := by
  obtain ⟨g, hg, rfl⟩ := List.mem_map.1 he; have h2 := h.els g hg; refine ⟨by simpa [mpE] using h2.1, fun y hy => ?_⟩
  obtain ⟨z, hz, rfl⟩ := List.mem_map.1 hy; exact hf z (h2.2 z hz)
 len := by rw [ycs]; exact h.len
end Go.Proofs.YteibnfeokgibmaaGreat
