/-
  PACKED for a claim.
-/
import Derived.Laws.BitsAllLaws
import Derived.Test.YteibnfeokgibmaaGreatP01
set_option linter.unusedVariables false
set_option linter.unusedSimpArgs false
set_option maxRecDepth 100000
namespace Go.Proofs.YteibnfeokgibmaaGreat.T2
@[irreducible] def gb (l : List UInt8) (i : Nat) : Nat := (l.getD i 0).toNat
def isT (x : Nat) : Bool := decide (128 <= x) && decide (x <= 191)
def isPt (c : Int) : Bool := decide (0 <= c) && decide (c <= 1114111) && (decide (c < 55296) || decide (57343 < c))
def isSg (c : Int) : Bool := isPt c || (decide (1114240 <= c) && decide (c <= 1114367))
@[irreducible] def v2 (l : List UInt8) : Nat := (gb l 0 - 192) * 64 + (gb l 1 - 128)
@[irreducible] def v3 (l : List UInt8) : Nat := (gb l 0 - 224) * 4096 + (gb l 1 - 128) * 64 + (gb l 2 - 128)
@[irreducible] def v4 (l : List UInt8) : Nat := (gb l 0 - 240) * 262144 + (gb l 1 - 128) * 4096 + (gb l 2 - 128) * 64 + (gb l 3 - 128)
def is2 (l : List UInt8) : Bool := decide (194 <= gb l 0) && decide (gb l 0 <= 223) && decide (1 < l.length) && isT (gb l 1)
def is3 (l : List UInt8) : Bool := decide (224 <= gb l 0) && decide (gb l 0 <= 239) && decide (2 < l.length) && isT (gb l 1) && isT (gb l 2) && decide (2048 <= v3 l) && (decide (v3 l < 55296) || decide (57343 < v3 l))
def is4 (l : List UInt8) : Bool := decide (240 <= gb l 0) && decide (gb l 0 <= 244) && decide (3 < l.length) && isT (gb l 1) && isT (gb l 2) && isT (gb l 3) && decide (65536 <= v4 l) && decide (v4 l <= 1114111)
@[irreducible] def dec (l : List UInt8) : Nat × Nat :=
 if gb l 0 < 128 then (gb l 0, 1) else if is2 l then (v2 l, 2) else if is3 l then (v3 l, 3) else if is4 l then (v4 l, 4) else (1114112 + gb l 0, 1)
@[irreducible] def one (c : Nat) : List UInt8 :=
 if 1114112 <= c then [UInt8.ofNat (c - 1114112)]
 else if c < 128 then [UInt8.ofNat c]
 else if c < 2048 then [UInt8.ofNat (192 + c / 64), UInt8.ofNat (128 + c % 64)]
 else if c < 65536 then [UInt8.ofNat (224 + c / 4096), UInt8.ofNat (128 + c / 64 % 64), UInt8.ofNat (128 + c % 64)]
 else [UInt8.ofNat (240 + c / 262144), UInt8.ofNat (128 + c / 4096 % 64), UInt8.ofNat (128 + c / 64 % 64), UInt8.ofNat (128 + c % 64)]
theorem yhz {c : Nat} (h : 1114112 <= c) : one c = [UInt8.ofNat (c - 1114112)] := by unfold one; rw [if_pos h]
theorem one_1 {c : Nat} (h : c < 128) : one c = [UInt8.ofNat c] := by unfold one; rw [if_neg (by omega), if_pos h]
theorem one_2 {c : Nat} (h : ¬ c < 128) (h2 : c < 2048) : one c = [UInt8.ofNat (192 + c / 64), UInt8.ofNat (128 + c % 64)] := by unfold one; rw [if_neg (by omega), if_neg h, if_pos h2]
theorem one_3 {c : Nat} (h : ¬ c < 2048) (h2 : c < 65536) : one c = [UInt8.ofNat (224 + c / 4096), UInt8.ofNat (128 + c / 64 % 64), UInt8.ofNat (128 + c % 64)] := by unfold one; rw [if_neg (by omega), if_neg (by omega), if_neg h, if_pos h2]
theorem one_4 {c : Nat} (h : ¬ c < 65536) (h2 : c < 1114112) : one c = [UInt8.ofNat (240 + c / 262144), UInt8.ofNat (128 + c / 4096 % 64), UInt8.ofNat (128 + c / 64 % 64), UInt8.ofNat (128 + c % 64)] := by unfold one; rw [if_neg (by omega), if_neg (by omega), if_neg (by omega), if_neg h]
theorem v2_eq (l : List UInt8) : v2 l = (gb l 0 - 192) * 64 + (gb l 1 - 128) := by unfold v2; rfl
theorem v3_eq (l : List UInt8) : v3 l = (gb l 0 - 224) * 4096 + (gb l 1 - 128) * 64 + (gb l 2 - 128) := by unfold v3; rfl
theorem v4_eq (l : List UInt8) : v4 l = (gb l 0 - 240) * 262144 + (gb l 1 - 128) * 4096 + (gb l 2 - 128) * 64 + (gb l 3 - 128) := by unfold v4; rfl
theorem yal (x : UInt8) (l : List UInt8) : gb (x :: l) 0 = x.toNat := by unfold gb; rfl
theorem ycf (x : UInt8) (l : List UInt8) (i : Nat) : gb (x :: l) (i + 1) = gb l i := by unfold gb; rfl
theorem gb_lt (l : List UInt8) (i : Nat) : gb l i < 256 := by unfold gb; exact UInt8.toNat_lt _
theorem yif {x : Nat} : isT x = true ↔ 128 <= x /\ x <= 191 := by simp [isT]
theorem yav {c : Int} : isPt c = true ↔ 0 <= c /\ c <= 1114111 /\ (c < 55296 \/ 57343 < c) := by simp [isPt, and_assoc]
theorem ybl {l : List UInt8} : is2 l = true ↔ 194 <= gb l 0 /\ gb l 0 <= 223 /\ 1 < l.length /\ 128 <= gb l 1 /\ gb l 1 <= 191 := by simp [is2, isT, and_assoc]
theorem ybo {l : List UInt8} : is3 l = true ↔ 224 <= gb l 0 /\ gb l 0 <= 239 /\ 2 < l.length /\ (128 <= gb l 1 /\ gb l 1 <= 191) /\ (128 <= gb l 2 /\ gb l 2 <= 191) /\ 2048 <= v3 l /\ (v3 l < 55296 \/ 57343 < v3 l) := by simp [is3, isT, and_assoc]
theorem ybu {l : List UInt8} : is4 l = true ↔ 240 <= gb l 0 /\ gb l 0 <= 244 /\ 3 < l.length /\ (128 <= gb l 1 /\ gb l 1 <= 191) /\ (128 <= gb l 2 /\ gb l 2 <= 191) /\ (128 <= gb l 3 /\ gb l 3 <= 191) /\ 65536 <= v4 l /\ v4 l <= 1114111 := by simp [is4, isT, and_assoc]
theorem ybj {x : UInt8} {n : Nat} (h : n < 256) (e : n = x.toNat) : UInt8.ofNat n = x := by subst e; simp
theorem yak {n : Nat} (h : n < 256) : (UInt8.ofNat n).toNat = n := by rw [UInt8.toNat_ofNat']; omega
theorem ycd {l : List UInt8} (hl : l ≠ []) :
  (gb l 0 < 128 /\ dec l = (gb l 0, 1)) \/ (is2 l = true /\ dec l = (v2 l, 2)) \/ (is3 l = true /\ dec l = (v3 l, 3)) \/ (is4 l = true /\ dec l = (v4 l, 4)) \/ (128 <= gb l 0 /\ is2 l = false /\ is3 l = false /\ is4 l = false /\ dec l = (1114112 + gb l 0, 1)) := by
 unfold dec
 split
 ·exact .inl ⟨by assumption, rfl⟩
 ·split
  ·exact .inr (.inl ⟨by assumption, rfl⟩)
  ·split
   ·exact .inr (.inr (.inl ⟨by assumption, rfl⟩))
   ·split
    ·exact .inr (.inr (.inr (.inl ⟨by assumption, rfl⟩)))
    ·exact .inr (.inr (.inr (.inr ⟨by omega, by simpa using ‹¬ is2 l = true›, by simpa using ‹¬ is3 l = true›, by simpa using ‹¬ is4 l = true›, rfl⟩)))
theorem ycw (l : List UInt8) : 0 < (dec l).2 := by
 unfold dec; split; · simp
 split; · simp
 split; · simp
 split <;> simp
theorem dec_le {l : List UInt8} (hl : l ≠ []) : (dec l).2 <= l.length := by
 have h0 : 0 < l.length := List.length_pos_iff.2 hl
 rcases ycd hl with ⟨_, e⟩ | ⟨h, e⟩ | ⟨h, e⟩ | ⟨h, e⟩ | ⟨_, _, _, _, e⟩
 ·rw [e]; exact h0
 ·rw [e]; have := ybl.1 h; simp only; omega
 ·rw [e]; have := ybo.1 h; simp only; omega
 ·rw [e]; have := ybu.1 h; simp only; omega
 ·rw [e]; exact h0
theorem dec_sg {l : List UInt8} (hl : l ≠ []) : isSg ((dec l).1 : Int) = true := by
 have hb := gb_lt l 0; unfold isSg
 rcases ycd hl with ⟨_, e⟩ | ⟨h, e⟩ | ⟨h, e⟩ | ⟨h, e⟩ | ⟨_, _, _, _, e⟩
 ·rw [e]; clear e; dsimp only; simp only [Bool.or_eq_true, yav]; left; omega
 ·rw [e]; clear e; dsimp only; have := ybl.1 h; simp only [Bool.or_eq_true, yav, v2_eq]; left; omega
 ·rw [e]; clear e; dsimp only; have := ybo.1 h; simp only [Bool.or_eq_true, yav]; left; have hb : v3 l < 1114112 := by rw [v3_eq]; omega
  omega
 ·rw [e]; clear e; dsimp only; have := ybu.1 h; simp only [Bool.or_eq_true, yav]; left; omega
 ·rw [e]; clear e; dsimp only; simp only [Bool.or_eq_true, Bool.and_eq_true, decide_eq_true_eq]; right; omega
theorem list1 {l : List UInt8} (h : 0 < l.length) : ∃ a r, l = a :: r := by
 cases l with
 | nil => simp at h
 | cons a r => exact ⟨a, r, rfl⟩
theorem list2 {l : List UInt8} (h : 1 < l.length) : ∃ a b r, l = a :: b :: r := by
 obtain ⟨a, r, rfl⟩ := list1 (l := l) (by omega)
 obtain ⟨b, r, rfl⟩ := list1 (l := r) (by simp at h; omega)
 exact ⟨a, b, r, rfl⟩
theorem list3 {l : List UInt8} (h : 2 < l.length) : ∃ a b c r, l = a :: b :: c :: r := by
 obtain ⟨a, b, r, rfl⟩ := list2 (l := l) (by omega)
 obtain ⟨c, r, rfl⟩ := list1 (l := r) (by simp at h; omega)
 exact ⟨a, b, c, r, rfl⟩
theorem list4 {l : List UInt8} (h : 3 < l.length) : ∃ a b c d r, l = a :: b :: c :: d :: r := by
 obtain ⟨a, b, c, r, rfl⟩ := list3 (l := l) (by omega)
 obtain ⟨d, r, rfl⟩ := list1 (l := r) (by simp at h; omega)
 exact ⟨a, b, c, d, r, rfl⟩
theorem one_dec {l : List UInt8} (hl : l ≠ []) : one (dec l).1 = l.take (dec l).2 := by
 have h0 : 0 < l.length := List.length_pos_iff.2 hl
 rcases ycd hl with ⟨h, e⟩ | ⟨h, e⟩ | ⟨h, e⟩ | ⟨h, e⟩ | ⟨h, _, _, _, e⟩
 ·obtain ⟨a, r, rfl⟩ := list1 h0; rw [e]; clear e; simp only [yal] at h |-; show one a.toNat = [a]
  rw [one_1 h, ybj (by omega) rfl]
 ·have h := ybl.1 h; obtain ⟨a, b, r, rfl⟩ := list2 h.2.2.1; rw [e]; clear e; show one (v2 _) = [a, b]
  obtain ⟨n, hn⟩ : ∃ n, n = v2 (a :: b :: r) := ⟨_, rfl⟩; rw [<- hn]; simp only [yal, ycf, v2_eq] at h hn; rw [one_2 (by omega) (by omega), ybj (x := a) (by omega) (by omega), ybj (x := b) (by omega) (by omega)]
 ·have h := ybo.1 h; obtain ⟨a, b, c, r, rfl⟩ := list3 h.2.2.1; rw [e]; clear e; show one (v3 _) = [a, b, c]
  obtain ⟨n, hn⟩ : ∃ n, n = v3 (a :: b :: c :: r) := ⟨_, rfl⟩; rw [<- hn] at h |-; simp only [yal, ycf, v3_eq] at h hn; rw [one_3 (by omega) (by omega), ybj (x := a) (by omega) (by omega), ybj (x := b) (by omega) (by omega), ybj (x := c) (by omega) (by omega)]
 ·have h := ybu.1 h; obtain ⟨a, b, c, d, r, rfl⟩ := list4 h.2.2.1; rw [e]; clear e; show one (v4 _) = [a, b, c, d]
  obtain ⟨n, hn⟩ : ∃ n, n = v4 (a :: b :: c :: d :: r) := ⟨_, rfl⟩; rw [<- hn] at h |-; simp only [yal, ycf, v4_eq] at h hn; rw [one_4 (by omega) (by omega), ybj (x := a) (by omega) (by omega), ybj (x := b) (by omega) (by omega), ybj (x := c) (by omega) (by omega), ybj (x := d) (by omega) (by omega)]
 ·obtain ⟨a, r, rfl⟩ := list1 h0; have hb := UInt8.toNat_lt a; rw [e]; clear e; simp only [yal]; show one (1114112 + a.toNat) = [a]
  rw [yhz (by omega), ybj (x := a) (by omega) (by omega)]
theorem yky {c : Nat} (hc : isPt c = true) (r : List UInt8) : dec (one c ++ r) = (c, (one c).length) := by
 have hc := yav.1 hc
 by_cases h1 : c < 128
 ·rw [one_1 h1]; unfold dec
  simp only [List.cons_append, List.nil_append, yal, yak (show c < 256 by omega)]
  rw [if_pos h1]; rfl
 by_cases h2 : c < 2048
 ·rw [one_2 h1 h2]; have e0 := yak (n := 192 + c / 64) (by omega)
  have e1 := yak (n := 128 + c % 64) (by omega)
  generalize UInt8.ofNat (192 + c / 64) = x0 at *; generalize UInt8.ofNat (128 + c % 64) = x1 at *
  have h : is2 ([x0, x1] ++ r) = true := by
   rw [ybl]; simp only [List.cons_append, List.nil_append, yal, ycf, List.length_cons]; omega
  unfold dec; rw [if_neg (by simp only [List.cons_append, yal]; omega), if_pos h]
  simp only [v2_eq, List.cons_append, List.nil_append, yal, ycf, List.length_cons, List.length_nil]
  ext <;> simp only <;> omega
 by_cases h3 : c < 65536
 ·rw [one_3 h2 h3]; have e0 := yak (n := 224 + c / 4096) (by omega)
  have e1 := yak (n := 128 + c / 64 % 64) (by omega)
  have e2 := yak (n := 128 + c % 64) (by omega)
  generalize UInt8.ofNat (224 + c / 4096) = x0 at *; generalize UInt8.ofNat (128 + c / 64 % 64) = x1 at *; generalize UInt8.ofNat (128 + c % 64) = x2 at *
  have hv : v3 ([x0, x1, x2] ++ r) = c := by
   simp only [v3_eq, List.cons_append, List.nil_append, yal, ycf]; omega
  have h : is3 ([x0, x1, x2] ++ r) = true := by
   rw [ybo, hv]; simp only [List.cons_append, List.nil_append, yal, ycf, List.length_cons]; omega
  have h' : is2 ([x0, x1, x2] ++ r) = false := by
   rw [Bool.eq_false_iff]; intro h; have := ybl.1 h; simp only [List.cons_append, yal] at this; omega
  unfold dec; rw [if_neg (by simp only [List.cons_append, yal]; omega), h', if_neg (by simp), if_pos h, hv]; rfl
 ·rw [one_4 h3 (by omega)]
  have e0 := yak (n := 240 + c / 262144) (by omega)
  have e1 := yak (n := 128 + c / 4096 % 64) (by omega)
  have e2 := yak (n := 128 + c / 64 % 64) (by omega)
  have e3 := yak (n := 128 + c % 64) (by omega)
  generalize UInt8.ofNat (240 + c / 262144) = x0 at *; generalize UInt8.ofNat (128 + c / 4096 % 64) = x1 at *; generalize UInt8.ofNat (128 + c / 64 % 64) = x2 at *; generalize UInt8.ofNat (128 + c % 64) = x3 at *
  have hv : v4 ([x0, x1, x2, x3] ++ r) = c := by
   simp only [v4_eq, List.cons_append, List.nil_append, yal, ycf]; omega
  have h : is4 ([x0, x1, x2, x3] ++ r) = true := by
   rw [ybu, hv]; simp only [List.cons_append, List.nil_append, yal, ycf, List.length_cons]; omega
  have h' : is2 ([x0, x1, x2, x3] ++ r) = false := by
   rw [Bool.eq_false_iff]; intro h; have := ybl.1 h; simp only [List.cons_append, yal] at this; omega
  have h'' : is3 ([x0, x1, x2, x3] ++ r) = false := by
   rw [Bool.eq_false_iff]; intro h; have := ybo.1 h; simp only [List.cons_append, yal] at this; omega
  unfold dec; rw [if_neg (by simp only [List.cons_append, yal]; omega), h', if_neg (by simp), h'', if_neg (by simp), if_pos h, hv]; rfl
theorem ypl {l : List UInt8} (hl : l ≠ []) :
  (isPt (dec l).1 = true /\ l = one (dec l).1 ++ l.drop (dec l).2 /\ (dec l).2 = (one (dec l).1).length) ∨
  (∃ x r, l = x :: r /\ 128 <= x.toNat /\ dec l = (1114112 + x.toNat, 1) /\ one (1114112 + x.toNat) = [x] /\ ∀ c : Nat, isPt c = true -> ¬ one c <+: l) := by
 have h0 : 0 < l.length := List.length_pos_iff.2 hl
 have ho := one_dec hl; have hle := dec_le hl; have hb := gb_lt l 0
 have key : isPt (dec l).1 = true -> (isPt (dec l).1 = true /\ l = one (dec l).1 ++ l.drop (dec l).2 /\ (dec l).2 = (one (dec l).1).length) := fun h =>
  ⟨h, by rw [ho, List.take_append_drop], by rw [ho, List.length_take]; omega⟩
 rcases ycd hl with ⟨h, e⟩ | ⟨h, e⟩ | ⟨h, e⟩ | ⟨h, e⟩ | ⟨h, _, _, _, e⟩
 ·left; apply key; rw [e]; clear e; rw [yav]; simp only; omega
 ·left; apply key; have := ybl.1 h; rw [e]; clear e; rw [yav]; simp only [v2_eq]; omega
 ·left; apply key; have := ybo.1 h; rw [e]; clear e; rw [yav]; have hb : v3 l < 1114112 := by rw [v3_eq]; omega
  simp only; omega
 ·left; apply key; have := ybu.1 h; rw [e]; clear e; rw [yav]; simp only; omega
 ·right
  obtain ⟨x, r, rfl⟩ := list1 h0; simp only [yal] at *; refine ⟨x, r, rfl, h, e, by rw [e] at ho; simpa using ho, ?_⟩
  intro c hc ⟨t, ht⟩
  have := yky hc t
  rw [ht, e] at this
  have := congrArg Prod.fst this
  have := yav.1 hc
  simp only at *; omega
theorem ykk (c : Nat) : 1114112 <= c \/ c < 128 \/ (¬ c < 128 /\ c < 2048) \/ (¬ c < 2048 /\ c < 65536) \/ (¬ c < 65536 /\ c < 1114112) := by omega
theorem ykm (c : Nat) : 0 < (one c).length := by
 rcases ykk c with h | h | h | h | h
 ·rw [yhz h]; simp
 ·rw [one_1 h]; simp
 ·rw [one_2 h.1 h.2]; simp
 ·rw [one_3 h.1 h.2]; simp
 ·rw [one_4 h.1 h.2]; simp
theorem yjc (c : Nat) : (one c).length <= 4 := by
 rcases ykk c with h | h | h | h | h
 ·rw [yhz h]; simp
 ·rw [one_1 h]; simp
 ·rw [one_2 h.1 h.2]; simp
 ·rw [one_3 h.1 h.2]; simp
 ·rw [one_4 h.1 h.2]; simp
end Go.Proofs.YteibnfeokgibmaaGreat.T2
namespace Go.Proofs.YteibnfeokgibmaaGreat.T2
def sgsF : Nat -> List UInt8 -> List Int
 | 0, _ => []
 | n + 1, l => if l.isEmpty then [] else ((dec l).1 : Int) :: sgsF n (l.drop (dec l).2)
def sgs (l : List UInt8) : List Int := sgsF l.length l
theorem ymz (n : Nat) (l : List UInt8) (h : l.length <= n) : sgsF n l = sgs l := by
 unfold sgs
 induction n using Nat.strongRecOn generalizing l with
 | _ n ih =>
  cases l with
  | nil => cases n <;> rfl
  | cons x r =>
   cases n with
   | zero => simp at h
   | succ m =>
    simp only [List.length_cons] at h |-; simp only [sgsF, List.isEmpty_cons, Bool.false_eq_true, if_false]; have hp := ycw (x :: r)
    have hl : ((x :: r).drop (dec (x :: r)).2).length <= r.length := by rw [List.length_drop, List.length_cons]; omega
    rw [ih m (by omega) _ (by omega)]
    by_cases hm : r.length = m
    ·subst hm; rw [ih _ (by omega) _ hl]
    ·rw [ih r.length (by omega) _ hl]
theorem ymy : sgs [] = [] := rfl
theorem ych {l : List UInt8} (h : l ≠ []) : sgs l = ((dec l).1 : Int) :: sgs (l.drop (dec l).2) := by
 have hl : 0 < l.length := List.length_pos_iff.2 h
 have hp := ycw l; rw [<- ymz (l.length - 1) (l.drop (dec l).2) (by rw [List.length_drop]; omega)]
 unfold sgs; obtain ⟨n, hn⟩ : ∃ n, l.length = n + 1 := ⟨l.length - 1, by omega⟩
 rw [hn]
 have : l.isEmpty = false := by simpa using h
 simp only [sgsF, this, Bool.false_eq_true, if_false, Nat.add_sub_cancel]
theorem ysz {p : List UInt8 -> Prop} (h0 : p []) (h1 : ∀ l, l ≠ [] -> p (l.drop (dec l).2) -> p l) (l : List UInt8) : p l := by
 generalize hn : l.length = n
 induction n using Nat.strongRecOn generalizing l with
 | _ n ih =>
  by_cases h : l = []
  ·subst h; exact h0
  ·have := ycw l
   have hl : 0 < l.length := List.length_pos_iff.2 h
   exact h1 l h (ih _ (by rw [<- hn]; show (l.drop (dec l).2).length < _; rw [List.length_drop]; omega) _ rfl)
def joinS : List Int -> List UInt8
 | [] => []
 | c :: r => one c.toNat ++ joinS r
theorem ylw (a b : List Int) : joinS (a ++ b) = joinS a ++ joinS b := by
 induction a with
 | nil => rfl
 | cons c r ih => simp only [List.cons_append, joinS, ih, List.append_assoc]
theorem sgs_sg (l : List UInt8) : (sgs l).all isSg = true := by
 induction l using ysz with
 | h0 => rfl
 | h1 l h ih => rw [ych h, List.all_cons, ih, dec_sg h]; rfl
theorem yeo (l : List UInt8) : (sgs l).length <= l.length := by
 induction l using ysz with
 | h0 => exact zN _
 | h1 l h ih =>
  have := ycw l
  have := dec_le h
  rw [ych h, List.length_cons]; rw [List.length_drop] at ih; omega
theorem yid (l : List Int) : (joinS l).length <= 4 * l.length := by
 induction l with
 | nil => exact zN _
 | cons c r ih => have := yjc c.toNat; simp only [joinS, List.length_append, List.length_cons]; omega
theorem sgs_ne {l : List UInt8} : sgs l = [] ↔ l = [] := by
 constructor
 ·intro h
  by_cases hl : l = []
  ·exact hl
  ·rw [ych hl] at h; cases h
 ·rintro rfl; rfl
def bytL (l : List Int) : List UInt8 := if l.all isSg then if sgs (joinS l) = l then joinS l else [] else []
def bytE (l : List Int) : Int := if l.all isSg then if sgs (joinS l) = l then 0 else 3 else 1
def fold (c : Int) : Int :=
 if (65 <= c /\ c <= 90) \/ (192 <= c /\ c <= 222 /\ c ≠ 215) \/ (913 <= c /\ c <= 937 /\ c ≠ 930) \/ (1040 <= c /\ c <= 1071) then c + 32
 else if 1024 <= c /\ c <= 1039 then c + 80 else c
def ft (l : List UInt8) : List UInt8 := joinS ((sgs l).map fold)
theorem yig (c : Int) : (fold c = c + 32 /\ ((65 <= c /\ c <= 90) \/ (192 <= c /\ c <= 222 /\ c ≠ 215) \/ (913 <= c /\ c <= 937 /\ c ≠ 930) \/ (1040 <= c /\ c <= 1071))) \/ (fold c = c + 80 /\ 1024 <= c /\ c <= 1039) ∨
  (fold c = c /\ ¬ ((65 <= c /\ c <= 90) \/ (192 <= c /\ c <= 222 /\ c ≠ 215) \/ (913 <= c /\ c <= 937 /\ c ≠ 930) \/ (1040 <= c /\ c <= 1071)) /\ ¬ (1024 <= c /\ c <= 1039)) := by
 unfold fold
 by_cases h : (65 <= c /\ c <= 90) \/ (192 <= c /\ c <= 222 /\ c ≠ 215) \/ (913 <= c /\ c <= 937 /\ c ≠ 930) \/ (1040 <= c /\ c <= 1071)
 ·exact .inl ⟨if_pos h, h⟩
 ·by_cases h2 : 1024 <= c /\ c <= 1039
  ·exact .inr (.inl ⟨by rw [if_neg h, if_pos h2], h2⟩)
  ·exact .inr (.inr ⟨by rw [if_neg h, if_neg h2], h, h2⟩)
theorem fold_pt {c : Int} (h : isPt c = true) : isPt (fold c) = true := by
 have h := yav.1 h; rw [yav]
 rcases yig c with ⟨e, h⟩ | ⟨e, h⟩ | ⟨e, h, h'⟩ <;> rw [e] <;> omega
theorem fold_hi {c : Int} (h : 1114111 < c) : fold c = c := by
 rcases yig c with ⟨e, h⟩ | ⟨e, h⟩ | ⟨e, h, h'⟩ <;> omega
theorem pt_cast {c : Int} (h : isPt c = true) : ((c.toNat : Nat) : Int) = c := by
 have h := yav.1 h; omega
def pos : Nat -> List UInt8 -> Nat
 | 0, _ => 0
 | k + 1, l => if l.isEmpty then 0 else (dec l).2 + pos k (l.drop (dec l).2)
theorem ytz (k : Nat) : pos k [] = 0 := by cases k <;> rfl
theorem yeh {l : List UInt8} (h : l ≠ []) (k : Nat) : pos (k + 1) l = (dec l).2 + pos k (l.drop (dec l).2) := by
 have : l.isEmpty = false := by simpa using h
 simp only [pos, this, Bool.false_eq_true, if_false]
theorem pos_le (k : Nat) (l : List UInt8) : pos k l <= l.length := by
 induction k generalizing l with
 | zero => exact Nat.zero_le _
 | succ k ih =>
  by_cases h : l = []
  ·subst h; exact zN _
  ·rw [yeh h]
   have := ih (l.drop (dec l).2)
   have := dec_le h
   rw [List.length_drop] at *; omega
theorem yfe (k : Nat) (l : List UInt8) (h : pos k l < l.length) : pos (k + 1) l = pos k l + (dec (l.drop (pos k l))).2 := by
 induction k generalizing l with
 | zero =>
  have hl : l ≠ [] := by intro e; subst e; simp at h
  rw [yeh hl]; simp [pos]
 | succ k ih =>
  have hl : l ≠ [] := by intro e; subst e; simp [ytz] at h
  have hp := dec_le hl; rw [yeh hl] at h |-; rw [yeh hl k, ih _ (by rw [List.length_drop]; omega), List.drop_drop]; omega
theorem zap {l : List UInt8} (h : l ≠ []) (m : Nat) (hm : (dec l).2 <= m) : dec (l.take m) = dec l := by
 have hpos := ycw l
 have hl : 0 < l.length := List.length_pos_iff.2 h
 have hne : l.take m ≠ [] := by
  intro e; have := congrArg List.length e; rw [List.length_take, List.length_nil] at this; omega
 rcases ypl h with ⟨hp, e, hlen⟩ | ⟨x, r, rfl, hx, hd, ho, hno⟩
 ·generalize hc : (dec l).1 = c at *; generalize hn : (dec l).2 = n at *
  have : l.take m = one c ++ (l.drop n).take (m - n) := by
   conv => lhs; rw [e]
   rw [List.take_append, List.take_of_length_le (by omega), hlen]
  rw [this, yky hp, <- hlen, <- hc, <- hn]
 ·rw [hd] at hm; obtain ⟨m, rfl⟩ : ∃ k, m = k + 1 := ⟨m - 1, by simp only at hm; omega⟩
  rw [List.take_succ_cons]
  rcases ypl (l := x :: r.take m) (by simp) with ⟨hp, e2, _⟩ | ⟨y, r2, e2, _, e3, _⟩
  ·exfalso
   generalize (dec (x :: r.take m)).1 = c at *; refine hno c hp ?_
   have h1 : one c <+: x :: r.take m := ⟨_, e2.symm⟩
   exact h1.trans (List.cons_prefix_cons.2 ⟨rfl, List.take_prefix _ _⟩)
  ·cases e2; rw [e3, hd]
theorem ysx (k : Nat) (l : List UInt8) : sgs (l.take (pos k l)) = (sgs l).take k /\ sgs (l.drop (pos k l)) = (sgs l).drop k := by
 induction k generalizing l with
 | zero => simp [pos, ymy]
 | succ k ih =>
  by_cases h : l = []
  ·subst h; simp [ytz, ymy]
  ·have hp := ycw l
   have hl : 0 < l.length := List.length_pos_iff.2 h
   obtain ⟨i1, i2⟩ := ih (l.drop (dec l).2); have hle := pos_le k (l.drop (dec l).2); rw [yeh h, ych h, List.take_succ_cons, List.drop_succ_cons, <- i1, <- i2, List.drop_drop]; generalize pos k (l.drop (dec l).2) = q at *; refine ⟨?_, rfl⟩
   have hne : l.take ((dec l).2 + q) ≠ [] := by
    intro e; have := congrArg List.length e; rw [List.length_take, List.length_nil] at this; omega
   have hd := zap h ((dec l).2 + q) (by omega)
   rw [ych hne, hd]
   congr 2
   rw [List.drop_take]; congr 1; omega
theorem yok (k : Nat) (l : List UInt8) : sgs (l.drop (pos k l)) = (sgs l).drop k := (ysx k l).2
theorem yxr (k : Nat) (l : List UInt8) : sgs (l.take (pos k l)) = (sgs l).take k := (ysx k l).1
theorem sgs_at (k : Nat) (l : List UInt8) (h : pos k l < l.length) : sgs l = (sgs l).take k ++ ((dec (l.drop (pos k l))).1 : Int) :: sgs (l.drop (pos (k + 1) l)) := by
 have hne : l.drop (pos k l) ≠ [] := by intro e; have := congrArg List.length e; rw [List.length_drop, List.length_nil] at this; omega
 conv => lhs; rw [<- List.take_append_drop k (sgs l), <- yok, ych hne, List.drop_drop]
 rw [yfe k l h]
theorem ygb (k : Nat) (l : List UInt8) : pos k l < l.length ↔ k < (sgs l).length := by
 have := congrArg List.length (yok k l)
 rw [List.length_drop] at this; have hn := @sgs_ne (l.drop (pos k l))
 constructor
 ·intro h
  have : sgs (l.drop (pos k l)) ≠ [] := fun e => by have := congrArg List.length (hn.1 e); rw [List.length_drop, List.length_nil] at this; omega
  have := List.length_pos_iff.2 this
  omega
 ·intro h
  have h1 : 0 < (sgs (l.drop (pos k l))).length := by omega
  have h2 : l.drop (pos k l) ≠ [] := fun e => by rw [e] at h1; simp [ymy] at h1
  have := List.length_pos_iff.2 h2
  rw [List.length_drop] at this; omega
end Go.Proofs.YteibnfeokgibmaaGreat.T2
namespace Go.Proofs.YteibnfeokgibmaaGreat.T2
open Go.RowKit
theorem yfr (k : Nat) (hk : k < 63) (n : Int) : bits .and .i64 n ((2 ^ k - 1 : Nat) : Int) = n % ((2 ^ k : Nat) : Int) := by
 have hlt : 2 ^ k < 2 ^ 63 := Nat.pow_lt_pow_right (by omega) hk
 have hm : (BitVec.ofInt 64 ((2 ^ k - 1 : Nat) : Int)).toNat = 2 ^ k - 1 := by
  rw [BitVec.toNat_ofInt]; omega
 have key : (BitVec.ofInt 64 n &&& BitVec.ofInt 64 ((2 ^ k - 1 : Nat) : Int)).toNat = (n % ((2 ^ 64 : Nat) : Int)).toNat % 2 ^ k := by
  rw [BitVec.toNat_and, BitVec.toNat_ofInt, hm, Nat.and_two_pow_sub_one_eq_mod]
 show IntKind.i64.wrap ((BitVec.ofInt 64 n &&& BitVec.ofInt 64 ((2 ^ k - 1 : Nat) : Int)).toNat : Nat) = _
 rw [key, IntKind.wrap_i64]
 have h0 : 0 < 2 ^ k := Nat.pos_of_ne_zero (by simp)
 have h1 : ((n % ((2 ^ 64 : Nat) : Int)).toNat % 2 ^ k : Nat) < 2 ^ k := Nat.mod_lt _ h0
 have h2 : (((n % ((2 ^ 64 : Nat) : Int)).toNat % 2 ^ k : Nat) : Int) = n % ((2 ^ k : Nat) : Int) := by
  rw [Int.natCast_emod, Int.toNat_of_nonneg (Int.emod_nonneg _ (by decide))]
  exact Int.emod_emod_of_dvd n (Int.natCast_dvd_natCast.2 (Nat.pow_dvd_pow 2 (by omega)))
 rw [<- h2]; omega
theorem and63 (n : Int) : bits .and .i64 n 63 = n % 64 := yfr 6 (by omega) n
theorem or_i64 {a b : Nat} (ha : a < 2 ^ 63) (hb : b < 2 ^ 63) : bits .or .i64 (a : Int) (b : Int) = ((a ||| b : Nat) : Int) := by
 show IntKind.i64.wrap ((BitVec.ofInt 64 (a : Int) ||| BitVec.ofInt 64 (b : Int)).toNat : Nat) = _
 have e1 : (BitVec.ofInt 64 (a : Int)).toNat = a := by rw [BitVec.toNat_ofInt]; omega
 have e2 : (BitVec.ofInt 64 (b : Int)).toNat = b := by rw [BitVec.toNat_ofInt]; omega
 have h : a ||| b < 2 ^ 63 := Nat.or_lt_two_pow ha hb
 rw [BitVec.toNat_or, e1, e2, IntKind.wrap_i64]; omega
theorem or_low {a b : Nat} (k : Nat) (ha : 2 ^ k * a < 2 ^ 63) (hb : b < 2 ^ k) (hk : k < 63) : bits .or .i64 ((2 ^ k * a : Nat) : Int) (b : Int) = ((2 ^ k * a + b : Nat) : Int) := by
 have h : 2 ^ k < 2 ^ 63 := Nat.pow_lt_pow_right (by omega) hk
 rw [or_i64 ha (by omega), Nat.two_pow_add_eq_or_of_lt hb]
theorem or6 {a b : Int} (h0 : 0 <= a) (ha : a < 33554432) (hb0 : 0 <= b) (hb : b < 64) : bits .or .i64 (a * 64) b = a * 64 + b := by
 obtain ⟨a, rfl⟩ := Int.eq_ofNat_of_zero_le h0; obtain ⟨b, rfl⟩ := Int.eq_ofNat_of_zero_le hb0
 have := or_low (a := a) (b := b) 6 (by omega) (by omega) (by omega)
 rw [show (a : Int) * 64 = ((2 ^ 6 * a : Nat) : Int) by omega, this]; omega
theorem or128 {b : Int} (hb0 : 0 <= b) (hb : b < 64) : bits .or .i64 128 b = 128 + b := by
 have := or6 (a := 2) (b := b) (by omega) (by omega) hb0 hb; exact this
theorem or192 {b : Int} (hb0 : 0 <= b) (hb : b < 32) : bits .or .i64 192 b = 192 + b := by
 have := or6 (a := 3) (b := b) (by omega) (by omega) hb0 (by omega); exact this
theorem or224 {b : Int} (hb0 : 0 <= b) (hb : b < 16) : bits .or .i64 224 b = 224 + b := by
 obtain ⟨b, rfl⟩ := Int.eq_ofNat_of_zero_le hb0
 have := or_low (a := 7) (b := b) 5 (by omega) (by omega) (by omega)
 rw [show (224 : Int) = ((2 ^ 5 * 7 : Nat) : Int) by rfl, this]; omega
theorem or240 {b : Int} (hb0 : 0 <= b) (hb : b < 8) : bits .or .i64 240 b = 240 + b := by
 obtain ⟨b, rfl⟩ := Int.eq_ofNat_of_zero_le hb0
 have := or_low (a := 15) (b := b) 4 (by omega) (by omega) (by omega)
 rw [show (240 : Int) = ((2 ^ 4 * 15 : Nat) : Int) by rfl, this]; omega
theorem u8_all (k m : Int) (h : ∀ x : Fin 256, bits .and .u8 ((x.1 : Nat) : Int) k = ((x.1 : Nat) : Int) % m) {x : Nat} (hx : x < 256) : bits .and .u8 (x : Int) k = (x : Int) % m := h ⟨x, hx⟩
theorem u8_31 {x : Nat} (hx : x < 256) : bits .and .u8 (x : Int) 31 = (x : Int) % 32 := u8_all 31 32 (by decide +kernel) hx
theorem u8_15 {x : Nat} (hx : x < 256) : bits .and .u8 (x : Int) 15 = (x : Int) % 16 := u8_all 15 16 (by decide +kernel) hx
theorem u8_7 {x : Nat} (hx : x < 256) : bits .and .u8 (x : Int) 7 = (x : Int) % 8 := u8_all 7 8 (by decide +kernel) hx
theorem u8_63 {x : Nat} (hx : x < 256) : bits .and .u8 (x : Int) 63 = (x : Int) % 64 := u8_all 63 64 (by decide +kernel) hx
end Go.Proofs.YteibnfeokgibmaaGreat.T2
