/-
  TEXTS AS SIGNS, IN PLAIN LEAN: the first sign of some bytes, a sign's bytes, and that each leads back to the other.
-/
namespace Go.Proofs.Ytcoepmakajligaa
set_option linter.unusedVariables false
@[irreducible] def gb (l : List UInt8) (i : Nat) : Nat := (l.getD i 0).toNat
def isT (x : Nat) : Bool := decide (128 ≤ x) && decide (x ≤ 191)
def isPt (c : Int) : Bool := decide (0 ≤ c) && decide (c ≤ 1114111) && (decide (c < 55296) || decide (57343 < c))
def isSg (c : Int) : Bool := isPt c || (decide (1114240 ≤ c) && decide (c ≤ 1114367))
@[irreducible] def v2 (l : List UInt8) : Nat := (gb l 0 - 192) * 64 + (gb l 1 - 128)
@[irreducible] def v3 (l : List UInt8) : Nat := (gb l 0 - 224) * 4096 + (gb l 1 - 128) * 64 + (gb l 2 - 128)
@[irreducible] def v4 (l : List UInt8) : Nat := (gb l 0 - 240) * 262144 + (gb l 1 - 128) * 4096 + (gb l 2 - 128) * 64 + (gb l 3 - 128)
def is2 (l : List UInt8) : Bool := decide (194 ≤ gb l 0) && decide (gb l 0 ≤ 223) && decide (1 < l.length) && isT (gb l 1)
def is3 (l : List UInt8) : Bool := decide (224 ≤ gb l 0) && decide (gb l 0 ≤ 239) && decide (2 < l.length) && isT (gb l 1) && isT (gb l 2) && decide (2048 ≤ v3 l) && (decide (v3 l < 55296) || decide (57343 < v3 l))
def is4 (l : List UInt8) : Bool := decide (240 ≤ gb l 0) && decide (gb l 0 ≤ 244) && decide (3 < l.length) && isT (gb l 1) && isT (gb l 2) && isT (gb l 3) && decide (65536 ≤ v4 l) && decide (v4 l ≤ 1114111)
/-- The first sign of bytes that are some, and how many bytes it takes. -/
@[irreducible] def dec (l : List UInt8) : Nat × Nat :=
  if gb l 0 < 128 then (gb l 0, 1) else if is2 l then (v2 l, 2) else if is3 l then (v3 l, 3) else if is4 l then (v4 l, 4) else (1114112 + gb l 0, 1)
@[irreducible] def one (c : Nat) : List UInt8 :=
  if 1114112 ≤ c then [UInt8.ofNat (c - 1114112)]
  else if c < 128 then [UInt8.ofNat c]
  else if c < 2048 then [UInt8.ofNat (192 + c / 64), UInt8.ofNat (128 + c % 64)]
  else if c < 65536 then [UInt8.ofNat (224 + c / 4096), UInt8.ofNat (128 + c / 64 % 64), UInt8.ofNat (128 + c % 64)]
  else [UInt8.ofNat (240 + c / 262144), UInt8.ofNat (128 + c / 4096 % 64), UInt8.ofNat (128 + c / 64 % 64), UInt8.ofNat (128 + c % 64)]

theorem one_raw {c : Nat} (h : 1114112 ≤ c) : one c = [UInt8.ofNat (c - 1114112)] := by unfold one; rw [if_pos h]
theorem one_1 {c : Nat} (h : c < 128) : one c = [UInt8.ofNat c] := by unfold one; rw [if_neg (by omega), if_pos h]
theorem one_2 {c : Nat} (h : ¬ c < 128) (h2 : c < 2048) : one c = [UInt8.ofNat (192 + c / 64), UInt8.ofNat (128 + c % 64)] := by unfold one; rw [if_neg (by omega), if_neg h, if_pos h2]
theorem one_3 {c : Nat} (h : ¬ c < 2048) (h2 : c < 65536) : one c = [UInt8.ofNat (224 + c / 4096), UInt8.ofNat (128 + c / 64 % 64), UInt8.ofNat (128 + c % 64)] := by unfold one; rw [if_neg (by omega), if_neg (by omega), if_neg h, if_pos h2]
theorem one_4 {c : Nat} (h : ¬ c < 65536) (h2 : c < 1114112) : one c = [UInt8.ofNat (240 + c / 262144), UInt8.ofNat (128 + c / 4096 % 64), UInt8.ofNat (128 + c / 64 % 64), UInt8.ofNat (128 + c % 64)] := by unfold one; rw [if_neg (by omega), if_neg (by omega), if_neg (by omega), if_neg h]

theorem v2_eq (l : List UInt8) : v2 l = (gb l 0 - 192) * 64 + (gb l 1 - 128) := by unfold v2; rfl
theorem v3_eq (l : List UInt8) : v3 l = (gb l 0 - 224) * 4096 + (gb l 1 - 128) * 64 + (gb l 2 - 128) := by unfold v3; rfl
theorem v4_eq (l : List UInt8) : v4 l = (gb l 0 - 240) * 262144 + (gb l 1 - 128) * 4096 + (gb l 2 - 128) * 64 + (gb l 3 - 128) := by unfold v4; rfl
theorem gb_cons0 (x : UInt8) (l : List UInt8) : gb (x :: l) 0 = x.toNat := by unfold gb; rfl
theorem gb_cons (x : UInt8) (l : List UInt8) (i : Nat) : gb (x :: l) (i + 1) = gb l i := by unfold gb; rfl
theorem gb_lt (l : List UInt8) (i : Nat) : gb l i < 256 := by unfold gb; exact UInt8.toNat_lt _
theorem isT_iff {x : Nat} : isT x = true ↔ 128 ≤ x ∧ x ≤ 191 := by simp [isT]
theorem isPt_iff {c : Int} : isPt c = true ↔ 0 ≤ c ∧ c ≤ 1114111 ∧ (c < 55296 ∨ 57343 < c) := by simp [isPt, and_assoc]
theorem is2_iff {l : List UInt8} : is2 l = true ↔ 194 ≤ gb l 0 ∧ gb l 0 ≤ 223 ∧ 1 < l.length ∧ 128 ≤ gb l 1 ∧ gb l 1 ≤ 191 := by simp [is2, isT, and_assoc]
theorem is3_iff {l : List UInt8} : is3 l = true ↔ 224 ≤ gb l 0 ∧ gb l 0 ≤ 239 ∧ 2 < l.length ∧ (128 ≤ gb l 1 ∧ gb l 1 ≤ 191) ∧ (128 ≤ gb l 2 ∧ gb l 2 ≤ 191) ∧ 2048 ≤ v3 l ∧ (v3 l < 55296 ∨ 57343 < v3 l) := by simp [is3, isT, and_assoc]
theorem is4_iff {l : List UInt8} : is4 l = true ↔ 240 ≤ gb l 0 ∧ gb l 0 ≤ 244 ∧ 3 < l.length ∧ (128 ≤ gb l 1 ∧ gb l 1 ≤ 191) ∧ (128 ≤ gb l 2 ∧ gb l 2 ≤ 191) ∧ (128 ≤ gb l 3 ∧ gb l 3 ≤ 191) ∧ 65536 ≤ v4 l ∧ v4 l ≤ 1114111 := by simp [is4, isT, and_assoc]
theorem of_toNat {x : UInt8} {n : Nat} (h : n < 256) (e : n = x.toNat) : UInt8.ofNat n = x := by subst e; simp
theorem to_ofNat {n : Nat} (h : n < 256) : (UInt8.ofNat n).toNat = n := by rw [UInt8.toNat_ofNat']; omega

/-! ### the ways of 'dec' -/
theorem dec_cases {l : List UInt8} (hl : l ≠ []) :
    (gb l 0 < 128 ∧ dec l = (gb l 0, 1)) ∨ (is2 l = true ∧ dec l = (v2 l, 2)) ∨ (is3 l = true ∧ dec l = (v3 l, 3)) ∨ (is4 l = true ∧ dec l = (v4 l, 4)) ∨ (128 ≤ gb l 0 ∧ is2 l = false ∧ is3 l = false ∧ is4 l = false ∧ dec l = (1114112 + gb l 0, 1)) := by
  unfold dec
  split
  · exact .inl ⟨by assumption, rfl⟩
  · split
    · exact .inr (.inl ⟨by assumption, rfl⟩)
    · split
      · exact .inr (.inr (.inl ⟨by assumption, rfl⟩))
      · split
        · exact .inr (.inr (.inr (.inl ⟨by assumption, rfl⟩)))
        · exact .inr (.inr (.inr (.inr ⟨by omega, by simpa using ‹¬ is2 l = true›, by simpa using ‹¬ is3 l = true›, by simpa using ‹¬ is4 l = true›, rfl⟩)))
theorem dec_pos (l : List UInt8) : 0 < (dec l).2 := by
  unfold dec; split; · simp
  split; · simp
  split; · simp
  split <;> simp
theorem dec_le {l : List UInt8} (hl : l ≠ []) : (dec l).2 ≤ l.length := by
  have h0 : 0 < l.length := List.length_pos_iff.2 hl
  rcases dec_cases hl with ⟨_, e⟩ | ⟨h, e⟩ | ⟨h, e⟩ | ⟨h, e⟩ | ⟨_, _, _, _, e⟩
  · rw [e]; exact h0
  · rw [e]; have := is2_iff.1 h; simp only; omega
  · rw [e]; have := is3_iff.1 h; simp only; omega
  · rw [e]; have := is4_iff.1 h; simp only; omega
  · rw [e]; exact h0
theorem dec_sg {l : List UInt8} (hl : l ≠ []) : isSg ((dec l).1 : Int) = true := by
  have hb := gb_lt l 0
  unfold isSg
  rcases dec_cases hl with ⟨_, e⟩ | ⟨h, e⟩ | ⟨h, e⟩ | ⟨h, e⟩ | ⟨_, _, _, _, e⟩
  · rw [e]; clear e; dsimp only; simp only [Bool.or_eq_true, isPt_iff]; left; omega
  · rw [e]; clear e; dsimp only; have := is2_iff.1 h; simp only [Bool.or_eq_true, isPt_iff, v2_eq]; left; omega
  · rw [e]; clear e; dsimp only; have := is3_iff.1 h; simp only [Bool.or_eq_true, isPt_iff]; left; have hb : v3 l < 1114112 := by rw [v3_eq]; omega
    omega
  · rw [e]; clear e; dsimp only; have := is4_iff.1 h; simp only [Bool.or_eq_true, isPt_iff]; left; omega
  · rw [e]; clear e; dsimp only; simp only [Bool.or_eq_true, Bool.and_eq_true, decide_eq_true_eq]; right; omega
theorem list1 {l : List UInt8} (h : 0 < l.length) : ∃ a r, l = a :: r := by
  cases l with
  | nil => simp at h
  | cons a r => exact ⟨a, r, rfl⟩
theorem list2 {l : List UInt8} (h : 1 < l.length) : ∃ a b r, l = a :: b :: r := by
  obtain ⟨a, r, rfl⟩ := list1 (l := l) (by omega)
  obtain ⟨b, r, rfl⟩ := list1 (l := r) (by simp at h; omega)
  exact ⟨a, b, r, rfl⟩
theorem list3 {l : List UInt8} (h : 2 < l.length) : ∃ a b c r, l = a :: b :: c :: r := by
  obtain ⟨a, b, r, rfl⟩ := list2 (l := l) (by omega)
  obtain ⟨c, r, rfl⟩ := list1 (l := r) (by simp at h; omega)
  exact ⟨a, b, c, r, rfl⟩
theorem list4 {l : List UInt8} (h : 3 < l.length) : ∃ a b c d r, l = a :: b :: c :: d :: r := by
  obtain ⟨a, b, c, r, rfl⟩ := list3 (l := l) (by omega)
  obtain ⟨d, r, rfl⟩ := list1 (l := r) (by simp at h; omega)
  exact ⟨a, b, c, d, r, rfl⟩

/-! ### a sign's bytes are those that it was read from -/
theorem one_dec {l : List UInt8} (hl : l ≠ []) : one (dec l).1 = l.take (dec l).2 := by
  have h0 : 0 < l.length := List.length_pos_iff.2 hl
  rcases dec_cases hl with ⟨h, e⟩ | ⟨h, e⟩ | ⟨h, e⟩ | ⟨h, e⟩ | ⟨h, _, _, _, e⟩
  · obtain ⟨a, r, rfl⟩ := list1 h0
    rw [e]; clear e; simp only [gb_cons0] at h ⊢; show one a.toNat = [a]
    rw [one_1 h, of_toNat (by omega) rfl]
  · have h := is2_iff.1 h
    obtain ⟨a, b, r, rfl⟩ := list2 h.2.2.1
    rw [e]; clear e; show one (v2 _) = [a, b]
    obtain ⟨n, hn⟩ : ∃ n, n = v2 (a :: b :: r) := ⟨_, rfl⟩
    rw [← hn]
    simp only [gb_cons0, gb_cons, v2_eq] at h hn
    rw [one_2 (by omega) (by omega), of_toNat (x := a) (by omega) (by omega), of_toNat (x := b) (by omega) (by omega)]
  · have h := is3_iff.1 h
    obtain ⟨a, b, c, r, rfl⟩ := list3 h.2.2.1
    rw [e]; clear e; show one (v3 _) = [a, b, c]
    obtain ⟨n, hn⟩ : ∃ n, n = v3 (a :: b :: c :: r) := ⟨_, rfl⟩
    rw [← hn] at h ⊢
    simp only [gb_cons0, gb_cons, v3_eq] at h hn
    rw [one_3 (by omega) (by omega), of_toNat (x := a) (by omega) (by omega), of_toNat (x := b) (by omega) (by omega), of_toNat (x := c) (by omega) (by omega)]
  · have h := is4_iff.1 h
    obtain ⟨a, b, c, d, r, rfl⟩ := list4 h.2.2.1
    rw [e]; clear e; show one (v4 _) = [a, b, c, d]
    obtain ⟨n, hn⟩ : ∃ n, n = v4 (a :: b :: c :: d :: r) := ⟨_, rfl⟩
    rw [← hn] at h ⊢
    simp only [gb_cons0, gb_cons, v4_eq] at h hn
    rw [one_4 (by omega) (by omega), of_toNat (x := a) (by omega) (by omega), of_toNat (x := b) (by omega) (by omega), of_toNat (x := c) (by omega) (by omega), of_toNat (x := d) (by omega) (by omega)]
  · obtain ⟨a, r, rfl⟩ := list1 h0
    have hb := UInt8.toNat_lt a
    rw [e]; clear e; simp only [gb_cons0]; show one (1114112 + a.toNat) = [a]
    rw [one_raw (by omega), of_toNat (x := a) (by omega) (by omega)]

/-! ### what begins with a code point's bytes is read as it -/
theorem dec_one {c : Nat} (hc : isPt c = true) (r : List UInt8) : dec (one c ++ r) = (c, (one c).length) := by
  have hc := isPt_iff.1 hc
  by_cases h1 : c < 128
  · rw [one_1 h1]; unfold dec
    simp only [List.cons_append, List.nil_append, gb_cons0, to_ofNat (show c < 256 by omega)]
    rw [if_pos h1]; rfl
  by_cases h2 : c < 2048
  · rw [one_2 h1 h2]
    have e0 := to_ofNat (n := 192 + c / 64) (by omega)
    have e1 := to_ofNat (n := 128 + c % 64) (by omega)
    generalize UInt8.ofNat (192 + c / 64) = x0 at *
    generalize UInt8.ofNat (128 + c % 64) = x1 at *
    have h : is2 ([x0, x1] ++ r) = true := by
      rw [is2_iff]; simp only [List.cons_append, List.nil_append, gb_cons0, gb_cons, List.length_cons]; omega
    unfold dec; rw [if_neg (by simp only [List.cons_append, gb_cons0]; omega), if_pos h]
    simp only [v2_eq, List.cons_append, List.nil_append, gb_cons0, gb_cons, List.length_cons, List.length_nil]
    ext <;> simp only <;> omega
  by_cases h3 : c < 65536
  · rw [one_3 h2 h3]
    have e0 := to_ofNat (n := 224 + c / 4096) (by omega)
    have e1 := to_ofNat (n := 128 + c / 64 % 64) (by omega)
    have e2 := to_ofNat (n := 128 + c % 64) (by omega)
    generalize UInt8.ofNat (224 + c / 4096) = x0 at *
    generalize UInt8.ofNat (128 + c / 64 % 64) = x1 at *
    generalize UInt8.ofNat (128 + c % 64) = x2 at *
    have hv : v3 ([x0, x1, x2] ++ r) = c := by
      simp only [v3_eq, List.cons_append, List.nil_append, gb_cons0, gb_cons]; omega
    have h : is3 ([x0, x1, x2] ++ r) = true := by
      rw [is3_iff, hv]; simp only [List.cons_append, List.nil_append, gb_cons0, gb_cons, List.length_cons]; omega
    have h' : is2 ([x0, x1, x2] ++ r) = false := by
      rw [Bool.eq_false_iff]; intro h; have := is2_iff.1 h; simp only [List.cons_append, gb_cons0] at this; omega
    unfold dec; rw [if_neg (by simp only [List.cons_append, gb_cons0]; omega), h', if_neg (by simp), if_pos h, hv]; rfl
  · rw [one_4 h3 (by omega)]
    have e0 := to_ofNat (n := 240 + c / 262144) (by omega)
    have e1 := to_ofNat (n := 128 + c / 4096 % 64) (by omega)
    have e2 := to_ofNat (n := 128 + c / 64 % 64) (by omega)
    have e3 := to_ofNat (n := 128 + c % 64) (by omega)
    generalize UInt8.ofNat (240 + c / 262144) = x0 at *
    generalize UInt8.ofNat (128 + c / 4096 % 64) = x1 at *
    generalize UInt8.ofNat (128 + c / 64 % 64) = x2 at *
    generalize UInt8.ofNat (128 + c % 64) = x3 at *
    have hv : v4 ([x0, x1, x2, x3] ++ r) = c := by
      simp only [v4_eq, List.cons_append, List.nil_append, gb_cons0, gb_cons]; omega
    have h : is4 ([x0, x1, x2, x3] ++ r) = true := by
      rw [is4_iff, hv]; simp only [List.cons_append, List.nil_append, gb_cons0, gb_cons, List.length_cons]; omega
    have h' : is2 ([x0, x1, x2, x3] ++ r) = false := by
      rw [Bool.eq_false_iff]; intro h; have := is2_iff.1 h; simp only [List.cons_append, gb_cons0] at this; omega
    have h'' : is3 ([x0, x1, x2, x3] ++ r) = false := by
      rw [Bool.eq_false_iff]; intro h; have := is3_iff.1 h; simp only [List.cons_append, gb_cons0] at this; omega
    unfold dec; rw [if_neg (by simp only [List.cons_append, gb_cons0]; omega), h', if_neg (by simp), h'', if_neg (by simp), if_pos h, hv]; rfl

/-- A code point's bytes, or one byte that begins none. -/
theorem dec_ways {l : List UInt8} (hl : l ≠ []) :
    (isPt (dec l).1 = true ∧ l = one (dec l).1 ++ l.drop (dec l).2 ∧ (dec l).2 = (one (dec l).1).length) ∨
    (∃ x r, l = x :: r ∧ 128 ≤ x.toNat ∧ dec l = (1114112 + x.toNat, 1) ∧ one (1114112 + x.toNat) = [x] ∧ ∀ c : Nat, isPt c = true → ¬ one c <+: l) := by
  have h0 : 0 < l.length := List.length_pos_iff.2 hl
  have ho := one_dec hl
  have hle := dec_le hl
  have hb := gb_lt l 0
  have key : isPt (dec l).1 = true → (isPt (dec l).1 = true ∧ l = one (dec l).1 ++ l.drop (dec l).2 ∧ (dec l).2 = (one (dec l).1).length) := fun h =>
    ⟨h, by rw [ho, List.take_append_drop], by rw [ho, List.length_take]; omega⟩
  rcases dec_cases hl with ⟨h, e⟩ | ⟨h, e⟩ | ⟨h, e⟩ | ⟨h, e⟩ | ⟨h, _, _, _, e⟩
  · left; apply key; rw [e]; clear e; rw [isPt_iff]; simp only; omega
  · left; apply key; have := is2_iff.1 h; rw [e]; clear e; rw [isPt_iff]; simp only [v2_eq]; omega
  · left; apply key; have := is3_iff.1 h; rw [e]; clear e; rw [isPt_iff]; have hb : v3 l < 1114112 := by rw [v3_eq]; omega
    simp only; omega
  · left; apply key; have := is4_iff.1 h; rw [e]; clear e; rw [isPt_iff]; simp only; omega
  · right
    obtain ⟨x, r, rfl⟩ := list1 h0
    simp only [gb_cons0] at *
    refine ⟨x, r, rfl, h, e, by rw [e] at ho; simpa using ho, ?_⟩
    intro c hc ⟨t, ht⟩
    have := dec_one hc t
    rw [ht, e] at this
    have := congrArg Prod.fst this
    have := isPt_iff.1 hc
    simp only at *; omega
theorem one_ways (c : Nat) : 1114112 ≤ c ∨ c < 128 ∨ (¬ c < 128 ∧ c < 2048) ∨ (¬ c < 2048 ∧ c < 65536) ∨ (¬ c < 65536 ∧ c < 1114112) := by omega
theorem one_len (c : Nat) : 0 < (one c).length := by
  rcases one_ways c with h | h | h | h | h
  · rw [one_raw h]; simp
  · rw [one_1 h]; simp
  · rw [one_2 h.1 h.2]; simp
  · rw [one_3 h.1 h.2]; simp
  · rw [one_4 h.1 h.2]; simp
theorem one_len_le (c : Nat) : (one c).length ≤ 4 := by
  rcases one_ways c with h | h | h | h | h
  · rw [one_raw h]; simp
  · rw [one_1 h]; simp
  · rw [one_2 h.1 h.2]; simp
  · rw [one_3 h.1 h.2]; simp
  · rw [one_4 h.1 h.2]; simp
/-- The first byte of a code point is none that goes on; all behind it are. -/
theorem one_shape {c : Nat} (hc : isPt c = true) : ∃ x t, one c = x :: t ∧ isT x.toNat = false ∧ (∀ y ∈ t, isT y.toNat = true) ∧ (128 ≤ x.toNat ∨ t = []) := by
  have hc := isPt_iff.1 hc
  have nT : ∀ {n : Nat}, n < 128 ∨ 191 < n → isT n = false := fun h => by rw [Bool.eq_false_iff]; intro h'; have := isT_iff.1 h'; omega
  rcases one_ways c with h | h | h | h | h
  · omega
  · rw [one_1 h]; exact ⟨_, _, rfl, nT (by rw [to_ofNat (by omega)]; omega), by simp, .inr rfl⟩
  · rw [one_2 h.1 h.2]
    exact ⟨_, _, rfl, nT (by rw [to_ofNat (by omega)]; omega), by
      intro y hy; simp only [List.mem_cons, List.not_mem_nil, or_false] at hy; subst hy; rw [isT_iff, to_ofNat (by omega)]; omega, .inl (by rw [to_ofNat (by omega)]; omega)⟩
  · rw [one_3 h.1 h.2]
    exact ⟨_, _, rfl, nT (by rw [to_ofNat (by omega)]; omega), by
      intro y hy; simp only [List.mem_cons, List.not_mem_nil, or_false] at hy
      rcases hy with rfl | rfl <;> rw [isT_iff, to_ofNat (by omega)] <;> omega, .inl (by rw [to_ofNat (by omega)]; omega)⟩
  · rw [one_4 h.1 h.2]
    exact ⟨_, _, rfl, nT (by rw [to_ofNat (by omega)]; omega), by
      intro y hy; simp only [List.mem_cons, List.not_mem_nil, or_false] at hy
      rcases hy with rfl | rfl | rfl <;> rw [isT_iff, to_ofNat (by omega)] <;> omega, .inl (by rw [to_ofNat (by omega)]; omega)⟩
end Go.Proofs.Ytcoepmakajligaa
