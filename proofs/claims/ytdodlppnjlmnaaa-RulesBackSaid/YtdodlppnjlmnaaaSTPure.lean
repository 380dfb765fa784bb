/-
  RULES TOLD AS A TEXT, IN PLAIN LEAN: which text, and that what is read again is sound.
-/
import Derived.Test.YtdodlppnjlmnaaaSRef
namespace Go.Proofs.Ytdodlppnjlmnaaa
set_option linter.unusedVariables false
set_option linter.unusedSimpArgs false
open T2 (gb dec one isSg isPt sgs)
/-- Whether a backslash stands ahead of a sign. -/
def esc (c : Int) : Bool := spcB c || decide (c = 92)
def wr1 (c : Int) : List UInt8 := (if esc c = true then [92] else []) ++ one c.toNat
def wrd (l : List Int) : List UInt8 := l.flatMap wr1
def ruleT (x : RV) : List UInt8 := mk x.rel.toNat ++ [32] ++ wrd x.seq ++ (if x.exp.length = 0 then [] else [32, 47, 32] ++ wrd x.exp)
def txt : List RV → List UInt8
  | [] => []
  | [x] => ruleT x
  | x :: y :: t => ruleT x ++ [32] ++ txt (y :: t)
def okR (x : RV) : Bool := decide (1 ≤ x.rel) && decide (x.rel ≤ 5) && x.seq.all isSg && x.exp.all isSg
/-- Whether rules have a text. -/
def good (l : List RV) : Bool := l.all okR && decide ((parse (txt l)).2.2 = 0) && decide ((parse (txt l)).1 = l)

/-! ### what is read is sound -/
theorem parD_ok (L : List UInt8) : ∀ (f : Nat) (out : List RV) (k : Nat), k ≤ L.length → out.all okR = true → (parD L f out k).1.all okR = true
  | 0, out, k, hk, ho => by rw [parD]; rfl
  | f + 1, out, k, hk, ho => by
    rw [parD]
    split
    · split
      · rfl
      · exact ho
    · split
      · rfl
      · split
        · rfl
        · split
          · rfl
          · rename_i h0 h1 h2 h3
            have hw := relD_ways (L.drop k)
            rw [List.length_drop] at hw
            have hw : 1 ≤ (relD (L.drop k)).1 ∧ (relD (L.drop k)).1 ≤ 5 ∧ 1 ≤ (relD (L.drop k)).2 ∧ (relD (L.drop k)).2 ≤ L.length - k := by
              rcases hw with hw | hw
              · rw [hw] at h1; exact absurd (Or.inl rfl) h1
              · omega
            have hc : k + (relD (L.drop k)).2 ≤ L.length := by omega
            have hq := seqD_le hc
            have hx := expD_le (r := (relD (L.drop k)).1) hq.2
            have ha := af_le hx.2
            refine parD_ok L f _ _ ha.2 ?_
            rw [List.all_append, ho, Bool.true_and]
            simp only [List.all_cons, List.all_nil, Bool.and_true, okR, Bool.and_eq_true, decide_eq_true_eq]
            refine ⟨⟨⟨by omega, by omega⟩, (colD_ok L 3 [] _ rfl rfl (by simpa [seqD] using h2)).1⟩, ?_⟩
            unfold expD at h3 ⊢
            split
            · rename_i h5
              rw [if_pos h5] at h3
              exact (colD_ok L 3 [] _ rfl rfl (by simpa [seqD] using h3)).1
            · rfl
theorem parse_okR (L : List UInt8) : (parse L).1.all okR = true := parD_ok L _ _ _ (af_le (L := L) (k := 0) (Nat.zero_le _)).2 rfl
theorem parD_at (L : List UInt8) : ∀ (f : Nat) (out : List RV) (k : Nat), (parD L f out k).2.2 = 0 → (parD L f out k).2.1 = 0
  | 0, out, k, h => by rw [parD]
  | f + 1, out, k, h => by
    rw [parD] at h ⊢
    split at h
    · rename_i h0
      rw [if_pos h0]
      split <;> rfl
    · rename_i h0
      rw [if_neg h0]
      split at h
      · cases h
      · rename_i h1
        rw [if_neg h1]
        split at h
        · cases h
        · rename_i h2
          rw [if_neg h2]
          split at h
          · cases h
          · rename_i h3
            rw [if_neg h3]
            exact parD_at L f _ _ h
theorem parse_at {L : List UInt8} (h : (parse L).2.2 = 0) : (parse L).2.1 = 0 := parD_at L _ _ _ h
theorem good_parse {l : List RV} (h : good l = true) : parse (txt l) = (l, 0, 0) := by
  simp only [good, Bool.and_eq_true, decide_eq_true_eq] at h
  have h2 := parse_at h.1.2
  ext1
  · exact h.2
  · ext1
    · exact h2
    · exact h.1.2

/-! ### signs that are code points are read as they were told -/
theorem pt_nat {c : Int} (h : isPt c = true) : ((c.toNat : Nat) : Int) = c := T2.pt_cast h
theorem one_ne (c : Nat) (R : List UInt8) : one c ++ R ≠ [] := by
  have := T2.one_len c
  intro e
  have := congrArg List.length e
  rw [List.length_append] at this
  simp only [List.length_nil] at this
  omega
theorem wr1_read {c : Int} (h : isPt c = true) (R : List UInt8) : sg1 (wr1 c ++ R) = (true, c, (wr1 c).length) ∧ endd (wr1 c ++ R) = false ∧ isBl (gb (wr1 c ++ R) 0) = false := by
  have hc := pt_nat h
  have hd := T2.dec_one (c := c.toNat) (by rw [hc]; exact h) R
  unfold wr1
  by_cases he : esc c = true
  · rw [if_pos he]
    have hg : gb ([92] ++ one c.toNat ++ R) 0 = 92 := by rw [List.append_assoc, List.singleton_append, T2.gb_cons0]; rfl
    have hdr : ([92] ++ one c.toNat ++ R).drop 1 = one c.toNat ++ R := by rw [List.append_assoc, List.singleton_append, List.drop_one, List.tail_cons]
    have hln := T2.one_len c.toNat
    refine ⟨?_, ?_, ?_⟩
    · unfold sg1
      rw [if_pos hg, if_neg (by simp only [List.length_append, List.length_singleton]; omega), hdr, hd]
      simp only [hc, List.length_append, List.length_singleton]
    · unfold endd
      rw [hg, decide_eq_false (by simp)]; rfl
    · rw [hg]; rfl
  · rw [if_neg he, List.nil_append]
    have hde := dec_en (one_ne c.toNat R)
    rw [hd, hc] at hde
    have he' : esc c = false := by simpa using he
    have h2 : spcB c = false ∧ c ≠ 92 := by unfold esc at he'; simpa using he'
    have hen : isEn (gb (one c.toNat ++ R) 0) = false := by rw [← hde.1]; exact h2.1
    refine ⟨?_, ?_, isEn_bl hen⟩
    · unfold sg1
      rw [if_neg (fun h => h2.2 (hde.2.1.2 h)), hd]
      simp only [hc]
    · unfold endd
      rw [hen, decide_eq_false (by have := T2.one_len c.toNat; simp only [List.length_append]; omega)]; rfl
theorem drop_more {L X R : List UInt8} {k : Nat} (h : L.drop k = X ++ R) : L.drop (k + X.length) = R := by
  rw [← List.drop_drop, h, List.drop_left]
theorem col_read (L R : List UInt8) (hR : endd R = true) : ∀ (l : List Int) (n : Nat) (acc : List Int) (k : Nat), acc.length + n = 3 → l.length ≤ n → l.all isPt = true → L.drop k = wrd l ++ R →
    colD L n acc k = (decide (0 < (acc ++ l).length), acc ++ l, k + (wrd l).length)
  | [], n, acc, k, hn, hl, hp, hd => by
    have he : endd (L.drop k) = true := by rw [hd]; exact hR
    rw [List.append_nil]
    cases n <;> rw [colD, if_pos he] <;> rfl
  | c :: t, 0, acc, k, hn, hl, hp, hd => by simp at hl
  | c :: t, n + 1, acc, k, hn, hl, hp, hd => by
    simp only [List.all_cons, Bool.and_eq_true] at hp
    have hw : wrd (c :: t) = wr1 c ++ wrd t := rfl
    rw [hw, List.append_assoc] at hd
    obtain ⟨h1, h2, -⟩ := wr1_read hp.1 (wrd t ++ R)
    rw [colD, hd, h1, if_neg (by rw [h2]; simp), if_pos rfl]
    rw [col_read L R hR t n (acc ++ [c]) (k + (wr1 c).length) (by simp; omega) (by simp at hl; omega) hp.2 (drop_more hd), hw]
    simp only [List.length_append, List.length_cons, List.length_nil, Nat.add_assoc, List.append_assoc, List.singleton_append, List.cons_append, List.nil_append]
theorem blk_one (R : List UInt8) : blk (32 :: R) = blk R + 1 := by rw [blk, if_pos (by decide)]
theorem endd_cons (x : UInt8) (R : List UInt8) : endd (x :: R) = isEn x.toNat := by unfold endd; rw [T2.gb_cons0]; simp
theorem blk_none {R : List UInt8} (h : isBl (gb R 0) = false) : blk R = 0 := by
  cases R with
  | nil => rfl
  | cons x t => rw [T2.gb_cons0] at h; rw [blk, if_neg (by rw [h]; simp)]
theorem wrd_blk {l : List Int} {R : List UInt8} (hl : l ≠ []) (hp : l.all isPt = true) : blk (wrd l ++ R) = 0 := by
  cases l with
  | nil => exact absurd rfl hl
  | cons c t =>
    simp only [List.all_cons, Bool.and_eq_true] at hp
    refine blk_none ?_
    rw [show wrd (c :: t) = wr1 c ++ wrd t from rfl, List.append_assoc]
    exact (wr1_read hp.1 _).2.2
/-- A sequence behind a blank. -/
theorem seq_read {L R : List UInt8} (hR : endd R = true) {l : List Int} {k : Nat} (h0 : 0 < l.length) (h3 : l.length ≤ 3) (hp : l.all isPt = true) (hd : L.drop k = 32 :: (wrd l ++ R)) :
    seqD L k = (true, l, k + 1 + (wrd l).length) := by
  have hb : blk (L.drop k) = 1 := by rw [hd, blk_one, wrd_blk (by intro e; rw [e] at h0; simp at h0) hp]
  have hd1 : L.drop (k + 1) = wrd l ++ R := drop_more (X := [32]) hd
  unfold seqD
  rw [hb, col_read L R hR l 3 [] (k + 1) rfl h3 hp hd1, List.nil_append, decide_eq_true h0]
theorem signs_back {a b c : Int} (ha : isPt a = true) (hb : isPt b = true) (hc : isPt c = true) : parse (txt [⟨1, [a], []⟩, ⟨3, [b, c], [a, b, c]⟩]) = ([⟨1, [a], []⟩, ⟨3, [b, c], [a, b, c]⟩], 0, 0) := by
  have pa : [a].all isPt = true := by simp [ha]
  have pbc : [b, c].all isPt = true := by simp [hb, hc]
  have pabc : [a, b, c].all isPt = true := by simp [ha, hb, hc]
  obtain ⟨L, hL⟩ : ∃ L, txt [⟨1, [a], []⟩, ⟨3, [b, c], [a, b, c]⟩] = L := ⟨_, rfl⟩
  rw [hL]
  have h0 : L.drop 0 = [38] ++ (32 :: (wrd [a] ++ (32 :: ([60, 60] ++ (32 :: (wrd [b, c] ++ (32 :: ([47] ++ (32 :: (wrd [a, b, c] ++ [])))))))))) := by
    rw [← hL, List.drop_zero, List.append_nil]
    show ruleT _ ++ [32] ++ ruleT _ = _
    rw [show ruleT ⟨1, [a], []⟩ = [38] ++ [32] ++ wrd [a] ++ [] from rfl, show ruleT ⟨3, [b, c], [a, b, c]⟩ = [60, 60] ++ [32] ++ wrd [b, c] ++ ([32, 47, 32] ++ wrd [a, b, c]) from rfl]
    simp only [List.append_nil, List.append_assoc, List.cons_append, List.nil_append]
  have hlen : 6 ≤ L.length := by
    have := congrArg List.length h0
    rw [List.drop_zero] at this
    simp only [List.length_append, List.length_cons, List.length_nil] at this
    omega
  have h1 : L.drop 1 = 32 :: (wrd [a] ++ (32 :: ([60, 60] ++ (32 :: (wrd [b, c] ++ (32 :: ([47] ++ (32 :: (wrd [a, b, c] ++ []))))))))) := drop_more (X := [38]) h0
  have s1 : seqD L 1 = (true, [a], 2 + (wrd [a]).length) := seq_read (by first | (rw [endd_cons]; rfl) | rfl) (by simp) (by simp) pa h1
  have h2 : L.drop (2 + (wrd [a]).length) = 32 :: ([60, 60] ++ (32 :: (wrd [b, c] ++ (32 :: ([47] ++ (32 :: (wrd [a, b, c] ++ []))))))) := by
    have h1' : L.drop 2 = wrd [a] ++ _ := drop_more (X := [32]) h1
    exact drop_more h1'
  obtain ⟨k2, hk2⟩ : ∃ k, 2 + (wrd [a]).length = k := ⟨_, rfl⟩
  rw [hk2] at h2 s1
  have h3 : L.drop (k2 + 1) = [60, 60] ++ (32 :: (wrd [b, c] ++ (32 :: ([47] ++ (32 :: (wrd [a, b, c] ++ [])))))) := drop_more (X := [32]) h2
  have a2 : af L k2 = k2 + 1 := by unfold af; rw [h2, blk_one, blk_none (by rw [List.cons_append, T2.gb_cons0]; rfl)]
  have a3 : af L (k2 + 1) = k2 + 1 := by unfold af; rw [h3]; exact congrArg _ (blk_none (by rw [List.cons_append, T2.gb_cons0]; rfl))
  have e1 : expD L 1 k2 = (true, [], k2 + 1) := by unfold expD; rw [if_neg (by simp), a2]
  have h4 : L.drop (k2 + 1 + 2) = 32 :: (wrd [b, c] ++ (32 :: ([47] ++ (32 :: (wrd [a, b, c] ++ []))))) := drop_more (X := [60, 60]) h3
  have s4 : seqD L (k2 + 1 + 2) = (true, [b, c], k2 + 1 + 2 + 1 + (wrd [b, c]).length) := seq_read (by first | (rw [endd_cons]; rfl) | rfl) (by simp) (by simp) pbc h4
  have h5 : L.drop (k2 + 1 + 2 + 1 + (wrd [b, c]).length) = 32 :: ([47] ++ (32 :: (wrd [a, b, c] ++ []))) := by
    have h4' : L.drop (k2 + 1 + 2 + 1) = wrd [b, c] ++ _ := drop_more (X := [32]) h4
    exact drop_more h4'
  obtain ⟨k5, hk5⟩ : ∃ k, k2 + 1 + 2 + 1 + (wrd [b, c]).length = k := ⟨_, rfl⟩
  rw [hk5] at h5 s4
  have h6 : L.drop (k5 + 1) = [47] ++ (32 :: (wrd [a, b, c] ++ [])) := drop_more (X := [32]) h5
  have a5 : af L k5 = k5 + 1 := by unfold af; rw [h5, blk_one, blk_none (by rw [List.cons_append, T2.gb_cons0]; rfl)]
  have g5 : gb L (k5 + 1) = 47 := by
    have := gb_drop L (k5 + 1) 0
    rw [h6] at this
    rw [Nat.add_zero] at this
    rw [← this, List.cons_append, T2.gb_cons0]; rfl
  have h7 : L.drop (k5 + 1 + 1) = 32 :: (wrd [a, b, c] ++ []) := drop_more (X := [47]) h6
  have s7 : seqD L (k5 + 1 + 1) = (true, [a, b, c], k5 + 1 + 1 + 1 + (wrd [a, b, c]).length) := seq_read (by first | (rw [endd_cons]; rfl) | rfl) (by simp) (by simp) pabc h7
  have e5 : expD L 3 k5 = (true, [a, b, c], k5 + 1 + 1 + 1 + (wrd [a, b, c]).length) := by unfold expD; rw [a5, if_pos ⟨by omega, g5⟩, s7]
  have h8 : L.drop (k5 + 1 + 1 + 1 + (wrd [a, b, c]).length) = [] := by
    have h7' : L.drop (k5 + 1 + 1 + 1) = wrd [a, b, c] ++ _ := drop_more (X := [32]) h7
    exact drop_more h7'
  obtain ⟨k8, hk8⟩ : ∃ k, k5 + 1 + 1 + 1 + (wrd [a, b, c]).length = k := ⟨_, rfl⟩
  rw [hk8] at h8 e5
  have l8 : L.length ≤ k8 := by
    have := congrArg List.length h8
    rw [List.length_drop] at this
    simp only [List.length_nil] at this
    omega
  have a8 : af L k8 = k8 := blk_end l8
  have l3 : k2 + 1 < L.length := by
    have := congrArg List.length h3
    rw [List.length_drop] at this
    simp only [List.length_append, List.length_cons, List.length_nil] at this
    omega
  have a0 : af L 0 = 0 := by unfold af; rw [h0]; exact congrArg _ (blk_none (by rw [List.cons_append, T2.gb_cons0]; rfl))
  have r0 : relD (L.drop 0) = (1, 1) := by rw [h0]; unfold relD; rw [List.cons_append, T2.gb_cons0]; rfl
  have r3 : relD (L.drop (k2 + 1)) = (3, 2) := by
    rw [h3]; unfold relD lts
    simp only [List.cons_append, List.nil_append, T2.gb_cons0, T2.gb_cons]
    rfl
  unfold parse
  rw [a0, show L.length + 2 = L.length + 1 + 1 from rfl, parD, if_neg (by omega), r0]
  simp only [Nat.zero_add, s1, e1, a3]
  rw [if_neg (by simp), if_neg (by simp), if_neg (by simp)]
  rw [parD, if_neg (by omega), r3]
  simp only [s4, e5, a8]
  rw [if_neg (by simp), if_neg (by simp), if_neg (by simp)]
  obtain ⟨m, hm⟩ : ∃ m, L.length = m + 1 := ⟨L.length - 1, by omega⟩
  rw [hm, parD, if_pos (by omega), if_neg (by simp)]
  rfl
theorem signs_good {a b c : Int} (ha : isPt a = true) (hb : isPt b = true) (hc : isPt c = true) : good [⟨1, [a], []⟩, ⟨3, [b, c], [a, b, c]⟩] = true := by
  have sg : ∀ {x : Int}, isPt x = true → isSg x = true := fun h => by unfold T2.isSg; rw [h]; rfl
  unfold good
  rw [signs_back ha hb hc]
  simp [okR, sg ha, sg hb, sg hc]
end Go.Proofs.Ytdodlppnjlmnaaa
