/-
  CARRIED by carry.py out of the templates of an earlier stage: XEPure XEBits.
-/
import Derived.Lib.Bytealg
import Derived.Lib.Strings
import Derived.WalkKit
import Derived.Laws.BitsAllLaws
namespace Go.Proofs.Ytaabdpfhpolcgaa.E3
set_option linter.unusedVariables false
def wg (e : Nat) (level : Int) : Nat := if level = 1 then e / 65536 else if level = 2 then e / 256 % 256 else if level = 3 then e / 2 % 128 else 0
def mk (p s t v : Nat) : Nat := p * 65536 + s * 256 + t * 2 + v
def okE (e : Nat) : Bool := (decide (e / 65536 = 0) || !decide (e / 256 % 256 = 0) && !decide (e / 2 % 128 = 0)) && (decide (e / 256 % 256 = 0) || !decide (e / 2 % 128 = 0)) && (decide (e % 2 = 0) || !decide (e / 65536 = 0))
@[irreducible] def hx (d : Nat) : UInt8 := if d < 10 then UInt8.ofNat (48 + d) else UInt8.ofNat (87 + d)
def digL : List UInt8 := [48, 49, 50, 51, 52, 53, 54, 55, 56, 57, 97, 98, 99, 100, 101, 102]
@[irreducible] def dgt (c : UInt8) : Int := Lib.indexByte digL c
def hexd (v : Nat) : Nat → List UInt8
  | 0 => []
  | n + 1 => hx (v / 16 ^ n % 16) :: hexd v n
theorem hexd_len (v n : Nat) : (hexd v n).length = n := by
  induction n with
  | zero => rfl
  | succ n ih => simp [hexd, ih]
theorem hexd_2 (v : Nat) : hexd v 2 = [hx (v / 16 % 16), hx (v % 16)] := by simp [hexd]
theorem hexd_4 (v : Nat) : hexd v 4 = [hx (v / 4096 % 16), hx (v / 256 % 16), hx (v / 16 % 16), hx (v % 16)] := by simp [hexd]
theorem dgt_hx {d : Nat} (h : d < 16) : dgt (hx d) = d := by
  have : ∀ d : Fin 16, dgt (hx d.1) = (d.1 : Int) := by unfold dgt hx; decide +kernel
  exact this ⟨d, h⟩
theorem dgt_ways (c : UInt8) : dgt c < 0 ∨ ∃ d, d < 16 ∧ dgt c = (d : Nat) ∧ c = hx d := by
  have h : ∀ c : Fin 256, dgt (UInt8.ofNat c.1) < 0 ∨ ∃ d : Fin 16, dgt (UInt8.ofNat c.1) = (d.1 : Int) ∧ UInt8.ofNat c.1 = hx d.1 := by unfold dgt hx; decide +kernel
  have := h ⟨c.toNat, UInt8.toNat_lt c⟩
  simp only [UInt8.ofNat_toNat] at this
  rcases this with h | ⟨d, h1, h2⟩
  · exact .inl h
  · exact .inr ⟨d.1, d.2, h1, h2⟩
/-- The text between the marks. -/
def body (p s t : Nat) : List UInt8 := hexd p 4 ++ 46 :: (hexd s 2 ++ 46 :: (hexd t 2 ++ [93]))
def etext (e : Nat) : List UInt8 := 91 :: ((if e % 2 = 1 then [42] else []) ++ body (e / 65536) (e / 256 % 256) (e / 2 % 128))
theorem body_eq (p s t : Nat) : body p s t = [hx (p / 4096 % 16), hx (p / 256 % 16), hx (p / 16 % 16), hx (p % 16), 46, hx (s / 16 % 16), hx (s % 16), 46, hx (t / 16 % 16), hx (t % 16), 93] := by
  unfold body; rw [hexd_4, hexd_2, hexd_2]; rfl
def fm : List UInt8 := [91, 48, 48, 48, 48, 46, 48, 48, 46, 48, 48, 93]
/-- What the digits of l tell together, behind w, where l has the form f. -/
def wd : List UInt8 → List UInt8 → Nat → Option Nat
  | [], [], w => some w
  | f :: fs, c :: cs, w => if f = 48 then (if 0 ≤ dgt c then wd fs cs (w * 16 % 4294967296 + (dgt c).toNat) else none) else if c = f then wd fs cs w else none
  | _, _, _ => none
theorem wd_nil (w : Nat) : wd [] [] w = some w := by simp [wd]
theorem wd_lit {f : UInt8} (hf : f ≠ 48) (fs cs : List UInt8) (w : Nat) : wd (f :: fs) (f :: cs) w = wd fs cs w := by
  rw [wd, if_neg hf, if_pos rfl]
theorem wd_dig {d : Nat} (hd : d < 16) (fs cs : List UInt8) (w : Nat) : wd (48 :: fs) (hx d :: cs) w = wd fs cs (w * 16 % 4294967296 + d) := by
  rw [wd, if_pos rfl, dgt_hx hd, if_pos (by omega)]; rfl
theorem wd_lit_inv {f : UInt8} (hf : f ≠ 48) {fs l : List UInt8} {w r : Nat} (h : wd (f :: fs) l w = some r) : ∃ cs, l = f :: cs ∧ wd fs cs w = some r := by
  cases l with
  | nil => simp [wd] at h
  | cons c cs =>
    rw [wd, if_neg hf] at h
    by_cases hc : c = f
    · subst hc; rw [if_pos rfl] at h; exact ⟨cs, rfl, h⟩
    · rw [if_neg hc] at h; cases h
theorem wd_dig_inv {fs l : List UInt8} {w r : Nat} (h : wd (48 :: fs) l w = some r) : ∃ d cs, d < 16 ∧ l = hx d :: cs ∧ wd fs cs (w * 16 % 4294967296 + d) = some r := by
  cases l with
  | nil => simp [wd] at h
  | cons c cs =>
    rw [wd, if_pos rfl] at h
    rcases dgt_ways c with h1 | ⟨d, h1, h2, rfl⟩
    · rw [if_neg (by omega)] at h; cases h
    · rw [h2, if_pos (by omega)] at h; exact ⟨d, cs, h1, rfl, h⟩
theorem wd_nil_inv {l : List UInt8} {w r : Nat} (h : wd [] l w = some r) : l = [] ∧ w = r := by
  cases l with
  | nil => simp [wd] at h; exact ⟨rfl, h⟩
  | cons c cs => simp [wd] at h
theorem step16 {w d : Nat} (h : w < 268435456) : w * 16 % 4294967296 + d = w * 16 + d := by omega
theorem wd_body {p s t : Nat} (hp : p < 65536) (hs : s < 256) (ht : t < 256) : wd fm (91 :: body p s t) 0 = some (p * 65536 + s * 256 + t) := by
  rw [body_eq]; unfold fm
  rw [wd_lit (by decide), wd_dig (by omega), wd_dig (by omega), wd_dig (by omega), wd_dig (by omega), wd_lit (by decide), wd_dig (by omega), wd_dig (by omega), wd_lit (by decide), wd_dig (by omega), wd_dig (by omega), wd_lit (by decide)]
  have h1 : 0 * 16 % 4294967296 + p / 4096 % 16 = p / 4096 := by omega
  rw [h1]; clear h1
  have h2 : p / 4096 * 16 % 4294967296 + p / 256 % 16 = p / 256 := by omega
  rw [h2]; clear h2
  have h3 : p / 256 * 16 % 4294967296 + p / 16 % 16 = p / 16 := by omega
  rw [h3]; clear h3
  have h4 : p / 16 * 16 % 4294967296 + p % 16 = p := by omega
  rw [h4]; clear h4
  have h5 : p * 16 % 4294967296 + s / 16 % 16 = p * 16 + s / 16 := by omega
  rw [h5]; clear h5
  have h6 : (p * 16 + s / 16) * 16 % 4294967296 + s % 16 = p * 256 + s := by omega
  rw [h6]; clear h6
  have h7 : (p * 256 + s) * 16 % 4294967296 + t / 16 % 16 = p * 4096 + s * 16 + t / 16 := by omega
  rw [h7]; clear h7
  have h8 : (p * 4096 + s * 16 + t / 16) * 16 % 4294967296 + t % 16 = p * 65536 + s * 256 + t := by rw [step16 (by omega)]; omega
  rw [h8, wd_nil]
theorem wd_inv {l : List UInt8} {w : Nat} (h : wd fm l 0 = some w) : w < 4294967296 ∧ l = 91 :: body (w / 65536) (w / 256 % 256) (w % 256) := by
  unfold fm at h
  have h0 := h; clear h
  obtain ⟨l1, rfl, h1⟩ := wd_lit_inv (by decide) h0
  obtain ⟨d1, l2, b1, rfl, h2⟩ := wd_dig_inv h1
  obtain ⟨d2, l3, b2, rfl, h3⟩ := wd_dig_inv h2
  obtain ⟨d3, l4, b3, rfl, h4⟩ := wd_dig_inv h3
  obtain ⟨d4, l5, b4, rfl, h5⟩ := wd_dig_inv h4
  obtain ⟨l6, rfl, h6⟩ := wd_lit_inv (by decide) h5
  obtain ⟨d5, l7, b5, rfl, h7⟩ := wd_dig_inv h6
  obtain ⟨d6, l8, b6, rfl, h8⟩ := wd_dig_inv h7
  obtain ⟨l9, rfl, h9⟩ := wd_lit_inv (by decide) h8
  obtain ⟨d7, l10, b7, rfl, h10⟩ := wd_dig_inv h9
  obtain ⟨d8, l11, b8, rfl, h11⟩ := wd_dig_inv h10
  obtain ⟨l12, rfl, h12⟩ := wd_lit_inv (by decide) h11
  obtain ⟨rfl, h⟩ := wd_nil_inv h12
  clear h0 h1 h2 h3 h4 h5 h6 h7 h8 h9 h10 h11 h12
  have e1 : 0 * 16 % 4294967296 + d1 = d1 := by omega
  rw [e1] at h
  have e2 : d1 * 16 % 4294967296 + d2 = d1 * 16 + d2 := by omega
  rw [e2, step16 (by omega), step16 (by omega), step16 (by omega), step16 (by omega), step16 (by omega), step16 (by omega)] at h
  refine ⟨by omega, ?_⟩
  rw [body_eq]
  have g : ∀ a b : Nat, a = b → hx a = hx b := fun a b e => by rw [e]
  congr 1
  refine List.cons_eq_cons.2 ⟨g _ _ (by omega), List.cons_eq_cons.2 ⟨g _ _ (by omega), List.cons_eq_cons.2 ⟨g _ _ (by omega), List.cons_eq_cons.2 ⟨g _ _ (by omega), List.cons_eq_cons.2 ⟨rfl, List.cons_eq_cons.2 ⟨g _ _ (by omega), List.cons_eq_cons.2 ⟨g _ _ (by omega), List.cons_eq_cons.2 ⟨rfl, List.cons_eq_cons.2 ⟨g _ _ (by omega), List.cons_eq_cons.2 ⟨g _ _ (by omega), rfl⟩⟩⟩⟩⟩⟩⟩⟩⟩⟩
/-- The element whose text l is, if there is one. -/
def prs (l : List UInt8) : Option Nat :=
  match wd fm (if Lib.hasPrefix l [91, 42] then 91 :: l.drop 2 else l) 0 with
  | none => none
  | some w => if w % 256 < 128 then some (mk (w / 65536) (w / 256 % 256) (w % 256) (if Lib.hasPrefix l [91, 42] then 1 else 0)) else none
theorem pre_yes (l : List UInt8) : Lib.hasPrefix (91 :: 42 :: l) [91, 42] = true := by simp [Lib.hasPrefix]
theorem pre_inv {l : List UInt8} (h : Lib.hasPrefix l [91, 42] = true) : l = 91 :: 42 :: l.drop 2 := by
  unfold Lib.hasPrefix at h
  obtain ⟨t, rfl⟩ := List.isPrefixOf_iff_prefix.1 h
  rfl
theorem hx_ne {d : Nat} (h : d < 16) : hx d ≠ 42 := by
  have : ∀ d : Fin 16, hx d.1 ≠ 42 := by unfold hx; decide +kernel
  exact this ⟨d, h⟩
theorem pre_no (p s t : Nat) : Lib.hasPrefix (91 :: body p s t) [91, 42] = false := by
  rw [body_eq, Bool.eq_false_iff]
  intro h
  have := pre_inv h
  simp only [List.cons.injEq, true_and] at this
  exact hx_ne (by omega) this.1
theorem prs_text {e : Nat} (he : e < 4294967296) : prs (etext e) = some e := by
  unfold etext
  by_cases hv : e % 2 = 1
  · rw [if_pos hv]
    show prs (91 :: 42 :: body _ _ _) = _
    unfold prs
    rw [pre_yes, if_pos rfl, if_pos rfl]
    show (match wd fm (91 :: body _ _ _) 0 with | none => none | some w => _) = _
    rw [wd_body (by omega) (by omega) (by omega)]
    dsimp only
    rw [if_pos (by omega)]; unfold mk; congr 1; omega
  · rw [if_neg hv]
    show prs (91 :: body _ _ _) = _
    unfold prs
    rw [pre_no, if_neg (by simp), if_neg (by simp), wd_body (by omega) (by omega) (by omega)]
    dsimp only
    rw [if_pos (by omega)]; unfold mk; congr 1; omega
theorem prs_some {l : List UInt8} {e : Nat} (h : prs l = some e) : e < 4294967296 ∧ etext e = l := by
  unfold prs at h
  by_cases hv : Lib.hasPrefix l [91, 42] = true
  · rw [hv, if_pos rfl, if_pos rfl] at h
    have hl := pre_inv hv
    generalize l.drop 2 = r at *
    subst hl
    cases hw : wd fm (91 :: r) 0 with
    | none => rw [hw] at h; cases h
    | some w =>
      rw [hw] at h
      dsimp only at h
      obtain ⟨hlt, hb⟩ := wd_inv hw
      by_cases h128 : w % 256 < 128
      · rw [if_pos h128] at h
        cases h
        refine ⟨by unfold mk; omega, ?_⟩
        have hr : r = body (w / 65536) (w / 256 % 256) (w % 256) := by simpa using hb
        unfold etext
        have m1 : mk (w / 65536) (w / 256 % 256) (w % 256) 1 / 65536 = w / 65536 := by unfold mk; omega
        have m2 : mk (w / 65536) (w / 256 % 256) (w % 256) 1 / 256 % 256 = w / 256 % 256 := by unfold mk; omega
        have m3 : mk (w / 65536) (w / 256 % 256) (w % 256) 1 / 2 % 128 = w % 256 := by unfold mk; omega
        have m4 : mk (w / 65536) (w / 256 % 256) (w % 256) 1 % 2 = 1 := by unfold mk; omega
        rw [m1, m2, m3, m4, if_pos rfl, hr]; rfl
      · rw [if_neg h128] at h; cases h
  · have hv : Lib.hasPrefix l [91, 42] = false := by simpa using hv
    rw [hv, if_neg (by simp), if_neg (by simp)] at h
    cases hw : wd fm l 0 with
    | none => rw [hw] at h; cases h
    | some w =>
      rw [hw] at h
      dsimp only at h
      obtain ⟨hlt, hb⟩ := wd_inv hw
      by_cases h128 : w % 256 < 128
      · rw [if_pos h128] at h
        cases h
        refine ⟨by unfold mk; omega, ?_⟩
        unfold etext
        have m1 : mk (w / 65536) (w / 256 % 256) (w % 256) 0 / 65536 = w / 65536 := by unfold mk; omega
        have m2 : mk (w / 65536) (w / 256 % 256) (w % 256) 0 / 256 % 256 = w / 256 % 256 := by unfold mk; omega
        have m3 : mk (w / 65536) (w / 256 % 256) (w % 256) 0 / 2 % 128 = w % 256 := by unfold mk; omega
        have m4 : mk (w / 65536) (w / 256 % 256) (w % 256) 0 % 2 = 0 := by unfold mk; omega
        rw [m1, m2, m3, m4, if_neg (by omega), hb]; rfl
      · rw [if_neg h128] at h; cases h
theorem etext_len (e : Nat) : (etext e).length = if e % 2 = 1 then 13 else 12 := by
  unfold etext; rw [body_eq]; split <;> rfl
end Go.Proofs.Ytaabdpfhpolcgaa.E3
namespace Go.Proofs.Ytaabdpfhpolcgaa.E3
open Go.RowKit
theorem one {k : IntKind} {v v' : Int} (h : v' = v) : Ending.returned (.int k v) = Ending.returned (.int k v') := by rw [h]
theorem two {k k' : IntKind} {v v' e e' : Int} (h : v' = v ∧ e' = e) : Ending.returned (.tuple #[.int k v, .int k' e]) = Ending.returned (.tuple #[.int k v', .int k' e']) := by rw [h.1, h.2]
theorem bool_of {a b : Bool} (h : a = b) : Ending.returned (.bool a) = Ending.returned (.bool b) := by rw [h]
theorem and64 (k : Nat) (hk : k ≤ 63) {x : Nat} (hx : x < 18446744073709551616) : bits .and .u64 (x : Int) ((2 ^ k - 1 : Nat) : Int) = ((x % 2 ^ k : Nat) : Int) := by
  have h : 2 ^ k ≤ 2 ^ 63 := Nat.pow_le_pow_right (by omega) hk
  rw [u64_and_nat x (2 ^ k - 1) hx (by omega), Nat.and_two_pow_sub_one_eq_mod]
theorem and32 (k : Nat) (hk : k ≤ 31) {x : Nat} (hx : x < 4294967296) : bits .and .u32 (x : Int) ((2 ^ k - 1 : Nat) : Int) = ((x % 2 ^ k : Nat) : Int) := by
  have h : 2 ^ k ≤ 2 ^ 31 := Nat.pow_le_pow_right (by omega) hk
  rw [u32_and_nat x (2 ^ k - 1) hx (by omega), Nat.and_two_pow_sub_one_eq_mod]
theorem and_i64_k (k : Nat) (hk : k < 63) (n : Int) : bits .and .i64 n ((2 ^ k - 1 : Nat) : Int) = n % ((2 ^ k : Nat) : Int) := by
  have hlt : 2 ^ k < 2 ^ 63 := Nat.pow_lt_pow_right (by omega) hk
  have hm : (BitVec.ofInt 64 ((2 ^ k - 1 : Nat) : Int)).toNat = 2 ^ k - 1 := by
    rw [BitVec.toNat_ofInt]; omega
  have key : (BitVec.ofInt 64 n &&& BitVec.ofInt 64 ((2 ^ k - 1 : Nat) : Int)).toNat = (n % ((2 ^ 64 : Nat) : Int)).toNat % 2 ^ k := by
    rw [BitVec.toNat_and, BitVec.toNat_ofInt, hm, Nat.and_two_pow_sub_one_eq_mod]
  show IntKind.i64.wrap ((BitVec.ofInt 64 n &&& BitVec.ofInt 64 ((2 ^ k - 1 : Nat) : Int)).toNat : Nat) = _
  rw [key, IntKind.wrap_i64]
  have h0 : 0 < 2 ^ k := Nat.pos_of_ne_zero (by simp)
  have h1 : ((n % ((2 ^ 64 : Nat) : Int)).toNat % 2 ^ k : Nat) < 2 ^ k := Nat.mod_lt _ h0
  have h2 : (((n % ((2 ^ 64 : Nat) : Int)).toNat % 2 ^ k : Nat) : Int) = n % ((2 ^ k : Nat) : Int) := by
    rw [Int.natCast_emod, Int.toNat_of_nonneg (Int.emod_nonneg _ (by decide))]
    exact Int.emod_emod_of_dvd n (Int.natCast_dvd_natCast.2 (Nat.pow_dvd_pow 2 (by omega)))
  rw [← h2]; omega
/-- Some bits in the midst are cleared. -/
theorem clear_mid (a k e : Nat) (hk : a + k ≤ 32) (he : e < 4294967296) : e &&& (4294967295 - e / 2 ^ a % 2 ^ k * 2 ^ a) = e - e / 2 ^ a % 2 ^ k * 2 ^ a := by
  have e32 : (4294967295 : Nat) = 2 ^ 32 - 1 := by decide
  have hm : e / 2 ^ a % 2 ^ k * 2 ^ a < 2 ^ 32 := by
    calc e / 2 ^ a % 2 ^ k * 2 ^ a < 2 ^ k * 2 ^ a := Nat.mul_lt_mul_of_pos_right (Nat.mod_lt _ (Nat.two_pow_pos k)) (Nat.two_pow_pos a)
      _ = 2 ^ (k + a) := (Nat.pow_add ..).symm
      _ ≤ 2 ^ 32 := Nat.pow_le_pow_right (by omega) (by omega)
  have hsplit : e = e / 2 ^ a % 2 ^ k * 2 ^ a + (e / 2 ^ (a + k) * 2 ^ (a + k) + e % 2 ^ a) := by
    have h1 := Nat.div_add_mod e (2 ^ a)
    have h2 := Nat.div_add_mod (e / 2 ^ a) (2 ^ k)
    rw [Nat.div_div_eq_div_mul, ← Nat.pow_add] at h2
    have h3 : 2 ^ a * (e / 2 ^ a) = 2 ^ a * (2 ^ k * (e / 2 ^ (a + k))) + 2 ^ a * (e / 2 ^ a % 2 ^ k) := by rw [← Nat.mul_add, h2]
    have h4 : 2 ^ a * (2 ^ k * (e / 2 ^ (a + k))) = e / 2 ^ (a + k) * 2 ^ (a + k) := by rw [← Nat.mul_assoc, ← Nat.pow_add, Nat.mul_comm]
    have h5 : 2 ^ a * (e / 2 ^ a % 2 ^ k) = e / 2 ^ a % 2 ^ k * 2 ^ a := Nat.mul_comm ..
    omega
  have hr : e - e / 2 ^ a % 2 ^ k * 2 ^ a = 2 ^ a * (2 ^ k * (e / 2 ^ (a + k))) + e % 2 ^ a := by
    have : e / 2 ^ (a + k) * 2 ^ (a + k) = 2 ^ a * (2 ^ k * (e / 2 ^ (a + k))) := by
      generalize e / 2 ^ (a + k) = q; rw [Nat.pow_add, Nat.mul_comm, Nat.mul_assoc]
    omega
  rw [hr]
  apply Nat.eq_of_testBit_eq
  intro j
  rw [Nat.testBit_and, e32, show 2 ^ 32 - 1 - e / 2 ^ a % 2 ^ k * 2 ^ a = 2 ^ 32 - (e / 2 ^ a % 2 ^ k * 2 ^ a + 1) by omega, Nat.testBit_two_pow_sub_succ hm, Nat.testBit_mul_two_pow,
    Nat.testBit_mod_two_pow, Nat.testBit_div_two_pow, Nat.testBit_two_pow_mul_add _ (Nat.mod_lt _ (Nat.two_pow_pos a))]
  by_cases hj : j < 32
  · by_cases h1 : j < a
    · simp [h1, hj, show ¬ a ≤ j by omega]
    · by_cases h2 : j < a + k
      · have h3 : j - a < k := by omega
        simp [h1, h3, hj, show a ≤ j by omega, show j - a + a = j by omega, Nat.testBit_two_pow_mul, show ¬ k ≤ j - a by omega]
      · have h3 : ¬ j - a < k := by omega
        have h4 : (e / 2 ^ (a + k)).testBit (j - a - k) = e.testBit j := by rw [Nat.testBit_div_two_pow]; congr 1; omega
        simp [h1, h3, hj, Nat.testBit_two_pow_mul, show k ≤ j - a by omega, h4]
  · have hb : e.testBit j = false := Nat.testBit_lt_two_pow (Nat.lt_of_lt_of_le he (by rw [show (4294967296 : Nat) = 2 ^ 32 by decide]; exact Nat.pow_le_pow_right (by omega) (by omega)))
    have h1 : ¬ j < a := by omega
    have hb2 : (e / 2 ^ (a + k)).testBit (j - a - k) = false := by
      rw [Nat.testBit_div_two_pow, show j - a - k + (a + k) = j by omega]; exact hb
    simp [h1, hb, hj, Nat.testBit_two_pow_mul, hb2]
/-- .. and others laid in their place. -/
theorem lay_mid (a k c n : Nat) (hn : n < 2 ^ k) (hc : c / 2 ^ a % 2 ^ k = 0) : c ||| n * 2 ^ a = c + n * 2 ^ a := by
  have hl := Nat.div_add_mod c (2 ^ a)
  have h2 := Nat.div_add_mod (c / 2 ^ a) (2 ^ k)
  rw [hc, Nat.add_zero] at h2
  obtain ⟨q, hq⟩ : ∃ q, q = c / 2 ^ a / 2 ^ k := ⟨_, rfl⟩
  rw [← hq] at h2
  have hlo : c % 2 ^ a < 2 ^ a := Nat.mod_lt _ (Nat.two_pow_pos a)
  have e1 : c = 2 ^ a * (2 ^ k * q) + c % 2 ^ a := by rw [h2]; exact hl.symm
  have e2 : c + n * 2 ^ a = 2 ^ a * (2 ^ k * q + n) + c % 2 ^ a := by rw [Nat.mul_add, Nat.mul_comm (2 ^ a) n]; omega
  rw [e2]
  apply Nat.eq_of_testBit_eq
  intro j
  rw [Nat.testBit_or, Nat.testBit_mul_two_pow, Nat.testBit_two_pow_mul_add _ hlo]
  conv => lhs; rw [e1, Nat.testBit_two_pow_mul_add _ hlo]
  by_cases h1 : j < a
  · simp [h1, show ¬ a ≤ j by omega]
  · simp only [h1, if_false, show a ≤ j by omega, decide_true, Bool.true_and]
    rw [Nat.testBit_two_pow_mul_add _ hn, Nat.testBit_two_pow_mul]
    by_cases h3 : j - a < k
    · simp [h3, show ¬ k ≤ j - a by omega]
    · have hz : n.testBit (j - a) = false := Nat.testBit_lt_two_pow (Nat.lt_of_lt_of_le hn (Nat.pow_le_pow_right (by omega) (by omega)))
      simp [h3, show k ≤ j - a by omega, hz]
/-- A word of 32 bits with the k bits from a on laid anew. -/
theorem put_mid (a k e n : Nat) (hk : a + k ≤ 32) (hn : n < 2 ^ k) (he : e < 4294967296) :
    bits .or .u32 (bits .andNot .u32 (e : Int) ((e / 2 ^ a % 2 ^ k * 2 ^ a : Nat) : Int)) ((n * 2 ^ a : Nat) : Int) = ((e - e / 2 ^ a % 2 ^ k * 2 ^ a + n * 2 ^ a : Nat) : Int) := by
  have hlt : ∀ x : Nat, x < 2 ^ k → x * 2 ^ a < 4294967296 := by
    intro x hx
    calc x * 2 ^ a < 2 ^ k * 2 ^ a := Nat.mul_lt_mul_of_pos_right hx (Nat.two_pow_pos a)
      _ = 2 ^ (k + a) := (Nat.pow_add ..).symm
      _ ≤ 2 ^ 32 := Nat.pow_le_pow_right (by omega) (by omega)
      _ = 4294967296 := by decide
  rw [u32_andNot_nat _ _ he (hlt _ (Nat.mod_lt _ (Nat.two_pow_pos k))), clear_mid a k e hk he, u32_or_nat _ _ (by omega) (hlt n hn)]
  rw [lay_mid a k _ n hn ?_]
  have h2 := Nat.div_add_mod (e / 2 ^ a) (2 ^ k)
  have h3 : e / 2 ^ a - e / 2 ^ a % 2 ^ k = (e - e / 2 ^ a % 2 ^ k * 2 ^ a) / 2 ^ a := by
    rw [Nat.mul_comm, Nat.sub_mul_div]
  rw [← h3, show e / 2 ^ a - e / 2 ^ a % 2 ^ k = 2 ^ k * (e / 2 ^ a / 2 ^ k) by omega]
  exact Nat.mul_mod_right ..
theorem put_lit {a k M K : Nat} (hM : 2 ^ a = M) (hK : 2 ^ k = K) (e n : Nat) (hk : a + k ≤ 32) (hn : n < K) (he : e < 4294967296) :
    bits .or .u32 (bits .andNot .u32 (e : Int) ((e : Int) / M % K * M)) ((n : Int) * M) = ((e - e / M % K * M + n * M : Nat) : Int) := by
  subst hM hK
  have h := put_mid a k e n hk hn he
  rw [← h]; norm_cast
theorem put_1 {e : Nat} {v : Int} (he : e < 4294967296) : v % 65536 * 65536 + (e : Int) % 65536 = bits .or .u32 (bits .andNot .u32 (e : Int) ((e : Int) / 65536 * 65536)) (v % 65536 * 65536) := by
  obtain ⟨n, hn⟩ := Int.eq_ofNat_of_zero_le (show 0 ≤ v % 65536 by omega)
  have hn' : n < 65536 := by omega
  rw [hn]
  have e1 : (e : Int) / 65536 * 65536 = (e : Int) / ((65536 : Nat) : Int) % ((65536 : Nat) : Int) * ((65536 : Nat) : Int) := by omega
  have h := put_lit (a := 16) (k := 16) (M := 65536) (K := 65536) (by decide) (by decide) e n (by omega) hn' he
  rw [e1]
  refine Eq.trans ?_ h.symm
  clear h e1 hn; omega
theorem put_2 {e : Nat} {v : Int} (he : e < 4294967296) : (e : Int) / 65536 * 65536 + v % 256 * 256 + (e : Int) % 256 = bits .or .u32 (bits .andNot .u32 (e : Int) ((e : Int) / 256 % 256 * 256)) (v % 256 * 256) := by
  obtain ⟨n, hn⟩ := Int.eq_ofNat_of_zero_le (show 0 ≤ v % 256 by omega)
  have hn' : n < 256 := by omega
  rw [hn]
  have h := put_lit (a := 8) (k := 8) (M := 256) (K := 256) (by decide) (by decide) e n (by omega) hn' he
  refine Eq.trans ?_ h.symm
  clear h hn; omega
theorem put_3 {e : Nat} {v : Int} (he : e < 4294967296) : (e : Int) / 256 * 256 + v % 128 * 2 + (e : Int) % 2 = bits .or .u32 (bits .andNot .u32 (e : Int) ((e : Int) / 2 % 128 * 2)) (v % 128 * 2) := by
  obtain ⟨n, hn⟩ := Int.eq_ofNat_of_zero_le (show 0 ≤ v % 128 by omega)
  have hn' : n < 128 := by omega
  rw [hn]
  have h := put_lit (a := 1) (k := 7) (M := 2) (K := 128) (by decide) (by decide) e n (by omega) hn' he
  refine Eq.trans ?_ h.symm
  clear h hn; omega
theorem put_0 {e : Nat} (he : e < 4294967296) : (e : Int) = bits .or .u32 (bits .andNot .u32 (e : Int) 0) 0 := by
  have h := put_mid 0 0 e 0 (by omega) (by omega) he
  simp only [Nat.pow_zero, Nat.mod_one, Nat.mul_one] at h
  exact (h.trans (by omega)).symm
theorem wrap_u32_nat {x : Nat} (h : x < 4294967296) : IntKind.u32.wrap (x : Int) = x := by rw [IntKind.wrap_u32']; omega
end Go.Proofs.Ytaabdpfhpolcgaa.E3
