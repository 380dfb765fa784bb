/-
  PACKED for a claim.
-/
import Derived.Test.YteibnfeokgibmaaGreatProg
import Derived.RegionTactic
import Derived.Test.YteibnfeokgibmaaGreatP02
set_option linter.unusedVariables false
set_option linter.unusedSimpArgs false
set_option maxRecDepth 100000
section
namespace Go.Proofs.YteibnfeokgibmaaGreat.T2
open Go.RowKit
theorem yee {a b : Bool} (h : a = b) : Ending.returned (.bool a) = Ending.returned (.bool b) := by rw [h]
theorem int_of {k : IntKind} {a b : Int} (h : a = b) : Ending.returned (.int k a) = Ending.returned (.int k b) := by rw [h]
theorem two_of {a b c d : Int} (h : a = b) (h' : c = d) : Ending.returned (.tuple #[.int .i64 a, .int .i64 c]) = Ending.returned (.tuple #[.int .i64 b, .int .i64 d]) := by rw [h, h']
theorem yst (x : Nat) (w : World) (hx : x < 256) : Calls Tryz.prog 184 #[.int .u8 x] w fun e w' => e = .returned (.tuple #[.int .i64 (1114112 + x), .int .i64 1]) /\ w = w' := by
 go_enter Tryz.func184, Tryz.ntmps184
 go_wp2
 go_ret2
 exact ⟨rfl, rfl⟩
theorem yht (c : Int) (w : World) : Calls Tryz.prog 185 #[.int .i64 c] w fun e w' => e = .returned (.bool (isPt c)) /\ w = w' := by
 go_enter Tryz.func185, Tryz.ntmps185
 go_wp2
 all_goals go_ret
 all_goals exact ⟨yee (by simp [isPt] <;> omega), rfl⟩
theorem yfa (c : Int) (w : World) : Calls Tryz.prog 230 #[.int .i64 c] w fun e w' => e = .returned (.bool (isSg c)) /\ w = w' := by
 obtain ⟨p, hp⟩ : ∃ p, Hid (isPt c = p) := ⟨_, rfl⟩
 go_enter Tryz.func230, Tryz.ntmps230
 go_wp2_with (go_at_call 185; refine (yht _ _).mono ?_; rintro e w' ⟨rfl, rfl⟩)
 all_goals go_ret
 all_goals exact ⟨yee (by simp [isSg, *] <;> omega), rfl⟩
theorem yoj (c : Int) (w : World) : Calls Tryz.prog 186 #[.int .i64 c] w fun e w' => e = .returned (.int .i64 (if c < 128 then 1 else if c < 2048 then 2 else if c < 65536 then 3 else 4)) /\ w = w' := by
 go_enter Tryz.func186, Tryz.ntmps186
 go_wp2
 all_goals go_ret
 all_goals exact ⟨rfl, rfl⟩
theorem yjv (c : Int) (w : World) : Calls Tryz.prog 187 #[.int .i64 c] w fun e w' => e = .returned (.int .u8 (128 + c % 64)) /\ w = w' := by
 have h1 := and63 c; have h2 := or128 (b := c % 64) (by omega) (by omega)
 go_enter Tryz.func187, Tryz.ntmps187
 go_wp2
 go_ret
 exact ⟨int_of (by omega), rfl⟩
theorem ytg (x : Nat) (w : World) (hx : x < 256) : Calls Tryz.prog 143 #[.int .u8 x] w fun e w' => e = .returned (.bool (isT x)) /\ w = w' := by
 go_enter Tryz.func143, Tryz.ntmps143
 go_wp2
 all_goals go_ret
 all_goals (refine ⟨yee (Bool.eq_iff_iff.2 ?_), rfl⟩; (try simp only [beq_iff_eq, beq_eq_false_iff_ne, ne_eq] at *); simp only [isSg, isPt, isT, Bool.or_eq_true, Bool.and_eq_true, decide_eq_true_eq, Bool.false_eq_true, true_iff, false_iff, iff_true, iff_false] <;> omega)
def ldS (x : Nat) : Int := if x < 128 then 1 else if x < 192 then 0 else if x < 224 then 2 else if x < 240 then 3 else if x < 248 then 4 else 0
def ldC (x : Nat) : Int := if x < 128 then x else if x < 192 then 0 else if x < 224 then (x : Int) - 192 else if x < 240 then (x : Int) - 224 else if x < 248 then (x : Int) - 240 else 0
theorem yzt (x : Nat) (w : World) (hx : x < 256) : Calls Tryz.prog 183 #[.int .u8 x] w fun e w' => e = .returned (.tuple #[.int .i64 (ldS x), .int .i64 (ldC x)]) /\ w = w' := by
 have a1 := u8_31 hx; have a2 := u8_15 hx; have a3 := u8_7 hx
 go_enter Tryz.func183, Tryz.ntmps183
 go_wp2
 all_goals go_ret2
 all_goals (refine ⟨two_of ?_ ?_, rfl⟩ <;> simp only [beq_iff_eq, beq_eq_false_iff_ne, ne_eq] at *)
 all_goals first | (unfold ldS; (repeat' split) <;> omega) | (unfold ldC; (repeat' split) <;> omega)
theorem zaj (c : Int) (w : World) : Calls Tryz.prog 146 #[.int .i64 c] w fun e w' => e = .returned (.int .i64 (fold c)) /\ w = w' := by
 have H := zH (yig c); generalize fold c = f at *
 go_enter Tryz.func146, Tryz.ntmps146
 go_wp2
 all_goals go_ret
 all_goals (refine ⟨int_of ?_, rfl⟩; have h := H.out; clear H; simp only [beq_iff_eq, beq_eq_false_iff_ne, bne_iff_ne, bne_eq_false_iff_eq, ne_eq, Bool.or_eq_true, Bool.and_eq_true, decide_eq_true_eq, Bool.or_eq_false_iff, decide_eq_false_iff_not, Bool.and_eq_false_imp, Bool.not_eq_true', Bool.not_eq_false'] at *; omega)
end Go.Proofs.YteibnfeokgibmaaGreat.T2
namespace Go.Proofs.YteibnfeokgibmaaGreat.T2
open Go.RowKit
theorem gb_at {l : List UInt8} {k : Nat} (h : k < l.length) : gb l k = l[k].toNat := by
 unfold gb; rw [List.getD_eq_getElem?_getD, List.getElem?_eq_getElem h]; rfl
theorem ba_len (s : ByteArray) : s.data.toList.length = s.size := rfl
theorem gb_ba (s : ByteArray) {k : Nat} (h : k < s.size) : gb s.data.toList k = s[k].toNat := by
 rw [gb_at (by rw [ba_len]; exact h)]; rfl
def cv (l : List UInt8) : Nat -> Int
 | 0 => 0
 | 1 => ldC (gb l 0)
 | k + 2 => cv l (k + 1) * 64 + ((gb l (k + 1) % 64 : Nat) : Int)
theorem cv_one (l : List UInt8) : cv l 1 = ldC (gb l 0) := rfl
theorem ycx (l : List UInt8) (k : Nat) (h : 1 <= k) : cv l (k + 1) = cv l k * 64 + ((gb l k % 64 : Nat) : Int) := by
 obtain ⟨k, rfl⟩ : ∃ j, k = j + 1 := ⟨k - 1, by omega⟩
 rfl
theorem yic (x : Nat) (hx : x < 256) : (x < 128 /\ ldS x = 1 /\ ldC x = x) \/ (128 <= x /\ x < 192 /\ ldS x = 0 /\ ldC x = 0) \/ (192 <= x /\ x < 224 /\ ldS x = 2 /\ ldC x = (x : Int) - 192) \/ (224 <= x /\ x < 240 /\ ldS x = 3 /\ ldC x = (x : Int) - 224) \/ (240 <= x /\ x < 248 /\ ldS x = 4 /\ ldC x = (x : Int) - 240) \/ (248 <= x /\ ldS x = 0 /\ ldC x = 0) := by
 unfold ldS ldC
 by_cases h1 : x < 128
 ·left; exact ⟨h1, if_pos h1, if_pos h1⟩
 by_cases h2 : x < 192
 ·right; left; refine ⟨by omega, h2, ?_, ?_⟩ <;> rw [if_neg h1, if_pos h2]
 by_cases h3 : x < 224
 ·right; right; left; refine ⟨by omega, h3, ?_, ?_⟩ <;> rw [if_neg h1, if_neg h2, if_pos h3]
 by_cases h4 : x < 240
 ·right; right; right; left; refine ⟨by omega, h4, ?_, ?_⟩ <;> rw [if_neg h1, if_neg h2, if_neg h3, if_pos h4]
 by_cases h5 : x < 248
 ·right; right; right; right; left; refine ⟨by omega, h5, ?_, ?_⟩ <;> rw [if_neg h1, if_neg h2, if_neg h3, if_neg h4, if_pos h5]
 ·right; right; right; right; right; refine ⟨by omega, ?_, ?_⟩ <;> rw [if_neg h1, if_neg h2, if_neg h3, if_neg h4, if_neg h5]
theorem yev {l : List UInt8} (h0 : 128 <= gb l 0) (h2 : is2 l = false) (h3 : is3 l = false) (h4 : is4 l = false) : dec l = (1114112 + gb l 0, 1) := by
 unfold dec; rw [if_neg (by omega), h2, h3, h4]; rfl
theorem not2 {l : List UInt8} (h : ¬ (194 <= gb l 0 /\ gb l 0 <= 223 /\ 1 < l.length /\ 128 <= gb l 1 /\ gb l 1 <= 191)) : is2 l = false := by rw [Bool.eq_false_iff]; exact fun h' => h (ybl.1 h')
theorem not3 {l : List UInt8} (h : ¬ (224 <= gb l 0 /\ gb l 0 <= 239 /\ 2 < l.length /\ (128 <= gb l 1 /\ gb l 1 <= 191) /\ (128 <= gb l 2 /\ gb l 2 <= 191) /\ 2048 <= v3 l /\ (v3 l < 55296 \/ 57343 < v3 l))) : is3 l = false := by rw [Bool.eq_false_iff]; exact fun h' => h (ybo.1 h')
theorem not4 {l : List UInt8} (h : ¬ (240 <= gb l 0 /\ gb l 0 <= 244 /\ 3 < l.length /\ (128 <= gb l 1 /\ gb l 1 <= 191) /\ (128 <= gb l 2 /\ gb l 2 <= 191) /\ (128 <= gb l 3 /\ gb l 3 <= 191) /\ 65536 <= v4 l /\ v4 l <= 1114111)) : is4 l = false := by rw [Bool.eq_false_iff]; exact fun h' => h (ybu.1 h')
theorem dec_p1 {l : List UInt8} (hl : 0 < l.length) (h : ldS (gb l 0) = 0 \/ (l.length : Int) < ldS (gb l 0)) : dec l = (1114112 + gb l 0, 1) := by
 have hb := gb_lt l 0
 rcases yic _ hb with ⟨a, e, -⟩ | ⟨a, b, e, -⟩ | ⟨a, b, e, -⟩ | ⟨a, b, e, -⟩ | ⟨a, b, e, -⟩ | ⟨a, e, -⟩ <;> rw [e] at h <;> first | omega | exact yev (by omega) (not2 (by omega)) (not3 (by omega)) (not4 (by omega))
theorem dec_p2 {l : List UInt8} {k : Nat} (hl : 0 < l.length) (hk : 1 <= k) (hk2 : (k : Int) < ldS (gb l 0)) (ht : gb l k / 64 ≠ 2) : dec l = (1114112 + gb l 0, 1) := by
 have hb := gb_lt l 0
 rcases yic _ hb with ⟨a, e, -⟩ | ⟨a, b, e, -⟩ | ⟨a, b, e, -⟩ | ⟨a, b, e, -⟩ | ⟨a, b, e, -⟩ | ⟨a, e, -⟩ <;> rw [e] at hk2
 iterate 2 (·omega)
 ·obtain rfl : k = 1 := by omega
  exact yev (by omega) (not2 (by omega)) (not3 (by omega)) (not4 (by omega))
 ·obtain rfl | rfl : k = 1 \/ k = 2 := by omega
  iterate 2 (·exact yev (by omega) (not2 (by omega)) (not3 (by omega)) (not4 (by omega)))
 ·obtain rfl | rfl | rfl : k = 1 \/ k = 2 \/ k = 3 := by omega
  iterate 3 (·exact yev (by omega) (not2 (by omega)) (not3 (by omega)) (not4 (by omega)))
 ·omega
def szP (c : Int) : Int := if c < 128 then 1 else if c < 2048 then 2 else if c < 65536 then 3 else 4
theorem yhk (c : Int) : (c < 128 /\ szP c = 1) \/ (128 <= c /\ c < 2048 /\ szP c = 2) \/ (2048 <= c /\ c < 65536 /\ szP c = 3) \/ (65536 <= c /\ szP c = 4) := by
 unfold szP
 by_cases h1 : c < 128
 ·exact .inl ⟨h1, if_pos h1⟩
 by_cases h2 : c < 2048
 ·exact .inr (.inl ⟨by omega, h2, by rw [if_neg h1, if_pos h2]⟩)
 by_cases h3 : c < 65536
 ·exact .inr (.inr (.inl ⟨by omega, h3, by rw [if_neg h1, if_neg h2, if_pos h3]⟩))
 ·exact .inr (.inr (.inr ⟨by omega, by rw [if_neg h1, if_neg h2, if_neg h3]⟩))
theorem pt_no {c : Int} (h : ¬ (0 <= c /\ c <= 1114111 /\ (c < 55296 \/ 57343 < c))) : isPt c = false := by rw [Bool.eq_false_iff]; exact fun h' => h (yav.1 h')
theorem dec_p3 {l : List UInt8} {n : Nat} (hl : 0 < l.length) (hn : ldS (gb l 0) = n) (h1 : 1 <= n) (hle : n <= l.length) (ht : ∀ j, 1 <= j -> j < n -> gb l j / 64 = 2) :
  (isPt (cv l n) = true /\ szP (cv l n) = n /\ ((dec l).1 : Int) = cv l n /\ (dec l).2 = n) \/ ((isPt (cv l n) = false \/ szP (cv l n) ≠ n) /\ dec l = (1114112 + gb l 0, 1)) := by
 have hb := gb_lt l 0
 rcases yic _ hb with ⟨a, e, c⟩ | ⟨a, b, e, c⟩ | ⟨a, b, e, c⟩ | ⟨a, b, e, c⟩ | ⟨a, b, e, c⟩ | ⟨a, e, c⟩ <;> rw [e] at hn
 ·obtain rfl : n = 1 := by omega
  left
  have hc : cv l 1 = (gb l 0 : Int) := by rw [cv_one, c]
  rw [hc]; refine ⟨yav.2 (by omega), by rcases yhk (gb l 0) with h | h | h | h <;> omega, ?_⟩
  have : dec l = (gb l 0, 1) := by unfold dec; rw [if_pos a]
  rw [this]; exact ⟨rfl, rfl⟩
 ·omega
 ·obtain rfl : n = 2 := by omega
  have t1 := ht 1 (by omega) (by omega)
  have hv := v2_eq l
  have hc : cv l 2 = (v2 l : Int) := by rw [ycx l 1 (by omega), cv_one, c]; omega
  rw [hc]; have hs := yhk (v2 l)
  by_cases h : 194 <= gb l 0
  ·left
   have hi : is2 l = true := ybl.2 (by omega)
   have hd : dec l = (v2 l, 2) := by unfold dec; rw [if_neg (by omega), if_pos hi]
   rw [hd]; exact ⟨yav.2 (by omega), by omega, rfl, rfl⟩
  ·right
   exact ⟨.inr (by omega), yev (by omega) (not2 (by omega)) (not3 (by omega)) (not4 (by omega))⟩
 ·obtain rfl : n = 3 := by omega
  have t1 := ht 1 (by omega) (by omega)
  have t2 := ht 2 (by omega) (by omega)
  have hv := v3_eq l
  have hc : cv l 3 = (v3 l : Int) := by rw [ycx l 2 (by omega), ycx l 1 (by omega), cv_one, c]; omega
  rw [hc]; have hs := yhk (v3 l)
  have h2 : is2 l = false := not2 (by omega)
  by_cases h : 2048 <= v3 l /\ (v3 l < 55296 \/ 57343 < v3 l)
  ·left
   have hi : is3 l = true := ybo.2 (by omega)
   have hd : dec l = (v3 l, 3) := by unfold dec; rw [if_neg (by omega), h2, if_neg (by simp), if_pos hi]
   rw [hd]; exact ⟨yav.2 (by omega), by omega, rfl, rfl⟩
  ·right
   refine ⟨?_, yev (by omega) h2 (not3 (by omega)) (not4 (by omega))⟩
   by_cases h' : v3 l < 2048
   ·right; omega
   ·left; exact pt_no (by omega)
 ·obtain rfl : n = 4 := by omega
  have t1 := ht 1 (by omega) (by omega)
  have t2 := ht 2 (by omega) (by omega)
  have t3 := ht 3 (by omega) (by omega)
  have hv := v4_eq l
  have hc : cv l 4 = (v4 l : Int) := by rw [ycx l 3 (by omega), ycx l 2 (by omega), ycx l 1 (by omega), cv_one, c]; omega
  rw [hc]; have hs := yhk (v4 l)
  have h2 : is2 l = false := not2 (by omega)
  have h3 : is3 l = false := not3 (by omega)
  by_cases h : 65536 <= v4 l /\ v4 l <= 1114111
  ·left
   have hi : is4 l = true := ybu.2 (by omega)
   have hd : dec l = (v4 l, 4) := by unfold dec; rw [if_neg (by omega), h2, if_neg (by simp), h3, if_neg (by simp), if_pos hi]
   rw [hd]; exact ⟨yav.2 (by omega), by omega, rfl, rfl⟩
  ·right
   refine ⟨?_, yev (by omega) h2 h3 (not4 (by omega))⟩
   by_cases h' : v4 l < 65536
   ·right; omega
   ·left; exact pt_no (by omega)
 ·omega
theorem zaq {l : List UInt8} {n k : Nat} (hn : ldS (gb l 0) = n) (h1 : 1 <= k) (hk : k <= n) : 0 <= cv l k /\ cv l k < 2097152 := by
 have hb := gb_lt l 0; have b1 := gb_lt l 1; have b2 := gb_lt l 2; have b3 := gb_lt l 3; have c1 := cv_one l
 have c2 : cv l 2 = cv l 1 * 64 + ((gb l 1 % 64 : Nat) : Int) := ycx l 1 (by omega)
 have c3 : cv l 3 = cv l 2 * 64 + ((gb l 2 % 64 : Nat) : Int) := ycx l 2 (by omega)
 have c4 : cv l 4 = cv l 3 * 64 + ((gb l 3 % 64 : Nat) : Int) := ycx l 3 (by omega)
 rcases yic _ hb with ⟨a, e, c⟩ | ⟨a, b, e, c⟩ | ⟨a, b, e, c⟩ | ⟨a, b, e, c⟩ | ⟨a, b, e, c⟩ | ⟨a, e, c⟩ <;> rw [e] at hn
 ·obtain rfl : k = 1 := by omega
  omega
 ·omega
 ·obtain rfl | rfl : k = 1 \/ k = 2 := by omega
  all_goals omega
 ·obtain rfl | rfl | rfl : k = 1 \/ k = 2 \/ k = 3 := by omega
  all_goals omega
 ·obtain rfl | rfl | rfl | rfl : k = 1 \/ k = 2 \/ k = 3 \/ k = 4 := by omega
  all_goals omega
 ·omega
theorem ld_le (x : Nat) (hx : x < 256) : 0 <= ldS x /\ ldS x <= 4 /\ 0 <= ldC x /\ ldC x < 256 := by
 rcases yic x hx with h | h | h | h | h | h <;> omega
theorem szP_eq (c : Int) : (if c < 128 then 1 else if c < 2048 then 2 else if c < 65536 then 3 else 4) = szP c := rfl
theorem yvk {l : List UInt8} {x n : Nat} (hx : gb l 0 = x) (hn : ldS x = n) (w : World) : Calls Tryz.prog 183 #[.int .u8 (gb l 0)] w fun e w' => e = .returned (.tuple #[.int .i64 n, .int .i64 (ldC x)]) /\ w = w' := by
 rw [hx, <- hn]; exact yzt x w (by rw [<- hx]; exact gb_lt _ _)
theorem ygr {l : List UInt8} {x : Nat} (hx : gb l 0 = x) (w : World) : Calls Tryz.prog 184 #[.int .u8 (gb l 0)] w fun e w' => e = .returned (.tuple #[.int .i64 (1114112 + x), .int .i64 1]) /\ w = w' := by
 rw [hx]; exact yst x w (by rw [<- hx]; exact gb_lt _ _)
set_option maxRecDepth 200000 in
theorem yij (s : ByteArray) (w : World) (h0 : 0 < s.size) (hs : s.size <= maxLen) :
  Calls Tryz.prog 144 #[.string s] w fun e w' => e = .returned (.tuple #[.int .i64 (dec s.data.toList).1, .int .i64 (dec s.data.toList).2]) /\ w = w' := by
 obtain ⟨l, hl⟩ : ∃ l, s.data.toList = l := ⟨_, rfl⟩
 have HG : ∀ (k : Nat) (h : k < s.size), (s[k]'h).toNat = gb l k := fun k h => by rw [<- hl]; exact (gb_ba s h).symm
 have hll : l.length = s.size := by rw [<- hl, ba_len]
 rw [hl]; clear hl
 have hl : 0 < l.length := by omega
 obtain ⟨x, hx⟩ : ∃ x, gb l 0 = x := ⟨_, rfl⟩; have hb := gb_lt l 0; rw [hx] at hb; have hle := ld_le _ hb; obtain ⟨n, hn⟩ : ∃ n : Nat, ldS x = n := ⟨(ldS x).toNat, by omega⟩
 rw [hn] at hle; have P1 := zH (@dec_p1 l hl); have P2 := zH (fun k => @dec_p2 l k hl)
 have P3 := zH (@dec_p3 l n hl); have CB := zH (fun k => @zaq l n k)
 have CO := zH (cv_one l); have CN := zH (ycx l); have GB := zH (gb_lt l); have HX := zH hx; obtain ⟨D, hD⟩ : ∃ D, dec l = D := ⟨_, rfl⟩; rw [hx, hn, hD] at P1 P3; rw [hx, hn, hD] at P2; rw [hx, hn] at CB; rw [hx] at CO; rw [hD]; have HN := zH hn; have HK := zH hll; clear hD hl hx
 go_enter Tryz.func144, Tryz.ntmps144
 by_cases hbad : n = 0 \/ s.size < n
 ·have PB := P1.out (by omega)
  clear P1 P2 P3 CB CO CN GB
  go_wp2_with (first
   | (go_at_call 183; refine (yvk HX.out HN.out _).mono ?_; rintro e w' ⟨rfl, rfl⟩)
   | (go_at_call 184; refine (ygr HX.out _).mono ?_; rintro e w' ⟨rfl, rfl⟩))
  all_goals go_ret2
  all_goals exact ⟨by rw [PB]; rfl, rfl⟩
 ·obtain ⟨n1, n2⟩ : 1 <= n /\ n <= s.size := by omega
  clear hbad P1; have p2 := fun k => P2.out (k := k)
  have P3' := zH (P3.out rfl n1 (by omega))
  have CB' := zH (fun k h1 h2 => CB.out k rfl h1 h2)
  have n3 : ¬ n = 0 := by omega
  have n4 : ¬ s.size < n := by omega
  have d1 : ((n : Int) == 0) = false := by simp; omega
  have d2 : decide ((s.size : Int) < n) = false := by simp; omega
  clear P3 CB
  go_wp2_with (first
   | (go_at_call 183; refine (yvk HX.out HN.out _).mono ?_; rintro e w' ⟨rfl, rfl⟩)
   | (go_at_call 184; refine (ygr HX.out _).mono ?_; rintro e w' ⟨rfl, rfl⟩))
  go_loop [2, 3, 4] (fun c m i => ∃ k : Nat, 1 <= k /\ k <= n /\ m = .int .i64 n /\ i = .int .i64 k /\ c = .int .i64 (cv l k) /\ Hid (∀ j, 1 <= j -> j < k -> gb l j / 64 = 2)) (fun _ _ i => n - (intOf i).toNat)
  case atStart => exact ⟨1, by omega, n1, rfl, rfl, by rw [CO.out], by intro j h1 h2; omega⟩
  case round =>
   obtain ⟨k, k1, k2, rfl, rfl, rfl, HT⟩ := hrel; have hcb := CB'.out k k1 k2
   by_cases hlt : k < n
   ·have hks : k < s.size := by omega
    have e1 := u8_63 (gb_lt l k); have hcn := CN.out k k1; obtain ⟨v, hv⟩ : ∃ v, cv l k = v := ⟨_, rfl⟩; rw [hv] at hcb hcn; have e2 := @or6 v ((gb l k : Int) % 64) (by omega) (by omega) (by omega) (by omega)
    rw [hv]; have HCN := zH hcn; clear hcn hv
    go_wp2_with (first
     | (go_at_call 184; refine (ygr HX.out _).mono ?_; rintro e w' ⟨rfl, rfl⟩))
    ·have hq := p2 k k1 (by omega) (by simp only [bne_iff_ne] at *; omega)
     go_ret2
     exact ⟨by rw [hq]; rfl, rfl⟩
    ·have hq : gb l k / 64 = 2 := by simp only [bne_eq_false_iff_eq] at *; omega
     refine ⟨⟨k + 1, by omega, by omega, rfl, rfl, ?_, ?_⟩, ?_⟩
     ·rw [HCN.out, Int.natCast_emod]; rfl
     ·intro j h1 h2
      by_cases hj : j = k
      ·rw [hj, hq]
      ·exact HT.out j h1 (by omega)
     ·simp [intOf]; omega
   ·obtain rfl : k = n := by omega
    have P4 := P3'.out HT.out; obtain ⟨v, hv⟩ : ∃ v, cv l k = v := ⟨_, rfl⟩; rw [hv] at hcb P4; rw [hv]; clear hv P2 p2 CB' P3' HT CO CN; have P5 := zH P4; clear P4; obtain ⟨p, hp⟩ : ∃ p, isPt v = p := ⟨_, rfl⟩; obtain ⟨z, hz⟩ : ∃ z, szP v = z := ⟨_, rfl⟩; have HP := zH hp; have HZ := zH hz; clear hp hz
    cases p
    all_goals go_wp2_with (first
     | (go_at_call 184; refine (ygr HX.out _).mono ?_; rintro e w' ⟨rfl, rfl⟩)
     | (go_at_call 185; refine (yht _ _).mono ?_; rw [HP.out]; rintro e w' ⟨rfl, rfl⟩)
     | (go_at_call 186; refine (yoj _ _).mono ?_; rw [szP_eq, HZ.out]; rintro e w' ⟨rfl, rfl⟩))
    ·have hq : D = (1114112 + x, 1) := by
      rcases P5.out with ⟨h, -⟩ | ⟨-, h⟩
      ·rw [HP.out] at h; exact absurd h (by simp)
      ·exact h
     go_ret2
     exact ⟨by rw [hq]; rfl, rfl⟩
    ·have hq : D = (1114112 + x, 1) := by
      rcases P5.out with ⟨-, h, -⟩ | ⟨-, h⟩
      ·rw [HZ.out] at h; simp only [bne_iff_ne] at *; omega
      ·exact h
     go_ret2
     exact ⟨by rw [hq]; rfl, rfl⟩
    ·have hq : (D.1 : Int) = v /\ D.2 = k := by
      rcases P5.out with ⟨-, -, h⟩ | ⟨h | h, -⟩
      ·exact h
      ·rw [HP.out] at h; exact absurd h (by simp)
      ·rw [HZ.out] at h; simp only [bne_eq_false_iff_eq] at *; omega
     go_ret2
     exact ⟨by rw [hq.1, hq.2]; rfl, rfl⟩
end Go.Proofs.YteibnfeokgibmaaGreat.T2
end
namespace Go.Proofs.YteibnfeokgibmaaGreat.S6
open T2 (gb dec one isSg isPt sgs)
def isBl (x : Nat) : Bool := decide (x = 32) || decide (x = 10)
def isEn (x : Nat) : Bool := decide (x = 32) || decide (x = 10) || decide (x = 38) || decide (x = 60) || decide (x = 61) || decide (x = 47)
def blk : List UInt8 -> Nat
 | [] => 0
 | x :: t => if isBl x.toNat = true then blk t + 1 else 0
def endd (l : List UInt8) : Bool := decide (l.length = 0) || isEn (gb l 0)
def sg1 (l : List UInt8) : Bool × Int × Nat :=
 if gb l 0 = 92 then (if l.length <= 1 then (false, 0, 1) else (true, ((dec (l.drop 1)).1 : Int), 1 + (dec (l.drop 1)).2)) else (true, ((dec l).1 : Int), (dec l).2)
def colA (L : List UInt8) : Nat -> List Int -> Nat -> Bool × List Int × Nat
 | 0, acc, k => (decide (0 < acc.length), acc, k)
 | n + 1, acc, k => if endd (L.drop k) = true then (decide (0 < acc.length), acc, k)
  else if (sg1 (L.drop k)).1 = true then colA L n (acc ++ [(sg1 (L.drop k)).2.1]) (k + (sg1 (L.drop k)).2.2) else (false, [], k + (sg1 (L.drop k)).2.2)
def colD (L : List UInt8) : Nat -> List Int -> Nat -> Bool × List Int × Nat
 | 0, acc, k => if endd (L.drop k) = true then (decide (0 < acc.length), acc, k) else (false, [], k)
 | n + 1, acc, k => if endd (L.drop k) = true then (decide (0 < acc.length), acc, k)
  else if (sg1 (L.drop k)).1 = true then colD L n (acc ++ [(sg1 (L.drop k)).2.1]) (k + (sg1 (L.drop k)).2.2) else (false, [], k + (sg1 (L.drop k)).2.2)
def mk : Nat -> List UInt8
 | 1 => [38]
 | 2 => [60]
 | 3 => [60, 60]
 | 4 => [60, 60, 60]
 | 5 => [61]
 | _ => []
def relL (l : List UInt8) : Nat -> Nat × Nat
 | 0 => (0, 0)
 | n + 1 => if (mk (n + 1)).isPrefixOf l = true then (n + 1, (mk (n + 1)).length) else relL l n
def lts (l : List UInt8) : Nat := if gb l 1 = 60 then if gb l 2 = 60 then 3 else 2 else 1
def relD (l : List UInt8) : Nat × Nat := if gb l 0 = 38 then (1, 1) else if gb l 0 = 61 then (5, 1) else if gb l 0 = 60 then (1 + lts l, lts l) else (0, 0)
def seqP (L : List UInt8) (k : Nat) : Bool × List Int × Nat := colA L 3 [] (k + blk (L.drop k))
def seqD (L : List UInt8) (k : Nat) : Bool × List Int × Nat := colD L 3 [] (k + blk (L.drop k))
structure RV where
 rel : Int
 seq : List Int
 exp : List Int
instance : DecidableEq RV := fun a b =>
 if h : a.rel = b.rel /\ a.seq = b.seq /\ a.exp = b.exp then .isTrue (by cases a; cases b; obtain ⟨rfl, rfl, rfl⟩ := h; rfl)
 else .isFalse (by rintro rfl; exact h ⟨rfl, rfl, rfl⟩)
instance : Inhabited RV := ⟨⟨0, [], []⟩⟩
def af (L : List UInt8) (k : Nat) : Nat := k + blk (L.drop k)
def ruleP (L : List UInt8) (last k : Nat) : Bool × RV × Nat :=
 if (relL (L.drop k) last).1 = 0 then (false, default, k)
 else if (seqP L (k + (relL (L.drop k) last).2)).1 = false then (false, default, (seqP L (k + (relL (L.drop k) last).2)).2.2)
 else if (relL (L.drop k) last).1 ≠ 1 /\ gb L (af L (seqP L (k + (relL (L.drop k) last).2)).2.2) = 47 then
  ((seqP L (af L (seqP L (k + (relL (L.drop k) last).2)).2.2 + 1)).1, ⟨(relL (L.drop k) last).1, (seqP L (k + (relL (L.drop k) last).2)).2.1, (seqP L (af L (seqP L (k + (relL (L.drop k) last).2)).2.2 + 1)).2.1⟩, (seqP L (af L (seqP L (k + (relL (L.drop k) last).2)).2.2 + 1)).2.2)
 else (true, ⟨(relL (L.drop k) last).1, (seqP L (k + (relL (L.drop k) last).2)).2.1, []⟩, af L (seqP L (k + (relL (L.drop k) last).2)).2.2)
def parP (L : List UInt8) : Nat -> Nat -> List RV -> Nat -> List RV × Nat × Nat
 | 0, n, acc, k => ([], 0, 0)
 | f + 1, n, acc, k => if L.length <= k then (if 40 < n then ([], 0, 65) else (acc, 0, 0))
  else if (ruleP L (if n = 0 then 1 else 5) k).1 = false then ([], (ruleP L (if n = 0 then 1 else 5) k).2.2, 10)
  else parP L f (n + 1) (if n + 1 <= 40 then acc ++ [(ruleP L (if n = 0 then 1 else 5) k).2.1] else acc) (af L (ruleP L (if n = 0 then 1 else 5) k).2.2)
def expD (L : List UInt8) (r : Nat) (k : Nat) : Bool × List Int × Nat :=
 if r ≠ 1 /\ gb L (af L k) = 47 then seqD L (af L k + 1) else (true, [], af L k)
def parD (L : List UInt8) : Nat -> List RV -> Nat -> List RV × Nat × Nat
 | 0, out, k => ([], 0, 0)
 | f + 1, out, k => if L.length <= k then (if 40 < out.length then ([], 0, 65) else (out, 0, 0))
  else if (relD (L.drop k)).1 = 0 \/ (out.length = 0 /\ (relD (L.drop k)).1 ≠ 1) then ([], k, 10)
  else if (seqD L (k + (relD (L.drop k)).2)).1 = false then ([], (seqD L (k + (relD (L.drop k)).2)).2.2, 10)
  else if (expD L (relD (L.drop k)).1 (seqD L (k + (relD (L.drop k)).2)).2.2).1 = false then ([], (expD L (relD (L.drop k)).1 (seqD L (k + (relD (L.drop k)).2)).2.2).2.2, 10)
  else parD L f (out ++ [⟨(relD (L.drop k)).1, (seqD L (k + (relD (L.drop k)).2)).2.1, (expD L (relD (L.drop k)).1 (seqD L (k + (relD (L.drop k)).2)).2.2).2.1⟩]) (af L (expD L (relD (L.drop k)).1 (seqD L (k + (relD (L.drop k)).2)).2.2).2.2)
def parse (L : List UInt8) : List RV × Nat × Nat := parD L (L.length + 2) [] (af L 0)
theorem yea (L : List UInt8) (k i : Nat) : gb (L.drop k) i = gb L (k + i) := by unfold T2.gb; rw [List.getD_eq_getElem?_getD, List.getD_eq_getElem?_getD, List.getElem?_drop]
theorem gb_out {L : List UInt8} {k : Nat} (h : L.length <= k) : gb L k = 0 := by unfold T2.gb; rw [List.getD_eq_getElem?_getD, List.getElem?_eq_none h]; rfl
theorem blk_in {L : List UInt8} {k : Nat} (hk : k < L.length) (h : isBl (gb L k) = true) : af L k = af L (k + 1) := by
 unfold af; rw [List.drop_eq_getElem_cons hk, blk, if_pos (by rw [T2.gb_at hk] at h; exact h)]; omega
theorem ylb {L : List UInt8} {k : Nat} (h : isBl (gb L k) = false) : af L k = k := by
 unfold af
 cases e : L.drop k with
 | nil => rfl
 | cons x t =>
  have : gb L k = x.toNat := by have := yea L k 0; rw [e, T2.yal] at this; rw [Nat.add_zero] at this; exact this.symm
  rw [blk, if_neg (by rw [<- this, h]; simp)]; rfl
theorem yny {L : List UInt8} {k : Nat} (h : L.length <= k) : af L k = k := by
 unfold af; rw [List.drop_of_length_le h]; rfl
theorem blk_len (l : List UInt8) : blk l <= l.length := by
 induction l with
 | nil => exact zN _
 | cons x t ih => rw [blk]; split <;> simp <;> omega
theorem af_le {L : List UInt8} {k : Nat} (h : k <= L.length) : k <= af L k /\ af L k <= L.length := by
 have := blk_len (L.drop k); rw [List.length_drop] at this; unfold af; omega
theorem yhb {L : List UInt8} {k : Nat} : endd (L.drop k) = (decide (L.length <= k) || isEn (gb L k)) := by
 unfold endd; rw [yea, Nat.add_zero, List.length_drop]; congr 1; apply Bool.eq_iff_iff.2; simp; omega
theorem yik {L : List UInt8} {k : Nat} (h : endd (L.drop k) = false) : k < L.length /\ isEn (gb L k) = false := by
 rw [yhb] at h; simp at h; exact ⟨by omega, h.2⟩
theorem sg1_le {L : List UInt8} {k : Nat} (h : k < L.length) : k + (sg1 (L.drop k)).2.2 <= L.length := by
 have hl : (L.drop k).length = L.length - k := List.length_drop
 unfold sg1; split
 ·split
  ·simp only; omega
  ·rename_i h2
   have h3 : (L.drop k).drop 1 ≠ [] := by intro e; have := congrArg List.length e; rw [List.length_drop] at this; simp only [List.length_nil] at this; omega
   have := T2.dec_le h3
   rw [List.length_drop] at this
   simp only; omega
 ·have h3 : L.drop k ≠ [] := by intro e; have := congrArg List.length e; simp only [List.length_nil] at this; omega
  have := T2.dec_le h3
  simp only; omega
theorem sg1_sg {L : List UInt8} {k : Nat} (h : k < L.length) (h1 : (sg1 (L.drop k)).1 = true) : isSg (sg1 (L.drop k)).2.1 = true := by
 have hl : (L.drop k).length = L.length - k := List.length_drop
 unfold sg1 at h1 |-; split
 ·split
  ·rename_i h2 h3; rw [if_pos h2, if_pos h3] at h1; cases h1
  ·rename_i h2
   have h3 : (L.drop k).drop 1 ≠ [] := by intro e; have := congrArg List.length e; rw [List.length_drop] at this; simp only [List.length_nil] at this; omega
   exact T2.dec_sg h3
 ·have h3 : L.drop k ≠ [] := by intro e; have := congrArg List.length e; simp only [List.length_nil] at this; omega
  exact T2.dec_sg h3
theorem ywl (L : List UInt8) : ∀ (n : Nat) (acc : List Int) (k : Nat), k <= L.length -> k <= (colA L n acc k).2.2 /\ (colA L n acc k).2.2 <= L.length
 | 0, acc, k, hk => ⟨zN _, hk⟩
 | n + 1, acc, k, hk => by
  rw [colA]; split
  ·exact ⟨zN _, hk⟩
  ·rename_i he
   have he := yik (by simpa using he)
   have h1 := sg1_le he.1
   split
   ·have := ywl L n (acc ++ [(sg1 (L.drop k)).2.1]) _ h1; omega
   ·exact ⟨Nat.le_add_right _ _, h1⟩
theorem ywk (L : List UInt8) : ∀ (n : Nat) (acc : List Int) (k : Nat), k <= L.length -> k <= (colD L n acc k).2.2 /\ (colD L n acc k).2.2 <= L.length
 | 0, acc, k, hk => by rw [colD]; split <;> exact ⟨zN _, hk⟩
 | n + 1, acc, k, hk => by
  rw [colD]; split
  ·exact ⟨zN _, hk⟩
  ·rename_i he
   have he := yik (by simpa using he)
   have h1 := sg1_le he.1
   split
   ·have := ywk L n (acc ++ [(sg1 (L.drop k)).2.1]) _ h1; omega
   ·exact ⟨Nat.le_add_right _ _, h1⟩
theorem yin (L : List UInt8) : ∀ (n : Nat) (acc : List Int) (k : Nat), acc.length + n = 3 -> acc.all isSg = true -> (colD L n acc k).1 = true -> (colD L n acc k).2.1.all isSg = true /\ 0 < (colD L n acc k).2.1.length /\ (colD L n acc k).2.1.length <= 3
 | 0, acc, k, hn, ha, h => by
  rw [colD] at h |-; split at h
  ·rename_i he; rw [if_pos he]; exact ⟨ha, by simpa using h, by simp only; omega⟩
  ·cases h
 | n + 1, acc, k, hn, ha, h => by
  rw [colD] at h |-; split at h
  ·rename_i he; rw [if_pos he]; exact ⟨ha, by simpa using h, by simp only; omega⟩
  ·rename_i he
   rw [if_neg he]; have he := yik (by simpa using he)
   split at h
   ·rename_i h1
    rw [if_pos h1]; exact yin L n _ _ (by simp; omega) (by rw [List.all_append, ha]; simp [sg1_sg he.1 h1]) h
   ·cases h
theorem ywj (L : List UInt8) : ∀ (n : Nat) (acc : List Int) (k : Nat), acc.length + n = 3 →
  colA L n acc k = colD L n acc k \/ (∃ a k2, colA L n acc k = (true, a, k2) /\ k2 < L.length /\ isEn (gb L k2) = false /\ colD L n acc k = (false, [], k2))
 | 0, acc, k, hn => by
  rw [colA, colD]; split
  ·exact .inl rfl
  ·rename_i he
   have he := yik (by simpa using he)
   exact .inr ⟨acc, k, by rw [decide_eq_true (by omega)], he.1, he.2, rfl⟩
 | n + 1, acc, k, hn => by
  rw [colA, colD]; split
  ·exact .inl rfl
  ·split
   ·exact ywj L n _ _ (by simp; omega)
   ·exact .inl rfl
theorem ytb (L : List UInt8) (k : Nat) : seqP L k = seqD L k \/ (∃ a k2, seqP L k = (true, a, k2) /\ k2 < L.length /\ isEn (gb L k2) = false /\ seqD L k = (false, [], k2)) := ywj L 3 [] _ rfl
theorem yfu {L : List UInt8} {k : Nat} (h : k <= L.length) : k <= (seqP L k).2.2 /\ (seqP L k).2.2 <= L.length := by
 have h1 := af_le h
 have := ywl L 3 [] (k + blk (L.drop k)) h1.2
 unfold seqP af at *; omega
theorem yeq {L : List UInt8} {k : Nat} (h : k <= L.length) : k <= (seqD L k).2.2 /\ (seqD L k).2.2 <= L.length := by
 have h1 := af_le h
 have := ywk L 3 [] (k + blk (L.drop k)) h1.2
 unfold seqD af at *; omega
theorem yvz {L : List UInt8} {r k : Nat} (h : k <= L.length) : k <= (expD L r k).2.2 /\ (expD L r k).2.2 <= L.length := by
 have h1 := af_le h; unfold expD; split
 ·rename_i h2
  have h3 : af L k < L.length := by
   rcases Nat.lt_or_ge (af L k) L.length with h4 | h4
   ·exact h4
   ·rw [gb_out h4] at h2; omega
  have := yeq (L := L) (k := af L k + 1) (by omega)
  omega
 ·exact h1
theorem u8_eq {x : UInt8} {n : Nat} (hn : n < 256) : x.toNat = n ↔ x = UInt8.ofNat n := by
 constructor
 ·intro h; exact (T2.ybj hn h.symm).symm
 ·intro h; rw [h, T2.yak hn]
theorem rel1 (l : List UInt8) : relL l 1 = if gb l 0 = 38 then (1, 1) else (0, 0) := by
 simp only [relL, mk]
 cases l with
 | nil => rw [if_neg (by decide), gb_out (by simp), if_neg (by decide)]
 | cons a r =>
  rw [T2.yal]
  by_cases h : a.toNat = 38
  ·have h := (u8_eq (by omega)).1 h
   subst h; rfl
  ·rw [if_neg h, if_neg]; simp only [List.isPrefixOf, Bool.and_true, beq_iff_eq]; intro e; exact h (by rw [<- e]; rfl)
theorem yfd (a b : UInt8) (l m : List UInt8) : (a :: l).isPrefixOf (b :: m) = (decide (b.toNat = a.toNat) && l.isPrefixOf m) := by
 rw [List.isPrefixOf]
 congr 1
 apply Bool.eq_iff_iff.2
 simp only [beq_iff_eq, decide_eq_true_eq]
 constructor
 ·rintro rfl; rfl
 ·intro h; exact (UInt8.toNat_inj.1 h).symm
theorem rel5 (l : List UInt8) : relL l 5 = relD l := by
 have e38 : (38 : UInt8).toNat = 38 := rfl
 have e60 : (60 : UInt8).toNat = 60 := rfl
 have e61 : (61 : UInt8).toNat = 61 := rfl
 have k60 : ∀ b : UInt8, (60 : UInt8) = b ↔ b.toNat = 60 := fun b => ⟨by rintro rfl; rfl, fun h => (UInt8.toNat_inj.1 h).symm⟩
 match l with
 | [] => unfold relD lts T2.gb; rfl
 | [a] =>
  have h1 : gb [a] 1 = 0 := gb_out (by simp)
  unfold relD lts; simp only [relL, mk, yfd, List.isPrefixOf, T2.yal, h1, e38, e60, e61, Bool.and_true, Bool.and_false, decide_eq_true_eq, List.length_cons, List.length_nil, Bool.and_eq_true, if_false, Bool.false_eq_true]
  by_cases c1 : a.toNat = 61 <;> by_cases c2 : a.toNat = 60 <;> by_cases c3 : a.toNat = 38 <;> simp [c1, c2, c3] <;> omega
 | [a, b] =>
  have h1 : gb [a, b] 2 = 0 := gb_out (by simp)
  unfold relD lts; simp only [relL, mk, yfd, List.isPrefixOf, T2.yal, T2.ycf, h1, e38, e60, e61, Bool.and_true, Bool.and_false, decide_eq_true_eq, List.length_cons, List.length_nil, Bool.and_eq_true, if_false, Bool.false_eq_true]
  by_cases c1 : a.toNat = 61 <;> by_cases c2 : a.toNat = 60 <;> by_cases c3 : a.toNat = 38 <;> by_cases c4 : b.toNat = 60 <;> simp [c1, c2, c3, c4, e60, k60]
 | a :: b :: c :: r =>
  unfold relD lts; simp only [relL, mk, yfd, List.isPrefixOf, T2.yal, T2.ycf, e38, e60, e61, Bool.and_true, Bool.and_false, decide_eq_true_eq, List.length_cons, List.length_nil, Bool.and_eq_true, if_false, Bool.false_eq_true]
  by_cases c1 : a.toNat = 61 <;> by_cases c2 : a.toNat = 60 <;> by_cases c3 : a.toNat = 38 <;> by_cases c4 : b.toNat = 60 <;> by_cases c5 : c.toNat = 60 <;> simp [c1, c2, c3, c4, c5, e60, k60]
theorem lts_le (l : List UInt8) : 1 <= lts l /\ lts l <= 3 := by
 unfold lts; split
 ·split <;> omega
 ·omega
theorem yby (l : List UInt8) : (relD l = (0, 0)) \/ (1 <= (relD l).1 /\ (relD l).1 <= 5 /\ 1 <= (relD l).2 /\ (relD l).2 <= l.length /\ isEn (gb l 0) = true) := by
 unfold relD
 have hlt : ∀ {i}, gb l i ≠ 0 -> i < l.length := fun {i} h => by
  rcases Nat.lt_or_ge i l.length with h1 | h1
  ·exact h1
  ·exact absurd (gb_out h1) h
 split
 ·rename_i h; have := hlt (i := 0) (by omega); right; simp only [h, isEn]; refine ⟨by omega, by omega, by omega, by omega, rfl⟩
 ·split
  ·rename_i h; have := hlt (i := 0) (by omega); right; simp only [h, isEn]; refine ⟨by omega, by omega, by omega, by omega, rfl⟩
  ·split
   ·rename_i h; have h0 := hlt (i := 0) (by omega); right; simp only [h, isEn]
    have h3 := lts_le l; refine ⟨by omega, by omega, by omega, ?_, rfl⟩
    unfold lts; split
    ·rename_i h1; have h1 := hlt (i := 1) (by omega); split
     ·rename_i h2; exact hlt (i := 2) (by omega)
     ·omega
    ·omega
   ·exact .inl rfl
theorem relD_no {l : List UInt8} (h : isEn (gb l 0) = false) : relD l = (0, 0) := by
 rcases yby l with h1 | h1
 ·exact h1
 ·rw [h1.2.2.2.2] at h; cases h
theorem ynp {x : Nat} (h : isEn x = false) : isBl x = false := by
 unfold isEn at h; unfold isBl; simp at h |-; omega
theorem yos {L : List UInt8} {f n k : Nat} {acc : List RV} (hk : k < L.length) (h : isEn (gb L k) = false) : parP L (f + 1) (n + 1) acc k = ([], k, 10) := by
 rw [parP, if_neg (by omega), if_neg (by omega : ¬ n + 1 = 0)]
 have : ruleP L 5 k = (false, default, k) := by
  unfold ruleP; rw [rel5, relD_no (by rw [yea, Nat.add_zero]; exact h), if_pos rfl]
 rw [this, if_pos rfl]
theorem yyl {L : List UInt8} {k n : Nat} : relL (L.drop k) (if n = 0 then 1 else 5) = if (relD (L.drop k)).1 = 0 \/ (n = 0 /\ (relD (L.drop k)).1 ≠ 1) then (0, 0) else relD (L.drop k) := by
 by_cases hn : n = 0
 ·rw [if_pos hn, rel1]; unfold relD
  have := lts_le (L.drop k)
  by_cases h : gb (L.drop k) 0 = 38
  ·rw [if_pos h, if_pos h, if_neg (by simp)]
  ·rw [if_neg h, if_neg h]; rw [if_pos]
   split
   ·right; exact ⟨hn, by simp⟩
   ·split
    ·right; exact ⟨hn, by simp only; omega⟩
    ·left; rfl
 ·rw [if_neg hn, rel5]
  split
  ·rename_i h
   have h : (relD (L.drop k)).1 = 0 := by rcases h with h | h; · exact h
                                          exact absurd h.1 hn
   rcases yby (L.drop k) with h1 | h1
   ·exact h1
   ·omega
  ·rfl
theorem par_eq (L : List UInt8) : ∀ (f g : Nat) (out : List RV) (k : Nat), k <= L.length -> L.length + 1 < k + f -> L.length < k + g →
  parP L f out.length (out.take 40) k = parD L g out k
 | 0, g, out, k, hk, hf, hg => by omega
 | f + 1, 0, out, k, hk, hf, hg => by omega
 | f + 1, g + 1, out, k, hk, hf, hg => by
  rw [parP, parD]
  by_cases hend : L.length <= k
  ·rw [if_pos hend, if_pos hend]
   split
   ·rfl
   ·rw [List.take_of_length_le (by omega)]
  ·rw [if_neg hend, if_neg hend]
   have hk2 : k < L.length := by omega
   unfold ruleP; rw [yyl]
   by_cases hr : (relD (L.drop k)).1 = 0 \/ (out.length = 0 /\ (relD (L.drop k)).1 ≠ 1)
   ·simp only [if_pos hr]
    rfl
   ·simp only [if_neg hr]
    have hw : 1 <= (relD (L.drop k)).1 /\ (relD (L.drop k)).1 <= 5 /\ 1 <= (relD (L.drop k)).2 /\ (relD (L.drop k)).2 <= (L.drop k).length := by
     rcases yby (L.drop k) with h1 | h1
     ·rw [h1] at hr; simp at hr
     ·exact ⟨h1.1, h1.2.1, h1.2.2.1, h1.2.2.2.1⟩
    rw [List.length_drop] at hw; obtain ⟨rc, hrc⟩ : ∃ rc, relD (L.drop k) = rc := ⟨_, rfl⟩; rw [hrc] at hr hw |-; obtain ⟨r, c⟩ := rc
    simp only at hr hw |-
    have hr0 : ¬ r = 0 := by omega
    simp only [if_neg hr0]
    have hkc : k + c <= L.length := by omega
    have hsl := yeq hkc
    rcases ytb L (k + c) with hs | ⟨a, k2, hs1, hs2, hs3, hs4⟩
    ·rw [hs]
     by_cases hq : (seqD L (k + c)).1 = false
     ·simp only [if_pos hq]
      rfl
     ·simp only [if_neg hq]; obtain ⟨q, hqq⟩ : ∃ q, seqD L (k + c) = q := ⟨_, rfl⟩; rw [hqq] at hsl |-; have hal := af_le hsl.2
      by_cases hx : r ≠ 1 /\ gb L (af L q.2.2) = 47
      ·unfold expD; simp only [if_pos hx]
       have h3 : af L q.2.2 < L.length := by
        rcases Nat.lt_or_ge (af L q.2.2) L.length with h4 | h4
        ·exact h4
        ·rw [gb_out h4] at hx; omega
       have hsl2 := yeq (L := L) (k := af L q.2.2 + 1) (by omega)
       rcases ytb L (af L q.2.2 + 1) with ht | ⟨a, k2, ht1, ht2, ht3, ht4⟩
       ·rw [ht]
        by_cases hp : (seqD L (af L q.2.2 + 1)).1 = false
        ·simp only [if_pos hp]
        ·simp only [if_neg hp]; have hb := af_le hsl2.2
         have := par_eq L f g (out ++ [⟨r, q.2.1, (seqD L (af L q.2.2 + 1)).2.1⟩]) (af L (seqD L (af L q.2.2 + 1)).2.2) hb.2 (by omega) (by omega)
         rw [<- this, List.length_append, List.length_singleton]
         congr 1
         split
         ·rw [List.take_of_length_le (by omega), List.take_of_length_le (by simp; omega)]
         ·rw [List.take_append_of_le_length (by omega)]
       ·rw [ht1, ht4]; simp only [if_true, Bool.true_eq_false, if_false]
        have ha : af L k2 = k2 := ylb (ynp ht3)
        rw [ha]; obtain ⟨f', rfl⟩ : ∃ f', f = f' + 1 := ⟨f - 1, by rw [ht4] at hsl2; simp only at hsl2; omega⟩
        rw [yos ht2 ht3]
      ·unfold expD; simp only [if_neg hx, Bool.true_eq_false, if_false]; have hb := af_le hal.2
       have := par_eq L f g (out ++ [⟨r, q.2.1, []⟩]) (af L (af L q.2.2)) hb.2 (by omega) (by omega)
       rw [<- this, List.length_append, List.length_singleton]
       congr 1
       split
       ·rw [List.take_of_length_le (by omega), List.take_of_length_le (by simp; omega)]
       ·rw [List.take_append_of_le_length (by omega)]
    ·rw [hs1, hs4]; simp only [if_true, Bool.true_eq_false, if_false]
     have ha : af L k2 = k2 := ylb (ynp hs3)
     have h47 : ¬ (r ≠ 1 /\ gb L k2 = 47) := by
      rintro ⟨-, h⟩; rw [h] at hs3; cases hs3
     simp only [ha, if_neg h47, Bool.true_eq_false, if_false]; obtain ⟨f', rfl⟩ : ∃ f', f = f' + 1 := ⟨f - 1, by rw [hs4] at hsl; simp only at hsl; omega⟩
     rw [yos hs2 hs3]
theorem yyy (L : List UInt8) : parP L (L.length + 2) 0 [] (af L 0) = parse L := by
 have h := af_le (L := L) (k := 0) (Nat.zero_le _); exact par_eq L (L.length + 2) (L.length + 2) [] (af L 0) h.2 (by omega) (by omega)
end Go.Proofs.YteibnfeokgibmaaGreat.S6
