/-
  PACKED for a claim.
-/
import Derived.Test.YteibnfeokgibmaaGreatProg
import Derived.RegionTactic
import Derived.Test.YteibnfeokgibmaaGreatS02
set_option linter.unusedVariables false
set_option linter.unusedSimpArgs false
set_option maxRecDepth 100000
namespace Go.Proofs.YteibnfeokgibmaaGreat.T2
open Go.RowKit
theorem ydg {a b : Bool} (h : a = b) : Ending.returned (.bool a) = Ending.returned (.bool b) := by rw [h]
theorem int_of {k : IntKind} {a b : Int} (h : a = b) : Ending.returned (.int k a) = Ending.returned (.int k b) := by rw [h]
theorem two_of {a b c d : Int} (h : a = b) (h' : c = d) : Ending.returned (.tuple #[.int .i64 a, .int .i64 c]) = Ending.returned (.tuple #[.int .i64 b, .int .i64 d]) := by rw [h, h']
theorem ypt (x : Nat) (w : World) (hx : x < 256) : Calls Tryz.prog 184 #[.int .u8 x] w fun e w' => e = .returned (.tuple #[.int .i64 (1114112 + x), .int .i64 1]) /\ w = w' := by
 go_enter Tryz.func184, Tryz.ntmps184
 go_wp2
 go_ret2
 exact ⟨rfl, rfl⟩
theorem ygk (c : Int) (w : World) : Calls Tryz.prog 185 #[.int .i64 c] w fun e w' => e = .returned (.bool (isPt c)) /\ w = w' := by
 go_enter Tryz.func185, Tryz.ntmps185
 go_wp2
 all_goals go_ret
 all_goals exact ⟨ydg (by simp [isPt] <;> omega), rfl⟩
theorem ydz (c : Int) (w : World) : Calls Tryz.prog 230 #[.int .i64 c] w fun e w' => e = .returned (.bool (isSg c)) /\ w = w' := by
 obtain ⟨p, hp⟩ : ∃ p, Hid (isPt c = p) := ⟨_, rfl⟩
 go_enter Tryz.func230, Tryz.ntmps230
 go_wp2_with (go_at_call 185; refine (ygk _ _).mono ?_; rintro e w' ⟨rfl, rfl⟩)
 all_goals go_ret
 all_goals exact ⟨ydg (by simp [isSg, *] <;> omega), rfl⟩
theorem ymc (c : Int) (w : World) : Calls Tryz.prog 186 #[.int .i64 c] w fun e w' => e = .returned (.int .i64 (if c < 128 then 1 else if c < 2048 then 2 else if c < 65536 then 3 else 4)) /\ w = w' := by
 go_enter Tryz.func186, Tryz.ntmps186
 go_wp2
 all_goals go_ret
 all_goals exact ⟨rfl, rfl⟩
theorem yih (c : Int) (w : World) : Calls Tryz.prog 187 #[.int .i64 c] w fun e w' => e = .returned (.int .u8 (128 + c % 64)) /\ w = w' := by
 have h1 := and63 c; have h2 := or128 (b := c % 64) (by omega) (by omega)
 go_enter Tryz.func187, Tryz.ntmps187
 go_wp2
 go_ret
 exact ⟨int_of (by omega), rfl⟩
theorem yqc (x : Nat) (w : World) (hx : x < 256) : Calls Tryz.prog 143 #[.int .u8 x] w fun e w' => e = .returned (.bool (isT x)) /\ w = w' := by
 go_enter Tryz.func143, Tryz.ntmps143
 go_wp2
 all_goals go_ret
 all_goals (refine ⟨ydg (Bool.eq_iff_iff.2 ?_), rfl⟩; (try simp only [beq_iff_eq, beq_eq_false_iff_ne, ne_eq] at *); simp only [isSg, isPt, isT, Bool.or_eq_true, Bool.and_eq_true, decide_eq_true_eq, Bool.false_eq_true, true_iff, false_iff, iff_true, iff_false] <;> omega)
def ldS (x : Nat) : Int := if x < 128 then 1 else if x < 192 then 0 else if x < 224 then 2 else if x < 240 then 3 else if x < 248 then 4 else 0
def ldC (x : Nat) : Int := if x < 128 then x else if x < 192 then 0 else if x < 224 then (x : Int) - 192 else if x < 240 then (x : Int) - 224 else if x < 248 then (x : Int) - 240 else 0
theorem yvj (x : Nat) (w : World) (hx : x < 256) : Calls Tryz.prog 183 #[.int .u8 x] w fun e w' => e = .returned (.tuple #[.int .i64 (ldS x), .int .i64 (ldC x)]) /\ w = w' := by
 have a1 := u8_31 hx; have a2 := u8_15 hx; have a3 := u8_7 hx
 go_enter Tryz.func183, Tryz.ntmps183
 go_wp2
 all_goals go_ret2
 all_goals (refine ⟨two_of ?_ ?_, rfl⟩ <;> simp only [beq_iff_eq, beq_eq_false_iff_ne, ne_eq] at *)
 all_goals first | (unfold ldS; (repeat' split) <;> omega) | (unfold ldC; (repeat' split) <;> omega)
theorem yvv (c : Int) (w : World) : Calls Tryz.prog 146 #[.int .i64 c] w fun e w' => e = .returned (.int .i64 (fold c)) /\ w = w' := by
 have H := zH (ygw c); generalize fold c = f at *
 go_enter Tryz.func146, Tryz.ntmps146
 go_wp2
 all_goals go_ret
 all_goals (refine ⟨int_of ?_, rfl⟩; have h := H.out; clear H; simp only [beq_iff_eq, beq_eq_false_iff_ne, bne_iff_ne, bne_eq_false_iff_eq, ne_eq, Bool.or_eq_true, Bool.and_eq_true, decide_eq_true_eq, Bool.or_eq_false_iff, decide_eq_false_iff_not, Bool.and_eq_false_imp, Bool.not_eq_true', Bool.not_eq_false'] at *; omega)
end Go.Proofs.YteibnfeokgibmaaGreat.T2
namespace Go.Proofs.YteibnfeokgibmaaGreat.T2
open Go.RowKit
theorem gb_at {l : List UInt8} {k : Nat} (h : k < l.length) : gb l k = l[k].toNat := by
 unfold gb; rw [List.getD_eq_getElem?_getD, List.getElem?_eq_getElem h]; rfl
theorem ba_len (s : ByteArray) : s.data.toList.length = s.size := rfl
theorem gb_ba (s : ByteArray) {k : Nat} (h : k < s.size) : gb s.data.toList k = s[k].toNat := by
 rw [gb_at (by rw [ba_len]; exact h)]; rfl
def cv (l : List UInt8) : Nat -> Int
 | 0 => 0
 | 1 => ldC (gb l 0)
 | k + 2 => cv l (k + 1) * 64 + ((gb l (k + 1) % 64 : Nat) : Int)
theorem cv_one (l : List UInt8) : cv l 1 = ldC (gb l 0) := rfl
theorem ych (l : List UInt8) (k : Nat) (h : 1 <= k) : cv l (k + 1) = cv l k * 64 + ((gb l k % 64 : Nat) : Int) := by
 obtain ⟨k, rfl⟩ : ∃ j, k = j + 1 := ⟨k - 1, by omega⟩
 rfl
theorem ygs (x : Nat) (hx : x < 256) : (x < 128 /\ ldS x = 1 /\ ldC x = x) \/ (128 <= x /\ x < 192 /\ ldS x = 0 /\ ldC x = 0) \/ (192 <= x /\ x < 224 /\ ldS x = 2 /\ ldC x = (x : Int) - 192) \/ (224 <= x /\ x < 240 /\ ldS x = 3 /\ ldC x = (x : Int) - 224) \/ (240 <= x /\ x < 248 /\ ldS x = 4 /\ ldC x = (x : Int) - 240) \/ (248 <= x /\ ldS x = 0 /\ ldC x = 0) := by
 unfold ldS ldC
 by_cases h1 : x < 128
 ·left; exact ⟨h1, if_pos h1, if_pos h1⟩
 by_cases h2 : x < 192
 ·right; left; refine ⟨by omega, h2, ?_, ?_⟩ <;> rw [if_neg h1, if_pos h2]
 by_cases h3 : x < 224
 ·right; right; left; refine ⟨by omega, h3, ?_, ?_⟩ <;> rw [if_neg h1, if_neg h2, if_pos h3]
 by_cases h4 : x < 240
 ·right; right; right; left; refine ⟨by omega, h4, ?_, ?_⟩ <;> rw [if_neg h1, if_neg h2, if_neg h3, if_pos h4]
 by_cases h5 : x < 248
 ·right; right; right; right; left; refine ⟨by omega, h5, ?_, ?_⟩ <;> rw [if_neg h1, if_neg h2, if_neg h3, if_neg h4, if_pos h5]
 ·right; right; right; right; right; refine ⟨by omega, ?_, ?_⟩ <;> rw [if_neg h1, if_neg h2, if_neg h3, if_neg h4, if_neg h5]
theorem ydv {l : List UInt8} (h0 : 128 <= gb l 0) (h2 : is2 l = false) (h3 : is3 l = false) (h4 : is4 l = false) : dec l = (1114112 + gb l 0, 1) := by
 unfold dec; rw [if_neg (by omega), h2, h3, h4]; rfl
theorem not2 {l : List UInt8} (h : ¬ (194 <= gb l 0 /\ gb l 0 <= 223 /\ 1 < l.length /\ 128 <= gb l 1 /\ gb l 1 <= 191)) : is2 l = false := by rw [Bool.eq_false_iff]; exact fun h' => h (ybh.1 h')
theorem not3 {l : List UInt8} (h : ¬ (224 <= gb l 0 /\ gb l 0 <= 239 /\ 2 < l.length /\ (128 <= gb l 1 /\ gb l 1 <= 191) /\ (128 <= gb l 2 /\ gb l 2 <= 191) /\ 2048 <= v3 l /\ (v3 l < 55296 \/ 57343 < v3 l))) : is3 l = false := by rw [Bool.eq_false_iff]; exact fun h' => h (ybj.1 h')
theorem not4 {l : List UInt8} (h : ¬ (240 <= gb l 0 /\ gb l 0 <= 244 /\ 3 < l.length /\ (128 <= gb l 1 /\ gb l 1 <= 191) /\ (128 <= gb l 2 /\ gb l 2 <= 191) /\ (128 <= gb l 3 /\ gb l 3 <= 191) /\ 65536 <= v4 l /\ v4 l <= 1114111)) : is4 l = false := by rw [Bool.eq_false_iff]; exact fun h' => h (ybn.1 h')
theorem dec_p1 {l : List UInt8} (hl : 0 < l.length) (h : ldS (gb l 0) = 0 \/ (l.length : Int) < ldS (gb l 0)) : dec l = (1114112 + gb l 0, 1) := by
 have hb := gb_lt l 0
 rcases ygs _ hb with ⟨a, e, -⟩ | ⟨a, b, e, -⟩ | ⟨a, b, e, -⟩ | ⟨a, b, e, -⟩ | ⟨a, b, e, -⟩ | ⟨a, e, -⟩ <;> rw [e] at h <;> first | omega | exact ydv (by omega) (not2 (by omega)) (not3 (by omega)) (not4 (by omega))
theorem dec_p2 {l : List UInt8} {k : Nat} (hl : 0 < l.length) (hk : 1 <= k) (hk2 : (k : Int) < ldS (gb l 0)) (ht : gb l k / 64 ≠ 2) : dec l = (1114112 + gb l 0, 1) := by
 have hb := gb_lt l 0
 rcases ygs _ hb with ⟨a, e, -⟩ | ⟨a, b, e, -⟩ | ⟨a, b, e, -⟩ | ⟨a, b, e, -⟩ | ⟨a, b, e, -⟩ | ⟨a, e, -⟩ <;> rw [e] at hk2
 iterate 2 (·omega)
 ·obtain rfl : k = 1 := by omega
  exact ydv (by omega) (not2 (by omega)) (not3 (by omega)) (not4 (by omega))
 ·obtain rfl | rfl : k = 1 \/ k = 2 := by omega
  iterate 2 (·exact ydv (by omega) (not2 (by omega)) (not3 (by omega)) (not4 (by omega)))
 ·obtain rfl | rfl | rfl : k = 1 \/ k = 2 \/ k = 3 := by omega
  iterate 3 (·exact ydv (by omega) (not2 (by omega)) (not3 (by omega)) (not4 (by omega)))
 ·omega
def szP (c : Int) : Int := if c < 128 then 1 else if c < 2048 then 2 else if c < 65536 then 3 else 4
theorem ygb (c : Int) : (c < 128 /\ szP c = 1) \/ (128 <= c /\ c < 2048 /\ szP c = 2) \/ (2048 <= c /\ c < 65536 /\ szP c = 3) \/ (65536 <= c /\ szP c = 4) := by
 unfold szP
 by_cases h1 : c < 128
 ·exact .inl ⟨h1, if_pos h1⟩
 by_cases h2 : c < 2048
 ·exact .inr (.inl ⟨by omega, h2, by rw [if_neg h1, if_pos h2]⟩)
 by_cases h3 : c < 65536
 ·exact .inr (.inr (.inl ⟨by omega, h3, by rw [if_neg h1, if_neg h2, if_pos h3]⟩))
 ·exact .inr (.inr (.inr ⟨by omega, by rw [if_neg h1, if_neg h2, if_neg h3]⟩))
theorem pt_no {c : Int} (h : ¬ (0 <= c /\ c <= 1114111 /\ (c < 55296 \/ 57343 < c))) : isPt c = false := by rw [Bool.eq_false_iff]; exact fun h' => h (yat.1 h')
theorem dec_p3 {l : List UInt8} {n : Nat} (hl : 0 < l.length) (hn : ldS (gb l 0) = n) (h1 : 1 <= n) (hle : n <= l.length) (ht : ∀ j, 1 <= j -> j < n -> gb l j / 64 = 2) :
  (isPt (cv l n) = true /\ szP (cv l n) = n /\ ((dec l).1 : Int) = cv l n /\ (dec l).2 = n) \/ ((isPt (cv l n) = false \/ szP (cv l n) ≠ n) /\ dec l = (1114112 + gb l 0, 1)) := by
 have hb := gb_lt l 0
 rcases ygs _ hb with ⟨a, e, c⟩ | ⟨a, b, e, c⟩ | ⟨a, b, e, c⟩ | ⟨a, b, e, c⟩ | ⟨a, b, e, c⟩ | ⟨a, e, c⟩ <;> rw [e] at hn
 ·obtain rfl : n = 1 := by omega
  left
  have hc : cv l 1 = (gb l 0 : Int) := by rw [cv_one, c]
  rw [hc]; refine ⟨yat.2 (by omega), by rcases ygb (gb l 0) with h | h | h | h <;> omega, ?_⟩
  have : dec l = (gb l 0, 1) := by unfold dec; rw [if_pos a]
  rw [this]; exact ⟨rfl, rfl⟩
 ·omega
 ·obtain rfl : n = 2 := by omega
  have t1 := ht 1 (by omega) (by omega)
  have hv := v2_eq l
  have hc : cv l 2 = (v2 l : Int) := by rw [ych l 1 (by omega), cv_one, c]; omega
  rw [hc]; have hs := ygb (v2 l)
  by_cases h : 194 <= gb l 0
  ·left
   have hi : is2 l = true := ybh.2 (by omega)
   have hd : dec l = (v2 l, 2) := by unfold dec; rw [if_neg (by omega), if_pos hi]
   rw [hd]; exact ⟨yat.2 (by omega), by omega, rfl, rfl⟩
  ·right
   exact ⟨.inr (by omega), ydv (by omega) (not2 (by omega)) (not3 (by omega)) (not4 (by omega))⟩
 ·obtain rfl : n = 3 := by omega
  have t1 := ht 1 (by omega) (by omega)
  have t2 := ht 2 (by omega) (by omega)
  have hv := v3_eq l
  have hc : cv l 3 = (v3 l : Int) := by rw [ych l 2 (by omega), ych l 1 (by omega), cv_one, c]; omega
  rw [hc]; have hs := ygb (v3 l)
  have h2 : is2 l = false := not2 (by omega)
  by_cases h : 2048 <= v3 l /\ (v3 l < 55296 \/ 57343 < v3 l)
  ·left
   have hi : is3 l = true := ybj.2 (by omega)
   have hd : dec l = (v3 l, 3) := by unfold dec; rw [if_neg (by omega), h2, if_neg (by simp), if_pos hi]
   rw [hd]; exact ⟨yat.2 (by omega), by omega, rfl, rfl⟩
  ·right
   refine ⟨?_, ydv (by omega) h2 (not3 (by omega)) (not4 (by omega))⟩
   by_cases h' : v3 l < 2048
   ·right; omega
   ·left; exact pt_no (by omega)
 ·obtain rfl : n = 4 := by omega
  have t1 := ht 1 (by omega) (by omega)
  have t2 := ht 2 (by omega) (by omega)
  have t3 := ht 3 (by omega) (by omega)
  have hv := v4_eq l
  have hc : cv l 4 = (v4 l : Int) := by rw [ych l 3 (by omega), ych l 2 (by omega), ych l 1 (by omega), cv_one, c]; omega
  rw [hc]; have hs := ygb (v4 l)
  have h2 : is2 l = false := not2 (by omega)
  have h3 : is3 l = false := not3 (by omega)
  by_cases h : 65536 <= v4 l /\ v4 l <= 1114111
  ·left
   have hi : is4 l = true := ybn.2 (by omega)
   have hd : dec l = (v4 l, 4) := by unfold dec; rw [if_neg (by omega), h2, if_neg (by simp), h3, if_neg (by simp), if_pos hi]
   rw [hd]; exact ⟨yat.2 (by omega), by omega, rfl, rfl⟩
  ·right
   refine ⟨?_, ydv (by omega) h2 h3 (not4 (by omega))⟩
   by_cases h' : v4 l < 65536
   ·right; omega
   ·left; exact pt_no (by omega)
 ·omega
theorem ywc {l : List UInt8} {n k : Nat} (hn : ldS (gb l 0) = n) (h1 : 1 <= k) (hk : k <= n) : 0 <= cv l k /\ cv l k < 2097152 := by
 have hb := gb_lt l 0; have b1 := gb_lt l 1; have b2 := gb_lt l 2; have b3 := gb_lt l 3; have c1 := cv_one l
 have c2 : cv l 2 = cv l 1 * 64 + ((gb l 1 % 64 : Nat) : Int) := ych l 1 (by omega)
 have c3 : cv l 3 = cv l 2 * 64 + ((gb l 2 % 64 : Nat) : Int) := ych l 2 (by omega)
 have c4 : cv l 4 = cv l 3 * 64 + ((gb l 3 % 64 : Nat) : Int) := ych l 3 (by omega)
 rcases ygs _ hb with ⟨a, e, c⟩ | ⟨a, b, e, c⟩ | ⟨a, b, e, c⟩ | ⟨a, b, e, c⟩ | ⟨a, b, e, c⟩ | ⟨a, e, c⟩ <;> rw [e] at hn
 ·obtain rfl : k = 1 := by omega
  omega
 ·omega
 ·obtain rfl | rfl : k = 1 \/ k = 2 := by omega
  all_goals omega
 ·obtain rfl | rfl | rfl : k = 1 \/ k = 2 \/ k = 3 := by omega
  all_goals omega
 ·obtain rfl | rfl | rfl | rfl : k = 1 \/ k = 2 \/ k = 3 \/ k = 4 := by omega
  all_goals omega
 ·omega
theorem ld_le (x : Nat) (hx : x < 256) : 0 <= ldS x /\ ldS x <= 4 /\ 0 <= ldC x /\ ldC x < 256 := by
 rcases ygs x hx with h | h | h | h | h | h <;> omega
theorem szP_eq (c : Int) : (if c < 128 then 1 else if c < 2048 then 2 else if c < 65536 then 3 else 4) = szP c := rfl
theorem yrs {l : List UInt8} {x n : Nat} (hx : gb l 0 = x) (hn : ldS x = n) (w : World) : Calls Tryz.prog 183 #[.int .u8 (gb l 0)] w fun e w' => e = .returned (.tuple #[.int .i64 n, .int .i64 (ldC x)]) /\ w = w' := by
 rw [hx, <- hn]; exact yvj x w (by rw [<- hx]; exact gb_lt _ _)
theorem yfk {l : List UInt8} {x : Nat} (hx : gb l 0 = x) (w : World) : Calls Tryz.prog 184 #[.int .u8 (gb l 0)] w fun e w' => e = .returned (.tuple #[.int .i64 (1114112 + x), .int .i64 1]) /\ w = w' := by
 rw [hx]; exact ypt x w (by rw [<- hx]; exact gb_lt _ _)
set_option maxRecDepth 200000 in
theorem ygz (s : ByteArray) (w : World) (h0 : 0 < s.size) (hs : s.size <= maxLen) :
  Calls Tryz.prog 144 #[.string s] w fun e w' => e = .returned (.tuple #[.int .i64 (dec s.data.toList).1, .int .i64 (dec s.data.toList).2]) /\ w = w' := by
 obtain ⟨l, hl⟩ : ∃ l, s.data.toList = l := ⟨_, rfl⟩
 have HG : ∀ (k : Nat) (h : k < s.size), (s[k]'h).toNat = gb l k := fun k h => by rw [<- hl]; exact (gb_ba s h).symm
 have hll : l.length = s.size := by rw [<- hl, ba_len]
 rw [hl]; clear hl
 have hl : 0 < l.length := by omega
 obtain ⟨x, hx⟩ : ∃ x, gb l 0 = x := ⟨_, rfl⟩; have hb := gb_lt l 0; rw [hx] at hb; have hle := ld_le _ hb; obtain ⟨n, hn⟩ : ∃ n : Nat, ldS x = n := ⟨(ldS x).toNat, by omega⟩
 rw [hn] at hle; have P1 := zH (@dec_p1 l hl); have P2 := zH (fun k => @dec_p2 l k hl)
 have P3 := zH (@dec_p3 l n hl); have CB := zH (fun k => @ywc l n k)
 have CO := zH (cv_one l); have CN := zH (ych l); have GB := zH (gb_lt l); have HX := zH hx; obtain ⟨D, hD⟩ : ∃ D, dec l = D := ⟨_, rfl⟩; rw [hx, hn, hD] at P1 P3; rw [hx, hn, hD] at P2; rw [hx, hn] at CB; rw [hx] at CO; rw [hD]; have HN := zH hn; have HK := zH hll; clear hD hl hx
 go_enter Tryz.func144, Tryz.ntmps144
 by_cases hbad : n = 0 \/ s.size < n
 ·have PB := P1.out (by omega)
  clear P1 P2 P3 CB CO CN GB
  go_wp2_with (first
   | (go_at_call 183; refine (yrs HX.out HN.out _).mono ?_; rintro e w' ⟨rfl, rfl⟩)
   | (go_at_call 184; refine (yfk HX.out _).mono ?_; rintro e w' ⟨rfl, rfl⟩))
  all_goals go_ret2
  all_goals exact ⟨by rw [PB]; rfl, rfl⟩
 ·obtain ⟨n1, n2⟩ : 1 <= n /\ n <= s.size := by omega
  clear hbad P1; have p2 := fun k => P2.out (k := k)
  have P3' := zH (P3.out rfl n1 (by omega))
  have CB' := zH (fun k h1 h2 => CB.out k rfl h1 h2)
  have n3 : ¬ n = 0 := by omega
  have n4 : ¬ s.size < n := by omega
  have d1 : ((n : Int) == 0) = false := by simp; omega
  have d2 : decide ((s.size : Int) < n) = false := by simp; omega
  clear P3 CB
  go_wp2_with (first
   | (go_at_call 183; refine (yrs HX.out HN.out _).mono ?_; rintro e w' ⟨rfl, rfl⟩)
   | (go_at_call 184; refine (yfk HX.out _).mono ?_; rintro e w' ⟨rfl, rfl⟩))
  go_loop [2, 3, 4] (fun c m i => ∃ k : Nat, 1 <= k /\ k <= n /\ m = .int .i64 n /\ i = .int .i64 k /\ c = .int .i64 (cv l k) /\ Hid (∀ j, 1 <= j -> j < k -> gb l j / 64 = 2)) (fun _ _ i => n - (intOf i).toNat)
  case atStart => exact ⟨1, by omega, n1, rfl, rfl, by rw [CO.out], by intro j h1 h2; omega⟩
  case round =>
   obtain ⟨k, k1, k2, rfl, rfl, rfl, HT⟩ := hrel; have hcb := CB'.out k k1 k2
   by_cases hlt : k < n
   ·have hks : k < s.size := by omega
    have e1 := u8_63 (gb_lt l k); have hcn := CN.out k k1; obtain ⟨v, hv⟩ : ∃ v, cv l k = v := ⟨_, rfl⟩; rw [hv] at hcb hcn; have e2 := @or6 v ((gb l k : Int) % 64) (by omega) (by omega) (by omega) (by omega)
    rw [hv]; have HCN := zH hcn; clear hcn hv
    go_wp2_with (first
     | (go_at_call 184; refine (yfk HX.out _).mono ?_; rintro e w' ⟨rfl, rfl⟩))
    ·have hq := p2 k k1 (by omega) (by simp only [bne_iff_ne] at *; omega)
     go_ret2
     exact ⟨by rw [hq]; rfl, rfl⟩
    ·have hq : gb l k / 64 = 2 := by simp only [bne_eq_false_iff_eq] at *; omega
     refine ⟨⟨k + 1, by omega, by omega, rfl, rfl, ?_, ?_⟩, ?_⟩
     ·rw [HCN.out, Int.natCast_emod]; rfl
     ·intro j h1 h2
      by_cases hj : j = k
      ·rw [hj, hq]
      ·exact HT.out j h1 (by omega)
     ·simp [intOf]; omega
   ·obtain rfl : k = n := by omega
    have P4 := P3'.out HT.out; obtain ⟨v, hv⟩ : ∃ v, cv l k = v := ⟨_, rfl⟩; rw [hv] at hcb P4; rw [hv]; clear hv P2 p2 CB' P3' HT CO CN; have P5 := zH P4; clear P4; obtain ⟨p, hp⟩ : ∃ p, isPt v = p := ⟨_, rfl⟩; obtain ⟨z, hz⟩ : ∃ z, szP v = z := ⟨_, rfl⟩; have HP := zH hp; have HZ := zH hz; clear hp hz
    cases p
    all_goals go_wp2_with (first
     | (go_at_call 184; refine (yfk HX.out _).mono ?_; rintro e w' ⟨rfl, rfl⟩)
     | (go_at_call 185; refine (ygk _ _).mono ?_; rw [HP.out]; rintro e w' ⟨rfl, rfl⟩)
     | (go_at_call 186; refine (ymc _ _).mono ?_; rw [szP_eq, HZ.out]; rintro e w' ⟨rfl, rfl⟩))
    ·have hq : D = (1114112 + x, 1) := by
      rcases P5.out with ⟨h, -⟩ | ⟨-, h⟩
      ·rw [HP.out] at h; exact absurd h (by simp)
      ·exact h
     go_ret2
     exact ⟨by rw [hq]; rfl, rfl⟩
    ·have hq : D = (1114112 + x, 1) := by
      rcases P5.out with ⟨-, h, -⟩ | ⟨-, h⟩
      ·rw [HZ.out] at h; simp only [bne_iff_ne] at *; omega
      ·exact h
     go_ret2
     exact ⟨by rw [hq]; rfl, rfl⟩
    ·have hq : (D.1 : Int) = v /\ D.2 = k := by
      rcases P5.out with ⟨-, -, h⟩ | ⟨h | h, -⟩
      ·exact h
      ·rw [HP.out] at h; exact absurd h (by simp)
      ·rw [HZ.out] at h; simp only [bne_eq_false_iff_eq] at *; omega
     go_ret2
     exact ⟨by rw [hq.1, hq.2]; rfl, rfl⟩
end Go.Proofs.YteibnfeokgibmaaGreat.T2
