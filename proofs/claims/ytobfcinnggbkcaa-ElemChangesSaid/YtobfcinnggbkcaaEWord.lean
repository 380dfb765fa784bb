/-
  THE CONTRACT of the word that a text of twelve bytes tells, by package elem.
-/
import Derived.Test.YtobfcinnggbkcaaEElem
import Derived.Test.YtobfcinnggbkcaaShelf
namespace Go.Proofs.Ytobfcinnggbkcaa
open Go.RowKit
set_option linter.unusedVariables false
set_option linter.unusedSimpArgs false
theorem ba_len (s : ByteArray) : s.data.toList.length = s.size := rfl
theorem run_ixS (s : ByteArray) {k : Nat} {c : UInt8} (h : s.data.toList[k]? = some c) (w : World) : (Instr.index 9 (.string s) (.int .i64 (k : Int))).run Try.prog w = .ok (.int .u8 (c.toNat : Int)) w := by
  obtain ⟨hk, hc⟩ := List.getElem?_eq_some_iff.1 h
  have hk' : k < s.size := hk
  have h' : 0 ≤ (k : Int) ∧ (k : Int) < (s.size : Int) := ⟨by omega, by omega⟩
  rw [run_index_string w 9 s .i64 (k : Int) Try.underlying9, dif_pos h']
  subst hc; rfl
theorem wd_len {f l : List UInt8} {w r : Nat} (h : wd f l w = some r) : f.length = l.length := by
  induction f generalizing l w with
  | nil => rw [(wd_nil_inv h).1]
  | cons a f ih =>
    by_cases ha : a = 48
    · subst ha
      obtain ⟨d, cs, _, rfl, h2⟩ := wd_dig_inv h
      simp [ih h2]
    · obtain ⟨cs, rfl, h2⟩ := wd_lit_inv ha h
      simp [ih h2]
theorem idx_any (c : UInt8) (w : World) : Calls Try.prog 27 #[.string ⟨#[48, 49, 50, 51, 52, 53, 54, 55, 56, 57, 97, 98, 99, 100, 101, 102]⟩, .int .u8 (c.toNat : Int)] w fun e w' => e = .returned (.int .i64 (dgt c)) ∧ w = w' := by
  refine (Try.strings_IndexByte _ _ w).mono ?_
  rintro e w' ⟨rfl, rfl⟩
  refine ⟨one ?_, rfl⟩
  unfold dgt
  simp [digL]
theorem idx_is {c : UInt8} {d : Int} (h : dgt c = d) (w : World) : Calls Try.prog 27 #[.string ⟨#[48, 49, 50, 51, 52, 53, 54, 55, 56, 57, 97, 98, 99, 100, 101, 102]⟩, .int .u8 (c.toNat : Int)] w fun e w' => e = .returned (.int .i64 d) ∧ w = w' := by
  rw [← h]; exact idx_any c w
theorem u8_ne {a b : UInt8} (h : a ≠ b) : ((a.toNat : Int) == (b.toNat : Int)) = false := by
  have : a.toNat ≠ b.toNat := fun h' => h (UInt8.toNat_inj.1 h')
  simp; omega
theorem u8_ne48 {a : UInt8} (h : a ≠ 48) : ((a.toNat : Int) == 48) = false := u8_ne (b := 48) h
theorem or16 (x d : Nat) (hd : d < 16) : bits .or .u32 ((x : Int) * 16 % 4294967296) (d : Int) = ((x * 16 % 4294967296 + d : Nat) : Int) := by
  have e : (x : Int) * 16 % 4294967296 = ((x * 16 % 4294967296 : Nat) : Int) := by omega
  rw [e, u32_or_nat _ _ (by omega) (by omega), nat_join 4 _ _ (by simp only [Nat.reducePow]; omega) (by simp only [Nat.reducePow]; omega)]
def fmB : ByteArray := ⟨#[91, 48, 48, 48, 48, 46, 48, 48, 46, 48, 48, 93]⟩
theorem wd_at {f l : List UInt8} {k y : Nat} {a c : UInt8} (hf : f[k]? = some a) (hl : l[k]? = some c) :
    wd (f.drop k) (l.drop k) y = if a = 48 then (if 0 ≤ dgt c then wd (f.drop (k + 1)) (l.drop (k + 1)) (y * 16 % 4294967296 + (dgt c).toNat) else none) else if c = a then wd (f.drop (k + 1)) (l.drop (k + 1)) y else none := by
  obtain ⟨h1, e1⟩ := List.getElem?_eq_some_iff.1 hf
  obtain ⟨h2, e2⟩ := List.getElem?_eq_some_iff.1 hl
  rw [List.drop_eq_getElem_cons h1, List.drop_eq_getElem_cons h2, e1, e2, wd]
set_option maxHeartbeats 1000000 in
theorem word_any (s : ByteArray) (R : Option Nat) (hR : Hid (wd fm s.data.toList 0 = R)) (hs : s.size ≤ maxLen) (w : World) :
    Calls Try.prog 24 #[.string s] w fun e w' => e = .returned (.tuple #[.int .u32 ((R.getD 0 : Nat) : Int), .bool R.isSome]) ∧ Below w.heap.size w w' := by
  have hM : maxLen = 9223372036854775807 := by decide
  by_cases hlen : s.size = 12
  · have hsz : (s.size : Int) = 12 := by omega
    have hsz' : ((s.size : Int) == 12) = true := by simp [hlen]
    have HS := Lib.hid hlen
    obtain ⟨B, hB⟩ : ∃ B, w.heap.size = B := ⟨_, rfl⟩
    have HBR : Hid (Below B w w) := Below.refl _ _
    rw [hB]
    clear hM hs hlen hB
    go_enter Try.func24, Try.ntmps24
    go_wp2
    go_loopw [2, 9] (fun x i wr => ∃ (k y : Nat), k ≤ 12 ∧ i = .int .i64 k ∧ x = .int .u32 y ∧ y < 4294967296 ∧ Hid (wd (fm.drop k) (s.data.toList.drop k) y = R) ∧ Hid (Below B w wr)) (fun _ i _ => 12 - (intOf i).toNat)
    case atStart => exact ⟨0, 0, by omega, rfl, rfl, by omega, hR, HBR⟩
    case round =>
      obtain ⟨k, y, hk, rfl, rfl, hy, HR, HW⟩ := hrel
      by_cases hlt : k < 12
      · obtain ⟨a, ha⟩ : ∃ a, fm[k]? = some a := ⟨_, List.getElem?_eq_getElem (show k < fm.length from hlt)⟩
        obtain ⟨c, hc⟩ : ∃ c, s.data.toList[k]? = some c := ⟨_, List.getElem?_eq_getElem (by rw [ba_len, HS.out]; exact hlt)⟩
        have hstep := @wd_at fm s.data.toList k y a c ha hc
        rw [HR.out] at hstep
        have x1 := run_ixS s hc
        have x2 := run_ixS fmB ha
        unfold fmB at x2
        clear HR hR ha hc
        by_cases h48 : a = 48
        · subst h48
          rw [if_pos rfl] at hstep
          have t1 : (((48 : UInt8).toNat : Int) == 48) = true := rfl
          rcases dgt_ways c with hd | ⟨d, hd, hd2, -⟩
          · rw [if_neg (by omega)] at hstep
            obtain ⟨z, hz⟩ : ∃ z, dgt c = z := ⟨_, rfl⟩
            have HC := Lib.hid (fun w => idx_is hz w)
            rw [hz] at hd
            have HST := Lib.hid hstep
            clear hstep hz
            go_wp2_with (go_at_call 27; refine (HC.out _).mono ?_; rintro e w' ⟨rfl, rfl⟩)
            go_ret2
            rw [HST.out]; exact ⟨rfl, HW.out⟩
          · rw [if_pos (by omega), hd2, Int.toNat_natCast] at hstep
            have HC := Lib.hid (fun w => idx_is hd2 w)
            have HST := Lib.hid hstep
            have ho := or16 y d hd
            clear hstep hd2
            go_wp2_with (go_at_call 27; refine (HC.out _).mono ?_; rintro e w' ⟨rfl, rfl⟩)
            go_roundw
            case rel => exact ⟨k + 1, y * 16 % 4294967296 + d, by omega, by go_num, by rw [show ((y * 16 % 4294967296 + d : Nat) : Int) = (y : Int) * 16 % 4294967296 + d by omega], by omega, HST.out.symm, HW.out⟩
            case measure => simp [intOf]; omega
        · have t1 := u8_ne48 h48
          rw [if_neg h48] at hstep
          by_cases hca : c = a
          · subst hca
            rw [if_pos rfl] at hstep
            have HST := Lib.hid hstep
            clear hstep
            go_wp2
            go_quiet (fail)
            go_wp2
            go_roundw
            case rel => exact ⟨k + 1, y, by omega, by go_num, rfl, hy, HST.out.symm, below_drewN HW.out _⟩
            case measure => simp [intOf]; omega
          · rw [if_neg hca] at hstep
            have t2 := u8_ne hca
            have HST := Lib.hid hstep
            clear hstep
            go_wp2
            go_quiet (fail)
            go_wp2
            go_ret2
            rw [HST.out]; exact ⟨rfl, below_drewN HW.out _⟩
      · obtain rfl : k = 12 := by omega
        have h := HR.out
        rw [show fm.drop 12 = [] from rfl, List.drop_of_length_le (by rw [ba_len, HS.out]; omega), wd_nil] at h
        have HST := Lib.hid h
        clear h
        go_wp2
        go_ret2
        rw [← HST.out]; exact ⟨rfl, HW.out⟩
  · have h1 : R = none := by
      cases R with
      | none => rfl
      | some r => exact absurd (wd_len hR.out).symm (by rw [ba_len]; exact hlen)
    have h2 : ((s.size : Int) == 12) = false := by simp; omega
    subst h1
    clear hlen
    go_enter Try.func24, Try.ntmps24
    go_wp2
    go_ret2
    exact ⟨rfl, Below.refl _ _⟩
end Go.Proofs.Ytobfcinnggbkcaa
