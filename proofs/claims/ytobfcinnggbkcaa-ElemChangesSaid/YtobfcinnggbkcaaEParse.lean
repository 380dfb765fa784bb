/-
  THE CONTRACT of Parse, by package elem.
-/
import Derived.Test.YtobfcinnggbkcaaEWord
import Derived.Test.YtobfcinnggbkcaaEMake
import Derived.WalkSpells
namespace Go.Proofs.Ytobfcinnggbkcaa
open Go.RowKit
set_option linter.unusedVariables false
set_option linter.unusedSimpArgs false
theorem pre_is {s : ByteArray} {b : Bool} (h : Hid (Lib.hasPrefix s.data.toList [91, 42] = b)) (w : World) : Calls Try.prog 23 #[.string s, .string ⟨#[91, 42]⟩] w fun e w' => e = .returned (.bool b) ∧ w = w' := by
  refine (Try.strings_HasPrefix s ⟨#[91, 42]⟩ w).mono ?_
  rintro e w' ⟨rfl, rfl⟩
  exact ⟨bool_of h.out, rfl⟩
def pT (R : Option Nat) (e : Ending) : Prop := e = .returned (.tuple #[.int .u32 ((R.getD 0 : Nat) : Int), .int .i64 (if R.isSome then 0 else 3)])
theorem pT_none : pT none (.returned (.tuple #[.int .u32 0, .int .i64 3])) := rfl
theorem pT_some (n : Nat) : pT (some n) (.returned (.tuple #[.int .u32 n, .int .i64 0])) := rfl
theorem make_no (p q t : Nat) (v : Bool) (hp : p < 65536) (hq : q < 256) (ht : t < 256) (h : ¬ t < 128) (w : World) :
    Calls Try.prog 7 #[.int .i64 p, .int .i64 q, .int .i64 t, .bool v] w fun r w' => r = .returned (.tuple #[.int .u32 0, .int .i64 1]) ∧ w = w' :=
  make_c p q t v hp hq (by omega) (by omega) (by omega) w
theorem make_yes (p q t : Nat) (v : Bool) {n : Nat} (hp : p < 65536) (hq : q < 256) (h : t < 128) (hn : mk p q t (if v then 1 else 0) = n) (w : World) :
    Calls Try.prog 7 #[.int .i64 p, .int .i64 q, .int .i64 t, .bool v] w fun r w' => r = .returned (.tuple #[.int .u32 n, .int .i64 0]) ∧ w = w' := by
  rw [← hn]; exact make_d p q t v hp hq h w
theorem word_is {s : ByteArray} {R : Option Nat} {n : Nat} {b : Bool} (h : Hid (wd fm s.data.toList 0 = R ∧ R.getD 0 = n ∧ R.isSome = b)) (hs : s.size ≤ maxLen) (w : World) :
    Calls Try.prog 24 #[.string s] w fun e w' => e = .returned (.tuple #[.int .u32 n, .bool b]) ∧ Below w.heap.size w w' := by
  obtain ⟨h1, h2, h3⟩ := h.out
  subst h2; subst h3
  exact word_any s R h1 hs w
/-- Behind the words: what the rest of Parse needs. -/
theorem and255 {x : Nat} (hx : x < 4294967296) : bits .and .u32 (x : Int) 255 = ((x % 256 : Nat) : Int) := and32 8 (by omega) hx
theorem and255' {x : Nat} (hx : x < 4294967296) : bits .and .u32 ((x : Int) / 256) 255 = ((x / 256 % 256 : Nat) : Int) := by
  have h : bits .and .u32 ((x / 256 : Nat) : Int) 255 = ((x / 256 % 256 : Nat) : Int) := and32 8 (by omega) (x := x / 256) (by omega)
  rwa [show ((x / 256 : Nat) : Int) = (x : Int) / 256 by omega] at h
theorem cut2 {s : ByteArray} (h : Lib.hasPrefix s.data.toList [91, 42] = true) : 2 ≤ s.size ∧ ((⟨#[91]⟩ : ByteArray) ++ s.extract 2 s.size).data.toList = 91 :: s.data.toList.drop 2 := by
  constructor
  · have h2 := pre_inv h
    have h3 := congrArg List.length h2
    rw [ba_len] at h3
    simp only [List.length_cons] at h3; omega
  · have : (s.extract 2 s.size).data.toList = s.data.toList.drop 2 := by
      rw [Lib.extract_data, List.take_of_length_le (by rw [List.length_drop, ba_len]; omega)]
    rw [ByteArray.data_append, Array.toList_append, this]; rfl
set_option maxHeartbeats 1000000 in
theorem parse_any (s : ByteArray) (R : Option Nat) (hR : Hid (prs s.data.toList = R)) (hs : s.size ≤ 1000000) (w : World) :
    Calls Try.prog 17 #[.string s] w fun e w' => pT R e ∧ Below w.heap.size w w' := by
  have hM : maxLen = 9223372036854775807 := by decide
  obtain ⟨v, hv⟩ : ∃ v, Lib.hasPrefix s.data.toList [91, 42] = v := ⟨_, rfl⟩
  have hR' := hR.out
  unfold prs at hR'
  rw [hv] at hR'
  have HV := Lib.hid hv
  clear hR
  cases v with
  | true =>
    obtain ⟨h2, hcut⟩ := cut2 hv
    rw [if_pos rfl, if_pos rfl] at hR'
    rw [← hcut] at hR'
    have hsz : ((⟨#[91]⟩ : ByteArray) ++ s.extract 2 s.size).size ≤ 1000000 := by
      rw [ByteArray.size_append, ByteArray.size_extract]; show 1 + _ ≤ _; omega
    have hsz2 : (s.extract 2 s.size).size ≤ 1000000 := by rw [ByteArray.size_extract]; omega
    have k2 : (2 : Int) ≤ (s.size : Int) := by omega
    cases hw : wd fm ((⟨#[91]⟩ : ByteArray) ++ s.extract 2 s.size).data.toList 0 with
    | none =>
      rw [hw] at hR'
      have HW : Hid (wd fm ((⟨#[91]⟩ : ByteArray) ++ s.extract 2 s.size).data.toList 0 = none ∧ (none : Option Nat).getD 0 = 0 ∧ (none : Option Nat).isSome = false) := ⟨hw, rfl, rfl⟩
      have HZ : Hid (((⟨#[91]⟩ : ByteArray) ++ s.extract 2 s.size).size ≤ maxLen) := by show _ ≤ _; omega
      dsimp only at hR'
      subst hR'
      clear hw hv hM hcut
      go_enter Try.func17, Try.ntmps17
      go_wp2_with (first
        | (go_at_call 23; refine (pre_is HV _).mono ?_; rintro e w' ⟨rfl, rfl⟩)
        | (go_at_call 24; refine (word_is HW HZ.out _).mono ?_; rintro e w1 ⟨rfl, hb1⟩))
      go_ret2
      exact ⟨pT_none, hb1⟩
    | some x =>
      rw [hw] at hR'
      have hx := (wd_inv hw).1
      have HW : Hid (wd fm ((⟨#[91]⟩ : ByteArray) ++ s.extract 2 s.size).data.toList 0 = some x ∧ (some x : Option Nat).getD 0 = x ∧ (some x : Option Nat).isSome = true) := ⟨hw, rfl, rfl⟩
      have HZ : Hid (((⟨#[91]⟩ : ByteArray) ++ s.extract 2 s.size).size ≤ maxLen) := by show _ ≤ _; omega
      obtain ⟨p, hp⟩ : ∃ p, x / 65536 = p := ⟨_, rfl⟩
      obtain ⟨q, hq⟩ : ∃ q, x / 256 % 256 = q := ⟨_, rfl⟩
      obtain ⟨t, ht⟩ : ∃ t, x % 256 = t := ⟨_, rfl⟩
      have e1 : (x : Int) / 65536 = (p : Int) := by omega
      have e2 := and255' hx
      have e3 := and255 hx
      have bp : p < 65536 := by omega
      have bq : q < 256 := by omega
      have bt : t < 256 := by omega
      dsimp only at hR'
      rw [hp, hq, ht] at hR'
      rw [hq] at e2
      rw [ht] at e3
      clear hp hq ht
      by_cases h128 : t < 128
      · rw [if_pos h128] at hR'
        obtain ⟨n, hn⟩ : ∃ n, mk p q t (if true = true then 1 else 0) = n := ⟨_, rfl⟩
        have hR2 : some n = R := by rw [← hR', ← hn]; rfl
        subst hR2
        have HM := Lib.hid (fun w => make_yes p q t true bp bq h128 hn w)
        clear hw hv hM hcut hR' hn
        go_enter Try.func17, Try.ntmps17
        go_wp2_with (first
          | (go_at_call 23; refine (pre_is HV _).mono ?_; rintro e w' ⟨rfl, rfl⟩)
          | (go_at_call 24; refine (word_is HW HZ.out _).mono ?_; rintro e w1 ⟨rfl, hb1⟩)
          | (go_at_call 7; refine (HM.out _).mono ?_; rintro e w' ⟨rfl, rfl⟩))
        go_ret2
        exact ⟨pT_some n, hb1⟩
      · rw [if_neg h128] at hR'
        subst hR'
        have HM := Lib.hid (fun w => make_no p q t true bp bq bt h128 w)
        clear hw hv hM hcut
        go_enter Try.func17, Try.ntmps17
        go_wp2_with (first
          | (go_at_call 23; refine (pre_is HV _).mono ?_; rintro e w' ⟨rfl, rfl⟩)
          | (go_at_call 24; refine (word_is HW HZ.out _).mono ?_; rintro e w1 ⟨rfl, hb1⟩)
          | (go_at_call 7; refine (HM.out _).mono ?_; rintro e w' ⟨rfl, rfl⟩))
        go_ret2
        exact ⟨pT_none, hb1⟩
  | false =>
    have hcut : True := trivial
    rw [if_neg (by simp), if_neg (by simp)] at hR'
    cases hw : wd fm (s).data.toList 0 with
    | none =>
      rw [hw] at hR'
      have HW : Hid (wd fm (s).data.toList 0 = none ∧ (none : Option Nat).getD 0 = 0 ∧ (none : Option Nat).isSome = false) := ⟨hw, rfl, rfl⟩
      have HZ : Hid ((s).size ≤ maxLen) := by show _ ≤ _; omega
      dsimp only at hR'
      subst hR'
      clear hw hv hM hcut
      go_enter Try.func17, Try.ntmps17
      go_wp2_with (first
        | (go_at_call 23; refine (pre_is HV _).mono ?_; rintro e w' ⟨rfl, rfl⟩)
        | (go_at_call 24; refine (word_is HW HZ.out _).mono ?_; rintro e w1 ⟨rfl, hb1⟩))
      go_ret2
      exact ⟨pT_none, hb1⟩
    | some x =>
      rw [hw] at hR'
      have hx := (wd_inv hw).1
      have HW : Hid (wd fm (s).data.toList 0 = some x ∧ (some x : Option Nat).getD 0 = x ∧ (some x : Option Nat).isSome = true) := ⟨hw, rfl, rfl⟩
      have HZ : Hid ((s).size ≤ maxLen) := by show _ ≤ _; omega
      obtain ⟨p, hp⟩ : ∃ p, x / 65536 = p := ⟨_, rfl⟩
      obtain ⟨q, hq⟩ : ∃ q, x / 256 % 256 = q := ⟨_, rfl⟩
      obtain ⟨t, ht⟩ : ∃ t, x % 256 = t := ⟨_, rfl⟩
      have e1 : (x : Int) / 65536 = (p : Int) := by omega
      have e2 := and255' hx
      have e3 := and255 hx
      have bp : p < 65536 := by omega
      have bq : q < 256 := by omega
      have bt : t < 256 := by omega
      dsimp only at hR'
      rw [hp, hq, ht] at hR'
      rw [hq] at e2
      rw [ht] at e3
      clear hp hq ht
      by_cases h128 : t < 128
      · rw [if_pos h128] at hR'
        obtain ⟨n, hn⟩ : ∃ n, mk p q t (if false = true then 1 else 0) = n := ⟨_, rfl⟩
        have hR2 : some n = R := by rw [← hR', ← hn]; rfl
        subst hR2
        have HM := Lib.hid (fun w => make_yes p q t false bp bq h128 hn w)
        clear hw hv hM hcut hR' hn
        go_enter Try.func17, Try.ntmps17
        go_wp2_with (first
          | (go_at_call 23; refine (pre_is HV _).mono ?_; rintro e w' ⟨rfl, rfl⟩)
          | (go_at_call 24; refine (word_is HW HZ.out _).mono ?_; rintro e w1 ⟨rfl, hb1⟩)
          | (go_at_call 7; refine (HM.out _).mono ?_; rintro e w' ⟨rfl, rfl⟩))
        go_ret2
        exact ⟨pT_some n, hb1⟩
      · rw [if_neg h128] at hR'
        subst hR'
        have HM := Lib.hid (fun w => make_no p q t false bp bq bt h128 w)
        clear hw hv hM hcut
        go_enter Try.func17, Try.ntmps17
        go_wp2_with (first
          | (go_at_call 23; refine (pre_is HV _).mono ?_; rintro e w' ⟨rfl, rfl⟩)
          | (go_at_call 24; refine (word_is HW HZ.out _).mono ?_; rintro e w1 ⟨rfl, hb1⟩)
          | (go_at_call 7; refine (HM.out _).mono ?_; rintro e w' ⟨rfl, rfl⟩))
        go_ret2
        exact ⟨pT_none, hb1⟩
end Go.Proofs.Ytobfcinnggbkcaa
