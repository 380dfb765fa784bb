/-
  THE CONTRACT of the document's own Text: a number's digits, as the library's number printer tells them.
-/
import Derived.Test.YtlfiaompjbdcgaaDoorAfter
import Derived.Lib.ItoaMem
import Derived.Lib.ItoaLen
namespace Go.Proofs.YtlfiaompjbdcgaaDoor
open Go.RowKit
set_option linter.unusedVariables false

theorem dig_part {K : Nat} (h : K ≤ 9) : (⟨#[48, 49, 50, 51, 52, 53, 54, 55, 56, 57]⟩ : ByteArray).extract K (K + 1) = ⟨#[UInt8.ofNat (48 + K)]⟩ := by
  have h : K = 0 ∨ K = 1 ∨ K = 2 ∨ K = 3 ∨ K = 4 ∨ K = 5 ∨ K = 6 ∨ K = 7 ∨ K = 8 ∨ K = 9 := by omega
  rcases h with rfl | rfl | rfl | rfl | rfl | rfl | rfl | rfl | rfl | rfl <;> rfl
theorem run_dig {K : Nat} (h : K ≤ 9) (w : World) : (Instr.slice 9 (.string ⟨#[48, 49, 50, 51, 52, 53, 54, 55, 56, 57]⟩) (some (.int .i64 (K : Int))) (some (.int .i64 ((K : Int) + 1))) none).run Tryd.prog w = .ok (.string ⟨#[UInt8.ofNat (48 + K)]⟩) w := by
  have := run_slice_string (P := Tryd.prog) w 9 ⟨#[48, 49, 50, 51, 52, 53, 54, 55, 56, 57]⟩ .i64 .i64 (K : Int) ((K : Int) + 1) Tryd.underlying9 (by omega) (by omega) (by show _ ≤ ((10 : Nat) : Int); omega)
  rw [this, ← dig_part h]; congr 2
theorem str_of {b c : ByteArray} (h : b = c) : Ending.returned (.string b) = Ending.returned (.string c) := by rw [h]
theorem ba_data (l : List UInt8) : (⟨l.toArray⟩ : ByteArray).data.toList = l := by simp
theorem ba_of {b : ByteArray} {l : List UInt8} (h : b.data.toList = l) : b = ⟨l.toArray⟩ := by
  subst h; cases b; simp
theorem ofNat_add {K : Nat} : UInt8.ofNat (48 + K) = 48 + UInt8.ofNat K := by simp
theorem dec_len {N : Nat} (h : (N : Int) ≤ 9223372036854775807) : (Lib.decDigits N).length ≤ 21 := by
  have := Lib.itoa_length_le (N : Int) (by omega) h; rwa [Lib.itoa_nonneg] at this
theorem tail_len {l : List UInt8} {b : ByteArray} {N : Nat} (h : (N : Int) ≤ 9223372036854775807) (e : l ++ b.data.toList = Lib.decDigits N) : b.size ≤ 21 := by
  have h1 := dec_len h
  have h2 := congrArg List.length e
  rw [List.length_append] at h2
  have h4 : 0 ≤ l.length := Nat.zero_le _
  have h3 : b.data.toList.length = b.size := rfl
  omega
set_option maxRecDepth 200000 in
theorem rtext_p (N : Nat) (w : World) (h0' : (N : Int) ≤ 9223372036854775807) :
    Calls Tryd.prog 25 #[.int .i64 N] w fun e w' => e = .returned (.string ⟨(Lib.decDigits N).toArray⟩) ∧ w = w' := by
  have d1 : decide ((N : Int) < 0) = false := by simp
  have d2 : ((N : Int) == -9223372036854775808) = false := by simp
  go_enter Tryd.func25, Tryd.ntmps25
  go_wp2
  go_loop [0, 3] (fun x s => ∃ (n : Nat) (b : ByteArray), x = .int .i64 n ∧ s = .string b ∧ (n : Int) ≤ 9223372036854775807 ∧ Hid (Lib.decDigits n ++ b.data.toList = Lib.decDigits N)) (fun x _ => (intOf x).toNat)
  case atStart => exact ⟨N, ByteArray.empty, rfl, rfl, h0', by simp [Hid]⟩
  case round =>
    obtain ⟨n, b, rfl, rfl, hn, Hb⟩ := hrel
    have hbs := tail_len h0' Hb.out
    obtain ⟨K, hK, hK2, e1⟩ : ∃ K : Nat, K ≤ 9 ∧ Hid (K = n % 10) ∧ (n : Int).tmod 10 = (K : Int) := ⟨n % 10, by omega, rfl, by rw [Int.tmod_eq_emod_of_nonneg (by omega)]; omega⟩
    obtain ⟨D, hD, e2⟩ : ∃ D : Nat, Hid (D = n / 10) ∧ (n : Int).tdiv 10 = (D : Int) := ⟨n / 10, rfl, by rw [Int.tdiv_eq_ediv_of_nonneg (by omega)]; omega⟩
    have hDn : (D : Int) ≤ 922337203685477580 := by have := hD.out; omega
    by_cases hlt : 9 < n
    · have hsl := run_dig hK
      go_wp2
      go_round
      case rel =>
        refine ⟨D, _, rfl, rfl, by omega, ?_⟩
        have hb := Hb.out
        rw [Lib.decDigits, dif_neg (by omega)] at hb
        have h1 := hD.out; have h2 := hK2.out
        subst h1; subst h2
        show _ = _
        rw [← hb, ofNat_add]; simp [ByteArray.data_append]
      case measure => have := hD.out; simp [intOf]; omega
    · have hKn : K = n := by have := hK2.out; omega
      subst hKn
      have hsl := run_dig hK
      have hb := Hb.out
      rw [Lib.decDigits, dif_pos (by omega)] at hb
      have HB := Lib.hid hb
      clear hb
      go_wp2
      go_ret
      exact ⟨str_of (ba_of (by rw [← HB.out, ofNat_add]; simp [ByteArray.data_append])), rfl⟩
set_option maxRecDepth 200000 in
theorem rtext_any (a : Int) (w : World) (h0 : -9223372036854775808 ≤ a) (h0' : a ≤ 9223372036854775807) :
    Calls Tryd.prog 25 #[.int .i64 a] w fun e w' => e = .returned (.string ⟨(Lib.itoa a).toArray⟩) ∧ w = w' := by
  by_cases hn : 0 ≤ a
  · obtain ⟨N, rfl⟩ := Int.eq_ofNat_of_zero_le hn
    rw [Lib.itoa_nonneg]
    exact rtext_p N w h0'
  by_cases hm : a = -9223372036854775808
  · subst hm
    have h : (Lib.itoa (-9223372036854775808)).toArray = #[45, 57, 50, 50, 51, 51, 55, 50, 48, 51, 54, 56, 53, 52, 55, 55, 53, 56, 48, 56] := by kernel_rfl
    rw [h]
    go_enter Tryd.func25, Tryd.ntmps25
    go_wp2
    go_ret
    exact ⟨rfl, rfl⟩
  obtain ⟨N, rfl⟩ : ∃ N : Nat, a = -(N : Int) := ⟨(-a).toNat, by omega⟩
  have d1 : decide (-(N : Int) < 0) = true := by simp; omega
  have d2 : (-(N : Int) == -9223372036854775808) = false := by simp; omega
  rw [Lib.itoa_neg N (by omega)]
  have C := Lib.hid (fun w => rtext_p N w (by omega))
  have hl := @dec_len N (by omega)
  generalize Lib.decDigits N = l at *
  have hN : (N : Int) ≤ 9223372036854775807 := by omega
  have hN0 : 0 < N := by omega
  clear hn h0 h0'
  go_enter Tryd.func25, Tryd.ntmps25
  go_wp2_with (go_at_call 25; refine (C.out _).mono ?_; rintro e w' ⟨rfl, rfl⟩)
  go_ret
  exact ⟨str_of (ba_of (by simp [ByteArray.data_append])), rfl⟩
end Go.Proofs.YtlfiaompjbdcgaaDoor
