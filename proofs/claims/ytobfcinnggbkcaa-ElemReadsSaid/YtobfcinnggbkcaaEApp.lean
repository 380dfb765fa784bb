/-
  THE CONTRACTS of digits put behind a text of the call's own, and of an element's text, by package elem.
-/
import Derived.Test.YtobfcinnggbkcaaEMem
namespace Go.Proofs.Ytobfcinnggbkcaa
open Go.RowKit
set_option linter.unusedVariables false
set_option linter.unusedSimpArgs false
theorem run_ix {d : Nat} (h : d < 16) (w : World) : (Instr.index 9 (.string ⟨#[48, 49, 50, 51, 52, 53, 54, 55, 56, 57, 97, 98, 99, 100, 101, 102]⟩) (.int .i64 (d : Int))).run Try.prog w = .ok (.int .u8 ((hx d).toNat : Int)) w := by
  have h' : 0 ≤ (d : Int) ∧ (d : Int) < ((⟨#[48, 49, 50, 51, 52, 53, 54, 55, 56, 57, 97, 98, 99, 100, 101, 102]⟩ : ByteArray).size : Int) := ⟨by omega, by show _ < ((16 : Nat) : Int); omega⟩
  rw [run_index_string w 9 ⟨#[48, 49, 50, 51, 52, 53, 54, 55, 56, 57, 97, 98, 99, 100, 101, 102]⟩ .i64 (d : Int) Try.underlying9, dif_pos h']
  congr 3
  have h : d = 0 ∨ d = 1 ∨ d = 2 ∨ d = 3 ∨ d = 4 ∨ d = 5 ∨ d = 6 ∨ d = 7 ∨ d = 8 ∨ d = 9 ∨ d = 10 ∨ d = 11 ∨ d = 12 ∨ d = 13 ∨ d = 14 ∨ d = 15 := by omega
  unfold hx
  rcases h with rfl | rfl | rfl | rfl | rfl | rfl | rfl | rfl | rfl | rfl | rfl | rfl | rfl | rfl | rfl | rfl <;> rfl
theorem digits_any (a : Value) (v n : Nat) (l : List UInt8) (w : World) (B : Nat) (hv : v < 65536) (hn : n ≤ 4) (ho : OwnB B w a l) (hB : B ≤ w.heap.size) (hl : l.length ≤ 9000000) :
    Calls Try.prog 21 #[a, .int .i64 v, .int .i64 n] w (GotB B w (l ++ hexd v n)) := by
  have HO := Lib.hid ho
  clear ho
  go_enter Try.func21, Try.ntmps21
  go_wp2
  go_loopw [0, 2] (fun a i wr => ∃ (k : Nat) (l' : List UInt8), k ≤ n ∧ i = .int .i64 ((k : Int) - 1) ∧ Hid (OwnB B wr a l') ∧ Hid (l' ++ hexd v k = l ++ hexd v n) ∧ Hid (Below B w wr)) (fun _ i _ => (intOf i + 1).toNat)
  case atStart => exact ⟨n, l, Nat.le_refl _, rfl, HO.out, rfl, Below.refl _ _⟩
  case round =>
    obtain ⟨k, l', hk, rfl, HO2, HL, HW⟩ := hrel
    cases k with
    | succ j =>
      obtain ⟨d, hd⟩ : ∃ d, v / 16 ^ j % 16 = d := ⟨_, rfl⟩
      have hd16 : d < 16 := by omega
      have hnib := nib v j
      rw [hd] at hnib
      have HD := Lib.hid hd
      have hix := run_ix hd16
      have e1 : ((j + 1 : Nat) : Int) - 1 = (j : Int) := by omega
      have HLL : Hid (l'.length + [hx d].length ≤ 10000000) := by
        have := congrArg List.length HL.out
        rw [List.length_append, List.length_append, hexd_len, hexd_len] at this
        show l'.length + 1 ≤ 10000000; omega
      have HBB : Hid (B ≤ wr.heap.size) := Nat.le_trans hB HW.out.size
      clear hd
      rw [e1]
      clear e1
      go_wp2_with (at_builtin; refine pushB rfl (.tmp 13) (.tmp 20) rfl _ B _ _ [hx d] 1 rfl HO2.out rfl HBB.out HLL.out ?_; intro v2 w2 ho2 hb2)
      go_roundw
      case rel => exact ⟨j, l' ++ [hx d], by omega, rfl, ho2, by show _ = _; rw [← HL.out, ← HD.out]; simp [hexd], HW.out.trans hb2⟩
      case measure => simp [intOf]
    | zero =>
      have HL0 := HL.out
      have e1 : ((0 : Nat) : Int) - 1 = -1 := rfl
      rw [e1]
      go_wp2
      go_ret
      refine ⟨_, rfl, ?_, HW.out⟩
      have h := HO2.out
      rw [show l' = l ++ hexd v n by rw [← HL0]; simp [hexd]] at h
      exact h
theorem digits_4 (a : Value) (v : Nat) (l : List UInt8) (w : World) (B : Nat) (hv : v < 65536) (ho : OwnB B w a l) (hB : B ≤ w.heap.size) (hl : l.length ≤ 9000000) :
    Calls Try.prog 21 #[a, .int .i64 v, .int .i64 4] w (GotB B w (l ++ hexd v 4)) := digits_any a v 4 l w B hv (by omega) ho hB hl
theorem digits_2 (a : Value) (v : Nat) (l : List UInt8) (w : World) (B : Nat) (hv : v < 65536) (ho : OwnB B w a l) (hB : B ≤ w.heap.size) (hl : l.length ≤ 9000000) :
    Calls Try.prog 21 #[a, .int .i64 v, .int .i64 2] w (GotB B w (l ++ hexd v 2)) := digits_any a v 2 l w B hv (by omega) ho hB hl
end Go.Proofs.Ytobfcinnggbkcaa
