/-
  THE CONTRACTS of ints.areDigits and of the document's own Parse: a text is a number where its digits say so.
-/
import Derived.Test.YtlfiaompjbdcgaaDoorText
import Derived.Test.YtlfiaompjbdcgaaDoorDigits
namespace Go.Proofs.YtlfiaompjbdcgaaDoor
open Go.RowKit
set_option linter.unusedVariables false

theorem ba_get (s : ByteArray) {k : Nat} (h : k < s.size) : s.data.toList[k]'(by simpa using h) = s[k] := by
  rw [Array.getElem_toList]; rfl
theorem ba_len (s : ByteArray) : s.data.toList.length = s.size := rfl
theorem ba_empty (s : ByteArray) : s.toList.isEmpty = s.data.toList.isEmpty := by rw [Lib.toList_data]
theorem bool_of {a b : Bool} (h : b = a) : Ending.returned (.bool a) = Ending.returned (.bool b) := by rw [h]

theorem areDigits_any (s : ByteArray) (R : Bool) (w : World) (hs : s.size ≤ 100) (hR : isNum s.data.toList = R) :
    Calls Tryd.prog 50 #[.string s] w fun e w' => e = .returned (.bool R) ∧ w = w' := by
  have HR := Lib.hid hR
  clear hR
  go_enter Tryd.func50, Tryd.ntmps50
  go_wp2
  go_loop [6] (fun i => ∃ k : Nat, k ≤ s.size ∧ i = .int .i64 k ∧ Hid ((s.data.toList.take k).all dig = true)) (fun i => s.size - (intOf i).toNat)
  case atStart => exact ⟨0, Nat.zero_le _, rfl, rfl⟩
  case round =>
    obtain ⟨k, hk, rfl, hd⟩ := hrel
    by_cases hlt : k < s.size
    · have HB : Hid (dig (s[k]) = false → R = false) := by
        intro h; rw [← ba_get s hlt] at h; rw [← HR.out]; exact not_num _ h
      have HG : Hid (dig (s[k]) = true → (s.data.toList.take (k + 1)).all dig = true) := by
        intro h; rw [← ba_get s hlt] at h; exact all_step _ hd.out h
      go_wp2
      all_goals first
        | (go_round
           case rel => exact ⟨k + 1, by omega, by go_num, HG.out (dig_is.2 (by omega))⟩
           case measure => simp [intOf]; omega)
        | (go_ret
           exact ⟨bool_of (HB.out (by simp only [dig, Bool.and_eq_false_iff, decide_eq_false_iff_not]; omega)), rfl⟩)
    · have hkn : k = s.size := by omega
      have HE : Hid (R = !s.toList.isEmpty) := by
        have h := hd.out
        rw [hkn, ← ba_len, List.take_length] at h
        show R = _
        rw [← HR.out, isNum, h, Bool.and_true, ba_empty]
      clear hkn
      go_wp2
      go_ret
      exact ⟨bool_of HE.out, rfl⟩
end Go.Proofs.YtlfiaompjbdcgaaDoor
