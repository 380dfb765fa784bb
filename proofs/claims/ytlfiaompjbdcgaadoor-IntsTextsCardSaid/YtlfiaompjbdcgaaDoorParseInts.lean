/-
  THE CONTRACT of ints.Parse: the number that a text tells, or the error, as the document's own Parse has it.
-/
import Derived.Test.YtlfiaompjbdcgaaDoorParseRef
import Derived.Test.YtlfiaompjbdcgaaDoorShelfParse
import Derived.Lib.AtoiErrMem
namespace Go.Proofs.YtlfiaompjbdcgaaDoor
open Go.RowKit
set_option linter.unusedVariables false

theorem rparse_any (s : ByteArray) (w : World) (hs : s.size ≤ 100) :
    Calls Tryd.prog 46 #[.string s] w fun e w' => e = .returned (.tuple #[.int .i64 (pV s.data.toList), .int .i64 (pE s.data.toList)]) ∧ w = w' := by
  by_cases h0 : 0 < s.size
  · cases h1 : (((s[0]'h0).toNat : Int) == 45)
    · exact rparse_pos s w hs h0 h1
    · exact rparse_neg s w hs h0 h1
  · have hl : s.data.toList = [] := List.eq_nil_of_length_eq_zero (by rw [ba_len]; omega)
    have hz : s.size = 0 := by omega
    have he : s.toList.isEmpty = true := by rw [ba_empty, hl]; rfl
    rw [hl]
    clear hl h0
    go_enter Tryd.func46, Tryd.ntmps46
    go_wp2
    go_loop [5] (fun i => i = .int .i64 0) (fun i => 0)
    case atStart => rfl
    case round =>
      subst hrel
      go_wp2
      go_ret2
      exact ⟨rfl, rfl⟩

theorem parse_any (s : ByteArray) (tp : TypeId) (p : Value) (w : World) (hs : s.size ≤ 100) (hvar : w.var? Tryd.prog "strconv.ErrRange" = some #[.iface tp p]) :
    Calls Tryd.prog 45 #[.string s] w fun e w' => e = .returned (.tuple #[.int .i64 (pV s.data.toList), .int .i64 (pE s.data.toList)]) ∧ Below w.heap.size w w' := by
  have hT := Tryd.strings_TrimPrefix s ⟨#[45]⟩
  have ht : (⟨(Lib.trimPrefix s.data.toList [45]).toArray⟩ : ByteArray).data.toList = bod s.data.toList := by rw [trim_bod]
  simp only at hT
  have htl : (bod s.data.toList).length ≤ 100 := by
    have := ba_len s; unfold bod; split
    · rw [List.length_tail]; omega
    · omega
  generalize (⟨(Lib.trimPrefix s.data.toList [45]).toArray⟩ : ByteArray) = t at *
  have hts : t.size ≤ 100 := by rw [← ba_len, ht]; exact htl
  have HT := Lib.hid hT
  clear hT htl
  cases hn : isNum (bod s.data.toList)
  · have HP := Lib.hid (pf_num hn)
    have HA := Lib.hid (fun w => areDigits_any t false w hts (by rw [ht]; exact hn))
    clear hn ht hvar
    go_enter Tryd.func45, Tryd.ntmps45
    go_wp2_with (first | (go_at_call 51; refine (HT.out _).mono ?_; rintro e w' ⟨rfl, rfl⟩) | (go_at_call 50; refine (HA.out _).mono ?_; rintro e w' ⟨rfl, rfl⟩))
    go_ret2
    exact ⟨two HP.out, Below.refl _ _⟩
  · have HA := Lib.hid (fun w => areDigits_any t true w hts (by rw [ht]; exact hn))
    have HP := Lib.hid (pt_num hn)
    have hp := parse_is hn
    clear hn ht
    by_cases hr : -9223372036854775808 ≤ pNum s.data.toList ∧ pNum s.data.toList ≤ 9223372036854775807
    · rw [if_pos hr] at hp
      have HC := Lib.hid (fun w => Tryd.strconv_ParseInt_10_at64_ok s (by omega) _ hp w)
      have HV : Hid (pV s.data.toList = pNum s.data.toList ∧ pE s.data.toList = 0) := by
        have h := HP.out; show _ ∧ _
        rw [h.1, h.2]; exact ov_in hr.1 hr.2
      clear hp HP hr hvar
      generalize pNum s.data.toList = v at *
      go_enter Tryd.func45, Tryd.ntmps45
      go_wp2_with (first | (go_at_call 51; refine (HT.out _).mono ?_; rintro e w' ⟨rfl, rfl⟩) | (go_at_call 50; refine (HA.out _).mono ?_; rintro e w' ⟨rfl, rfl⟩) | (go_at_call 52; refine (HC.out _).mono ?_; rintro e w' ⟨rfl, hw⟩))
      go_ret2
      refine ⟨two HV.out, ?_⟩
      rcases hw with rfl | ⟨t, rfl⟩
      · exact Below.refl _ _
      · exact Lib.bytesWorld_below _ _ _
    · rw [if_neg hr] at hp
      have HC := Lib.hid (Tryd.strconv_ParseInt_10_at64_range_var s (by omega) hp tp p w hvar)
      have HV : Hid (pV s.data.toList = 0 ∧ pE s.data.toList = 17) := by
        have h := HP.out; show _ ∧ _
        rw [h.1, h.2]; exact ov_out (by unfold pNum at hr; omega)
      clear hp HP hr hvar
      go_enter Tryd.func45, Tryd.ntmps45
      go_wp2_with (first | (go_at_call 51; refine (HT.out _).mono ?_; rintro e w' ⟨rfl, rfl⟩) | (go_at_call 50; refine (HA.out _).mono ?_; rintro e w' ⟨rfl, rfl⟩) | (go_at_call 52; refine (HC.out).mono ?_; rintro e w' ⟨N, rfl, _, _, hb⟩))
      go_ret2
      exact ⟨two HV.out, hb⟩
end Go.Proofs.YtlfiaompjbdcgaaDoor
