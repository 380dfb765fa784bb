/-
  THE WALK of the law IntsTexts: numbers are told by their digits, and any text is read as the number that it tells, or refused.
-/
import Derived.Test.YtlfiaompjbdcgaaDoorParseInts
import Derived.Test.YtlfiaompjbdcgaaDoorAfter
import Derived.Stop.LaidErr
import Derived.Lib.SmallJoins
namespace Go.Proofs.YtlfiaompjbdcgaaDoor
open Go.RowKit
set_option linter.unusedVariables false

theorem gER : Tryd.prog.globalNamed "strconv.ErrRange" = some 2 := by kernel_rfl
theorem gERType : (Tryd.prog.globals[2]?).map (·.type) = some 60 := by kernel_rfl
theorem cellsES : Tryd.prog.cellsOf 94 = 1 := by kernel_rfl
theorem cellsStr : Tryd.prog.cellsOf 9 = 1 := by kernel_rfl
theorem starES : "*" ++ "errors.errorString" = "*errors.errorString" := by decide
theorem rowES (u : TypeId) (h : Tryd.prog.typeName? 3 u = some "*errors.errorString") : u = 92 :=
  typeName_ptr_named (nm := "errors.errorString") (by rw [starES]; kernel_rfl) (by kernel_rfl) (by decide) u (by rw [starES]; exact h)
/-- The library's error of what is out of range stands where it stands. -/
theorem range_of {W : World} {l : List (String × DataW Unit)} (h : laidMetH Tryd.prog l W)
    (hf : (l.filter fun x => x.1 == "strconv.ErrRange") = [("strconv.ErrRange", Rows.laid_strconv_ErrRange)]) : ∃ a : Addr, W.var? Tryd.prog "strconv.ErrRange" = some #[.iface 92 (.pointer (some a))] := by
  have h1 := h.filter (fun x => x.1 == "strconv.ErrRange")
  rw [hf, MakeChecks.laidMetH_plain _ _ _ (by kernel_rfl)] at h1
  obtain ⟨a, s, hv, -, -, -⟩ := laid_sentinel h1 gER gERType Tryd.underlying60 rowES Tryd.underlying92 Tryd.underlying94 rfl rfl Tryd.underlying9 cellsES cellsStr
  exact ⟨a, hv⟩

theorem text_after (n : Int) (h0 : -9223372036854775808 ≤ n) (h1 : n ≤ 9223372036854775807) (w w1 : World) (ht : Tab w) (hb : Below w.heap.size w w1) :
    Calls Tryd.prog 26 #[.int .i64 n] w1 fun e w' => e = .returned (.string ⟨(Lib.itoa n).toArray⟩) ∧ Below w.heap.size w w' :=
  (text_any n h0 h1 w1 (tab_after ht hb)).mono fun _ _ h => ⟨h.1, hb.trans (h.2.mono hb.size)⟩
theorem parse_after (s : ByteArray) (V E : Int) (a : Addr) (w w1 : World) (hs : s.size ≤ 100) (hvar : w.var? Tryd.prog "strconv.ErrRange" = some #[.iface 92 (.pointer (some a))]) (hb : Below w.heap.size w w1)
    (h : pV s.data.toList = V ∧ pE s.data.toList = E) :
    Calls Tryd.prog 45 #[.string s] w1 fun e w' => e = .returned (.tuple #[.int .i64 V, .int .i64 E]) ∧ Below w.heap.size w w' := by
  obtain ⟨rfl, rfl⟩ := h
  exact (parse_any s _ _ w1 hs (Joins.var_stays gER hvar hb (Nat.le_refl _))).mono fun _ _ h => ⟨h.1, hb.trans (h.2.mono hb.size)⟩

theorem intsTexts_walk (a0 : Int) (a1 : ByteArray) (w : World) (w0 : (Lit.int .i64 a0).wf = true) (w1 : a1.size ≤ maxLen) (hL : laidMetH Tryd.prog Rows.intsTextsRow.laid w) :
    Calls Tryd.prog 12 #[.int .i64 a0, .string a1] w fun e w' => e = .returned (.bool true) ∧ Below w.heap.size w w' := by
  have HT := Lib.hid (tab_of hL (by kernel_rfl))
  obtain ⟨a, hv⟩ := range_of hL (by kernel_rfl)
  have HV := Lib.hid hv
  obtain ⟨h0, h0'⟩ := bd64 w0
  clear hL w0 hv
  by_cases hs : a1.size ≤ 100
  · have hib := itoa_back h0 h0'
    have hil := Lib.itoa_length_le a0 h0 h0'
    obtain ⟨t, ht⟩ : ∃ t : ByteArray, (⟨(Lib.itoa a0).toArray⟩ : ByteArray) = t := ⟨_, rfl⟩
    have htd : t.data.toList = Lib.itoa a0 := by rw [← ht]
    have hts : t.size ≤ 100 := by rw [← ba_len, htd]; omega
    rw [← htd] at hib
    have CT := fun w1 hb => text_after a0 h0 h0' w w1 HT.out hb
    have CR := fun w1 => rtext_any a0 w1 h0 h0'
    rw [ht] at CT CR
    have CP := fun w1 hb => parse_after t a0 0 a w w1 hts HV.out hb hib
    have CS := fun w1 hb => parse_after a1 (pV a1.data.toList) (pE a1.data.toList) a w w1 hs HV.out hb ⟨rfl, rfl⟩
    have CRS := fun w1 => rparse_any a1 w1 hs
    generalize pV a1.data.toList = V at *
    generalize pE a1.data.toList = E at *
    have CT := Lib.hid CT
    have CR := Lib.hid CR
    have CP := Lib.hid CP
    have CS := Lib.hid CS
    have CRS := Lib.hid CRS
    have tok : True := trivial
    have hb0 := Below.refl w.heap.size w
    have HB0 := Lib.hid hb0
    clear hib hil ht htd hts hb0
    go_enter Tryd.func12, Tryd.ntmps12
    go_wp2_with (first | (go_at_call 26; refine (CT.out _ HB0.out).mono ?_; rintro e w1 ⟨rfl, hb1⟩) | (go_at_call 45; have _t := tok; refine (CP.out _ (by assumption)).mono ?_; rintro e w2 ⟨rfl, hb2⟩; clear _t tok) | (go_at_call 45; refine (CS.out _ (by assumption)).mono ?_; rintro e w3 ⟨rfl, hb3⟩) | (go_at_call 46; refine (CRS.out _).mono ?_; rintro e w' ⟨rfl, rfl⟩) | (go_at_call 25; refine (CR.out _).mono ?_; rintro e w' ⟨rfl, rfl⟩) | (go_at_call 30; refine (same_eq _ _ _).mono ?_; rintro e w' ⟨rfl, rfl⟩) | (go_at_call 16; refine (awake_after w _ HT.out (by assumption)).mono ?_; rintro e w4 ⟨rfl, hb⟩))
    go_ret
    exact ⟨rfl, hb⟩
  · have hlt : 100 < a1.size := by omega
    clear hs
    go_enter Tryd.func12, Tryd.ntmps12
    go_wp2_with (go_at_call 16; refine (awake_any _ HT.out).mono ?_; rintro e w' ⟨rfl, hb⟩)
    go_ret
    exact ⟨rfl, hb⟩
end Go.Proofs.YtlfiaompjbdcgaaDoor
