/-
  THE CONTRACTS of the program's reader: done, take, skipBlanks, ended.
-/
import Derived.Test.YtdodlppnjlmnaaaSMem
namespace Go.Proofs.Ytdodlppnjlmnaaa
open Go.RowKit
set_option linter.unusedVariables false
set_option linter.unusedSimpArgs false
open T2 (gb dec one isSg isPt sgs)
abbrev TP : TypeId := 48
theorem done_any {w : World} {g : Nat} {s : ByteArray} {k : Nat} (h : RD TP w g s k) {b : Bool} (hb : decide (s.size ≤ k) = b) (hk : k ≤ s.size) :
    Calls Try.prog 16 #[.pointer (some ⟨g, 0, none⟩)] w fun e w' => e = .returned (.bool b) ∧ ∃ m, w' = w.drewN m := by
  have c0 := h.c0
  have c1 := h.c1
  have hb2 : (((k : Int)) == (s.size : Int)) = b := by
    rw [← hb]; apply Bool.eq_iff_iff.2; simp; omega
  clear h hb hk
  go_enter Try.func16, Try.ntmps16
  go_wp2
  go_quiet (fail)
  go_wp2
  go_ret
  exact ⟨rfl, _, rfl⟩
theorem ib_any {s : ByteArray} {x : Nat} {n : Int} (h : Lib.indexByte s.data.toList (UInt8.ofNat x) = n) (w : World) :
    Calls Try.prog 28 #[.string s, .int .u8 (x : Int)] w fun e w' => e = .returned (.int .i64 n) ∧ w' = w := by
  subst h
  exact Try.strings_IndexByte s (x : Int) w
theorem ib_cons (a : UInt8) (l : List UInt8) (c : UInt8) : decide (0 ≤ Lib.indexByte (a :: l) c) = ((a == c) || decide (0 ≤ Lib.indexByte l c)) := by
  have := Lib.indexByte_ge l c
  rw [Lib.indexByte]
  by_cases h : (a == c) = true
  · rw [if_pos h, h]; rfl
  · rw [if_neg h, Bool.eq_false_iff.2 h, Bool.false_or]
    split
    · rename_i h2; have h2 : Lib.indexByte l c = -1 := by simpa using h2
      rw [h2]
    · apply Bool.eq_iff_iff.2; rename_i h2; simp at h2 ⊢; omega
theorem ofn_eq {x : Nat} (hx : x < 256) (a : UInt8) : (a == UInt8.ofNat x) = decide (x = a.toNat) := by
  apply Bool.eq_iff_iff.2
  simp only [beq_iff_eq, decide_eq_true_eq]
  constructor
  · rintro rfl; rw [T2.to_ofNat hx]
  · intro h; rw [h]; simp
theorem ib_blk {x : Nat} (hx : x < 256) : decide (0 ≤ Lib.indexByte BLK.data.toList (UInt8.ofNat x)) = isBl x := by
  show decide (0 ≤ Lib.indexByte [32, 10] (UInt8.ofNat x)) = _
  rw [ib_cons, ib_cons, ofn_eq hx, ofn_eq hx]
  simp only [isBl]
  rw [show decide (0 ≤ Lib.indexByte [] (UInt8.ofNat x)) = false from rfl]
  simp only [Bool.or_false, Bool.or_assoc]; rfl
theorem ib_end {x : Nat} (hx : x < 256) : decide (0 ≤ Lib.indexByte END.data.toList (UInt8.ofNat x)) = isEn x := by
  show decide (0 ≤ Lib.indexByte [32, 10, 38, 60, 61, 47] (UInt8.ofNat x)) = _
  rw [ib_cons, ib_cons, ib_cons, ib_cons, ib_cons, ib_cons, ofn_eq hx, ofn_eq hx, ofn_eq hx, ofn_eq hx, ofn_eq hx, ofn_eq hx]
  simp only [isEn]
  rw [show decide (0 ≤ Lib.indexByte [] (UInt8.ofNat x)) = false from rfl]
  simp only [Bool.or_false, Bool.or_assoc]; rfl
theorem hp_any {s p : ByteArray} {b : Bool} (h : p.data.toList.isPrefixOf s.data.toList = b) (w : World) :
    Calls Try.prog 45 #[.string s, .string p] w fun e w' => e = .returned (.bool b) ∧ w' = w := by
  subst h
  exact Try.strings_HasPrefix s p w
theorem take_any {w : World} {g : Nat} {s p : ByteArray} {k : Nat} (h : RD TP w g s k) {b : Bool} (hb : p.data.toList.isPrefixOf (s.data.toList.drop k) = b) (hk : k ≤ s.size) (hs : s.size ≤ 1000000) :
    Calls Try.prog 31 #[.pointer (some ⟨g, 0, none⟩), .string p] w fun e w' => e = .returned (.bool b) ∧ RD TP w' g s (if b = true then k + p.size else k) ∧ Mv g w w' := by
  have c0 := h.c0
  have c1 := h.c1
  have c2 := h.fz
  have HP := Lib.hid (fun w => hp_any (s := s.extract k s.size) (p := p) (b := b) (by rw [T2.ext_drop]; exact hb) w)
  have hkI : (k : Int) ≤ (s.size : Int) := by omega
  have HR := Lib.hid h
  have hp : b = true → p.size ≤ s.size - k := by
    rintro rfl
    have := List.isPrefixOf_iff_prefix.1 hb
    have := this.length_le
    rw [List.length_drop] at this
    exact this
  clear hb h
  go_enter Try.func31, Try.ntmps31
  go_wp2
  go_quiet ((go_at_call 45; with_reducible exact Calls.quiet_of_same (HP.out _)))
  have HB := Lib.hid (below_drewN w nq)
  generalize w.drewN nq = w1 at HB ⊢
  have hr1 := HR.out.below HB.out (Nat.le_refl _)
  clear c0 c1 c2
  have c1 := hr1.c1
  have c2 := hr1.fz
  have HR1 := Lib.hid hr1
  clear hr1 HP
  cases b with
  | false =>
    go_wp2
    go_ret
    exact ⟨rfl, HR1.out, Mv.of_below HB.out⟩
  | true =>
    have hp1 := hp rfl
    go_wp2
    go_ret
    exact ⟨rfl, HR1.out.set' (by omega), (Mv.of_below HB.out).trans (Mv.set _ _)⟩
theorem gb_s {s : ByteArray} {k : Nat} (h : k < s.size) : s[k].toNat = gb s.data.toList k := (T2.gb_ba s h).symm
theorem skip_any {w : World} {g : Nat} {s : ByteArray} {k : Nat} (h : RD TP w g s k) (hk : k ≤ s.size) (hs : s.size ≤ 1000000) :
    Calls Try.prog 15 #[.pointer (some ⟨g, 0, none⟩)] w fun e w' => e = .returned (.tuple #[]) ∧ RD TP w' g s (af s.data.toList k) ∧ Mv g w w' := by
  have HR := Lib.hid h
  obtain ⟨K, hK⟩ : ∃ K, af s.data.toList k = K := ⟨_, rfl⟩
  rw [hK]
  have HK := Lib.hid hK
  clear h hK
  go_enter Try.func15, Try.ntmps15
  go_wp2
  go_loopg [] (s.size - k) (fun n wr => ∃ j : Nat, j ≤ s.size ∧ n = s.size - j ∧ Hid (af s.data.toList j = K) ∧ Hid (RD TP wr g s j) ∧ Hid (Mv g w wr))
  case atStart => exact ⟨k, hk, rfl, HK.out, HR.out, Mv.refl _ _⟩
  case round =>
    obtain ⟨j, hj, rfl, HJ, HRJ, HM⟩ := hrel
    clear HR HK hk
    have c0 := HRJ.out.c0
    have c1 := HRJ.out.c1
    by_cases hlt : j < s.size
    · have HD := Lib.hid (fun w' (hr : RD TP w' g s j) => done_any hr (b := false) (decide_eq_false (by omega)) hj)
      have hbx := T2.gb_lt s.data.toList j
      obtain ⟨x, hx⟩ : ∃ x, gb s.data.toList j = x := ⟨_, rfl⟩
      have hx2 : s[j].toNat = x := by rw [gb_s hlt, hx]
      rw [hx] at hbx
      obtain ⟨n, hn⟩ : ∃ n, Lib.indexByte BLK.data.toList (UInt8.ofNat x) = n := ⟨_, rfl⟩
      have HI := Lib.hid (fun w => ib_any hn w)
      have hib := ib_blk hbx
      rw [hn] at hib
      obtain ⟨b, hb⟩ : ∃ b, isBl x = b := ⟨_, rfl⟩
      rw [hb] at hib
      have HB0 : Hid (isBl (gb s.data.toList j) = b) := by show _ = _; rw [hx, hb]
      clear hx hn hb
      go_wp2
      go_quiet ((first
        | (go_at_call 16; with_reducible exact Calls.quiet_of (HD.out _ (HRJ.out.below (below_drewN _ _) (Nat.le_refl _))))
        | (go_at_call 28; with_reducible exact Calls.quiet_of_same (HI.out _))))
      have HW := Lib.hid (below_drewN wr nq)
      generalize wr.drewN nq = w1 at HW ⊢
      have hr1 := HRJ.out.below HW.out (Nat.le_refl _)
      clear c0 c1
      have c1 := hr1.c1
      have c2 := hr1.fz
      have HR1 := Lib.hid hr1
      have HM1 := Lib.hid (HM.out.trans (Mv.of_below HW.out))
      clear hr1 HI HD HRJ HM HW
      cases b with
      | false =>
        have hn : ¬ (0 : Int) ≤ n := by simpa using hib
        clear hib
        go_wp2
        have := HJ.out
        rw [blk_out HB0.out] at this
        exact bodyPost_end (v := .tuple #[]) (by simp [results, Try.results15, go_sem]) rfl ⟨rfl, by rw [← this]; exact HR1.out, HM1.out⟩
      | true =>
        have hn : (0 : Int) ≤ n := by simpa using hib
        clear hib
        go_wp2
        go_roundg (s.size - (j + 1))
        case measure => omega
        case rel => exact ⟨j + 1, by omega, rfl, (blk_in (by exact hlt) HB0.out).symm.trans HJ.out, HR1.out.set' (by omega), HM1.out.trans (Mv.set _ _)⟩
    · have HD := Lib.hid (fun w' (hr : RD TP w' g s j) => done_any hr (b := true) (decide_eq_true (by omega)) hj)
      go_wp2
      go_quiet ((go_at_call 16; with_reducible exact Calls.quiet_of (HD.out _ (HRJ.out.below (below_drewN _ _) (Nat.le_refl _)))))
      have HW := Lib.hid (below_drewN wr nq)
      generalize wr.drewN nq = w1 at HW ⊢
      go_wp2
      have := HJ.out
      rw [blk_end (by show s.size ≤ j; omega)] at this
      exact bodyPost_end (v := .tuple #[]) (by simp [results, Try.results15, go_sem]) rfl ⟨rfl, by rw [← this]; exact HRJ.out.below HW.out (Nat.le_refl _), HM.out.trans (Mv.of_below HW.out)⟩
theorem ended_any {w : World} {g : Nat} {s : ByteArray} {k : Nat} (h : RD TP w g s k) {b : Bool} (hb : endd (s.data.toList.drop k) = b) (hk : k ≤ s.size) :
    Calls Try.prog 44 #[.pointer (some ⟨g, 0, none⟩)] w fun e w' => e = .returned (.bool b) ∧ ∃ m, w' = w.drewN m := by
  have HR := Lib.hid h
  have c0 := h.c0
  have c1 := h.c1
  rw [endd_iff] at hb
  clear h
  go_enter Try.func44, Try.ntmps44
  go_wp2
  by_cases hlt : k < s.size
  · have HD := Lib.hid (fun w' (hr : RD TP w' g s k) => done_any hr (b := false) (decide_eq_false (by omega)) hk)
    have hbx := T2.gb_lt s.data.toList k
    obtain ⟨x, hx⟩ : ∃ x, gb s.data.toList k = x := ⟨_, rfl⟩
    have hx2 : s[k].toNat = x := by rw [gb_s hlt, hx]
    rw [hx] at hbx hb
    rw [decide_eq_false (show ¬ s.data.toList.length ≤ k by rw [T2.ba_len]; omega), Bool.false_or] at hb
    obtain ⟨n, hn⟩ : ∃ n, Lib.indexByte END.data.toList (UInt8.ofNat x) = n := ⟨_, rfl⟩
    have HI := Lib.hid (fun w => ib_any hn w)
    have hib := ib_end hbx
    rw [hn, hb] at hib
    clear hx hn hb
    go_quiet ((first
      | (go_at_call 16; with_reducible exact Calls.quiet_of (HD.out _ (HR.out.below (below_drewN _ _) (Nat.le_refl _))))
      | (go_at_call 28; with_reducible exact Calls.quiet_of_same (HI.out _))))
    go_wp2
    go_ret
    exact ⟨rfl, _, rfl⟩
  · have HD := Lib.hid (fun w' (hr : RD TP w' g s k) => done_any hr (b := true) (decide_eq_true (by omega)) hk)
    rw [decide_eq_true (show s.data.toList.length ≤ k by rw [T2.ba_len]; omega), Bool.true_or] at hb
    subst hb
    go_quiet ((go_at_call 16; with_reducible exact Calls.quiet_of (HD.out _ (HR.out.below (below_drewN _ _) (Nat.le_refl _)))))
    go_wp2
    go_ret
    exact ⟨rfl, _, rfl⟩
theorem pos_one {l : List UInt8} (h : l ≠ []) : T2.pos 1 l = (dec l).2 := by
  rw [T2.pos_cons h]; rfl
theorem sgs_one {l : List UInt8} (h : l ≠ []) : sgs (l.take (dec l).2) = [((dec l).1 : Int)] := by
  rw [← pos_one h, T2.sgs_take, T2.sgs_cons h]; rfl
theorem drop_ne {s : ByteArray} {p : Nat} (hp : p < s.size) : s.data.toList.drop p ≠ [] := by
  intro e
  have := congrArg List.length e
  rw [List.length_drop, T2.ba_len] at this
  simp only [List.length_nil] at this
  omega
theorem begin_at {s : ByteArray} {p : Nat} {D : Nat × Nat} (hp : p < s.size) (hs : s.size ≤ 1000000) (hD : dec (s.data.toList.drop p) = D) :
    ∃ t : ByteArray, t.size = D.2 ∧ sgs t.data.toList = [(D.1 : Int)] ∧ ∀ w, Calls Try.prog 54 #[.string (s.extract p s.size), .int .i64 1] w fun e w' => e = .returned (.string t) ∧ Below w.heap.size w w' := by
  have hl := drop_ne hp
  have e1 := T2.ext_drop s p
  refine ⟨(s.extract p s.size).extract 0 (T2.pos 1 (s.extract p s.size).data.toList), ?_, ?_, fun w => ?_⟩
  · rw [ByteArray.size_extract, ByteArray.size_extract, e1, pos_one hl, ← hD]
    have := T2.dec_le hl
    rw [List.length_drop, T2.ba_len] at this
    omega
  · rw [T2.ext_take, e1, pos_one hl, sgs_one hl, hD]
  · exact T2.begin_any (s.extract p s.size) 1 w (by rw [ByteArray.size_extract]; omega) (by omega) (by omega)
theorem signs_at {t : ByteArray} {x : Int} (hx : sgs t.data.toList = [x]) (hs : t.size ≤ 1000000) (w : World) :
    Calls Try.prog 49 #[.string t] w fun e w' => (∃ g0 c : Nat, e = .returned (.slice (some ⟨g0, 0, none⟩) 1 c) ∧ 1 ≤ c ∧ w'.cell? ⟨g0, 0, none⟩ = some (.int .i64 x)) ∧ Below w.heap.size w w' := by
  refine (T2.signs_any t w hs).mono fun e w' hh => ?_
  obtain ⟨v, rfl, ho, hb⟩ := hh
  refine ⟨?_, hb⟩
  rw [hx] at ho
  obtain ⟨A, c, rfl, hc, hr⟩ := R4.own_parts ho
  obtain ⟨g0, e, -, -, h3⟩ := hr (by simp)
  exact ⟨g0, c, by rw [e]; rfl, hc, h3 0 _ rfl⟩
end Go.Proofs.Ytdodlppnjlmnaaa
