/-
  THE CONTRACTS of the program's collect and sequence.
-/
import Derived.Test.YtdodlppnjlmnaaaSSign
namespace Go.Proofs.Ytdodlppnjlmnaaa
open Go.RowKit
set_option linter.unusedVariables false
set_option linter.unusedSimpArgs false
open T2 (gb dec one isSg isPt sgs)
theorem own_mv {w w' : World} {B g : Nat} {v : Value} {l : List Int} (h : T2.OwnI B w v l) (hm : Mv g w w') (hg : g < B) : T2.OwnI B w' v l := own_off h hm hg
theorem col_any {w : World} {g : Nat} {s : ByteArray} {k : Nat} (h : RD TP w g s k) (hk : k ≤ s.size) (hs : s.size ≤ 1000000) {b : Bool} {l : List Int} {k' : Nat} (hR : colA s.data.toList 3 [] k = (b, l, k')) :
    Calls Try.prog 42 #[.func (.func 43) #[.pointer (some ⟨g, 0, none⟩)] #[], .func (.func 44) #[.pointer (some ⟨g, 0, none⟩)] #[]] w
      fun e w' => (∃ A n c, e = .returned (.tuple #[.slice A n c, .bool b]) ∧ (b = true → T2.OwnI w.heap.size w' (.slice A n c) l)) ∧ RD TP w' g s k' ∧ Mv g w w' := by
  have HR := Lib.hid h
  have HF := Lib.hid hR
  have HG := Lib.hid h.lt
  have HZ := Lib.hid (Mv.refl g w)
  obtain ⟨B, hB⟩ : ∃ B, w.heap.size = B := ⟨_, rfl⟩
  rw [hB] at HG ⊢
  have HBE := Lib.hid hB
  have HBW : Hid (∀ wr, Mv g w wr → B ≤ wr.heap.size) := fun wr hm => by have := hm.size; omega
  clear h hR hB
  go_enter Try.func42, Try.ntmps42
  go_wp2
  go_loopg [4] 3 (fun n v wr => ∃ (acc : List Int) (j : Nat), acc.length + n = 3 ∧ j ≤ s.size ∧ Hid (colA s.data.toList n acc j = (b, l, k')) ∧ Hid (T2.OwnI B wr v acc) ∧ Hid (RD TP wr g s j) ∧ Hid (Mv g w wr))
  case atStart => exact ⟨[], k, rfl, hk, HF.out, T2.OwnI.nil _ _, HR.out, HZ.out⟩
  case round =>
    obtain ⟨acc, j, hn, hj, HJ, HO, HRJ, HM⟩ := hrel
    clear HR HF HZ hk
    obtain ⟨A, c, rfl, -⟩ := R4.own_parts HO.out
    obtain ⟨na, hna⟩ : ∃ m, acc.length = m := ⟨_, rfl⟩
    have HNA := Lib.hid hna
    rw [hna] at hn HO ⊢
    cases gk with
    | zero =>
      have hn3 : ¬ (na : Int) < 3 := by omega
      have hn0 : (0 : Int) < (na : Int) := by omega
      have h9 := HJ.out
      rw [colA, HNA.out] at h9
      have HJ2 := Lib.hid h9
      clear h9 HJ hna
      go_wp2
      go_ret2
      have h9 := HJ2.out
      injection h9 with h1 h2
      injection h2 with h2 h3
      subst h1 h2 h3
      exact ⟨⟨_, _, _, rfl, fun _ => HO.out⟩, HRJ.out, HM.out⟩
    | succ n =>
      have hn3 : (na : Int) < 3 := by omega
      obtain ⟨be, hbe⟩ : ∃ b, endd (s.data.toList.drop j) = b := ⟨_, rfl⟩
      have HE := Lib.hid (fun w' (hr : RD TP w' g s j) => ended_any hr hbe hj)
      have h9 := HJ.out
      rw [colA, hbe] at h9
      cases be with
      | true =>
        rw [if_pos rfl, HNA.out] at h9
        have HJ2 := Lib.hid h9
        clear h9 HJ hna hbe
        go_wp2_with (go_at_call 44; refine (HE.out _ HRJ.out).mono ?_; rintro e w1 ⟨rfl, m, rfl⟩)
        go_ret2
        have h9 := HJ2.out
        injection h9 with h1 h2
        injection h2 with h2 h3
        subst h1 h2 h3
        exact ⟨⟨_, _, _, rfl, fun _ => HO.out.below (below_drewN wr m) (Nat.le_refl _)⟩, HRJ.out.low (below_drewN wr m) (HRJ.out.lt), HM.out.trans (Mv.of_below (below_drewN wr m))⟩
      | false =>
        rw [if_neg (by simp)] at h9
        have hlt := (endd_no hbe).1
        rw [T2.ba_len] at hlt
        obtain ⟨⟨ok, x, q⟩, he⟩ : ∃ z, sg1 (s.data.toList.drop j) = z := ⟨_, rfl⟩
        have hle := sg1_le (L := s.data.toList) hlt
        rw [T2.ba_len, he] at hle
        rw [he] at h9
        have HS := Lib.hid (fun w' (hr : RD TP w' g s j) => sign_any hr hlt hs he)
        cases ok with
        | false =>
          rw [if_neg (by simp)] at h9
          have HJ2 := Lib.hid h9
          clear h9 HJ hna hbe he hle
          go_wp2_with (first
            | (go_at_call 44; refine (HE.out _ HRJ.out).mono ?_; rintro e w1 ⟨rfl, m, rfl⟩)
            | (go_at_call 43; refine (HS.out _ (HRJ.out.low (below_drewN wr m) (HRJ.out.lt))).mono ?_; rintro e w2 ⟨rfl, hr, hm⟩; have HR2 := Lib.hid hr; have HM2 := Lib.hid hm; clear hr hm))
          go_ret2
          have h9 := HJ2.out
          injection h9 with h1 h2
          injection h2 with h2 h3
          subst h1 h2 h3
          exact ⟨⟨_, _, _, rfl, fun h => by cases h⟩, HR2.out, (HM.out.trans (Mv.of_below (below_drewN wr m))).trans HM2.out⟩
        | true =>
          rw [if_pos rfl] at h9
          have HJ2 := Lib.hid h9
          have HL : Hid (acc.length + [x].length ≤ 10000000) := by show _ ≤ _; simp; omega
          clear h9 HJ hna hbe he
          go_wp2_with (first
            | (go_at_call 44; refine (HE.out _ HRJ.out).mono ?_; rintro e w1 ⟨rfl, m, rfl⟩)
            | (go_at_call 43; refine (HS.out _ (HRJ.out.low (below_drewN wr m) (HRJ.out.lt))).mono ?_; rintro e w2 ⟨rfl, hr, hm⟩; have HR2 := Lib.hid hr; have HM2 := Lib.hid ((HM.out.trans (Mv.of_below (below_drewN wr m))).trans hm); have HO2 := Lib.hid (own_mv (HO.out.below (below_drewN wr m) (Nat.le_refl _)) hm HG.out); clear hr hm)
            | (at_builtin; refine T2.pushI rfl (.tmp 23) (.tmp 25) rfl _ B _ _ [x] 1 rfl HO2.out rfl (HBW.out _ HM2.out) HL.out ?_; intro v3 w3 ho3 hb3; have HO3 := Lib.hid ho3; have HB3 := Lib.hid hb3; clear ho3 hb3))
          go_roundg n
          case measure => omega
          case rel => exact ⟨acc ++ [x], j + q, by rw [List.length_append, HNA.out]; simp; omega, by simpa using hle, HJ2.out, HO3.out, HR2.out.low HB3.out HG.out, HM2.out.low HB3.out (Nat.le_of_eq HBE.out)⟩
theorem colA_zero (L : List UInt8) : ∀ (n : Nat) (acc : List Int) (k : Nat), (colA L n acc k).1 = false → (colA L n acc k).2.1 = []
  | 0, acc, k, h => by
    rw [colA] at h ⊢; simp at h; exact h
  | n + 1, acc, k, h => by
    rw [colA] at h ⊢; split at h
    · rename_i he; rw [if_pos he]; simp at h; exact h
    · rename_i he
      rw [if_neg he]
      split at h
      · rename_i h1; rw [if_pos h1]; exact colA_zero L n _ _ h
      · rename_i h1; rw [if_neg h1]
theorem seq_any {w : World} {g : Nat} {s : ByteArray} {k : Nat} (h : RD TP w g s k) (hk : k ≤ s.size) (hs : s.size ≤ 1000000) {b : Bool} {l : List Int} {k' : Nat} (hR : seqP s.data.toList k = (b, l, k')) :
    Calls Try.prog 30 #[.pointer (some ⟨g, 0, none⟩)] w
      fun e w' => (∃ A n c, e = .returned (.tuple #[.slice A n c, .bool b]) ∧ (b = true → T2.OwnI w.heap.size w' (.slice A n c) l)) ∧ RD TP w' g s k' ∧ Mv g w w' := by
  have HT := Lib.hid (skip_any h hk hs)
  have hle := (af_le (L := s.data.toList) hk).2
  rw [T2.ba_len] at hle
  have HC := Lib.hid (fun w' (hr : RD TP w' g s (af s.data.toList k)) => col_any hr hle hs hR)
  clear h hR
  go_enter Try.func30, Try.ntmps30
  go_wp2_with (first
    | (go_at_call 15; refine HT.out.mono ?_; rintro e w1 ⟨rfl, hr, hm⟩; have HR := Lib.hid hr; have HM := Lib.hid hm; clear hr hm)
    | (go_at_call 42; refine (HC.out _ HR.out).mono ?_; rintro e w2 ⟨⟨A9, n9, c9, rfl, ho⟩, hr, hm⟩; have HO := Lib.hid ho; have HR2 := Lib.hid hr; have HM2 := Lib.hid hm; clear ho hr hm))
  go_ret2
  exact ⟨⟨_, _, _, rfl, fun h => R4.own_mono (HO.out h) HM.out.size⟩, HR2.out, HM.out.trans HM2.out⟩
end Go.Proofs.Ytdodlppnjlmnaaa
