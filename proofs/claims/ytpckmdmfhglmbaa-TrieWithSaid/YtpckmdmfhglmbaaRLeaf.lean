/-
  THE CONTRACTS of the small functions of package trie.
-/
import Derived.Test.YtpckmdmfhglmbaaRMem
import Derived.Deep.QuietTactic
import Derived.BigQuiet
import Derived.BigRegion
import Derived.LoopTactic
namespace Go.Proofs.Ytpckmdmfhglmbaa
open Go.RowKit
set_option linter.unusedVariables false
set_option linter.unusedSimpArgs false
def signB (c : Int) : Bool := decide (0 ≤ c) && decide (c ≤ 1114367)
def fitB (c v : Int) : Bool := signB c && (decide (-2147483648 ≤ v) && decide (v ≤ 2147483647))
theorem signB_iff (c : Int) : signB c = true ↔ 0 ≤ c ∧ c ≤ 1114367 := by simp [signB]
theorem fitB_iff (c v : Int) : fitB c v = true ↔ MayP (c, v) := by simp [fitB, signB, MayP, and_assoc]
theorem sign_any (c : Int) (w : World) : Calls Try.prog 21 #[.int .i64 c] w fun e w' => e = .returned (.bool (signB c)) ∧ w = w' := by
  by_cases h1 : 0 ≤ c
  · by_cases h2 : c ≤ 1114367
    · have hb : signB c = true := (signB_iff c).2 ⟨h1, h2⟩
      rw [hb]
      clear hb
      go_enter Try.func21, Try.ntmps21
      go_wp2
      go_ret
      exact ⟨rfl, rfl⟩
    · have hb : signB c = false := by simp [signB, h1, h2]
      rw [hb]
      clear hb
      have h2' : 1114367 < c := by omega
      go_enter Try.func21, Try.ntmps21
      go_wp2
      go_ret
      exact ⟨rfl, rfl⟩
  · have hb : signB c = false := by simp [signB, h1]
    rw [hb]
    clear hb
    have h1' : c < 0 := by omega
    go_enter Try.func21, Try.ntmps21
    go_wp2
    go_ret
    exact ⟨rfl, rfl⟩
theorem sign_is {c : Int} {b : Bool} (h : signB c = b) (w : World) : Calls Try.prog 21 #[.int .i64 c] w fun e w' => e = .returned (.bool b) ∧ w = w' := by
  rw [← h]; exact sign_any c w
theorem fits_any (c v : Int) (hv : -9223372036854775808 ≤ v ∧ v ≤ 9223372036854775807) (w : World) : Calls Try.prog 15 #[.int .i64 c, .int .i64 v] w fun e w' => e = .returned (.bool (fitB c v)) ∧ w = w' := by
  obtain ⟨v1, v2⟩ := hv
  cases hc : signB c with
  | true =>
    have CS := Lib.hid (fun w => sign_is hc w)
    by_cases h2 : -2147483648 ≤ v ∧ v ≤ 2147483647
    · have hb : fitB c v = true := by simp [fitB, hc, h2]
      rw [hb]
      obtain ⟨h3, h4⟩ := h2
      clear hb hc
      go_enter Try.func15, Try.ntmps15
      go_wp2_with (go_at_call 21; refine (CS.out _).mono ?_; rintro e w' ⟨rfl, rfl⟩)
      go_ret
      exact ⟨rfl, rfl⟩
    · have hb : fitB c v = false := by simp [fitB, hc]; omega
      rw [hb]
      have hw : (wrap32 v == v) = false := by
        rw [beq_eq_false_iff_ne]; unfold wrap32; omega
      have hw2 : wrap64 (wrap32 v) = wrap32 v := IntWalk.wrap64_in _ (by unfold wrap32; omega)
      clear hb hc h2
      go_enter Try.func15, Try.ntmps15
      go_wp2_with (go_at_call 21; refine (CS.out _).mono ?_; rintro e w' ⟨rfl, rfl⟩)
      go_ret
      exact ⟨rfl, rfl⟩
  | false =>
    have CS := Lib.hid (fun w => sign_is hc w)
    have hb : fitB c v = false := by simp [fitB, hc]
    rw [hb]
    clear hb hc
    go_enter Try.func15, Try.ntmps15
    go_wp2_with (go_at_call 21; refine (CS.out _).mono ?_; rintro e w' ⟨rfl, rfl⟩)
    go_ret
    exact ⟨rfl, rfl⟩
theorem fits_is {c v : Int} {b : Bool} (h : fitB c v = b) (hv : -9223372036854775808 ≤ v ∧ v ≤ 9223372036854775807) (w : World) : Calls Try.prog 15 #[.int .i64 c, .int .i64 v] w fun e w' => e = .returned (.bool b) ∧ w = w' := by
  rw [← h]; exact fits_any c v hv w
theorem laid_at {B : Nat} {w : World} {bp bt bm : Nat} {vi vb : Value} {ix : List Nat} {bs : List (List Int)} (h : BldAt B w bp bt bm vi vb ix bs) :
    Calls Try.prog 28 #[.pointer (some ⟨bp, 0, none⟩)] w fun e w' => e = .returned (.int .i64 (ix.length : Nat)) ∧ w = w' := by
  obtain ⟨A, c, rfl, -⟩ := own_parts h.hi
  have c0 : w.cell? ⟨bp, 0, none⟩ = some (.pointer (some ⟨bt, 0, none⟩)) := cell_of_row w bp 0 _ _ _ h.hp
  have c1 : w.cell? ⟨bt, 0, none⟩ = some (.slice A ix.length c) := cell_of_row w bt 0 _ _ _ h.ht
  clear h
  go_enter Try.func28, Try.ntmps28
  go_wp2
  go_ret
  exact ⟨rfl, rfl⟩
theorem laid_any {B : Nat} {w : World} {bp : Nat} {r : List (List Int)} (h : Bld B w bp r) :
    Calls Try.prog 28 #[.pointer (some ⟨bp, 0, none⟩)] w fun e w' => e = .returned (.int .i64 (r.length : Nat)) ∧ w = w' := by
  obtain ⟨bt, bm, vi, vb, h⟩ := h
  have := laid_at h
  rw [ixs_len] at this
  exact this
theorem blocks_any {w : World} {p : Nat} {r : List (List Int)} (h : TrieAt w p r) :
    Calls Try.prog 11 #[.pointer (some ⟨p, 0, none⟩)] w fun e w' => e = .returned (.int .i64 ((firsts r).length : Nat)) ∧ w = w' := by
  obtain ⟨⟨vi, vb, h1, h2, h3⟩, -, -⟩ := h
  obtain ⟨A, c, rfl, -⟩ := own_parts h3
  have c1 : w.cell? ⟨p, 1, none⟩ = some (.slice A (firsts r).length c) := cell_of_row w p 1 _ _ _ h1
  clear h1 h2 h3
  go_enter Try.func11, Try.ntmps11
  go_wp2
  go_ret
  exact ⟨rfl, rfl⟩
end Go.Proofs.Ytpckmdmfhglmbaa
