/-
  THE CONTRACTS of the small functions of package table: weigh, letter, mark, areSigns, Implicit, isUnsound.
-/
import Derived.Test.YtaabdpfhpolcgaaBMap
import Derived.Test.YtaabdpfhpolcgaaT2E
import Derived.Test.YtaabdpfhpolcgaaE3D
import Derived.Outline
namespace Go.Proofs.Ytaabdpfhpolcgaa
open Go.RowKit
set_option linter.unusedVariables false
set_option linter.unusedSimpArgs false
theorem weigh_any (p s t : Nat) (v : Bool) (hp : p < 65536) (hs : s < 256) (ht : t < 128) (w : World) :
    Calls Try.prog 44 #[.int .i64 p, .int .i64 s, .int .i64 t, .bool v] w fun e w' => e = .returned (.int .u32 (E3.mk p s t (if v then 1 else 0) : Nat)) ∧ w = w' := by
  have HC := Lib.hid (fun w => E3.make_d p s t v hp hs ht w)
  obtain ⟨r, hr⟩ : ∃ r, E3.mk p s t (if v then 1 else 0) = r := ⟨_, rfl⟩
  rw [hr] at HC ⊢
  clear hr
  go_enter Try.func44, Try.ntmps44
  go_wp2_with (go_at_call 72; refine (HC.out _).mono ?_; rintro e w' ⟨rfl, rfl⟩)
  go_ret
  exact ⟨rfl, rfl⟩
theorem weigh_is {x y z : Int} {p s t : Nat} {v : Bool} {r : Nat} (hx : (p : Int) = x) (hy : (s : Int) = y) (hz : (t : Int) = z) (hp : p < 65536) (hs : s < 256) (ht : t < 128) (hr : E3.mk p s t (if v then 1 else 0) = r) (w : World) :
    Calls Try.prog 44 #[.int .i64 x, .int .i64 y, .int .i64 z, .bool v] w fun e w' => e = .returned (.int .u32 r) ∧ w = w' := by
  rw [← hx, ← hy, ← hz, ← hr]; exact weigh_any p s t v hp hs ht w
theorem markW_any (c : Int) (w : World) : Calls Try.prog 73 #[.int .i64 c] w fun e w' => e = .returned (.int .i64 (mkS c : Nat)) ∧ w = w' := by
  unfold mkS
  by_cases h1 : c = 768
  · subst h1
    go_enter Try.func73, Try.ntmps73
    go_wp2
    go_ret
    exact ⟨rfl, rfl⟩
  by_cases h2 : c = 769
  · subst h2
    go_enter Try.func73, Try.ntmps73
    go_wp2
    go_ret
    exact ⟨rfl, rfl⟩
  by_cases h3 : c = 770
  · subst h3
    go_enter Try.func73, Try.ntmps73
    go_wp2
    go_ret
    exact ⟨rfl, rfl⟩
  by_cases h4 : c = 771
  · subst h4
    go_enter Try.func73, Try.ntmps73
    go_wp2
    go_ret
    exact ⟨rfl, rfl⟩
  by_cases h5 : c = 772
  · subst h5
    go_enter Try.func73, Try.ntmps73
    go_wp2
    go_ret
    exact ⟨rfl, rfl⟩
  by_cases h6 : c = 776
  · subst h6
    go_enter Try.func73, Try.ntmps73
    go_wp2
    go_ret
    exact ⟨rfl, rfl⟩
  by_cases h7 : c = 778
  · subst h7
    go_enter Try.func73, Try.ntmps73
    go_wp2
    go_ret
    exact ⟨rfl, rfl⟩
  by_cases h8 : c = 807
  · subst h8
    go_enter Try.func73, Try.ntmps73
    go_wp2
    go_ret
    exact ⟨rfl, rfl⟩
  rw [if_neg h1, if_neg h2, if_neg h3, if_neg h4, if_neg h5, if_neg h6, if_neg h7, if_neg h8]
  have g1 : (c == 768) = false := by simpa using h1
  have g2 : (c == 769) = false := by simpa using h2
  have g3 : (c == 770) = false := by simpa using h3
  have g4 : (c == 771) = false := by simpa using h4
  have g5 : (c == 772) = false := by simpa using h5
  have g6 : (c == 776) = false := by simpa using h6
  have g7 : (c == 778) = false := by simpa using h7
  have g8 : (c == 807) = false := by simpa using h8
  clear h1 h2 h3 h4 h5 h6 h7 h8
  go_enter Try.func73, Try.ntmps73
  go_wp2
  go_ret
  exact ⟨rfl, rfl⟩
theorem mkS_lt (c : Int) : mkS c < 256 := by unfold mkS; repeat' split <;> try omega
theorem mark_any (c : Int) (w : World) : Calls Try.prog 46 #[.int .i64 c] w fun e w' => e = .returned (.int .u32 (mkW c : Nat)) ∧ w = w' := by
  have HC := Lib.hid (fun w => markW_any c w)
  have HW := Lib.hid (fun w => weigh_any 0 (mkS c) 2 false (by omega) (mkS_lt c) (by omega) w)
  have hm : E3.mk 0 (mkS c) 2 (if false = true then 1 else 0) = mkW c := rfl
  rw [hm] at HW
  obtain ⟨r, hr⟩ : ∃ r, mkW c = r := ⟨_, rfl⟩
  obtain ⟨s, hs⟩ : ∃ s, mkS c = s := ⟨_, rfl⟩
  rw [hr] at HW ⊢
  rw [hs] at HC HW
  clear hr hs hm
  go_enter Try.func46, Try.ntmps46
  go_wp2_with (first
    | (go_at_call 73; refine (HC.out _).mono ?_; rintro e w' ⟨rfl, rfl⟩)
    | (go_at_call 44; refine (HW.out _).mono ?_; rintro e w' ⟨rfl, rfl⟩))
  go_ret
  exact ⟨rfl, rfl⟩
theorem letter_small (c : Nat) (h1 : 97 ≤ c) (h2 : c ≤ 122) (w : World) : Calls Try.prog 45 #[.int .i64 (c : Int)] w fun e w' => e = .returned (.int .u32 (letW c : Nat)) ∧ w = w' := by
  have hl : letW c = E3.mk (256 + 8 * (c - 97)) 32 2 0 := by unfold letW; rw [if_neg (by omega)]
  obtain ⟨r, hr⟩ : ∃ r, letW c = r := ⟨_, rfl⟩
  rw [hr] at hl ⊢
  have HW := Lib.hid (fun w => weigh_is (x := 256 + 8 * ((c : Int) - 97)) (p := 256 + 8 * (c - 97)) (y := 32) (z := 2) (s := 32) (t := 2) (v := false) (by omega) rfl rfl (by omega) (by omega) (by omega) hl.symm w)
  clear hl hr
  have i1 : (90 : Int) < (c : Int) := by omega
  have i2 : (c : Int) ≤ 122 := by omega
  have i3 : (97 : Int) ≤ (c : Int) := by omega
  go_enter Try.func45, Try.ntmps45
  go_wp2_with (go_at_call 44; refine (HW.out _).mono ?_; rintro e w' ⟨rfl, rfl⟩)
  go_ret
  exact ⟨rfl, rfl⟩
theorem letter_great (c : Nat) (h1 : 65 ≤ c) (h2 : c ≤ 90) (w : World) : Calls Try.prog 45 #[.int .i64 (c : Int)] w fun e w' => e = .returned (.int .u32 (letW c : Nat)) ∧ w = w' := by
  have HL := Lib.hid (fun w => letter_small (c + 32) (by omega) (by omega) w)
  have hl : letW (c + 32) = E3.mk (256 + 8 * (c - 65)) 32 2 0 := by unfold letW; rw [if_neg (by omega), show c + 32 - 97 = c - 65 by omega]
  have hl2 : letW c = E3.mk (256 + 8 * (c - 65)) 32 8 0 := by unfold letW; rw [if_pos (by omega)]
  have h3 : letW (c + 32) < 4294967296 := by rw [hl]; unfold E3.mk; omega
  have hw : ∀ w, Calls Try.prog 47 #[.int .u32 (letW (c + 32) : Nat), .int .i64 3, .int .i64 8] w fun r w' => r = .returned (.int .u32 (letW c : Nat)) ∧ w = w' := fun w =>
    E3.with_3' (e := letW (c + 32)) (v := 8) (n := letW c) (by show _ = _; rw [hl, hl2]; unfold E3.mk; omega) h3 (by omega) (by omega) w
  obtain ⟨r, hr⟩ : ∃ r, letW (c + 32) = r := ⟨_, rfl⟩
  obtain ⟨q, hq⟩ : ∃ q, letW c = q := ⟨_, rfl⟩
  rw [hr] at HL hw
  rw [hq] at hw ⊢
  have HW := Lib.hid hw
  have i1 : (c : Int) ≤ 90 := by omega
  have i3 : (65 : Int) ≤ (c : Int) := by omega
  have HL2 : Hid (∀ w, Calls Try.prog 45 #[.int .i64 ((c : Int) + 32)] w fun e w' => e = .returned (.int .u32 (r : Nat)) ∧ w = w') := HL.out
  clear hl hl2 h3 hw hr hq HL
  go_enter Try.func45, Try.ntmps45
  go_wp2_with (first
    | (go_at_call 45; refine (HL2.out _).mono ?_; rintro e w' ⟨rfl, rfl⟩)
    | (go_at_call 47; refine (HW.out _).mono ?_; rintro e w' ⟨rfl, rfl⟩))
  go_ret
  exact ⟨rfl, rfl⟩
theorem letter_any {c : Nat} (h : (65 ≤ c ∧ c ≤ 90) ∨ (97 ≤ c ∧ c ≤ 122)) {x : Int} (hx : (c : Int) = x) {r : Nat} (hr : letW c = r) (w : World) : Calls Try.prog 45 #[.int .i64 x] w fun e w' => e = .returned (.int .u32 (r : Nat)) ∧ w = w' := by
  rw [← hx, ← hr]
  rcases h with h | h
  · exact letter_great c h.1 h.2 w
  · exact letter_small c h.1 h.2 w
/-- Are all of l signs? -/
def sgsB (l : List Int) : Bool := l.all T2.isSg
theorem areSigns_any {v : Value} {l : List Int} {F : Nat → Prop} {w : World} (h : RdI F w v l) (hm : l.length ≤ 200000) :
    Calls Try.prog 69 #[v] w fun e w' => e = .returned (.bool (sgsB l)) ∧ Below w.heap.size w w' := by
  have HC := Lib.hid (T2.bytes_any v l w h.rd hm)
  have hb : sgsB l = (T2.bytE l != 1) := by
    unfold sgsB T2.bytE
    by_cases h1 : l.all T2.isSg = true
    · rw [if_pos h1, h1]; split <;> rfl
    · rw [if_neg h1]; simp only [Bool.not_eq_true] at h1; rw [h1]; rfl
  obtain ⟨S, hS⟩ : ∃ S, T2.bytL l = S := ⟨_, rfl⟩
  obtain ⟨E, hE⟩ : ∃ E, T2.bytE l = E := ⟨_, rfl⟩
  rw [hS, hE] at HC
  rw [hE] at hb
  obtain ⟨A, c, rfl⟩ := h.form
  rw [hb]
  clear hS hE hb h
  go_enter Try.func69, Try.ntmps69
  go_wp2_with (go_at_call 84; refine (HC.out).mono ?_; rintro e w' ⟨rfl, hb⟩)
  go_ret
  exact ⟨rfl, hb⟩
theorem areSigns_is {v : Value} {l : List Int} {b : Bool} (hb : sgsB l = b) {F : Nat → Prop} {w : World} (h : RdI F w v l) (hm : l.length ≤ 200000) :
    Calls Try.prog 69 #[v] w fun e w' => e = .returned (.bool b) ∧ Below w.heap.size w w' := by
  rw [← hb]; exact areSigns_any h hm
end Go.Proofs.Ytaabdpfhpolcgaa
