/-
  THE CONTRACTS of variables, digits, letters, marks: a loop each that appends entries.
-/
import Derived.Test.YtaabdpfhpolcgaaBEnt
namespace Go.Proofs.Ytaabdpfhpolcgaa
open Go.RowKit
set_option linter.unusedVariables false
set_option linter.unusedSimpArgs false
theorem range_snoc {α : Type} (f : Nat → α) (k : Nat) : (List.range (k + 1)).map f = (List.range k).map f ++ [f k] := by rw [List.range_succ, List.map_append]; rfl
theorem digits_any (w : World) : Calls Try.prog 21 #[] w (GotM w.heap.size w ((List.range 10).map digE)) := by
  have HS := Lib.hid (Made.nil w.heap.size w)
  go_enter Try.func21, Try.ntmps21
  go_wp2
  go_loopw [1, 3] (fun v i wr => ∃ k : Nat, k ≤ 10 ∧ i = .int .i64 (k : Nat) ∧ Hid (Made w.heap.size w wr v ((List.range k).map digE))) (fun _ i _ => 10 - (intOf i).toNat)
  case atStart => exact ⟨0, Nat.zero_le _, rfl, HS.out⟩
  case round =>
    clear HS
    obtain ⟨k, hk, rfl, HM⟩ := hrel
    by_cases hlt : k < 10
    · have hkI : (k : Int) < 10 := by omega
      obtain ⟨x, hx⟩ : ∃ x, E3.mk (128 + 4 * k) 32 2 0 = x := ⟨_, rfl⟩
      have HX := Lib.hid (fun w => weigh_is (x := 128 + 4 * (k : Int)) (y := 32) (z := 2) (p := 128 + 4 * k) (s := 32) (t := 2) (v := false) (by omega) rfl rfl (by omega) (by omega) (by omega) hx w)
      have HB : Hid (w.heap.size ≤ wr.heap.size) := HM.out.bel.size
      have HE : Hid (digE k = ([48 + (k : Int)], [x])) := by show _ = _; unfold digE; rw [hx]
      have HL : Hid (((List.range k).map digE).length + 1 ≤ 1000000) := by show _ ≤ _; simp; omega
      have HR := Lib.hid (range_snoc digE k)
      have HA := Lib.hid ((HM.out.more ((Below.refl _ wr).alloc (Nat.le_refl _) (.cells #[.int .u32 (x : Int)] 32)) HB.out))
      clear hx hlt
      go_wp2_with (first
        | (go_at_call 44; refine (HX.out _).mono ?_; rintro e w' ⟨rfl, rfl⟩)
        | (go_at_call 43; refine (one_ent (B := w.heap.size) (ownE_lit wr [x] (by simp) HB.out) (by simp; exact Nat.le_succ_of_le HB.out) _).mono ?_; rintro e w1 ⟨vs, rfl, he, hb⟩; have HW1 := Lib.hid hb; have HEn := Lib.hid he; have HA1 := Lib.hid (HA.out.more hb (by simp; exact Nat.le_succ_of_le HB.out)); clear hb he)
        | (at_builtin; refine HA1.out.pushed rfl _ _ rfl [⟨vs, _, [_], [x]⟩] (by simpa using HEn.out) 1 rfl rfl HA1.out.bel.size HL.out ?_; intro v2 w2 hm2; have HM2 := Lib.hid hm2; clear hm2))
      go_roundw
      case rel => exact ⟨k + 1, by omega, by go_num, by rw [HR.out, HE.out]; exact HM2.out⟩
      case measure => simp [intOf]; omega
    · obtain rfl : k = 10 := by omega
      go_wp2
      go_ret
      exact HM.out.gotM
theorem flat_snoc {α : Type} (f : Nat → List α) (k : Nat) : (List.range (k + 1)).flatMap f = (List.range k).flatMap f ++ f k := by rw [List.range_succ, List.flatMap_append]; simp
theorem flat_len {α : Type} (f : Nat → List α) (n : Nat) (h : ∀ k, (f k).length ≤ n) (k : Nat) : ((List.range k).flatMap f).length ≤ k * n := by
  induction k with
  | zero => simp
  | succ k ih =>
    rw [flat_snoc, List.length_append, Nat.succ_mul]
    have := h k
    omega
theorem Made.weaken {B : Nat} {w w1 wr : World} {v : Value} {L : List PE} (h : Made B w1 wr v L) (h1 : Below w.heap.size w w1) (hB : w.heap.size ≤ B) : GotM w.heap.size w L (.returned v) wr := by
  obtain ⟨⟨M, e, h2, h3⟩, h4⟩ := h
  exact ⟨v, M, rfl, e, R4.own_mono h2 hB, fun m hm => (h3 m hm).mono fun k hk => ⟨by omega, hk.2⟩, h1.trans (h4.mono hB)⟩
theorem letters_any (w : World) : Calls Try.prog 22 #[] w (GotM w.heap.size w ((List.range 26).flatMap letE)) := by
  have HS := Lib.hid (Made.nil w.heap.size w)
  go_enter Try.func22, Try.ntmps22
  go_wp2
  go_loopw [1, 3] (fun v i wr => ∃ k : Nat, k ≤ 26 ∧ i = .int .i64 (k : Nat) ∧ Hid (Made w.heap.size w wr v ((List.range k).flatMap letE))) (fun _ i _ => 26 - (intOf i).toNat)
  case atStart => exact ⟨0, Nat.zero_le _, rfl, HS.out⟩
  case round =>
    clear HS
    obtain ⟨k, hk, rfl, HM⟩ := hrel
    by_cases hlt : k < 26
    · have hkI : (k : Int) < 26 := by omega
      obtain ⟨x, hx⟩ : ∃ x, letW (97 + k) = x := ⟨_, rfl⟩
      obtain ⟨y, hy⟩ : ∃ y, letW (65 + k) = y := ⟨_, rfl⟩
      have HX := Lib.hid (fun w => letter_any (c := 97 + k) (x := 97 + (k : Int)) (.inr ⟨by omega, by omega⟩) (by omega) hx w)
      have HY := Lib.hid (fun w => letter_any (c := 65 + k) (x := 65 + (k : Int)) (.inl ⟨by omega, by omega⟩) (by omega) hy w)
      have HB : Hid (w.heap.size ≤ wr.heap.size) := HM.out.bel.size
      have HE : Hid (letE k = [([97 + (k : Int)], [x]), ([65 + (k : Int)], [y])]) := by show _ = _; unfold letE; rw [hx, hy]
      have HL : Hid (((List.range k).flatMap letE).length + 2 ≤ 1000000) := by
        have := flat_len letE 2 (fun k => by simp [letE]) k
        show _ ≤ _; omega
      have HR := Lib.hid (flat_snoc letE k)
      have HA := Lib.hid ((HM.out.more ((Below.refl _ wr).alloc (Nat.le_refl _) (.cells #[.int .u32 (x : Int)] 32)) HB.out))
      have tok : True := trivial
      clear hx hy hlt
      go_wp2_with (first
        | (go_at_call 45; (with_reducible refine (HX.out _).mono ?_); rintro e w' ⟨rfl, rfl⟩)
        | (go_at_call 45; (with_reducible refine (HY.out _).mono ?_); rintro e w' ⟨rfl, rfl⟩)
        | (go_at_call 43; have _t := tok; refine (one_ent (B := w.heap.size) (ownE_lit wr [x] (by simp) HB.out) (by simp; exact Nat.le_succ_of_le HB.out) _).mono ?_; rintro e w1 ⟨vs, rfl, he, hb⟩; have HW1 := Lib.hid hb; have HEn := Lib.hid he; have HA1 := Lib.hid (HA.out.more hb (by simp; exact Nat.le_succ_of_le HB.out));
            have HA2 := Lib.hid (HA1.out.more ((Below.refl _ w1).alloc (Nat.le_refl _) (.cells #[.int .u32 (y : Int)] 32)) HA1.out.bel.size); have HE2 := Lib.hid (HEn.out.below ((Below.refl _ w1).alloc (Nat.le_refl _) (.cells #[.int .u32 (y : Int)] 32)) (Nat.le_refl _)); clear hb he _t tok)
        | (go_at_call 43; refine (one_ent (B := w.heap.size) (ownE_lit w1 [y] (by simp) HA1.out.bel.size) HA2.out.bel.size _).mono ?_; rintro e w2 ⟨vt, rfl, he, hb⟩; have HEm := Lib.hid he; have HE3 := Lib.hid (HE2.out.below hb (Nat.le_refl _)); have HA3 := Lib.hid (HA2.out.more hb HA2.out.bel.size); clear hb he)
        | (at_builtin; refine HA3.out.pushed rfl _ _ rfl [⟨vs, _, [_], [x]⟩, ⟨vt, _, [_], [y]⟩] (by intro m hm; simp at hm; rcases hm with rfl | rfl; exact HE3.out; exact HEm.out) 2 rfl rfl HA3.out.bel.size HL.out ?_; intro v2 w3 hm2; have HM2 := Lib.hid hm2; clear hm2))
      go_roundw
      case rel => exact ⟨k + 1, by omega, by go_num, by rw [HR.out, HE.out]; exact HM2.out⟩
      case measure => simp [intOf]; omega
    · obtain rfl : k = 26 := by omega
      go_wp2
      go_ret
      exact HM.out.gotM
/-- A new block of numbers that the call reads. -/
theorem consts_at {w : World} {cs : List Value} {T : TypeId} {k : Nat} {u : Value} (h : cs[k]? = some u) : (w.alloc (.cells cs.toArray T)).cell? ⟨w.heap.size, k, none⟩ = some u := by
  rw [World.cell?_alloc_mark, List.getElem?_toArray]; exact h
theorem varC_at {k : Nat} (h : k < 6) : (iv varC)[k]? = some (.int .i64 (varC.getD k 0)) := by
  match k, h with
  | 0, _ => rfl
  | 1, _ => rfl
  | 2, _ => rfl
  | 3, _ => rfl
  | 4, _ => rfl
  | 5, _ => rfl
theorem mkC_at {k : Nat} (h : k < 8) : (iv mkC)[k]? = some (.int .i64 (mkC.getD k 0)) := by
  match k, h with
  | 0, _ => rfl
  | 1, _ => rfl
  | 2, _ => rfl
  | 3, _ => rfl
  | 4, _ => rfl
  | 5, _ => rfl
  | 6, _ => rfl
  | 7, _ => rfl
theorem variables_any (w : World) : Calls Try.prog 20 #[] w (GotM w.heap.size w ((List.range 6).map varE)) := by
  have HW0 := Lib.hid ((Below.refl w.heap.size w).alloc (Nat.le_refl _) (.cells (iv varC).toArray 3))
  have HC := Lib.hid (fun k (h : k < 6) => consts_at (w := w) (T := 3) (varC_at h))
  have HZ : Hid ((w.alloc (.cells (iv varC).toArray 3)).heap.size = w.heap.size + 1) := by show _ = _; simp
  have HS := Lib.hid (Made.nil (w.heap.size + 1) (w.alloc (.cells (iv varC).toArray 3)))
  go_enter Try.func20, Try.ntmps20
  go_wp2
  go_loopw [1, 6] (fun v i wr => ∃ k : Nat, k ≤ 6 ∧ i = .int .i64 (k : Nat) ∧ Hid (Made (w.heap.size + 1) (w.alloc (.cells (iv varC).toArray 3)) wr v ((List.range k).map varE))) (fun _ i _ => 6 - (intOf i).toNat)
  case atStart => exact ⟨0, Nat.zero_le _, rfl, HS.out⟩
  case round =>
    clear HS
    obtain ⟨k, hk, rfl, HM⟩ := hrel
    by_cases hlt : k < 6
    · have hkI : (k : Int) < 6 := by omega
      obtain ⟨x, hx⟩ : ∃ x, E3.mk (16 + 4 * k) 32 2 1 = x := ⟨_, rfl⟩
      obtain ⟨c, hc⟩ : ∃ c, varC.getD k 0 = c := ⟨_, rfl⟩
      have c0 := (HM.out.bel.cell (p := ⟨w.heap.size, k, none⟩) (by show w.heap.size < _; omega)).trans (HC.out k hlt)
      rw [hc] at c0
      have HX := Lib.hid (fun w => weigh_is (x := 16 + 4 * (k : Int)) (y := 32) (z := 2) (p := 16 + 4 * k) (s := 32) (t := 2) (v := true) (by omega) rfl rfl (by omega) (by omega) (by omega) hx w)
      have HB : Hid (w.heap.size + 1 ≤ wr.heap.size) := by have h1 := HM.out.bel.size; rw [HZ.out] at h1; exact h1
      have HE : Hid (varE k = ([c], [x])) := by show _ = _; unfold varE; rw [hx, hc]
      have HL : Hid (((List.range k).map varE).length + 1 ≤ 1000000) := by show _ ≤ _; simp; omega
      have HR := Lib.hid (range_snoc varE k)
      have HA := Lib.hid ((HM.out.more ((Below.refl _ wr).alloc (Nat.le_refl _) (.cells #[.int .u32 (x : Int)] 32)) HB.out))
      clear hx hlt hc
      go_wp2_with (first
        | (go_at_call 44; refine (HX.out _).mono ?_; rintro e w' ⟨rfl, rfl⟩)
        | (go_at_call 43; refine (one_ent (B := w.heap.size + 1) (ownE_lit wr [x] (by simp) HB.out) (by simp; exact Nat.le_of_succ_le HB.out) _).mono ?_; rintro e w1 ⟨vs, rfl, he, hb⟩; have HW1 := Lib.hid hb; have HEn := Lib.hid he; have HA1 := Lib.hid (HA.out.more hb (by simp; exact Nat.le_of_succ_le HB.out)); clear hb he)
        | (at_builtin; refine HA1.out.pushed rfl _ _ rfl [⟨vs, _, [_], [x]⟩] (by simpa using HEn.out) 1 rfl rfl (Nat.le_trans (Nat.le_of_eq HZ.out.symm) HA1.out.bel.size) HL.out ?_; intro v2 w2 hm2; have HM2 := Lib.hid hm2; clear hm2))
      go_roundw
      case rel => exact ⟨k + 1, by omega, by go_num, by rw [HR.out, HE.out]; exact HM2.out⟩
      case measure => simp [intOf]; omega
    · obtain rfl : k = 6 := by omega
      go_wp2
      go_ret
      exact HM.out.weaken HW0.out (Nat.le_succ _)
theorem marks_any (w : World) : Calls Try.prog 23 #[] w (GotM w.heap.size w ((List.range 8).map mkE)) := by
  have HW0 := Lib.hid ((Below.refl w.heap.size w).alloc (Nat.le_refl _) (.cells (iv mkC).toArray 3))
  have HC := Lib.hid (fun k (h : k < 8) => consts_at (w := w) (T := 3) (mkC_at h))
  have HZ : Hid ((w.alloc (.cells (iv mkC).toArray 3)).heap.size = w.heap.size + 1) := by show _ = _; simp
  have HS := Lib.hid (Made.nil (w.heap.size + 1) (w.alloc (.cells (iv mkC).toArray 3)))
  go_enter Try.func23, Try.ntmps23
  go_wp2
  go_loopw [1, 6] (fun v i wr => ∃ k : Nat, k ≤ 8 ∧ i = .int .i64 (k : Nat) ∧ Hid (Made (w.heap.size + 1) (w.alloc (.cells (iv mkC).toArray 3)) wr v ((List.range k).map mkE))) (fun _ i _ => 8 - (intOf i).toNat)
  case atStart => exact ⟨0, Nat.zero_le _, rfl, HS.out⟩
  case round =>
    clear HS
    obtain ⟨k, hk, rfl, HM⟩ := hrel
    by_cases hlt : k < 8
    · have hkI : (k : Int) < 8 := by omega
      obtain ⟨c, hc⟩ : ∃ c, mkC.getD k 0 = c := ⟨_, rfl⟩
      obtain ⟨x, hx⟩ : ∃ x, mkW c = x := ⟨_, rfl⟩
      have c0 := (HM.out.bel.cell (p := ⟨w.heap.size, k, none⟩) (by show w.heap.size < _; omega)).trans (HC.out k hlt)
      rw [hc] at c0
      have HX := Lib.hid (fun w => mark_any c w)
      rw [hx] at HX
      have HB : Hid (w.heap.size + 1 ≤ wr.heap.size) := by have h1 := HM.out.bel.size; rw [HZ.out] at h1; exact h1
      have HE : Hid (mkE k = ([c], [x])) := by show _ = _; unfold mkE; rw [hc, hx]
      have HL : Hid (((List.range k).map mkE).length + 1 ≤ 1000000) := by show _ ≤ _; simp; omega
      have HR := Lib.hid (range_snoc mkE k)
      have HA := Lib.hid ((HM.out.more ((Below.refl _ wr).alloc (Nat.le_refl _) (.cells #[.int .u32 (x : Int)] 32)) HB.out))
      clear hx hlt hc
      go_wp2_with (first
        | (go_at_call 46; refine (HX.out _).mono ?_; rintro e w' ⟨rfl, rfl⟩)
        | (go_at_call 43; refine (one_ent (B := w.heap.size + 1) (ownE_lit wr [x] (by simp) HB.out) (by simp; exact Nat.le_of_succ_le HB.out) _).mono ?_; rintro e w1 ⟨vs, rfl, he, hb⟩; have HW1 := Lib.hid hb; have HEn := Lib.hid he; have HA1 := Lib.hid (HA.out.more hb (by simp; exact Nat.le_of_succ_le HB.out)); clear hb he)
        | (at_builtin; refine HA1.out.pushed rfl _ _ rfl [⟨vs, _, [_], [x]⟩] (by simpa using HEn.out) 1 rfl rfl (Nat.le_trans (Nat.le_of_eq HZ.out.symm) HA1.out.bel.size) HL.out ?_; intro v2 w2 hm2; have HM2 := Lib.hid hm2; clear hm2))
      go_roundw
      case rel => exact ⟨k + 1, by omega, by go_num, by rw [HR.out, HE.out]; exact HM2.out⟩
      case measure => simp [intOf]; omega
    · obtain rfl : k = 8 := by omega
      go_wp2
      go_ret
      exact HM.out.weaken HW0.out (Nat.le_succ _)
end Go.Proofs.Ytaabdpfhpolcgaa
