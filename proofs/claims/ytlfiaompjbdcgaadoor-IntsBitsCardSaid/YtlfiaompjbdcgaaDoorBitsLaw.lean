/-
  THE WALK of the law IntsBits: a number's bits, taken piece by piece, are the number; they are counted in two ways.
-/
import Derived.Test.YtlfiaompjbdcgaaDoorFields
import Derived.Test.YtlfiaompjbdcgaaDoorAfter
import Derived.Test.YtlfiaompjbdcgaaDoorCount
namespace Go.Proofs.YtlfiaompjbdcgaaDoor
open Go.RowKit
set_option linter.unusedVariables false

theorem intsBits_walk (a0 : Int) (a1 : Int) (w : World) (w0 : (Lit.int .u64 a0).wf = true) (w1 : (Lit.int .i64 a1).wf = true) (hL : laidMetH Tryd.prog Rows.intsBitsRow.laid w) :
    Calls Tryd.prog 3 #[.int .u64 a0, .int .i64 a1] w fun e w' => e = .returned (.bool true) ∧ Below w.heap.size w w' := by
  have HT := Lib.hid (tab_of hL (by kernel_rfl))
  obtain ⟨h0, h0'⟩ := bdu64 w0
  clear hL w0 w1
  obtain ⟨W, rfl⟩ := Int.eq_ofNat_of_zero_le h0
  have hW : W < 18446744073709551616 := by omega
  clear h0 h0'
  obtain ⟨R, hR, e1⟩ : ∃ R : Nat, R ≤ 15 ∧ (bits .and .i64 a1 65535).tmod 16 = (R : Int) := ⟨(a1 % 65536 % 16).toNat, by omega, by rw [i64_and16, Int.tmod_eq_emod_of_nonneg (by omega)]; omega⟩
  go_enter Tryd.func3, Tryd.ntmps3
  go_wp2
  go_loopw [5, 6] (fun u i wr => ∃ (A v : Nat), A ≤ 79 ∧ i = .int .i64 A ∧ u = .int .u64 v ∧ v < 18446744073709551616 ∧ Hid (v = W % 2 ^ A) ∧ ∃ q, wr = w.drewN q) (fun _ i _ => 80 - (intOf i).toNat)
  case atStart => exact ⟨0, 0, by omega, rfl, rfl, by omega, (by rw [Nat.pow_zero, Nat.mod_one]; rfl), 0, rfl⟩
  case round =>
    obtain ⟨A, v, hA, rfl, rfl, hv, Hv, q, rfl⟩ := hrel
    by_cases hlt : A < 64
    · obtain ⟨k, hk⟩ : ∃ k : Nat, (k : Int) = min ((R : Int) + 1) (64 - A) := ⟨(min ((R : Int) + 1) (64 - (A : Int))).toNat, by omega⟩
      have hG : getN W A k < 18446744073709551616 := Nat.lt_of_lt_of_le (getN_lt W A k) (Nat.pow_le_pow_right (by omega) (show k ≤ 64 by omega))
      have hS := @setN_lt v A k (getN W A k) 64 hv (by omega)
      have hp := @piece W A k R hW hk
      rw [← Hv.out] at hp
      have C1 := fun w => get_in W A k (R + 1) w hW (by omega) (by omega) (by omega) hk
      have C2 := fun w => set_in v (getN W A k) A k (R + 1) w hv hG (by omega) (by omega) (by omega) hk
      generalize setN v A k (getN W A k) = S at *
      generalize getN W A k = G at *
      have HP := Lib.hid hp
      have C1 := Lib.hid C1
      have C2 := Lib.hid C2
      clear hk hp hG
      go_wp2_with (first | (go_at_call 15; refine (C1.out _).mono ?_; rintro e w' ⟨rfl, rfl⟩) | (go_at_call 14; refine (C2.out _).mono ?_; rintro e w' ⟨rfl, nq, rfl⟩))
      go_roundw
      case rel => exact ⟨A + (R + 1), S, by omega, by go_num, rfl, hS, HP.out, _, rfl⟩
      case measure => simp [intOf]; omega
    · have hvW : v = W := by rw [Hv.out]; exact mod_all hW (by omega)
      subst hvW
      have hge : 64 ≤ A := by omega
      clear hlt
      go_wp2
      go_loop [7, 8] (fun s i => ∃ (j : Nat) (c : Nat), j ≤ 64 ∧ i = .int .i64 j ∧ s = .int .i64 c ∧ c ≤ j ∧ Hid (c = cn j v)) (fun _ i => 64 - (intOf i).toNat)
      case atStart => exact ⟨0, 0, by omega, rfl, rfl, by omega, rfl⟩
      case round =>
        obtain ⟨j, c, hj, rfl, rfl, hc, Hc⟩ := hrel
        by_cases hlt : j < 64
        · have hG := getN_lt v j 1
          have C1 := fun w => get_in v j 1 1 w hv (by omega) (by omega) (by omega) (by omega)
          have hs := cn_step j v
          generalize getN v j 1 = G at *
          have C1 := Lib.hid C1
          have HS := Lib.hid hs
          clear hs
          go_wp2_with (go_at_call 15; refine (C1.out _).mono ?_; rintro e w' ⟨rfl, rfl⟩)
          go_round
          case rel => exact ⟨j + 1, c + G, by omega, by go_num, by go_num, by omega, (by have := HS.out; rw [← Hc.out] at this; exact this.symm)⟩
          case measure => simp [intOf]; omega
        · obtain rfl : j = 64 := by omega
          clear hlt
          go_wp2
          go_loop [9, 10] (fun s i => ∃ (x : Nat) (m : Nat), i = .int .u64 x ∧ s = .int .i64 m ∧ x < 18446744073709551616 ∧ m ≤ 64 ∧ Hid (m + cn 64 x = cn 64 v)) (fun _ i => (intOf i).toNat)
          case atStart => exact ⟨v, 0, rfl, rfl, hv, by omega, (Nat.zero_add _)⟩
          case round =>
            obtain ⟨x, m, rfl, rfl, hx, hm, Hm⟩ := hrel
            by_cases hlt : 0 < x
            · have hs := cn_low 64 x hlt (by exact hx)
              have hle : x &&& (x - 1) ≤ x - 1 := Nat.and_le_right
              have ha := u64_and_nat x (x - 1) hx (by omega)
              rw [show ((x - 1 : Nat) : Int) = (x : Int) - 1 by omega] at ha
              have h64 := cn_le 64 v
              have hm' : m + 1 ≤ 64 := by have := Hm.out; omega
              have HS := Lib.hid hs
              have HA := Lib.hid ha
              have HL := Lib.hid hle
              clear hs ha hle h64
              go_wp2
              go_round
              case rel => exact ⟨x &&& (x - 1), m + 1, by rw [HA.out], by go_num, by have := HL.out; omega, hm', (by have := HS.out; have := Hm.out; show _ = _; omega)⟩
              case measure => have := HL.out; rw [HA.out]; simp [intOf]; omega
            · obtain rfl : x = 0 := by omega
              have hmc : m = c := by have := Hm.out; rw [cn_zero] at this; have := Hc.out; omega
              subst hmc
              clear hlt
              have C1 := Lib.hid (fun w => get_in v 0 64 99 w hv (by omega) (by omega) (by omega) (by omega))
              rw [get_all hv] at C1
              go_wp2_with (first | (go_at_call 15; refine (C1.out _).mono ?_; rintro e w' ⟨rfl, rfl⟩) | (go_at_call 16; refine (awake_q w _ (HT.out)).mono ?_; rintro e w' ⟨rfl, hb⟩))
              go_ret
              exact ⟨rfl, hb⟩
end Go.Proofs.YtlfiaompjbdcgaaDoor
