/-
  CARRIED by carry.py out of the templates of an earlier stage: XEMake.
-/
import Derived.Test.YtaabdpfhpolcgaaE3B
import Derived.LoopN
namespace Go.Proofs.Ytaabdpfhpolcgaa.E3
open Go.RowKit
set_option linter.unusedVariables false
set_option linter.unusedSimpArgs false
theorem with_1' {e n : Nat} {v : Int} (h : Hid (v % 65536 * 65536 + (e : Int) % 65536 = n)) (he : e < 4294967296) (hv : -9223372036854775808 ≤ v) (hv' : v ≤ 9223372036854775807) (w : World) :
    Calls Try.prog 47 #[.int .u32 e, .int .i64 1, .int .i64 v] w fun r w' => r = .returned (.int .u32 n) ∧ w = w' := by
  rw [← h.out]; exact with_1 e v he hv hv' w
theorem with_2' {e n : Nat} {v : Int} (h : Hid ((e : Int) / 65536 * 65536 + v % 256 * 256 + (e : Int) % 256 = n)) (he : e < 4294967296) (hv : -9223372036854775808 ≤ v) (hv' : v ≤ 9223372036854775807) (w : World) :
    Calls Try.prog 47 #[.int .u32 e, .int .i64 2, .int .i64 v] w fun r w' => r = .returned (.int .u32 n) ∧ w = w' := by
  rw [← h.out]; exact with_2 e v he hv hv' w
theorem with_3' {e n : Nat} {v : Int} (h : Hid ((e : Int) / 256 * 256 + v % 128 * 2 + (e : Int) % 2 = n)) (he : e < 4294967296) (hv : -9223372036854775808 ≤ v) (hv' : v ≤ 9223372036854775807) (w : World) :
    Calls Try.prog 47 #[.int .u32 e, .int .i64 3, .int .i64 v] w fun r w' => r = .returned (.int .u32 n) ∧ w = w' := by
  rw [← h.out]; exact with_3 e v he hv hv' w
theorem with_10 {n : Nat} {v : Int} (h : Hid (v % 65536 * 65536 = n)) (hv : -9223372036854775808 ≤ v) (hv' : v ≤ 9223372036854775807) (w : World) :
    Calls Try.prog 47 #[.int .u32 0, .int .i64 1, .int .i64 v] w fun r w' => r = .returned (.int .u32 n) ∧ w = w' :=
  with_1' (e := 0) (by have := h.out; show _ = _; omega) (by omega) hv hv' w
theorem make_a (p s t : Int) (v : Bool) (hp : -9223372036854775808 ≤ p) (hp' : p ≤ 9223372036854775807) (h : p < 0 ∨ 65535 < p) (w : World) :
    Calls Try.prog 72 #[.int .i64 p, .int .i64 s, .int .i64 t, .bool v] w fun r w' => r = .returned (.tuple #[.int .u32 0, .int .i64 1]) ∧ w = w' := by
  obtain ⟨q, hq⟩ := Int.eq_ofNat_of_zero_le (show 0 ≤ p % 65536 by omega)
  have H1 : Hid (p % 65536 * 65536 = ((q * 65536 : Nat) : Int)) := by show _ = _; omega
  obtain ⟨n, hn⟩ : ∃ n, q * 65536 = n := ⟨_, rfl⟩
  have hn' : n < 4294967296 := by omega
  have G1 : Hid (n / 65536 = q) := by show _ = _; omega
  have t1 : ((q : Int) == p) = false := by simp; omega
  rw [hn] at H1
  have i0 : ∀ w, (Instr.index 69 (.agg #[.int .i64 p, .int .i64 s, .int .i64 t]) (.int .i64 0)).run Try.prog w = .ok (.int .i64 p) w := fun _ => by kernel_rfl
  clear hn hq h
  go_enter Try.func72, Try.ntmps72
  go_wp2
  refine wp_loop_rounds 1 ?_
  rw [rounds_succ]
  go_wp2_with (first
    | (go_at_call 47; refine (with_10 H1 hp hp' _).mono ?_; rintro e w' ⟨rfl, rfl⟩)
    | (go_at_call 7; refine (weight_1' G1.out hn' _).mono ?_; rintro e w' ⟨rfl, rfl⟩))
  go_ret2
  exact ⟨rfl, rfl⟩
theorem make_b (p : Nat) (s t : Int) (v : Bool) (hp : p < 65536) (hs : -9223372036854775808 ≤ s) (hs' : s ≤ 9223372036854775807) (h : s < 0 ∨ 255 < s) (w : World) :
    Calls Try.prog 72 #[.int .i64 p, .int .i64 s, .int .i64 t, .bool v] w fun r w' => r = .returned (.tuple #[.int .u32 0, .int .i64 1]) ∧ w = w' := by
  obtain ⟨q, hq⟩ := Int.eq_ofNat_of_zero_le (show 0 ≤ s % 256 by omega)
  obtain ⟨n, hn⟩ : ∃ n, p * 65536 = n := ⟨_, rfl⟩
  obtain ⟨m, hm⟩ : ∃ m, p * 65536 + q * 256 = m := ⟨_, rfl⟩
  have H1 : Hid ((p : Int) % 65536 * 65536 = n) := by show _ = _; omega
  have H2 : Hid ((n : Int) / 65536 * 65536 + s % 256 * 256 + (n : Int) % 256 = m) := by show _ = _; omega
  have hn' : n < 4294967296 := by omega
  have hm' : m < 4294967296 := by omega
  have G1 : Hid (n / 65536 = p) := by show _ = _; omega
  have G2 : Hid (m / 256 % 256 = q) := by show _ = _; omega
  have t1 : ((q : Int) == s) = false := by simp; omega
  have hp1 : -9223372036854775808 ≤ (p : Int) := by omega
  have hp2 : (p : Int) ≤ 9223372036854775807 := by omega
  have i0 : ∀ w, (Instr.index 69 (.agg #[.int .i64 p, .int .i64 s, .int .i64 t]) (.int .i64 0)).run Try.prog w = .ok (.int .i64 p) w := fun _ => by kernel_rfl
  have i1 : ∀ w, (Instr.index 69 (.agg #[.int .i64 p, .int .i64 s, .int .i64 t]) (.int .i64 1)).run Try.prog w = .ok (.int .i64 s) w := fun _ => by kernel_rfl
  clear hn hm hq h
  go_enter Try.func72, Try.ntmps72
  go_wp2
  refine wp_loop_rounds 2 ?_
  rw [rounds_succ]
  go_wp2_with (first
    | (go_at_call 47; refine (with_10 H1 hp1 hp2 _).mono ?_; rintro e w' ⟨rfl, rfl⟩)
    | (go_at_call 7; refine (weight_1' G1.out hn' _).mono ?_; rintro e w' ⟨rfl, rfl⟩))
  rw [rounds_succ]
  go_wp2_with (first
    | (go_at_call 47; refine (with_2' H2 hn' hs hs' _).mono ?_; rintro e w' ⟨rfl, rfl⟩)
    | (go_at_call 7; refine (weight_2' G2.out hm' _).mono ?_; rintro e w' ⟨rfl, rfl⟩))
  go_ret2
  exact ⟨rfl, rfl⟩
theorem make_c (p s : Nat) (t : Int) (v : Bool) (hp : p < 65536) (hs : s < 256) (ht : -9223372036854775808 ≤ t) (ht' : t ≤ 9223372036854775807) (h : t < 0 ∨ 127 < t) (w : World) :
    Calls Try.prog 72 #[.int .i64 p, .int .i64 s, .int .i64 t, .bool v] w fun r w' => r = .returned (.tuple #[.int .u32 0, .int .i64 1]) ∧ w = w' := by
  obtain ⟨q, hq⟩ := Int.eq_ofNat_of_zero_le (show 0 ≤ t % 128 by omega)
  obtain ⟨n, hn⟩ : ∃ n, p * 65536 = n := ⟨_, rfl⟩
  obtain ⟨m, hm⟩ : ∃ m, p * 65536 + s * 256 = m := ⟨_, rfl⟩
  obtain ⟨r, hr⟩ : ∃ r, p * 65536 + s * 256 + q * 2 = r := ⟨_, rfl⟩
  have H1 : Hid ((p : Int) % 65536 * 65536 = n) := by show _ = _; omega
  have H2 : Hid ((n : Int) / 65536 * 65536 + (s : Int) % 256 * 256 + (n : Int) % 256 = m) := by show _ = _; omega
  have H3 : Hid ((m : Int) / 256 * 256 + t % 128 * 2 + (m : Int) % 2 = r) := by show _ = _; omega
  have hn' : n < 4294967296 := by omega
  have hm' : m < 4294967296 := by omega
  have hr' : r < 4294967296 := by omega
  have G1 : Hid (n / 65536 = p) := by show _ = _; omega
  have G2 : Hid (m / 256 % 256 = s) := by show _ = _; omega
  have G3 : Hid (r / 2 % 128 = q) := by show _ = _; omega
  have t1 : ((q : Int) == t) = false := by simp; omega
  have hp1 : -9223372036854775808 ≤ (p : Int) := by omega
  have hp2 : (p : Int) ≤ 9223372036854775807 := by omega
  have hs1 : -9223372036854775808 ≤ (s : Int) := by omega
  have hs2 : (s : Int) ≤ 9223372036854775807 := by omega
  have i0 : ∀ w, (Instr.index 69 (.agg #[.int .i64 p, .int .i64 s, .int .i64 t]) (.int .i64 0)).run Try.prog w = .ok (.int .i64 p) w := fun _ => by kernel_rfl
  have i1 : ∀ w, (Instr.index 69 (.agg #[.int .i64 p, .int .i64 s, .int .i64 t]) (.int .i64 1)).run Try.prog w = .ok (.int .i64 s) w := fun _ => by kernel_rfl
  have i2 : ∀ w, (Instr.index 69 (.agg #[.int .i64 p, .int .i64 s, .int .i64 t]) (.int .i64 2)).run Try.prog w = .ok (.int .i64 t) w := fun _ => by kernel_rfl
  clear hn hm hr hq h
  go_enter Try.func72, Try.ntmps72
  go_wp2
  refine wp_loop_rounds 3 ?_
  rw [rounds_succ]
  go_wp2_with (first
    | (go_at_call 47; refine (with_10 H1 hp1 hp2 _).mono ?_; rintro e w' ⟨rfl, rfl⟩)
    | (go_at_call 7; refine (weight_1' G1.out hn' _).mono ?_; rintro e w' ⟨rfl, rfl⟩))
  rw [rounds_succ]
  go_wp2_with (first
    | (go_at_call 47; refine (with_2' H2 hn' hs1 hs2 _).mono ?_; rintro e w' ⟨rfl, rfl⟩)
    | (go_at_call 7; refine (weight_2' G2.out hm' _).mono ?_; rintro e w' ⟨rfl, rfl⟩))
  rw [rounds_succ]
  go_wp2_with (first
    | (go_at_call 47; refine (with_3' H3 hm' ht ht' _).mono ?_; rintro e w' ⟨rfl, rfl⟩)
    | (go_at_call 7; refine (weight_3' G3.out hr' _).mono ?_; rintro e w' ⟨rfl, rfl⟩))
  go_ret2
  exact ⟨rfl, rfl⟩
theorem make_d (p s t : Nat) (v : Bool) (hp : p < 65536) (hs : s < 256) (ht : t < 128) (w : World) :
    Calls Try.prog 72 #[.int .i64 p, .int .i64 s, .int .i64 t, .bool v] w fun r w' => r = .returned (.tuple #[.int .u32 (mk p s t (if v then 1 else 0) : Nat), .int .i64 0]) ∧ w = w' := by
  obtain ⟨n, hn⟩ : ∃ n, p * 65536 = n := ⟨_, rfl⟩
  obtain ⟨m, hm⟩ : ∃ m, p * 65536 + s * 256 = m := ⟨_, rfl⟩
  obtain ⟨r, hr⟩ : ∃ r, p * 65536 + s * 256 + t * 2 = r := ⟨_, rfl⟩
  have H1 : Hid ((p : Int) % 65536 * 65536 = n) := by show _ = _; omega
  have H2 : Hid ((n : Int) / 65536 * 65536 + (s : Int) % 256 * 256 + (n : Int) % 256 = m) := by show _ = _; omega
  have H3 : Hid ((m : Int) / 256 * 256 + (t : Int) % 128 * 2 + (m : Int) % 2 = r) := by show _ = _; omega
  have hn' : n < 4294967296 := by omega
  have hm' : m < 4294967296 := by omega
  have hr' : r < 4294967296 := by omega
  have G1 : Hid (n / 65536 = p) := by show _ = _; omega
  have G2 : Hid (m / 256 % 256 = s) := by show _ = _; omega
  have G3 : Hid (r / 2 % 128 = t) := by show _ = _; omega
  have hp1 : -9223372036854775808 ≤ (p : Int) := by omega
  have hp2 : (p : Int) ≤ 9223372036854775807 := by omega
  have hs1 : -9223372036854775808 ≤ (s : Int) := by omega
  have hs2 : (s : Int) ≤ 9223372036854775807 := by omega
  have ht1 : -9223372036854775808 ≤ (t : Int) := by omega
  have ht2 : (t : Int) ≤ 9223372036854775807 := by omega
  have i0 : ∀ w, (Instr.index 69 (.agg #[.int .i64 p, .int .i64 s, .int .i64 t]) (.int .i64 0)).run Try.prog w = .ok (.int .i64 p) w := fun _ => by kernel_rfl
  have i1 : ∀ w, (Instr.index 69 (.agg #[.int .i64 p, .int .i64 s, .int .i64 t]) (.int .i64 1)).run Try.prog w = .ok (.int .i64 s) w := fun _ => by kernel_rfl
  have i2 : ∀ w, (Instr.index 69 (.agg #[.int .i64 p, .int .i64 s, .int .i64 t]) (.int .i64 2)).run Try.prog w = .ok (.int .i64 t) w := fun _ => by kernel_rfl
  have hor : bits .or .u32 (r : Int) 1 = ((r + 1 : Nat) : Int) := by
    have h := u32_or_nat r 1 hr' (by omega)
    rw [nat_join 1 _ _ (by simp only [Nat.reducePow]; omega) (by simp only [Nat.reducePow]; omega)] at h
    exact h
  have HR := Lib.hid hr
  unfold mk
  clear hn hm hr
  cases v
  all_goals
    go_enter Try.func72, Try.ntmps72
    go_wp2
    refine wp_loop_rounds 4 ?_
    rw [rounds_succ]
    go_wp2_with (first
      | (go_at_call 47; refine (with_10 H1 hp1 hp2 _).mono ?_; rintro e w' ⟨rfl, rfl⟩)
      | (go_at_call 7; refine (weight_1' G1.out hn' _).mono ?_; rintro e w' ⟨rfl, rfl⟩))
    rw [rounds_succ]
    go_wp2_with (first
      | (go_at_call 47; refine (with_2' H2 hn' hs1 hs2 _).mono ?_; rintro e w' ⟨rfl, rfl⟩)
      | (go_at_call 7; refine (weight_2' G2.out hm' _).mono ?_; rintro e w' ⟨rfl, rfl⟩))
    rw [rounds_succ]
    go_wp2_with (first
      | (go_at_call 47; refine (with_3' H3 hm' ht1 ht2 _).mono ?_; rintro e w' ⟨rfl, rfl⟩)
      | (go_at_call 7; refine (weight_3' G3.out hr' _).mono ?_; rintro e w' ⟨rfl, rfl⟩))
    rw [rounds_succ]
    go_wp2
    go_ret2
    exact ⟨two ⟨by rw [← HR.out]; simp, rfl⟩, rfl⟩
end Go.Proofs.Ytaabdpfhpolcgaa.E3
