/-
  PACKED for a claim.
-/
import Derived.Test.YteibnfeokgibmaaGreatProg
import Derived.Deep.QuietTactic
import Derived.BigQuiet
import Derived.LoopN
import Derived.Test.YteibnfeokgibmaaGreatP01
import Derived.Test.YteibnfeokgibmaaGreatP03
set_option linter.unusedVariables false
set_option linter.unusedSimpArgs false
set_option maxRecDepth 100000
section
namespace Go.Proofs.YteibnfeokgibmaaGreat.E3
open Go.RowKit
theorem yhu (l : Int) (w : World) : Calls Tryz.prog 156 #[.int .i64 l] w fun e w' => e = .returned (.tuple #[.int .i64 (if l = 1 then 16 else if l = 2 then 8 else if l = 3 then 1 else 0), .int .i64 (if l = 1 then 16 else if l = 2 then 8 else if l = 3 then 7 else 0)]) /\ w = w' := by
 by_cases h1 : l = 1
 ·subst h1
  go_enter Tryz.func156, Tryz.ntmps156
  go_wp2
  go_ret2
  exact ⟨rfl, rfl⟩
 by_cases h2 : l = 2
 ·subst h2
  go_enter Tryz.func156, Tryz.ntmps156
  go_wp2
  go_ret2
  exact ⟨rfl, rfl⟩
 by_cases h3 : l = 3
 ·subst h3
  go_enter Tryz.func156, Tryz.ntmps156
  go_wp2
  go_ret2
  exact ⟨rfl, rfl⟩
 have g1 : (l == 1) = false := by simpa using h1
 have g2 : (l == 2) = false := by simpa using h2
 have g3 : (l == 3) = false := by simpa using h3
 rw [if_neg h1, if_neg h2, if_neg h3, if_neg h1, if_neg h2, if_neg h3]; clear h1 h2 h3
 go_enter Tryz.func156, Tryz.ntmps156
 go_wp2
 go_ret2
 exact ⟨rfl, rfl⟩
theorem mask_16 (w : World) : Calls Tryz.prog 191 #[.int .i64 0, .int .i64 16] w fun e w' => e = .returned (.int .u64 ((2 ^ 16 - 1 : Nat) : Int)) /\ w = w' := by
 go_enter Tryz.func191, Tryz.ntmps191
 go_wp2
 go_ret
 exact ⟨rfl, rfl⟩
theorem mask_8 (w : World) : Calls Tryz.prog 191 #[.int .i64 0, .int .i64 8] w fun e w' => e = .returned (.int .u64 ((2 ^ 8 - 1 : Nat) : Int)) /\ w = w' := by
 go_enter Tryz.func191, Tryz.ntmps191
 go_wp2
 go_ret
 exact ⟨rfl, rfl⟩
theorem mask_7 (w : World) : Calls Tryz.prog 191 #[.int .i64 0, .int .i64 7] w fun e w' => e = .returned (.int .u64 ((2 ^ 7 - 1 : Nat) : Int)) /\ w = w' := by
 go_enter Tryz.func191, Tryz.ntmps191
 go_wp2
 go_ret
 exact ⟨rfl, rfl⟩
theorem get_16 (x : Nat) (hx : x < 18446744073709551616) (w : World) : Calls Tryz.prog 157 #[.int .u64 x, .int .i64 0, .int .i64 16] w fun e w' => e = .returned (.int .u64 ((x % 65536 : Nat) : Int)) /\ w = w' := by
 have h := zH (and64 16 (by omega) hx)
 go_enter Tryz.func157, Tryz.ntmps157
 go_wp2_with (go_at_call 191; refine (mask_16 _).mono ?_; rintro e w' ⟨rfl, rfl⟩)
 go_ret
 exact ⟨one h.out.symm, rfl⟩
theorem get_8 (x : Nat) (hx : x < 18446744073709551616) (w : World) : Calls Tryz.prog 157 #[.int .u64 x, .int .i64 0, .int .i64 8] w fun e w' => e = .returned (.int .u64 ((x % 256 : Nat) : Int)) /\ w = w' := by
 have h := zH (and64 8 (by omega) hx)
 go_enter Tryz.func157, Tryz.ntmps157
 go_wp2_with (go_at_call 191; refine (mask_8 _).mono ?_; rintro e w' ⟨rfl, rfl⟩)
 go_ret
 exact ⟨one h.out.symm, rfl⟩
theorem get_7 (x : Nat) (hx : x < 18446744073709551616) (w : World) : Calls Tryz.prog 157 #[.int .u64 x, .int .i64 0, .int .i64 7] w fun e w' => e = .returned (.int .u64 ((x % 128 : Nat) : Int)) /\ w = w' := by
 have h := zH (and64 7 (by omega) hx)
 go_enter Tryz.func157, Tryz.ntmps157
 go_wp2_with (go_at_call 191; refine (mask_7 _).mono ?_; rintro e w' ⟨rfl, rfl⟩)
 go_ret
 exact ⟨one h.out.symm, rfl⟩
end Go.Proofs.YteibnfeokgibmaaGreat.E3
namespace Go.Proofs.YteibnfeokgibmaaGreat.E3
open Go.RowKit
theorem yvt {x : Int} (h0 : 0 <= x) (hx : x < 18446744073709551616) (w : World) : Calls Tryz.prog 157 #[.int .u64 x, .int .i64 0, .int .i64 16] w fun e w' => e = .returned (.int .u64 (x % 65536)) /\ w = w' := by
 obtain ⟨n, rfl⟩ := Int.eq_ofNat_of_zero_le h0; exact get_16 n (by omega) w
theorem getI_8 {x : Int} (h0 : 0 <= x) (hx : x < 18446744073709551616) (w : World) : Calls Tryz.prog 157 #[.int .u64 x, .int .i64 0, .int .i64 8] w fun e w' => e = .returned (.int .u64 (x % 256)) /\ w = w' := by
 obtain ⟨n, rfl⟩ := Int.eq_ofNat_of_zero_le h0; exact get_8 n (by omega) w
theorem getI_7 {x : Int} (h0 : 0 <= x) (hx : x < 18446744073709551616) (w : World) : Calls Tryz.prog 157 #[.int .u64 x, .int .i64 0, .int .i64 7] w fun e w' => e = .returned (.int .u64 (x % 128)) /\ w = w' := by
 obtain ⟨n, rfl⟩ := Int.eq_ofNat_of_zero_le h0; exact get_7 n (by omega) w
theorem yuc (w : World) : Calls Tryz.prog 156 #[.int .i64 1] w fun e w' => e = .returned (.tuple #[.int .i64 16, .int .i64 16]) /\ w = w' := yhu 1 w
theorem yub (w : World) : Calls Tryz.prog 156 #[.int .i64 2] w fun e w' => e = .returned (.tuple #[.int .i64 8, .int .i64 8]) /\ w = w' := yhu 2 w
theorem yua (w : World) : Calls Tryz.prog 156 #[.int .i64 3] w fun e w' => e = .returned (.tuple #[.int .i64 1, .int .i64 7]) /\ w = w' := yhu 3 w
theorem yof (e : Nat) (he : e < 4294967296) (w : World) : Calls Tryz.prog 147 #[.int .u32 e, .int .i64 1] w fun r w' => r = .returned (.int .i64 ((e / 65536 : Nat) : Int)) /\ w = w' := by
 go_enter Tryz.func147, Tryz.ntmps147
 go_wp2_with (first
  | (go_at_call 156; refine (yuc _).mono ?_; rintro e w' ⟨rfl, rfl⟩)
  | (go_at_call 157; refine (yvt (by omega) (by omega) _).mono ?_; rintro e w' ⟨rfl, rfl⟩))
 go_ret
 exact ⟨one (by omega), rfl⟩
theorem yoe (e : Nat) (he : e < 4294967296) (w : World) : Calls Tryz.prog 147 #[.int .u32 e, .int .i64 2] w fun r w' => r = .returned (.int .i64 ((e / 256 % 256 : Nat) : Int)) /\ w = w' := by
 go_enter Tryz.func147, Tryz.ntmps147
 go_wp2_with (first
  | (go_at_call 156; refine (yub _).mono ?_; rintro e w' ⟨rfl, rfl⟩)
  | (go_at_call 157; refine (getI_8 (by omega) (by omega) _).mono ?_; rintro e w' ⟨rfl, rfl⟩))
 go_ret
 exact ⟨one (by omega), rfl⟩
theorem yod (e : Nat) (he : e < 4294967296) (w : World) : Calls Tryz.prog 147 #[.int .u32 e, .int .i64 3] w fun r w' => r = .returned (.int .i64 ((e / 2 % 128 : Nat) : Int)) /\ w = w' := by
 go_enter Tryz.func147, Tryz.ntmps147
 go_wp2_with (first
  | (go_at_call 156; refine (yua _).mono ?_; rintro e w' ⟨rfl, rfl⟩)
  | (go_at_call 157; refine (getI_7 (by omega) (by omega) _).mono ?_; rintro e w' ⟨rfl, rfl⟩))
 go_ret
 exact ⟨one (by omega), rfl⟩
theorem ysk (e : Nat) (b : Bool) (he : e < 4294967296) (hb : (e % 2 = 1) = (b = true)) (w : World) : Calls Tryz.prog 148 #[.int .u32 e] w fun r w' => r = .returned (.bool b) /\ w = w' := by
 have h := zH (and32 1 (by omega) he)
 have HB := zH hb; clear hb
 go_enter Tryz.func148, Tryz.ntmps148
 go_wp2
 go_ret
 refine ⟨yee ?_, rfl⟩
 have h1 : bits .and .u32 (e : Int) 1 = ((e % 2 : Nat) : Int) := h.out
 have hb := HB.out; rw [h1]
 cases b <;> simp at hb |- <;> omega
end Go.Proofs.YteibnfeokgibmaaGreat.E3
namespace Go.Proofs.YteibnfeokgibmaaGreat.E3
open Go.RowKit
theorem getW_16 (x : Int) (w : World) : Calls Tryz.prog 157 #[.int .u64 (IntKind.u64.wrap x), .int .i64 0, .int .i64 16] w fun e w' => e = .returned (.int .u64 (x % 65536)) /\ w = w' := by
 have e : IntKind.u64.wrap x % 65536 = x % 65536 := by rw [IntKind.wrap_u64]; omega
 rw [<- e]; exact yvt (by rw [IntKind.wrap_u64]; omega) (by rw [IntKind.wrap_u64]; omega) w
theorem getW_8 (x : Int) (w : World) : Calls Tryz.prog 157 #[.int .u64 (IntKind.u64.wrap x), .int .i64 0, .int .i64 8] w fun e w' => e = .returned (.int .u64 (x % 256)) /\ w = w' := by
 have e : IntKind.u64.wrap x % 256 = x % 256 := by rw [IntKind.wrap_u64]; omega
 rw [<- e]; exact getI_8 (by rw [IntKind.wrap_u64]; omega) (by rw [IntKind.wrap_u64]; omega) w
theorem getW_7 (x : Int) (w : World) : Calls Tryz.prog 157 #[.int .u64 (IntKind.u64.wrap x), .int .i64 0, .int .i64 7] w fun e w' => e = .returned (.int .u64 (x % 128)) /\ w = w' := by
 have e : IntKind.u64.wrap x % 128 = x % 128 := by rw [IntKind.wrap_u64]; omega
 rw [<- e]; exact getI_7 (by rw [IntKind.wrap_u64]; omega) (by rw [IntKind.wrap_u64]; omega) w
theorem with_1 (e : Nat) (v : Int) (he : e < 4294967296) (hv : -9223372036854775808 <= v) (hv' : v <= 9223372036854775807) (w : World) :
  Calls Tryz.prog 105 #[.int .u32 e, .int .i64 1, .int .i64 v] w fun r w' => r = .returned (.int .u32 ((v % 65536) * 65536 + e % 65536)) /\ w = w' := by
 go_enter Tryz.func105, Tryz.ntmps105
 go_wp2_with (first
  | (go_at_call 156; refine (yuc _).mono ?_; rintro e w' ⟨rfl, rfl⟩)
  | (go_at_call 147; refine (yof _ he _).mono ?_; rintro e w' ⟨rfl, rfl⟩)
  | (go_at_call 157; refine (getW_16 _ _).mono ?_; rintro e w' ⟨rfl, rfl⟩))
 go_ret
 exact ⟨one (put_1 he), rfl⟩
theorem with_2 (e : Nat) (v : Int) (he : e < 4294967296) (hv : -9223372036854775808 <= v) (hv' : v <= 9223372036854775807) (w : World) :
  Calls Tryz.prog 105 #[.int .u32 e, .int .i64 2, .int .i64 v] w fun r w' => r = .returned (.int .u32 (e / 65536 * 65536 + (v % 256) * 256 + e % 256)) /\ w = w' := by
 go_enter Tryz.func105, Tryz.ntmps105
 go_wp2_with (first
  | (go_at_call 156; refine (yub _).mono ?_; rintro e w' ⟨rfl, rfl⟩)
  | (go_at_call 147; refine (yoe _ he _).mono ?_; rintro e w' ⟨rfl, rfl⟩)
  | (go_at_call 157; refine (getW_8 _ _).mono ?_; rintro e w' ⟨rfl, rfl⟩))
 go_ret
 exact ⟨one (put_2 he), rfl⟩
theorem with_3 (e : Nat) (v : Int) (he : e < 4294967296) (hv : -9223372036854775808 <= v) (hv' : v <= 9223372036854775807) (w : World) :
  Calls Tryz.prog 105 #[.int .u32 e, .int .i64 3, .int .i64 v] w fun r w' => r = .returned (.int .u32 (e / 256 * 256 + (v % 128) * 2 + e % 2)) /\ w = w' := by
 go_enter Tryz.func105, Tryz.ntmps105
 go_wp2_with (first
  | (go_at_call 156; refine (yua _).mono ?_; rintro e w' ⟨rfl, rfl⟩)
  | (go_at_call 147; refine (yod _ he _).mono ?_; rintro e w' ⟨rfl, rfl⟩)
  | (go_at_call 157; refine (getW_7 _ _).mono ?_; rintro e w' ⟨rfl, rfl⟩))
 go_ret
 exact ⟨one (put_3 he), rfl⟩
end Go.Proofs.YteibnfeokgibmaaGreat.E3
namespace Go.Proofs.YteibnfeokgibmaaGreat.E3
open Go.RowKit
def okP (p s t : Nat) (v : Bool) : Bool := (decide (p = 0) || !decide (s = 0) && !decide (t = 0)) && (decide (s = 0) || !decide (t = 0)) && (!v || !decide (p = 0))
theorem yds {e p : Nat} (h : e / 65536 = p) (he : e < 4294967296) (w : World) : Calls Tryz.prog 147 #[.int .u32 e, .int .i64 1] w fun r w' => r = .returned (.int .i64 p) /\ w = w' := by
 rw [<- h]; exact yof e he w
theorem yhh {e p : Nat} (h : e / 256 % 256 = p) (he : e < 4294967296) (w : World) : Calls Tryz.prog 147 #[.int .u32 e, .int .i64 2] w fun r w' => r = .returned (.int .i64 p) /\ w = w' := by
 rw [<- h]; exact yoe e he w
theorem yhg {e p : Nat} (h : e / 2 % 128 = p) (he : e < 4294967296) (w : World) : Calls Tryz.prog 147 #[.int .u32 e, .int .i64 3] w fun r w' => r = .returned (.int .i64 p) /\ w = w' := by
 rw [<- h]; exact yod e he w
theorem ok_any (e : Nat) (p s t : Nat) (v : Bool) (he : e < 4294967296) (hp : Hid (e / 65536 = p)) (hs : Hid (e / 256 % 256 = s)) (ht : Hid (e / 2 % 128 = t)) (hv : Hid ((e % 2 = 1) = (v = true))) (w : World) :
  Calls Tryz.prog 180 #[.int .u32 e] w fun r w' => r = .returned (.bool (okP p s t v)) /\ w = w' := by
 go_enter Tryz.func180, Tryz.ntmps180
 go_wp2_with (first
  | (go_at_call 147; with_reducible refine (yds hp.out he _).mono ?_; rintro e w' ⟨rfl, rfl⟩)
  | (go_at_call 147; with_reducible refine (yhh hs.out he _).mono ?_; rintro e w' ⟨rfl, rfl⟩)
  | (go_at_call 147; with_reducible refine (yhg ht.out he _).mono ?_; rintro e w' ⟨rfl, rfl⟩)
  | (go_at_call 148; refine (ysk _ v he hv.out _).mono ?_; rintro e w' ⟨rfl, rfl⟩))
 all_goals go_ret
 all_goals (refine ⟨yee ?_, rfl⟩; unfold okP; simp [*])
theorem rok_any (p s t : Nat) (v : Bool) (w : World) :
  Calls Tryz.prog 142 #[.agg #[.int .i64 p, .int .i64 s, .int .i64 t, .bool v]] w fun r w' => r = .returned (.bool (okP p s t v)) /\ Below w.heap.size w w' := by
 go_enter Tryz.func142, Tryz.ntmps142
 go_wp2
 all_goals go_ret
 all_goals (refine ⟨yee ?_, (zR _ _).alloc (zN _) _⟩; unfold okP; simp [*])
end Go.Proofs.YteibnfeokgibmaaGreat.E3
end
namespace Go.Proofs.YteibnfeokgibmaaGreat.E3
open Go.RowKit
theorem ysi {e n : Nat} {v : Int} (h : Hid (v % 65536 * 65536 + (e : Int) % 65536 = n)) (he : e < 4294967296) (hv : -9223372036854775808 <= v) (hv' : v <= 9223372036854775807) (w : World) :
  Calls Tryz.prog 105 #[.int .u32 e, .int .i64 1, .int .i64 v] w fun r w' => r = .returned (.int .u32 n) /\ w = w' := by
 rw [<- h.out]; exact with_1 e v he hv hv' w
theorem ysg {e n : Nat} {v : Int} (h : Hid ((e : Int) / 65536 * 65536 + v % 256 * 256 + (e : Int) % 256 = n)) (he : e < 4294967296) (hv : -9223372036854775808 <= v) (hv' : v <= 9223372036854775807) (w : World) :
  Calls Tryz.prog 105 #[.int .u32 e, .int .i64 2, .int .i64 v] w fun r w' => r = .returned (.int .u32 n) /\ w = w' := by
 rw [<- h.out]; exact with_2 e v he hv hv' w
theorem yjr {e n : Nat} {v : Int} (h : Hid ((e : Int) / 256 * 256 + v % 128 * 2 + (e : Int) % 2 = n)) (he : e < 4294967296) (hv : -9223372036854775808 <= v) (hv' : v <= 9223372036854775807) (w : World) :
  Calls Tryz.prog 105 #[.int .u32 e, .int .i64 3, .int .i64 v] w fun r w' => r = .returned (.int .u32 n) /\ w = w' := by
 rw [<- h.out]; exact with_3 e v he hv hv' w
theorem ysh {n : Nat} {v : Int} (h : Hid (v % 65536 * 65536 = n)) (hv : -9223372036854775808 <= v) (hv' : v <= 9223372036854775807) (w : World) :
  Calls Tryz.prog 105 #[.int .u32 0, .int .i64 1, .int .i64 v] w fun r w' => r = .returned (.int .u32 n) /\ w = w' :=
 ysi (e := 0) (by have := h.out; show _ = _; omega) (by omega) hv hv' w
theorem make_a (p s t : Int) (v : Bool) (hp : -9223372036854775808 <= p) (hp' : p <= 9223372036854775807) (h : p < 0 \/ 65535 < p) (w : World) :
  Calls Tryz.prog 154 #[.int .i64 p, .int .i64 s, .int .i64 t, .bool v] w fun r w' => r = .returned (.tuple #[.int .u32 0, .int .i64 1]) /\ w = w' := by
 obtain ⟨q, hq⟩ := Int.eq_ofNat_of_zero_le (show 0 <= p % 65536 by omega)
 have H1 : Hid (p % 65536 * 65536 = ((q * 65536 : Nat) : Int)) := by show _ = _; omega
 obtain ⟨n, hn⟩ : ∃ n, q * 65536 = n := ⟨_, rfl⟩
 have hn' : n < 4294967296 := by omega
 have G1 : Hid (n / 65536 = q) := by show _ = _; omega
 have t1 : ((q : Int) == p) = false := by simp; omega
 rw [hn] at H1
 have i0 : ∀ w, (Instr.index 127 (.agg #[.int .i64 p, .int .i64 s, .int .i64 t]) (.int .i64 0)).run Tryz.prog w = .ok (.int .i64 p) w := fun _ => by kernel_rfl
 clear hn hq h
 go_enter Tryz.func154, Tryz.ntmps154
 go_wp2
 refine wp_loop_rounds 1 ?_; rw [rounds_succ]
 go_wp2_with (first
  | (go_at_call 105; refine (ysh H1 hp hp' _).mono ?_; rintro e w' ⟨rfl, rfl⟩)
  | (go_at_call 147; refine (yds G1.out hn' _).mono ?_; rintro e w' ⟨rfl, rfl⟩))
 go_ret2
 exact ⟨rfl, rfl⟩
theorem make_d (p s t : Nat) (v : Bool) (hp : p < 65536) (hs : s < 256) (ht : t < 128) (w : World) :
  Calls Tryz.prog 154 #[.int .i64 p, .int .i64 s, .int .i64 t, .bool v] w fun r w' => r = .returned (.tuple #[.int .u32 (mk p s t (if v then 1 else 0) : Nat), .int .i64 0]) /\ w = w' := by
 obtain ⟨n, hn⟩ : ∃ n, p * 65536 = n := ⟨_, rfl⟩; obtain ⟨m, hm⟩ : ∃ m, p * 65536 + s * 256 = m := ⟨_, rfl⟩; obtain ⟨r, hr⟩ : ∃ r, p * 65536 + s * 256 + t * 2 = r := ⟨_, rfl⟩
 have H1 : Hid ((p : Int) % 65536 * 65536 = n) := by show _ = _; omega
 have H2 : Hid ((n : Int) / 65536 * 65536 + (s : Int) % 256 * 256 + (n : Int) % 256 = m) := by show _ = _; omega
 have H3 : Hid ((m : Int) / 256 * 256 + (t : Int) % 128 * 2 + (m : Int) % 2 = r) := by show _ = _; omega
 have hn' : n < 4294967296 := by omega
 have hm' : m < 4294967296 := by omega
 have hr' : r < 4294967296 := by omega
 have G1 : Hid (n / 65536 = p) := by show _ = _; omega
 have G2 : Hid (m / 256 % 256 = s) := by show _ = _; omega
 have G3 : Hid (r / 2 % 128 = t) := by show _ = _; omega
 have hp1 : -9223372036854775808 <= (p : Int) := by omega
 have hp2 : (p : Int) <= 9223372036854775807 := by omega
 have hs1 : -9223372036854775808 <= (s : Int) := by omega
 have hs2 : (s : Int) <= 9223372036854775807 := by omega
 have ht1 : -9223372036854775808 <= (t : Int) := by omega
 have ht2 : (t : Int) <= 9223372036854775807 := by omega
 have i0 : ∀ w, (Instr.index 127 (.agg #[.int .i64 p, .int .i64 s, .int .i64 t]) (.int .i64 0)).run Tryz.prog w = .ok (.int .i64 p) w := fun _ => by kernel_rfl
 have i1 : ∀ w, (Instr.index 127 (.agg #[.int .i64 p, .int .i64 s, .int .i64 t]) (.int .i64 1)).run Tryz.prog w = .ok (.int .i64 s) w := fun _ => by kernel_rfl
 have i2 : ∀ w, (Instr.index 127 (.agg #[.int .i64 p, .int .i64 s, .int .i64 t]) (.int .i64 2)).run Tryz.prog w = .ok (.int .i64 t) w := fun _ => by kernel_rfl
 have hor : bits .or .u32 (r : Int) 1 = ((r + 1 : Nat) : Int) := by
  have h := u32_or_nat r 1 hr' (by omega)
  rw [nat_join 1 _ _ (by simp only [Nat.reducePow]; omega) (by simp only [Nat.reducePow]; omega)] at h
  exact h
 have HR := zH hr; unfold mk; clear hn hm hr
 cases v
 all_goals
  go_enter Tryz.func154, Tryz.ntmps154
  go_wp2
  refine wp_loop_rounds 4 ?_; rw [rounds_succ]
  go_wp2_with (first
   | (go_at_call 105; refine (ysh H1 hp1 hp2 _).mono ?_; rintro e w' ⟨rfl, rfl⟩)
   | (go_at_call 147; refine (yds G1.out hn' _).mono ?_; rintro e w' ⟨rfl, rfl⟩))
  rw [rounds_succ]
  go_wp2_with (first
   | (go_at_call 105; refine (ysg H2 hn' hs1 hs2 _).mono ?_; rintro e w' ⟨rfl, rfl⟩)
   | (go_at_call 147; refine (yhh G2.out hm' _).mono ?_; rintro e w' ⟨rfl, rfl⟩))
  rw [rounds_succ]
  go_wp2_with (first
   | (go_at_call 105; refine (yjr H3 hm' ht1 ht2 _).mono ?_; rintro e w' ⟨rfl, rfl⟩)
   | (go_at_call 147; refine (yhg G3.out hr' _).mono ?_; rintro e w' ⟨rfl, rfl⟩))
  rw [rounds_succ]
  go_wp2
  go_ret2
  exact ⟨two ⟨by rw [<- HR.out]; simp, rfl⟩, rfl⟩
end Go.Proofs.YteibnfeokgibmaaGreat.E3
