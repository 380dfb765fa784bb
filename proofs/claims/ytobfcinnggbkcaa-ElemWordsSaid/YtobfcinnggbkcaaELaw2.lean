/-
  THE WALK of the law ElemMakes, where the weights fit.
-/
import Derived.Test.YtobfcinnggbkcaaELaw1
namespace Go.Proofs.Ytobfcinnggbkcaa
open Go.RowKit
set_option linter.unusedVariables false
set_option linter.unusedSimpArgs false
/-- An element in the cells of block b. -/
structure InB (b : Nat) (p s t : Nat) (v : Bool) (w : World) : Prop where
  c0 : w.cell? ⟨b, 0, none⟩ = some (.int .i64 p)
  c1 : w.cell? ⟨b, 1, none⟩ = some (.int .i64 s)
  c2 : w.cell? ⟨b, 2, none⟩ = some (.int .i64 t)
  c3 : w.cell? ⟨b, 3, none⟩ = some (.bool v)
theorem inB_new (w : World) (p s t : Nat) (v : Bool) : InB w.heap.size p s t v (w.alloc (.cells #[.int .i64 p, .int .i64 s, .int .i64 t, .bool v] 29)) := by
  have h := cells_new w [.int .i64 p, .int .i64 s, .int .i64 t, .bool v] 29
  simp only [Addr.add_lit, Nat.zero_add] at h
  exact ⟨h 0 _ rfl, h 1 _ rfl, h 2 _ rfl, h 3 _ rfl⟩
theorem parts_mk {p s t : Nat} {v : Bool} (hp : p < 65536) (hs : s < 256) (ht : t < 128) : ∃ n, mk p s t (if v then 1 else 0) = n ∧ n < 4294967296 ∧ n / 65536 = p ∧ n / 256 % 256 = s ∧ n / 2 % 128 = t ∧ (n % 2 = 1) = (v = true) := by
  refine ⟨_, rfl, ?_⟩
  unfold mk
  cases v <;> simp <;> omega
theorem make_is {p s t n : Nat} {v : Bool} (hp : p < 65536) (hs : s < 256) (ht : t < 128) (hn : mk p s t (if v then 1 else 0) = n) (w : World) :
    Calls Try.prog 7 #[.int .i64 p, .int .i64 s, .int .i64 t, .bool v] w fun r w' => r = .returned (.tuple #[.int .u32 n, .int .i64 0]) ∧ w = w' := by
  rw [← hn]; exact make_d p s t v hp hs ht w
theorem rword_is {p s t n : Nat} {v : Bool} (hp : p < 65536) (hs : s < 256) (ht : t < 128) (hn : mk p s t (if v then 1 else 0) = n) (w : World) :
    Calls Try.prog 9 #[.agg #[.int .i64 p, .int .i64 s, .int .i64 t, .bool v]] w fun r w' => r = .returned (.int .u32 n) ∧ Below w.heap.size w w' := by
  rw [← hn]; exact rword_any p s t v hp hs ht w
theorem text_is {e p s t : Nat} {v : Bool} {T : ByteArray} (hT : Hid ((⟨(91 :: ((if v then [42] else []) ++ body p s t)).toArray⟩ : ByteArray) = T)) (he : e < 4294967296) (hp : Hid (e / 65536 = p)) (hs : Hid (e / 256 % 256 = s)) (ht : Hid (e / 2 % 128 = t)) (hv : Hid ((e % 2 = 1) = (v = true))) (w : World) :
    Calls Try.prog 14 #[.int .u32 e] w fun r w' => r = .returned (.string T) ∧ Below w.heap.size w w' := by
  rw [← hT.out]; exact text_any e p s t v he hp hs ht hv w
theorem rtext_is {p s t : Nat} {v : Bool} {T : ByteArray} (hT : Hid ((⟨(91 :: ((if v then [42] else []) ++ body p s t)).toArray⟩ : ByteArray) = T)) (hp : p < 65536) (hs : s < 256) (ht : t < 128) (w : World) :
    Calls Try.prog 15 #[.agg #[.int .i64 p, .int .i64 s, .int .i64 t, .bool v]] w fun r w' => r = .returned (.string T) ∧ Below w.heap.size w w' := by
  rw [← hT.out]; exact rtext_any p s t v hp hs ht w
theorem cell_kept {w w' : World} {b o : Nat} {u : Value} (hb : Below w.heap.size w w') (h : w.cell? ⟨b, o, none⟩ = some u) : w'.cell? ⟨b, o, none⟩ = some u := by
  have hlt : b < w.heap.size := by
    rcases Nat.lt_or_ge b w.heap.size with h' | h'
    · exact h'
    · exfalso
      have : w.heap[b]? = none := by simp; omega
      unfold World.cell? at h
      rw [this] at h
      simp at h
  exact (hb.cell (p := ⟨b, o, none⟩) hlt).trans h
theorem below_kept {B : Nat} {w w1 w2 : World} (h : Below B w w1) (hB : B ≤ w.heap.size) (hb : Below w1.heap.size w1 w2) : Below B w w2 :=
  h.trans (hb.mono (Nat.le_trans hB h.size))
theorem held_kept {W w1 w2 : World} {b : Nat} {x0 x1 x2 x3 : Value} (h : w1.cell? ⟨b, 0, none⟩ = some x0 ∧ w1.cell? ⟨b, 1, none⟩ = some x1 ∧ w1.cell? ⟨b, 2, none⟩ = some x2 ∧ w1.cell? ⟨b, 3, none⟩ = some x3 ∧ Below W.heap.size W w1)
    (hb : Below w1.heap.size w1 w2) : w2.cell? ⟨b, 0, none⟩ = some x0 ∧ w2.cell? ⟨b, 1, none⟩ = some x1 ∧ w2.cell? ⟨b, 2, none⟩ = some x2 ∧ w2.cell? ⟨b, 3, none⟩ = some x3 ∧ Below W.heap.size W w2 :=
  ⟨cell_kept hb h.1, cell_kept hb h.2.1, cell_kept hb h.2.2.1, cell_kept hb h.2.2.2.1, below_kept h.2.2.2.2 (Nat.le_refl _) hb⟩
set_option maxHeartbeats 4000000 in
set_option maxRecDepth 200000 in
theorem makes_good (p s t : Nat) (v : Bool) (w : World) (hp : p < 65536) (hs : s < 256) (ht : t < 128) :
    Calls Try.prog 3 #[.int .i64 p, .int .i64 s, .int .i64 t, .bool v] w fun e w' => e = .returned (.bool true) ∧ Below w.heap.size w w' := by
  obtain ⟨n, hn, hn', g1, g2, g3, g4⟩ := parts_mk (v := v) hp hs ht
  have HM := Lib.hid hn
  have G1 := Lib.hid g1
  have G2 := Lib.hid g2
  have G3 := Lib.hid g3
  have G4 := Lib.hid g4
  obtain ⟨T, hT0⟩ : ∃ T, (⟨(91 :: ((if v then [42] else []) ++ body p s t)).toArray⟩ : ByteArray) = T := ⟨_, rfl⟩
  have hT := Lib.hid hT0
  obtain ⟨k, hk⟩ : ∃ k, okP p s t v = k := ⟨_, rfl⟩
  have CO := Lib.hid (fun w => ok_any n p s t v hn' g1 g2 g3 g4 w)
  have CR := Lib.hid (fun w => rok_any p s t v w)
  rw [hk] at CO CR
  have HI := inB_new w p s t v
  have h0 := Lib.hid HI.c0
  have h1 := Lib.hid HI.c1
  have h2 := Lib.hid HI.c2
  have h3 := Lib.hid HI.c3
  have HB : Hid (Below w.heap.size w (w.alloc (.cells #[.int .i64 p, .int .i64 s, .int .i64 t, .bool v] 29)).drew) := ((Below.refl _ _).alloc (Nat.le_refl _) _).drew
  clear hn g1 g2 g3 g4 hk HI hT0
  have q1 : (p : Int) ≤ 65535 := by omega
  have q2 : (s : Int) ≤ 255 := by omega
  have q3 : (t : Int) ≤ 127 := by omega
  go_enter Try.func3, Try.ntmps3
  go_wp2_with (first
    | (go_at_call 7; refine (make_is hp hs ht HM.out _).mono ?_; rintro e w' ⟨rfl, rfl⟩))
  go_region_held3 (fun w' => w'.cell? ⟨w.heap.size, 0, none⟩ = some (.int .i64 p) ∧ w'.cell? ⟨w.heap.size, 1, none⟩ = some (.int .i64 s) ∧ w'.cell? ⟨w.heap.size, 2, none⟩ = some (.int .i64 t) ∧ w'.cell? ⟨w.heap.size, 3, none⟩ = some (.bool v) ∧ Below w.heap.size w w')
    (first
      | exact ⟨h0.out, h1.out, h2.out, h3.out, HB.out⟩
      | (refine held_kept ?_ hb; assumption)
      | assumption)
    (first
      | (go_at_call 9; refine (rword_is hp hs ht HM.out _).mono ?_; rintro e w' ⟨rfl, hb⟩)
      | (go_at_call 10; (with_reducible refine (weight_1' G1.out hn' _).mono ?_); rintro e w' ⟨rfl, rfl⟩)
      | (go_at_call 10; (with_reducible refine (weight_2' G2.out hn' _).mono ?_); rintro e w' ⟨rfl, rfl⟩)
      | (go_at_call 10; (with_reducible refine (weight_3' G3.out hn' _).mono ?_); rintro e w' ⟨rfl, rfl⟩)
      | (go_at_call 11; refine (var_any _ v hn' G4.out _).mono ?_; rintro e w' ⟨rfl, rfl⟩)
      | (go_at_call 12; refine (CO.out _).mono ?_; rintro e w' ⟨rfl, rfl⟩)
      | (go_at_call 13; refine (CR.out _).mono ?_; rintro e w' ⟨rfl, hb⟩)
      | (go_at_call 14; refine (text_is hT hn' G1 G2 G3 G4 _).mono ?_; rintro e w' ⟨rfl, hb⟩)
      | (go_at_call 15; refine (rtext_is hT hp hs ht _).mono ?_; rintro e w' ⟨rfl, hb⟩)
      | (go_at_call 8; refine (awake_any _).mono ?_; rintro e w' ⟨rfl, hb⟩))
  go_wp2
  go_ret
  rename_i hH
  exact ⟨rfl, hH.2.2.2.2⟩
theorem elemMakes_walk (a0 a1 a2 : Int) (a3 : Bool) (w : World) (w0 : -9223372036854775808 ≤ a0 ∧ a0 ≤ 9223372036854775807) (w1 : -9223372036854775808 ≤ a1 ∧ a1 ≤ 9223372036854775807) (w2 : -9223372036854775808 ≤ a2 ∧ a2 ≤ 9223372036854775807) :
    Calls Try.prog 3 #[.int .i64 a0, .int .i64 a1, .int .i64 a2, .bool a3] w fun e w' => e = .returned (.bool true) ∧ Below w.heap.size w w' := by
  by_cases h : (a0 < 0 ∨ 65535 < a0) ∨ (a1 < 0 ∨ 255 < a1) ∨ (a2 < 0 ∨ 127 < a2)
  · exact makes_bad a0 a1 a2 a3 w w0 w1 w2 h
  · obtain ⟨p, rfl⟩ := Int.eq_ofNat_of_zero_le (show 0 ≤ a0 by omega)
    obtain ⟨s, rfl⟩ := Int.eq_ofNat_of_zero_le (show 0 ≤ a1 by omega)
    obtain ⟨t, rfl⟩ := Int.eq_ofNat_of_zero_le (show 0 ≤ a2 by omega)
    exact makes_good p s t a3 w (by omega) (by omega) (by omega)
end Go.Proofs.Ytobfcinnggbkcaa
