/-
  THE CONTRACTS of what is sound, by package elem and by the document's own answer; the document's elements of words, and words of elements.
-/
import Derived.Test.YtobfcinnggbkcaaELeaf3
namespace Go.Proofs.Ytobfcinnggbkcaa
open Go.RowKit
set_option linter.unusedVariables false
set_option linter.unusedSimpArgs false
def okP (p s t : Nat) (v : Bool) : Bool := (decide (p = 0) || !decide (s = 0) && !decide (t = 0)) && (decide (s = 0) || !decide (t = 0)) && (!v || !decide (p = 0))
theorem weight_1' {e p : Nat} (h : e / 65536 = p) (he : e < 4294967296) (w : World) : Calls Try.prog 10 #[.int .u32 e, .int .i64 1] w fun r w' => r = .returned (.int .i64 p) ∧ w = w' := by
  rw [← h]; exact weight_1 e he w
theorem weight_2' {e p : Nat} (h : e / 256 % 256 = p) (he : e < 4294967296) (w : World) : Calls Try.prog 10 #[.int .u32 e, .int .i64 2] w fun r w' => r = .returned (.int .i64 p) ∧ w = w' := by
  rw [← h]; exact weight_2 e he w
theorem weight_3' {e p : Nat} (h : e / 2 % 128 = p) (he : e < 4294967296) (w : World) : Calls Try.prog 10 #[.int .u32 e, .int .i64 3] w fun r w' => r = .returned (.int .i64 p) ∧ w = w' := by
  rw [← h]; exact weight_3 e he w
theorem ok_any (e : Nat) (p s t : Nat) (v : Bool) (he : e < 4294967296) (hp : Hid (e / 65536 = p)) (hs : Hid (e / 256 % 256 = s)) (ht : Hid (e / 2 % 128 = t)) (hv : Hid ((e % 2 = 1) = (v = true))) (w : World) :
    Calls Try.prog 12 #[.int .u32 e] w fun r w' => r = .returned (.bool (okP p s t v)) ∧ w = w' := by
  go_enter Try.func12, Try.ntmps12
  go_wp2_with (first
    | (go_at_call 10; with_reducible refine (weight_1' hp.out he _).mono ?_; rintro e w' ⟨rfl, rfl⟩)
    | (go_at_call 10; with_reducible refine (weight_2' hs.out he _).mono ?_; rintro e w' ⟨rfl, rfl⟩)
    | (go_at_call 10; with_reducible refine (weight_3' ht.out he _).mono ?_; rintro e w' ⟨rfl, rfl⟩)
    | (go_at_call 11; refine (var_any _ v he hv.out _).mono ?_; rintro e w' ⟨rfl, rfl⟩))
  all_goals go_ret
  all_goals (refine ⟨bool_of ?_, rfl⟩; unfold okP; simp [*])
theorem rof_any (e p s t : Nat) (v : Bool) (he : e < 4294967296) (hp : Hid (e / 65536 = p)) (hs : Hid (e / 256 % 256 = s)) (ht : Hid (e / 2 % 128 = t)) (hv : Hid ((e % 2 = 1) = (v = true))) (w : World) :
    Calls Try.prog 16 #[.int .u32 e] w fun r w' => r = .returned (.agg #[.int .i64 p, .int .i64 s, .int .i64 t, .bool v]) ∧ Below w.heap.size w w' := by
  have e1 : (e : Int) / 65536 = p := by have := hp.out; omega
  have e2 : bits .and .u32 ((e : Int) / 256) 255 = s := by
    have h : bits .and .u32 ((e / 256 : Nat) : Int) 255 = ((e / 256 % 256 : Nat) : Int) := and32 8 (by omega) (x := e / 256) (by omega)
    have h' := hs.out
    rw [show ((e / 256 : Nat) : Int) = (e : Int) / 256 by omega] at h
    rw [h, h']
  have e3 : bits .and .u32 ((e : Int) / 2) 127 = t := by
    have h : bits .and .u32 ((e / 2 : Nat) : Int) 127 = ((e / 2 % 128 : Nat) : Int) := and32 7 (by omega) (x := e / 2) (by omega)
    have h' := ht.out
    rw [show ((e / 2 : Nat) : Int) = (e : Int) / 2 by omega] at h
    rw [h, h']
  have e4 : (bits .and .u32 (e : Int) 1 == 1) = v := by
    have h : bits .and .u32 (e : Int) 1 = ((e % 2 : Nat) : Int) := and32 1 (by omega) he
    have h' := hv.out
    rw [h]
    cases v <;> simp at h' ⊢ <;> omega
  have hs' : s < 256 := by have := hs.out; omega
  have ht' : t < 128 := by have := ht.out; omega
  go_enter Try.func16, Try.ntmps16
  go_wp2
  exact bodyPost_ret (v := .agg #[.int .i64 p, .int .i64 s, .int .i64 t, .bool v]) (by simp [results, Try.results16, go_sem]) rfl ⟨rfl, (Below.refl _ _).alloc (Nat.le_refl _) _⟩
theorem rok_any (p s t : Nat) (v : Bool) (w : World) :
    Calls Try.prog 13 #[.agg #[.int .i64 p, .int .i64 s, .int .i64 t, .bool v]] w fun r w' => r = .returned (.bool (okP p s t v)) ∧ Below w.heap.size w w' := by
  go_enter Try.func13, Try.ntmps13
  go_wp2
  all_goals go_ret
  all_goals (refine ⟨bool_of ?_, (Below.refl _ _).alloc (Nat.le_refl _) _⟩; unfold okP; simp [*])
theorem rword_any (p s t : Nat) (v : Bool) (hp : p < 65536) (hs : s < 256) (ht : t < 128) (w : World) :
    Calls Try.prog 9 #[.agg #[.int .i64 p, .int .i64 s, .int .i64 t, .bool v]] w fun r w' => r = .returned (.int .u32 (mk p s t (if v then 1 else 0) : Nat)) ∧ Below w.heap.size w w' := by
  have e1 : bits .or .u32 ((p : Int) * 65536) ((s : Int) * 256) = (p : Int) * 65536 + (s : Int) * 256 := by
    have h := u32_or_nat (p * 65536) (s * 256) (by omega) (by omega)
    rw [nat_join 16 _ _ (by simp only [Nat.reducePow]; omega) (by simp only [Nat.reducePow]; omega)] at h
    exact h
  have e2 : bits .or .u32 ((p : Int) * 65536 + (s : Int) * 256) ((t : Int) * 2) = (p : Int) * 65536 + (s : Int) * 256 + (t : Int) * 2 := by
    have h := u32_or_nat (p * 65536 + s * 256) (t * 2) (by omega) (by omega)
    rw [nat_join 8 _ _ (by simp only [Nat.reducePow]; omega) (by simp only [Nat.reducePow]; omega)] at h
    exact h
  have e3 : bits .or .u32 ((p : Int) * 65536 + (s : Int) * 256 + (t : Int) * 2) 1 = (p : Int) * 65536 + (s : Int) * 256 + (t : Int) * 2 + 1 := by
    have h := u32_or_nat (p * 65536 + s * 256 + t * 2) 1 (by omega) (by omega)
    rw [nat_join 1 _ _ (by simp only [Nat.reducePow]; omega) (by simp only [Nat.reducePow]; omega)] at h
    exact h
  unfold mk
  cases v
  all_goals
    go_enter Try.func9, Try.ntmps9
    go_wp2
    go_ret
    refine ⟨one ?_, (Below.refl _ _).alloc (Nat.le_refl _) _⟩
    simp
end Go.Proofs.Ytobfcinnggbkcaa
