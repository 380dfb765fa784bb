/-
  THE CONTRACTS of the two comparisons of lists of ints.
-/
import Derived.Test.YtcoepmakajligaaTMem
import Derived.Deep.QuietTactic
import Derived.BigQuiet
namespace Go.Proofs.Ytcoepmakajligaa
open Go.RowKit
set_option linter.unusedVariables false
set_option linter.unusedSimpArgs false
theorem drew_below (B : Nat) (w : World) (n : Nat) : Below B w (w.drewN n) := ⟨rfl, rfl, rfl, Nat.le_refl _, fun _ _ => rfl⟩
theorem iv_at {l : List Int} {j : Nat} (h : j < l.length) : (iv l)[j]? = some (.int .i64 l[j]) := by simp [iv, List.getElem?_eq_getElem h]
theorem Rd.at_ {B : Nat} {w : World} {A : Option Addr} {n c : Nat} {l : List Int} (h : Rd B w (.slice A n c) (iv l)) : n = l.length ∧ ∀ j (hj : j < l.length), ∃ ad, A = some ad ∧ ad.block < B ∧ w.cell? (ad.add j) = some (.int .i64 l[j]) := by
  obtain ⟨A', c', e, h⟩ := h
  cases e
  rw [iv_len] at h ⊢
  refine ⟨rfl, fun j hj => ?_⟩
  obtain ⟨ad, e, hb, hc⟩ := h (by omega)
  exact ⟨ad, e, hb, hc j _ (iv_at hj)⟩
theorem eq_step {a b : List Int} (hn : a.length = b.length) {k : Nat} (hk : k < a.length) (h : a.take k = b.take k) (hx : a[k] = b[k]'(by omega)) : a.take (k + 1) = b.take (k + 1) := by
  rw [List.take_succ_eq_append_getElem hk, List.take_succ_eq_append_getElem (by omega), h, hx]
theorem ne_step {a b : List Int} {k : Nat} (hk : k < a.length) (hk' : k < b.length) (hx : a[k] ≠ b[k]) : (a == b) = false := by
  rw [beq_eq_false_iff_ne]; intro e; subst e; exact hx rfl
set_option maxRecDepth 200000 in
theorem same_any (u v : Value) (a b : List Int) (w : World) (ha : Rd w.heap.size w u (iv a)) (hb : Rd w.heap.size w v (iv b)) (hm : a.length ≤ 10000000) :
    Calls Try.prog 13 #[u, v] w fun e w' => e = .returned (.bool (a == b)) ∧ Below w.heap.size w w' := by
  obtain ⟨A, c, rfl, ha⟩ := ha
  obtain ⟨A', c', rfl, hb⟩ := hb
  rw [iv_len] at ha hb
  rw [iv_len, iv_len]
  by_cases hn : a.length = b.length
  · have HA := Lib.hid ha
    have HB := Lib.hid hb
    have HN := Lib.hid hn
    have hq : ((a.length : Int) != (b.length : Int)) = false := by rw [bne_eq_false_iff_eq]; omega
    clear ha hb hn
    go_enter Try.func13, Try.ntmps13
    go_wp2
    go_loopw [5] (fun i wr => ∃ k : Nat, k ≤ a.length ∧ i = .int .i64 k ∧ Hid (a.take k = b.take k) ∧ ∃ n, wr = w.drewN n) (fun i _ => a.length - (intOf i).toNat)
    case atStart => exact ⟨0, by omega, rfl, rfl, 0, rfl⟩
    case round =>
      obtain ⟨k, hk, rfl, HT, m, rfl⟩ := hrel
      by_cases hlt : k < a.length
      · obtain ⟨ad, rfl, _, hc⟩ := HA.out (by omega)
        obtain ⟨ad', rfl, _, hc'⟩ := HB.out (by have := HN.out; omega)
        have c1 := hc k _ (iv_at hlt)
        have hlt' : k < b.length := by have := HN.out; omega
        have c2 := hc' k _ (iv_at hlt')
        obtain ⟨x, hx⟩ : ∃ x, a[k] = x := ⟨_, rfl⟩
        obtain ⟨y, hy⟩ : ∃ y, b[k] = y := ⟨_, rfl⟩
        rw [hx] at c1
        rw [hy] at c2
        have i1 : (k : Int) < (a.length : Int) := by omega
        have i2 : (k : Int) < (b.length : Int) := by omega
        have HX := Lib.hid hx
        have HY := Lib.hid hy
        clear hx hy hc hc'
        go_wp2
        go_quiet (fail)
        go_wp2
        · have hne : (a == b) = false := ne_step hlt hlt' (by rw [HX.out, HY.out]; simp only [bne_iff_ne] at *; assumption)
          rw [hne]
          go_ret
          exact ⟨rfl, (drew_below _ _ m).trans (drew_below _ _ nq)⟩
        · refine ⟨⟨k + 1, by omega, rfl, ?_, _, rfl⟩, by simp [intOf]; omega⟩
          exact eq_step HN.out hlt HT.out (by rw [HX.out, HY.out]; simp only [bne_eq_false_iff_eq] at *; assumption)
      · go_wp2
        go_ret
        have hkn : k = a.length := by omega
        have hr : a = b := by
          have := HT.out
          rw [List.take_of_length_le (by omega), List.take_of_length_le (by have := HN.out; omega)] at this
          exact this
        rw [hr]
        exact ⟨by simp, drew_below _ _ _⟩
  · have hq : ((a.length : Int) != (b.length : Int)) = true := by rw [bne_iff_ne]; omega
    have hr : (a == b) = false := by rw [beq_eq_false_iff_ne]; intro e; exact hn (by rw [e])
    rw [hr]
    clear ha hb hn
    go_enter Try.func13, Try.ntmps13
    go_wp2
    go_ret
    exact ⟨rfl, Below.refl _ _⟩
set_option maxRecDepth 200000 in
theorem equal_any (u v : Value) (a b : List Int) (w : World) (ha : Rd w.heap.size w u (iv a)) (hb : Rd w.heap.size w v (iv b)) (hm : a.length ≤ 10000000) :
    Calls Try.prog 27 #[u, v] w fun e w' => e = .returned (.bool (a == b)) ∧ Below w.heap.size w w' := by
  obtain ⟨A, c, rfl, ha⟩ := ha
  obtain ⟨A', c', rfl, hb⟩ := hb
  rw [iv_len] at ha hb
  rw [iv_len, iv_len]
  by_cases hn : a.length = b.length
  · have HA := Lib.hid ha
    have HB := Lib.hid hb
    have HN := Lib.hid hn
    have hq : ((a.length : Int) != (b.length : Int)) = false := by rw [bne_eq_false_iff_eq]; omega
    clear ha hb hn
    go_enter Try.func27, Try.ntmps27
    go_wp2
    go_loopw [13] (fun i wr => ∃ k : Nat, k ≤ a.length ∧ i = .int .i64 k ∧ Hid (a.take k = b.take k) ∧ ∃ n, wr = w.drewN n) (fun i _ => a.length - (intOf i).toNat)
    case atStart => exact ⟨0, by omega, rfl, rfl, 0, rfl⟩
    case round =>
      obtain ⟨k, hk, rfl, HT, m, rfl⟩ := hrel
      by_cases hlt : k < a.length
      · obtain ⟨ad, rfl, _, hc⟩ := HA.out (by omega)
        obtain ⟨ad', rfl, _, hc'⟩ := HB.out (by have := HN.out; omega)
        have c1 := hc k _ (iv_at hlt)
        have hlt' : k < b.length := by have := HN.out; omega
        have c2 := hc' k _ (iv_at hlt')
        obtain ⟨x, hx⟩ : ∃ x, a[k] = x := ⟨_, rfl⟩
        obtain ⟨y, hy⟩ : ∃ y, b[k] = y := ⟨_, rfl⟩
        rw [hx] at c1
        rw [hy] at c2
        have i1 : (k : Int) < (a.length : Int) := by omega
        have i2 : (k : Int) < (b.length : Int) := by omega
        have HX := Lib.hid hx
        have HY := Lib.hid hy
        clear hx hy hc hc'
        go_wp2
        go_quiet (fail)
        go_wp2
        · have hne : (a == b) = false := ne_step hlt hlt' (by rw [HX.out, HY.out]; simp only [bne_iff_ne] at *; assumption)
          rw [hne]
          go_ret
          exact ⟨rfl, (drew_below _ _ m).trans (drew_below _ _ nq)⟩
        · refine ⟨⟨k + 1, by omega, rfl, ?_, _, rfl⟩, by simp [intOf]; omega⟩
          exact eq_step HN.out hlt HT.out (by rw [HX.out, HY.out]; simp only [bne_eq_false_iff_eq] at *; assumption)
      · go_wp2
        go_ret
        have hkn : k = a.length := by omega
        have hr : a = b := by
          have := HT.out
          rw [List.take_of_length_le (by omega), List.take_of_length_le (by have := HN.out; omega)] at this
          exact this
        rw [hr]
        exact ⟨by simp, drew_below _ _ _⟩
  · have hq : ((a.length : Int) != (b.length : Int)) = true := by rw [bne_iff_ne]; omega
    have hr : (a == b) = false := by rw [beq_eq_false_iff_ne]; intro e; exact hn (by rw [e])
    rw [hr]
    clear ha hb hn
    go_enter Try.func27, Try.ntmps27
    go_wp2
    go_ret
    exact ⟨rfl, Below.refl _ _⟩
end Go.Proofs.Ytcoepmakajligaa
