/-
  COMPARISONS THAT WRITE NOTHING: lists of ints, lists of rules.
-/
import Derived.Test.YtdodlppnjlmnaaaSWord
import Derived.Test.YtdodlppnjlmnaaaT2D
namespace Go.Proofs.Ytdodlppnjlmnaaa.T2
open Go.RowKit
set_option linter.unusedVariables false
set_option linter.unusedSimpArgs false
set_option maxRecDepth 200000 in
theorem sameq_any (u v : Value) (a b : List Int) (w : World) (ha : Rd w.heap.size w u (iv a)) (hb : Rd w.heap.size w v (iv b)) (hm : a.length ≤ 10000000) :
    Calls Try.prog 14 #[u, v] w fun e w' => e = .returned (.bool (a == b)) ∧ ∃ m, w' = w.drewN m := by
  obtain ⟨A, c, rfl, ha⟩ := ha
  obtain ⟨A', c', rfl, hb⟩ := hb
  rw [iv_len] at ha hb
  rw [iv_len, iv_len]
  by_cases hn : a.length = b.length
  · have HA := Lib.hid ha
    have HB := Lib.hid hb
    have HN := Lib.hid hn
    have hq : ((a.length : Int) != (b.length : Int)) = false := by rw [bne_eq_false_iff_eq]; omega
    clear ha hb hn
    go_enter Try.func14, Try.ntmps14
    go_wp2
    go_loopw [5] (fun i wr => ∃ k : Nat, k ≤ a.length ∧ i = .int .i64 k ∧ Hid (a.take k = b.take k) ∧ ∃ n, wr = w.drewN n) (fun i _ => a.length - (intOf i).toNat)
    case atStart => exact ⟨0, by omega, rfl, rfl, 0, rfl⟩
    case round =>
      obtain ⟨k, hk, rfl, HT, m, rfl⟩ := hrel
      by_cases hlt : k < a.length
      · obtain ⟨ad, rfl, _, hc⟩ := HA.out (by omega)
        obtain ⟨ad', rfl, _, hc'⟩ := HB.out (by have := HN.out; omega)
        have c1 := hc k _ (iv_at hlt)
        have hlt' : k < b.length := by have := HN.out; omega
        have c2 := hc' k _ (iv_at hlt')
        obtain ⟨x, hx⟩ : ∃ x, a[k] = x := ⟨_, rfl⟩
        obtain ⟨y, hy⟩ : ∃ y, b[k] = y := ⟨_, rfl⟩
        rw [hx] at c1
        rw [hy] at c2
        have i1 : (k : Int) < (a.length : Int) := by omega
        have i2 : (k : Int) < (b.length : Int) := by omega
        have HX := Lib.hid hx
        have HY := Lib.hid hy
        clear hx hy hc hc'
        go_wp2
        go_quiet (fail)
        go_wp2
        · have hne : (a == b) = false := ne_step hlt hlt' (by rw [HX.out, HY.out]; simp only [bne_iff_ne] at *; assumption)
          rw [hne]
          go_ret
          exact ⟨rfl, ⟨_, World.drewN_drewN _ _ _⟩⟩
        · refine ⟨⟨k + 1, by omega, rfl, ?_, _, rfl⟩, by simp [intOf]; omega⟩
          exact eq_step HN.out hlt HT.out (by rw [HX.out, HY.out]; simp only [bne_eq_false_iff_eq] at *; assumption)
      · go_wp2
        go_ret
        have hkn : k = a.length := by omega
        have hr : a = b := by
          have := HT.out
          rw [List.take_of_length_le (by omega), List.take_of_length_le (by have := HN.out; omega)] at this
          exact this
        rw [hr]
        exact ⟨by simp, ⟨_, rfl⟩⟩
  · have hq : ((a.length : Int) != (b.length : Int)) = true := by rw [bne_iff_ne]; omega
    have hr : (a == b) = false := by rw [beq_eq_false_iff_ne]; intro e; exact hn (by rw [e])
    rw [hr]
    clear ha hb hn
    go_enter Try.func14, Try.ntmps14
    go_wp2
    go_ret
    exact ⟨rfl, ⟨0, rfl⟩⟩
set_option maxRecDepth 200000 in
theorem equalq_any (u v : Value) (a b : List Int) (w : World) (ha : Rd w.heap.size w u (iv a)) (hb : Rd w.heap.size w v (iv b)) (hm : a.length ≤ 10000000) :
    Calls Try.prog 39 #[u, v] w fun e w' => e = .returned (.bool (a == b)) ∧ ∃ m, w' = w.drewN m := by
  obtain ⟨A, c, rfl, ha⟩ := ha
  obtain ⟨A', c', rfl, hb⟩ := hb
  rw [iv_len] at ha hb
  rw [iv_len, iv_len]
  by_cases hn : a.length = b.length
  · have HA := Lib.hid ha
    have HB := Lib.hid hb
    have HN := Lib.hid hn
    have hq : ((a.length : Int) != (b.length : Int)) = false := by rw [bne_eq_false_iff_eq]; omega
    clear ha hb hn
    go_enter Try.func39, Try.ntmps39
    go_wp2
    go_loopw [13] (fun i wr => ∃ k : Nat, k ≤ a.length ∧ i = .int .i64 k ∧ Hid (a.take k = b.take k) ∧ ∃ n, wr = w.drewN n) (fun i _ => a.length - (intOf i).toNat)
    case atStart => exact ⟨0, by omega, rfl, rfl, 0, rfl⟩
    case round =>
      obtain ⟨k, hk, rfl, HT, m, rfl⟩ := hrel
      by_cases hlt : k < a.length
      · obtain ⟨ad, rfl, _, hc⟩ := HA.out (by omega)
        obtain ⟨ad', rfl, _, hc'⟩ := HB.out (by have := HN.out; omega)
        have c1 := hc k _ (iv_at hlt)
        have hlt' : k < b.length := by have := HN.out; omega
        have c2 := hc' k _ (iv_at hlt')
        obtain ⟨x, hx⟩ : ∃ x, a[k] = x := ⟨_, rfl⟩
        obtain ⟨y, hy⟩ : ∃ y, b[k] = y := ⟨_, rfl⟩
        rw [hx] at c1
        rw [hy] at c2
        have i1 : (k : Int) < (a.length : Int) := by omega
        have i2 : (k : Int) < (b.length : Int) := by omega
        have HX := Lib.hid hx
        have HY := Lib.hid hy
        clear hx hy hc hc'
        go_wp2
        go_quiet (fail)
        go_wp2
        · have hne : (a == b) = false := ne_step hlt hlt' (by rw [HX.out, HY.out]; simp only [bne_iff_ne] at *; assumption)
          rw [hne]
          go_ret
          exact ⟨rfl, ⟨_, World.drewN_drewN _ _ _⟩⟩
        · refine ⟨⟨k + 1, by omega, rfl, ?_, _, rfl⟩, by simp [intOf]; omega⟩
          exact eq_step HN.out hlt HT.out (by rw [HX.out, HY.out]; simp only [bne_eq_false_iff_eq] at *; assumption)
      · go_wp2
        go_ret
        have hkn : k = a.length := by omega
        have hr : a = b := by
          have := HT.out
          rw [List.take_of_length_le (by omega), List.take_of_length_le (by have := HN.out; omega)] at this
          exact this
        rw [hr]
        exact ⟨by simp, ⟨_, rfl⟩⟩
  · have hq : ((a.length : Int) != (b.length : Int)) = true := by rw [bne_iff_ne]; omega
    have hr : (a == b) = false := by rw [beq_eq_false_iff_ne]; intro e; exact hn (by rw [e])
    rw [hr]
    clear ha hb hn
    go_enter Try.func39, Try.ntmps39
    go_wp2
    go_ret
    exact ⟨rfl, ⟨0, rfl⟩⟩
end Go.Proofs.Ytdodlppnjlmnaaa.T2

namespace Go.Proofs.Ytdodlppnjlmnaaa
open Go.RowKit
set_option linter.unusedVariables false
set_option linter.unusedSimpArgs false
/-- No sequence is longer than a call can tell. -/
def RVok (L : List RV) : Prop := L.length ≤ 1000000 ∧ ∀ x ∈ L, x.seq.length ≤ 1000000 ∧ x.exp.length ≤ 1000000
theorem sameq_is {w : World} {u v : Value} {a b : List Int} {q : Bool} (ha : RdI anyB w u a) (hb : RdI anyB w v b) (hm : a.length ≤ 1000000) (hq : (a == b) = q) (w' : World) (hw : Below w.heap.size w w') :
    Calls Try.prog 14 #[u, v] w' fun e w'' => e = .returned (.bool q) ∧ ∃ m, w'' = w'.drewN m := by
  subst hq
  exact T2.sameq_any u v a b w' (ha.below hw (Nat.le_refl _)).rd (hb.below hw (Nat.le_refl _)).rd (by omega)
theorem RdRs.cap {w : World} {A : Option Addr} {n c : Nat} {L : List RV} (h : RdRs w (.slice A n c) L) : n ≤ c := by
  obtain ⟨M, -, h⟩ := h
  have := RdF.cap h.1
  omega
/-- wr is w but for draws. -/
structure Drew (w wr : World) : Prop where
  ex : ∃ n, wr = w.drewN n
theorem Drew.bel {w wr : World} (h : Drew w wr) (n : Nat) : Below w.heap.size w (wr.drewN n) := by
  obtain ⟨k, rfl⟩ := h.ex
  exact ⟨rfl, rfl, rfl, Nat.le_refl _, fun _ _ => rfl⟩
theorem Drew.cell {w wr : World} (h : Drew w wr) {p : Addr} {u : Value} (c : w.cell? p = some u) : wr.cell? p = some u := by
  obtain ⟨k, rfl⟩ := h.ex
  exact c
theorem Drew.more {w wr : World} (h : Drew w wr) (n : Nat) : Drew w (wr.drewN n) := by
  obtain ⟨k, rfl⟩ := h.ex
  exact ⟨_, World.drewN_drewN _ _ _⟩
theorem Drew.refl (w : World) : Drew w w := ⟨0, rfl⟩
theorem take_next {α : Type} {a b : List α} {k : Nat} {x : α} (ha : a[k]? = some x) (hb : b[k]? = some x) (h : a.take k = b.take k) : a.take (k + 1) = b.take (k + 1) := by
  rw [List.take_add_one, List.take_add_one, h, ha, hb]
theorem ne_of_at {α : Type} {a b : List α} {k : Nat} {x y : α} (ha : a[k]? = some x) (hb : b[k]? = some y) (h : x ≠ y) : a ≠ b := by
  rintro rfl; rw [ha] at hb; exact h (Option.some.inj hb)
set_option maxRecDepth 100000 in
set_option maxHeartbeats 2000000 in
theorem same_any {w : World} {u v : Value} {a b : List RV} (hu : RdRs w u a) (hv : RdRs w v b) (hk : RVok a) (hbl : b.length ≤ 1000000) :
    Calls Try.prog 9 #[u, v] w fun e w' => e = .returned (.bool (decide (a = b))) ∧ ∃ m, w' = w.drewN m := by
  obtain ⟨A, c, rfl⟩ := hu.form
  obtain ⟨A', c', rfl⟩ := hv.form
  have HU := Lib.hid hu
  have HV := Lib.hid hv
  have HK := Lib.hid hk
  obtain ⟨na, hna⟩ : ∃ n, a.length = n := ⟨_, rfl⟩
  obtain ⟨nb, hnb⟩ : ∃ n, b.length = n := ⟨_, rfl⟩
  have hna1 : na ≤ 1000000 := by rw [← hna]; exact hk.1
  have hnb1 : nb ≤ 1000000 := by rw [← hnb]; exact hbl
  rw [hna] at HU ⊢
  rw [hnb] at HV ⊢
  have hcA := HU.out.cap
  have hcB := HV.out.cap
  by_cases hn : na = nb
  · subst hn
    have HNA := Lib.hid hna
    have HNB := Lib.hid hnb
    obtain ⟨q, hq⟩ : ∃ q, decide (a = b) = q := ⟨_, rfl⟩
    rw [hq]
    have HQ := Lib.hid hq
    have hnn : ((na : Int) != (na : Int)) = false := by simp
    clear hu hv hk hbl hna hnb hq
    go_enter Try.func9, Try.ntmps9
    go_wp2
    go_loopw [5] (fun i wr => ∃ k : Nat, k ≤ na ∧ i = .int .i64 k ∧ Hid (a.take k = b.take k) ∧ Drew w wr) (fun i _ => na - (intOf i).toNat)
    case atStart => exact ⟨0, Nat.zero_le _, rfl, rfl, Drew.refl w⟩
    case round =>
      obtain ⟨k, hk, rfl, HT, HN⟩ := hrel
      by_cases hlt : k < na
      · obtain ⟨x, hx⟩ : ∃ x, a[k]? = some x := ⟨_, List.getElem?_eq_getElem (by rw [HNA.out]; exact hlt)⟩
        obtain ⟨y, hy⟩ : ∃ y, b[k]? = some y := ⟨_, List.getElem?_eq_getElem (by rw [HNB.out]; exact hlt)⟩
        obtain ⟨g, o, vs, ve, rfl, c0, c1, c2, r1, r2⟩ := HU.out.at hx
        obtain ⟨g', o', vs', ve', rfl, d0, d1, d2, s1, s2⟩ := HV.out.at hy
        replace c0 := HN.cell c0
        replace c1 := HN.cell c1
        replace c2 := HN.cell c2
        replace d0 := HN.cell d0
        replace d1 := HN.cell d1
        replace d2 := HN.cell d2
        have hxm := HK.out.2 x (List.mem_of_getElem? hx)
        have hltI : (k : Int) < (na : Int) := by omega
        have hkc : (k : Int) < (c : Int) := by omega
        have hkc' : (k : Int) < (c' : Int) := by omega
        have HX := Lib.hid hx
        have HY := Lib.hid hy
        obtain ⟨q1, hq1⟩ : ∃ q, (x.seq == y.seq) = q := ⟨_, rfl⟩
        obtain ⟨q2, hq2⟩ : ∃ q, (x.exp == y.exp) = q := ⟨_, rfl⟩
        have HS1 := Lib.hid (fun w' hw => sameq_is r1 s1 hxm.1 hq1 w' hw)
        have HS2 := Lib.hid (fun w' hw => sameq_is r2 s2 hxm.2 hq2 w' hw)
        obtain ⟨xr, hxr⟩ : ∃ z, x.rel = z := ⟨_, rfl⟩
        obtain ⟨yr, hyr⟩ : ∃ z, y.rel = z := ⟨_, rfl⟩
        rw [hxr] at c0
        rw [hyr] at d0
        have HXR := Lib.hid hxr
        have HYR := Lib.hid hyr
        have H1 := Lib.hid hq1
        have H2 := Lib.hid hq2
        clear hx hy hxm r1 r2 s1 s2 hq1 hq2 hxr hyr
        by_cases hr : xr = yr
        · have hrb : (xr != yr) = false := by simp [hr]
          cases q1 with
          | true =>
            go_wp2
            go_quiet ((first
              | (go_at_call 14; with_reducible exact Calls.quiet_of (HS1.out _ (HN.bel _)))
              | (go_at_call 14; with_reducible exact Calls.quiet_of (HS2.out _ (HN.bel _)))))
            cases q2 with
            | true =>
              go_wp2
              refine ⟨⟨k + 1, by omega, rfl, ?_, HN.more _⟩, by simp [intOf]; omega⟩
              have hxy : x = y := by
                have e1 := HXR.out; have e2 := HYR.out; have e3 := beq_iff_eq.1 H1.out; have e4 := beq_iff_eq.1 H2.out
                cases x; cases y; simp only at e1 e2 e3 e4; subst e1 e2 e3 e4; rw [hr]
              have h2 := HY.out
              rw [← hxy] at h2
              exact take_next HX.out h2 HT.out
            | false =>
              go_wp2
              go_ret
              have hqf : q = false := by rw [← HQ.out]; exact decide_eq_false (ne_of_at HX.out HY.out (by rintro rfl; have := H2.out; simp at this))
              subst hqf
              exact ⟨rfl, (HN.more _).ex⟩
          | false =>
            go_wp2
            go_quiet ((go_at_call 14; with_reducible exact Calls.quiet_of (HS1.out _ (HN.bel _))))
            go_wp2
            go_ret
            have hqf : q = false := by rw [← HQ.out]; exact decide_eq_false (ne_of_at HX.out HY.out (by rintro rfl; have := H1.out; simp at this))
            subst hqf
            exact ⟨rfl, (HN.more _).ex⟩
        · have hrb : (xr != yr) = true := by simp [hr]
          go_wp2
          go_quiet (fail)
          go_wp2
          go_ret
          have hqf : q = false := by rw [← HQ.out]; exact decide_eq_false (ne_of_at HX.out HY.out (by rintro rfl; exact hr (HXR.out.symm.trans HYR.out)))
          subst hqf
          exact ⟨rfl, (HN.more _).ex⟩
      · go_wp2
        go_ret
        have hkn : k = na := by omega
        have := HT.out
        rw [List.take_of_length_le (by rw [HNA.out]; omega), List.take_of_length_le (by rw [HNB.out]; omega)] at this
        have hqt : q = true := by rw [← HQ.out]; exact decide_eq_true this
        subst hqt
        exact ⟨rfl, HN.ex⟩
  · have hnn : ((na : Int) != (nb : Int)) = true := by rw [bne_iff_ne]; omega
    have hr : decide (a = b) = false := decide_eq_false (by rintro rfl; exact hn (hna.symm.trans hnb))
    rw [hr]
    clear hu hv hk hbl hna hnb
    go_enter Try.func9, Try.ntmps9
    go_wp2
    go_ret
    exact ⟨rfl, 0, rfl⟩
end Go.Proofs.Ytdodlppnjlmnaaa
