/-
  THE CONTRACTS of the program's same and of slices.EqualFunc with it.
-/
import Derived.Test.YtdodlppnjlmnaaaSSpell
namespace Go.Proofs.Ytdodlppnjlmnaaa
open Go.RowKit
set_option linter.unusedVariables false
set_option linter.unusedSimpArgs false
theorem equalq_is {w : World} {u v : Value} {a b : List Int} {q : Bool} (ha : RdI anyB w u a) (hb : RdI anyB w v b) (hm : a.length ≤ 1000000) (hq : (a == b) = q) (w' : World) (hw : Below w.heap.size w w') :
    Calls Try.prog 39 #[u, v] w' fun e w'' => e = .returned (.bool q) ∧ ∃ m, w'' = w'.drewN m := by
  subst hq
  exact T2.equalq_any u v a b w' (ha.below hw (Nat.le_refl _)).rd (hb.below hw (Nat.le_refl _)).rd (by omega)
theorem rv_dec (x y : RV) : decide (x = y) = (decide (x.rel = y.rel) && ((x.seq == y.seq) && (x.exp == y.exp))) := by
  apply Bool.eq_iff_iff.2
  simp only [decide_eq_true_eq, Bool.and_eq_true, beq_iff_eq]
  constructor
  · rintro rfl; exact ⟨rfl, rfl, rfl⟩
  · rintro ⟨h1, h2, h3⟩; cases x; cases y; simp only at h1 h2 h3; rw [h1, h2, h3]
set_option maxRecDepth 100000 in
set_option maxHeartbeats 1000000 in
theorem rsame_any {w : World} {x y : RV} {A1 A2 A3 A4 : Option Addr} {n1 c1 n2 c2 n3 c3 n4 c4 : Nat} (h1 : RdI anyB w (.slice A1 n1 c1) x.seq) (h2 : RdI anyB w (.slice A2 n2 c2) x.exp) (h3 : RdI anyB w (.slice A3 n3 c3) y.seq) (h4 : RdI anyB w (.slice A4 n4 c4) y.exp)
    (hl1 : x.seq.length ≤ 1000000) (hl2 : x.exp.length ≤ 1000000) :
    Calls Try.prog 25 #[.agg #[.int .i64 x.rel, .slice A1 n1 c1, .slice A2 n2 c2], .agg #[.int .i64 y.rel, .slice A3 n3 c3, .slice A4 n4 c4]] w fun e w' => e = .returned (.bool (decide (x = y))) ∧ Below w.heap.size w w' := by
  have hb := (alloc_below w (.cells #[.int .i64 x.rel, .slice A1 n1 c1, .slice A2 n2 c2] 43)).alloc (alloc_below w (.cells #[.int .i64 x.rel, .slice A1 n1 c1, .slice A2 n2 c2] 43)).size (.cells #[.int .i64 y.rel, .slice A3 n3 c3, .slice A4 n4 c4] 43)
  have HB := Lib.hid hb
  obtain ⟨q1, hq1⟩ : ∃ q, (x.seq == y.seq) = q := ⟨_, rfl⟩
  obtain ⟨q2, hq2⟩ : ∃ q, (x.exp == y.exp) = q := ⟨_, rfl⟩
  have HE1 := Lib.hid (fun w' hw => equalq_is h1 h3 hl1 hq1 w' hw)
  have HE2 := Lib.hid (fun w' hw => equalq_is h2 h4 hl2 hq2 w' hw)
  rw [rv_dec, hq1, hq2]
  obtain ⟨xr, hxr⟩ : ∃ z, x.rel = z := ⟨_, rfl⟩
  obtain ⟨yr, hyr⟩ : ∃ z, y.rel = z := ⟨_, rfl⟩
  rw [hxr, hyr] at HB ⊢
  clear h1 h2 h3 h4 hl1 hl2 hq1 hq2 hb hxr hyr
  have hd : ∀ n : Nat, Below w.heap.size w (((w.alloc (.cells #[.int .i64 xr, .slice A1 n1 c1, .slice A2 n2 c2] 43)).alloc (.cells #[.int .i64 yr, .slice A3 n3 c3, .slice A4 n4 c4] 43)).drewN n) := fun n => HB.out.trans ((below_drewN _ n).mono HB.out.size)
  have HD := Lib.hid hd
  have tok : True := trivial
  clear hd
  by_cases hr : xr = yr
  · have hrb : (xr == yr) = true := by simp [hr]
    subst hr
    cases q1 with
    | true =>
      go_enter Try.func25, Try.ntmps25
      go_wp2_with (first
        | (go_at_call 39; have _t := tok; refine (HE1.out _ HB.out).mono ?_; rintro e w2 ⟨rfl, m, rfl⟩; clear _t tok)
        | (go_at_call 39; refine (HE2.out _ (HD.out m)).mono ?_; rintro e w3 ⟨rfl, m2, rfl⟩))
      go_ret
      exact ⟨by simp, HD.out _⟩
    | false =>
      go_enter Try.func25, Try.ntmps25
      go_wp2_with (first
        | (go_at_call 39; refine (HE1.out _ HB.out).mono ?_; rintro e w2 ⟨rfl, m, rfl⟩))
      go_ret
      exact ⟨by simp, HD.out m⟩
  · have hrb : (xr == yr) = false := by simp [hr]
    have hrd : decide (xr = yr) = false := decide_eq_false hr
    go_enter Try.func25, Try.ntmps25
    go_wp2
    go_ret
    exact ⟨by simp [hr], HB.out⟩
/-- The k-th rule of a slice of rules, its slices written out. -/
theorem RdRs.at' {w : World} {A : Option Addr} {n c : Nat} {L : List RV} (h : RdRs w (.slice A n c) L) {k : Nat} {x : RV} (hk : L[k]? = some x) :
    ∃ (g o : Nat) (A1 : Option Addr) (n1 c1 : Nat) (A2 : Option Addr) (n2 c2 : Nat), A = some ⟨g, o, none⟩ ∧ w.cell? ⟨g, o + k * 3, none⟩ = some (.int .i64 x.rel) ∧ w.cell? ⟨g, o + k * 3 + 1, none⟩ = some (.slice A1 n1 c1) ∧ w.cell? ⟨g, o + k * 3 + 2, none⟩ = some (.slice A2 n2 c2) ∧
      RdI anyB w (.slice A1 n1 c1) x.seq ∧ RdI anyB w (.slice A2 n2 c2) x.exp ∧ n1 = x.seq.length ∧ n2 = x.exp.length := by
  obtain ⟨g, o, vs, ve, e, h0, h1, h2, s1, s2⟩ := h.at hk
  obtain ⟨A1, c1, rfl⟩ := s1.form
  obtain ⟨A2, c2, rfl⟩ := s2.form
  exact ⟨g, o, A1, _, c1, A2, _, c2, e, h0, h1, h2, s1, s2, rfl, rfl⟩
set_option maxRecDepth 100000 in
set_option maxHeartbeats 2000000 in
theorem eqf_any {w : World} {u v : Value} {a b : List RV} (hu : RdRs w u a) (hv : RdRs w v b) (hk : RVok a) (hbl : b.length ≤ 1000000) {q : Bool} (hq : decide (a = b) = q) :
    Calls Try.prog 24 #[u, v, .func (.func 25) #[] #[]] w fun e w' => e = .returned (.bool q) ∧ Below w.heap.size w w' := by
  obtain ⟨A, c, rfl⟩ := hu.form
  obtain ⟨A', c', rfl⟩ := hv.form
  have HU := Lib.hid hu
  have HV := Lib.hid hv
  have HK := Lib.hid hk
  obtain ⟨na, hna⟩ : ∃ n, a.length = n := ⟨_, rfl⟩
  obtain ⟨nb, hnb⟩ : ∃ n, b.length = n := ⟨_, rfl⟩
  have hna1 : na ≤ 1000000 := by rw [← hna]; exact hk.1
  have hnb1 : nb ≤ 1000000 := by rw [← hnb]; exact hbl
  rw [hna] at HU ⊢
  rw [hnb] at HV ⊢
  have hcA := HU.out.cap
  have hcB := HV.out.cap
  have HQ := Lib.hid hq
  have HB0 := Lib.hid (Below.refl w.heap.size w)
  by_cases hn : na = nb
  · subst hn
    have HNA := Lib.hid hna
    have HNB := Lib.hid hnb
    have hnn : ((na : Int) != (na : Int)) = false := by simp
    clear hu hv hk hbl hna hnb hq
    go_enter Try.func24, Try.ntmps24
    go_wp2
    go_loopg [17] na (fun f i wr => ∃ k : Nat, k ≤ na ∧ i = .int .i64 k ∧ f = na - k ∧ Hid (a.take k = b.take k) ∧ Hid (Below w.heap.size w wr))
    case atStart => exact ⟨0, Nat.zero_le _, rfl, rfl, rfl, HB0.out⟩
    case round =>
      obtain ⟨k, hk, rfl, rfl, HT, HW⟩ := hrel
      clear HB0
      by_cases hlt : k < na
      · obtain ⟨x, hx⟩ : ∃ x, a[k]? = some x := ⟨_, List.getElem?_eq_getElem (by rw [HNA.out]; exact hlt)⟩
        obtain ⟨y, hy⟩ : ∃ y, b[k]? = some y := ⟨_, List.getElem?_eq_getElem (by rw [HNB.out]; exact hlt)⟩
        obtain ⟨g, o, A1, n1, p1, A2, n2, p2, rfl, c0, c1, c2, r1, r2, -, -⟩ := (HU.out.below HW.out (Nat.le_refl _)).at' hx
        obtain ⟨g', o', A3, n3, p3, A4, n4, p4, rfl, d0, d1, d2, s1, s2, -, -⟩ := (HV.out.below HW.out (Nat.le_refl _)).at' hy
        have hxm := HK.out.2 x (List.mem_of_getElem? hx)
        have hltI : (k : Int) < (na : Int) := by omega
        have hkc : (k : Int) < (c : Int) := by omega
        have hkc' : (k : Int) < (c' : Int) := by omega
        have gl := cell_lt c0
        have gl' := cell_lt d0
        have hb1 := alloc_below wr (.cells #[.int .i64 x.rel, .slice A1 n1 p1, .slice A2 n2 p2] 43)
        have hb2 := hb1.alloc hb1.size (.cells #[.int .i64 y.rel, .slice A3 n3 p3, .slice A4 n4 p4] 43)
        have HS := Lib.hid (fun w' (hw : Below wr.heap.size wr w') => rsame_any (x := x) (y := y) (r1.below hw (Nat.le_refl _)) (r2.below hw (Nat.le_refl _)) (s1.below hw (Nat.le_refl _)) (s2.below hw (Nat.le_refl _)) hxm.1 hxm.2)
        have D0 := cell_call hb1 d0
        have D1 := cell_call hb1 d1
        have D2 := cell_call hb1 d2
        have HB2 := Lib.hid hb2
        have HX := Lib.hid hx
        have HY := Lib.hid hy
        obtain ⟨qq, hqq⟩ : ∃ z, decide (x = y) = z := ⟨_, rfl⟩
        rw [hqq] at HS
        have HQQ := Lib.hid hqq
        obtain ⟨xr, hxr⟩ : ∃ z, x.rel = z := ⟨_, rfl⟩
        obtain ⟨yr, hyr⟩ : ∃ z, y.rel = z := ⟨_, rfl⟩
        rw [hxr] at c0 D0 D1 D2 HB2 HS
        rw [hyr] at D0 HB2 HS
        clear hx hy hxm r1 r2 s1 s2 hqq hxr hyr d0 d1 d2 hb1 hb2
        cases qq with
        | true =>
          go_wp2_with (go_at_call 25; refine (HS.out _ HB2.out).mono ?_; rintro e w2 ⟨rfl, hb⟩; have HW2 := Lib.hid ((HW.out.trans (HB2.out.mono HW.out.size)).trans (hb.mono (Nat.le_trans HW.out.size HB2.out.size))); clear hb)
          go_roundg (na - (k + 1))
          case measure => omega
          case rel =>
            refine ⟨k + 1, by omega, by first | rfl | (congr 1), rfl, ?_, HW2.out⟩
            have hxy := of_decide_eq_true HQQ.out
            have h2 := HY.out
            rw [← hxy] at h2
            exact take_next HX.out h2 HT.out
        | false =>
          go_wp2_with (go_at_call 25; refine (HS.out _ HB2.out).mono ?_; rintro e w2 ⟨rfl, hb⟩; have HW2 := Lib.hid ((HW.out.trans (HB2.out.mono HW.out.size)).trans (hb.mono (Nat.le_trans HW.out.size HB2.out.size))); clear hb)
          go_ret
          have hqf : q = false := by rw [← HQ.out]; exact decide_eq_false (ne_of_at HX.out HY.out (of_decide_eq_false HQQ.out))
          subst hqf
          exact ⟨rfl, HW2.out⟩
      · go_wp2
        go_ret
        have hkn : k = na := by omega
        have := HT.out
        rw [List.take_of_length_le (by rw [HNA.out]; omega), List.take_of_length_le (by rw [HNB.out]; omega)] at this
        have hqt : q = true := by rw [← HQ.out]; exact decide_eq_true this
        subst hqt
        exact ⟨rfl, HW.out⟩
  · have hnn : ((na : Int) != (nb : Int)) = true := by rw [bne_iff_ne]; omega
    have hqf : q = false := by rw [← hq]; exact decide_eq_false (by rintro rfl; exact hn (hna.symm.trans hnb))
    subst hqf
    clear hu hv hk hbl hna hnb hq
    go_enter Try.func24, Try.ntmps24
    go_wp2
    go_ret
    exact ⟨rfl, HB0.out⟩
end Go.Proofs.Ytdodlppnjlmnaaa
