/-
  THE CONTRACTS of the document's sameRules and word.
-/
import Derived.Test.YtdodlppnjlmnaaaSText
namespace Go.Proofs.Ytdodlppnjlmnaaa
open Go.RowKit
set_option linter.unusedVariables false
set_option linter.unusedSimpArgs false
set_option maxRecDepth 100000 in
set_option maxHeartbeats 2000000 in
theorem rsames_any {w : World} {u v : Value} {a b : List RV} (hu : RdRs w u a) (hv : RdRs w v b) (hk : RVok a) (hbl : b.length ≤ 1000000) :
    Calls Try.prog 27 #[u, v] w fun e w' => e = .returned (.bool (decide (a = b))) ∧ ∃ m, w' = w.drewN m := by
  obtain ⟨A, c, rfl⟩ := hu.form
  obtain ⟨A', c', rfl⟩ := hv.form
  have HU := Lib.hid hu
  have HV := Lib.hid hv
  have HK := Lib.hid hk
  obtain ⟨na, hna⟩ : ∃ n, a.length = n := ⟨_, rfl⟩
  obtain ⟨nb, hnb⟩ : ∃ n, b.length = n := ⟨_, rfl⟩
  have hna1 : na ≤ 1000000 := by rw [← hna]; exact hk.1
  have hnb1 : nb ≤ 1000000 := by rw [← hnb]; exact hbl
  rw [hna] at HU ⊢
  rw [hnb] at HV ⊢
  have hcA := HU.out.cap
  have hcB := HV.out.cap
  by_cases hn : na = nb
  · subst hn
    have HNA := Lib.hid hna
    have HNB := Lib.hid hnb
    obtain ⟨q, hq⟩ : ∃ q, decide (a = b) = q := ⟨_, rfl⟩
    rw [hq]
    have HQ := Lib.hid hq
    have hnn : ((na : Int) != (na : Int)) = false := by simp
    clear hu hv hk hbl hna hnb hq
    go_enter Try.func27, Try.ntmps27
    go_wp2
    go_loopw [5] (fun i wr => ∃ k : Nat, k ≤ na ∧ i = .int .i64 k ∧ Hid (a.take k = b.take k) ∧ Drew w wr) (fun i _ => na - (intOf i).toNat)
    case atStart => exact ⟨0, Nat.zero_le _, rfl, rfl, Drew.refl w⟩
    case round =>
      obtain ⟨k, hk, rfl, HT, HN⟩ := hrel
      by_cases hlt : k < na
      · obtain ⟨x, hx⟩ : ∃ x, a[k]? = some x := ⟨_, List.getElem?_eq_getElem (by rw [HNA.out]; exact hlt)⟩
        obtain ⟨y, hy⟩ : ∃ y, b[k]? = some y := ⟨_, List.getElem?_eq_getElem (by rw [HNB.out]; exact hlt)⟩
        obtain ⟨g, o, vs, ve, rfl, c0, c1, c2, r1, r2⟩ := HU.out.at hx
        obtain ⟨g', o', vs', ve', rfl, d0, d1, d2, s1, s2⟩ := HV.out.at hy
        replace c0 := HN.cell c0
        replace c1 := HN.cell c1
        replace c2 := HN.cell c2
        replace d0 := HN.cell d0
        replace d1 := HN.cell d1
        replace d2 := HN.cell d2
        have hxm := HK.out.2 x (List.mem_of_getElem? hx)
        have hltI : (k : Int) < (na : Int) := by omega
        have hkc : (k : Int) < (c : Int) := by omega
        have hkc' : (k : Int) < (c' : Int) := by omega
        have HX := Lib.hid hx
        have HY := Lib.hid hy
        obtain ⟨q1, hq1⟩ : ∃ q, (x.seq == y.seq) = q := ⟨_, rfl⟩
        obtain ⟨q2, hq2⟩ : ∃ q, (x.exp == y.exp) = q := ⟨_, rfl⟩
        have HS1 := Lib.hid (fun w' hw => sameq_is r1 s1 hxm.1 hq1 w' hw)
        have HS2 := Lib.hid (fun w' hw => sameq_is r2 s2 hxm.2 hq2 w' hw)
        obtain ⟨xr, hxr⟩ : ∃ z, x.rel = z := ⟨_, rfl⟩
        obtain ⟨yr, hyr⟩ : ∃ z, y.rel = z := ⟨_, rfl⟩
        rw [hxr] at c0
        rw [hyr] at d0
        have HXR := Lib.hid hxr
        have HYR := Lib.hid hyr
        have H1 := Lib.hid hq1
        have H2 := Lib.hid hq2
        clear hx hy hxm r1 r2 s1 s2 hq1 hq2 hxr hyr
        by_cases hr : xr = yr
        · have hrb : (xr != yr) = false := by simp [hr]
          cases q1 with
          | true =>
            go_wp2
            go_quiet ((first
              | (go_at_call 14; with_reducible exact Calls.quiet_of (HS1.out _ (HN.bel _)))
              | (go_at_call 14; with_reducible exact Calls.quiet_of (HS2.out _ (HN.bel _)))))
            cases q2 with
            | true =>
              go_wp2
              refine ⟨⟨k + 1, by omega, rfl, ?_, HN.more _⟩, by simp [intOf]; omega⟩
              have hxy : x = y := by
                have e1 := HXR.out; have e2 := HYR.out; have e3 := beq_iff_eq.1 H1.out; have e4 := beq_iff_eq.1 H2.out
                cases x; cases y; simp only at e1 e2 e3 e4; subst e1 e2 e3 e4; rw [hr]
              have h2 := HY.out
              rw [← hxy] at h2
              exact take_next HX.out h2 HT.out
            | false =>
              go_wp2
              go_ret
              have hqf : q = false := by rw [← HQ.out]; exact decide_eq_false (ne_of_at HX.out HY.out (by rintro rfl; have := H2.out; simp at this))
              subst hqf
              exact ⟨rfl, (HN.more _).ex⟩
          | false =>
            go_wp2
            go_quiet ((go_at_call 14; with_reducible exact Calls.quiet_of (HS1.out _ (HN.bel _))))
            go_wp2
            go_ret
            have hqf : q = false := by rw [← HQ.out]; exact decide_eq_false (ne_of_at HX.out HY.out (by rintro rfl; have := H1.out; simp at this))
            subst hqf
            exact ⟨rfl, (HN.more _).ex⟩
        · have hrb : (xr != yr) = true := by simp [hr]
          go_wp2
          go_quiet (fail)
          go_wp2
          go_ret
          have hqf : q = false := by rw [← HQ.out]; exact decide_eq_false (ne_of_at HX.out HY.out (by rintro rfl; exact hr (HXR.out.symm.trans HYR.out)))
          subst hqf
          exact ⟨rfl, (HN.more _).ex⟩
      · go_wp2
        go_ret
        have hkn : k = na := by omega
        have := HT.out
        rw [List.take_of_length_le (by rw [HNA.out]; omega), List.take_of_length_le (by rw [HNB.out]; omega)] at this
        have hqt : q = true := by rw [← HQ.out]; exact decide_eq_true this
        subst hqt
        exact ⟨rfl, HN.ex⟩
  · have hnn : ((na : Int) != (nb : Int)) = true := by rw [bne_iff_ne]; omega
    have hr : decide (a = b) = false := decide_eq_false (by rintro rfl; exact hn (hna.symm.trans hnb))
    rw [hr]
    clear hu hv hk hbl hna hnb
    go_enter Try.func27, Try.ntmps27
    go_wp2
    go_ret
    exact ⟨rfl, 0, rfl⟩
theorem ba_app (a b : ByteArray) : (a ++ b).data.toList = a.data.toList ++ b.data.toList := by simp [ByteArray.data_append]
theorem ba_size (a b : ByteArray) : (a ++ b).size = a.size + b.size := ByteArray.size_append
/-- The bounds of a sign. -/
def isSgP (x : Int) : Prop := 0 ≤ x ∧ x ≤ 1114367
theorem one_is {x : Int} (h : isSgP x) {u : ByteArray} (hu : (⟨(T2.one x.toNat).toArray⟩ : ByteArray) = u) (w : World) :
    Calls Try.prog 40 #[.int .i64 x] w fun e w' => e = .returned (.string u) ∧ Below w.heap.size w w' := by
  subst hu
  have e : x = ((x.toNat : Nat) : Int) := by have := h; unfold isSgP at this; omega
  have := T2.one_any x.toNat w (by have := h; unfold isSgP at this; omega)
  rw [← e] at this
  exact this
theorem sg_p {x : Int} (h : T2.isSg x = true) : isSgP x := by
  unfold isSgP
  rcases sg_ways h with hp | hr
  · have := T2.isPt_iff.1 hp; omega
  · omega
theorem wrd_next {l : List Int} {k : Nat} {x : Int} (h : l[k]? = some x) : wrd (l.take (k + 1)) = wrd (l.take k) ++ wr1 x := by
  unfold wrd
  rw [List.take_add_one, h, List.flatMap_append]
  simp
theorem wrd_len (l : List Int) : (wrd l).length ≤ 5 * l.length := by
  induction l with
  | nil => exact Nat.le_refl _
  | cons x t ih =>
    have := wr1_len x
    show (wr1 x ++ wrd t).length ≤ _
    rw [List.length_append, List.length_cons]; omega
set_option maxRecDepth 100000 in
set_option maxHeartbeats 2000000 in
theorem word_any {w : World} {v : Value} {l : List Int} (h : RdI anyB w v l) (hl : l.length ≤ 1000) (hsg : l.all T2.isSg = true) {T : ByteArray} (hT : T.data.toList = wrd l) :
    Calls Try.prog 26 #[v] w fun e w' => e = .returned (.string T) ∧ Below w.heap.size w w' := by
  obtain ⟨A, c, rfl⟩ := h.form
  have hcap := (RdF.cap h).1
  have HV := Lib.hid h
  obtain ⟨n, hn⟩ : ∃ n, l.length = n := ⟨_, rfl⟩
  rw [hn] at HV hl hcap ⊢
  have HN := Lib.hid hn
  have HSG := Lib.hid (List.all_eq_true.1 hsg)
  have HT := Lib.hid hT
  have HB0 := Lib.hid (Below.refl w.heap.size w)
  clear h hn hsg hT
  go_enter Try.func26, Try.ntmps26
  go_wp2
  go_loopg [3, 4] n (fun f sv i wr => ∃ (k : Nat) (t : ByteArray), k ≤ n ∧ i = .int .i64 (k : Nat) ∧ sv = .string t ∧ f = n - k ∧ Hid (t.data.toList = wrd (l.take k)) ∧ Hid (Below w.heap.size w wr))
  case atStart => exact ⟨0, ⟨#[]⟩, Nat.zero_le _, rfl, rfl, rfl, rfl, HB0.out⟩
  case round =>
    obtain ⟨k, t, hk, rfl, rfl, rfl, HTK, HW⟩ := hrel
    clear HB0
    by_cases hlt : k < n
    · obtain ⟨x, hx⟩ : ∃ x, l[k]? = some x := ⟨_, List.getElem?_eq_getElem (by rw [HN.out]; exact hlt)⟩
      obtain ⟨g, o, rfl, c0⟩ := (RdI.below HV.out HW.out (Nat.le_refl _)).at hx
      have hltI : (k : Int) < (n : Int) := by omega
      have hkcI : (k : Int) < (c : Int) := by omega
      have hnx := wrd_next hx
      have hlen := wrd_len (l.take k)
      rw [← HTK.out, T2.ba_len, List.length_take, HN.out] at hlen
      have hsg := HSG.out x (List.mem_of_getElem? hx)
      obtain ⟨u, hu⟩ : ∃ u : ByteArray, (⟨(T2.one x.toNat).toArray⟩ : ByteArray) = u := ⟨_, rfl⟩
      have hul : u.data.toList = T2.one x.toNat := by rw [← hu]
      have hus : u.size ≤ 4 := by rw [← T2.ba_len, hul]; exact T2.one_len_le _
      have HON := Lib.hid (one_is (sg_p hsg) hu)
      have HNX := Lib.hid hnx
      have hts : t.size ≤ 5000 := by omega
      obtain ⟨b, hb⟩ : ∃ b, spcB x = b := ⟨_, rfl⟩
      have HSP := Lib.hid (special_any hb)
      have hwr : wr1 x = (if esc x = true then [92] else []) ++ u.data.toList := by unfold wr1; rw [hul]
      have HWR := Lib.hid hwr
      have hG : Hid (∀ wr' : World, Below wr.heap.size wr wr' → wr'.cell? ⟨g, o + k, none⟩ = some (.int .i64 x)) := fun wr' hb => cell_call hb c0
      have s1 : (t ++ (⟨#[92]⟩ : ByteArray)).size = t.size + 1 := ba_size _ _
      clear hx hnx hlen hsg hu hul hwr
      by_cases he : esc x = true
      · have HE : Hid ((t ++ (⟨#[92]⟩ : ByteArray) ++ u).data.toList = wrd (l.take (k + 1))) := by
          show _ = _
          rw [HNX.out, HWR.out, if_pos he, ba_app, ba_app, HTK.out, List.append_assoc]
        have s2 : (t ++ (⟨#[92]⟩ : ByteArray)).size + u.size ≤ 1000000 := by rw [s1]; omega
        have s3 : t.size + 1 ≤ 1000000 := by omega
        cases b with
        | true =>
          clear he hb
          go_wp2_with (first
            | (go_at_call 33; refine (HSP.out _).mono ?_; rintro e w2 ⟨rfl, rfl⟩)
            | (go_at_call 40; refine (HON.out _).mono ?_; rintro e w3 ⟨rfl, hb3⟩; have HW3 := Lib.hid (HW.out.trans (hb3.mono HW.out.size)); clear hb3))
          go_roundg (n - (k + 1))
          case measure => omega
          case rel => exact ⟨k + 1, _, by omega, by first | rfl | (congr 1), rfl, rfl, HE.out, HW3.out⟩
        | false =>
          have h92 : x = 92 := by unfold esc at he; rw [hb] at he; simpa using he
          subst h92
          clear he hb
          go_wp2_with (first
            | (go_at_call 33; refine (HSP.out _).mono ?_; rintro e w2 ⟨rfl, rfl⟩)
            | (go_at_call 40; refine (HON.out _).mono ?_; rintro e w3 ⟨rfl, hb3⟩; have HW3 := Lib.hid (HW.out.trans (hb3.mono HW.out.size)); clear hb3))
          go_roundg (n - (k + 1))
          case measure => omega
          case rel => exact ⟨k + 1, _, by omega, by first | rfl | (congr 1), rfl, rfl, HE.out, HW3.out⟩
      · have he' : esc x = false := by simpa using he
        have h2 : b = false ∧ x ≠ 92 := by unfold esc at he'; rw [hb] at he'; simpa using he'
        obtain ⟨rfl, h92⟩ := h2
        have h92b : (x == 92) = false := by simp [h92]
        have HE : Hid ((t ++ u).data.toList = wrd (l.take (k + 1))) := by
          show _ = _
          rw [HNX.out, HWR.out, if_neg he, ba_app, HTK.out, List.nil_append]
        have s2 : t.size + u.size ≤ 1000000 := by omega
        clear he he' hb
        go_wp2_with (first
          | (go_at_call 33; refine (HSP.out _).mono ?_; rintro e w2 ⟨rfl, rfl⟩)
          | (go_at_call 40; refine (HON.out _).mono ?_; rintro e w3 ⟨rfl, hb3⟩; have HW3 := Lib.hid (HW.out.trans (hb3.mono HW.out.size)); clear hb3))
        go_roundg (n - (k + 1))
        case measure => omega
        case rel => exact ⟨k + 1, _, by omega, by first | rfl | (congr 1), rfl, rfl, HE.out, HW3.out⟩
    · have hltI : ¬ (k : Int) < (n : Int) := by omega
      have htT : t = T := ba_ext (by rw [HTK.out, HT.out, List.take_of_length_le (by rw [HN.out]; omega)])
      subst htT
      go_wp2
      go_ret
      exact ⟨rfl, HW.out⟩
end Go.Proofs.Ytdodlppnjlmnaaa
