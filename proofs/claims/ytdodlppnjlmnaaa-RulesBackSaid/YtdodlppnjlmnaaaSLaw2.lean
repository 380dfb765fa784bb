/-
  THE LAW RulesBack, WALKED.
-/
import Derived.Test.YtdodlppnjlmnaaaSRText
import Derived.Test.YtdodlppnjlmnaaaSOf
namespace Go.Proofs.Ytdodlppnjlmnaaa
open Go.RowKit
set_option linter.unusedVariables false
set_option linter.unusedSimpArgs false
/-- A rule that is small enough for the law. -/
def smallR (x : RV) : Bool := decide (x.seq.length + x.exp.length ≤ 20)
theorem small_take {l : List RV} {k : Nat} {x : RV} (h : l[k]? = some x) (hp : smallR x = true) (ha : (l.take k).all smallR = true) : (l.take (k + 1)).all smallR = true := take_all h hp ha
theorem small_rvs {l : List RV} (h : l.length ≤ 60) (ha : l.all smallR = true) : RVs l := ⟨h, fun x hx => by
  have := List.all_eq_true.1 ha x hx
  unfold smallR at this
  have := of_decide_eq_true this
  omega⟩
set_option maxRecDepth 100000 in
set_option maxHeartbeats 8000000 in
theorem rulesBack_walk (v : Value) (l : List RV) (w : World) (h : RdRs w v l) (hw : ∀ x ∈ l, x.seq.length ≤ reachBytes ∧ x.exp.length ≤ reachBytes) (hl : l.length ≤ maxLen) (hM : MaxL w) :
    Calls Try.prog 4 #[v] w fun e w' => e = .returned (.bool true) ∧ Below w.heap.size w w' := by
  obtain ⟨A, c, rfl⟩ := h.form
  have HV := Lib.hid h
  have HM := Lib.hid hM
  have HWI := Lib.hid hw
  obtain ⟨n, hn⟩ : ∃ n, l.length = n := ⟨_, rfl⟩
  rw [hn] at HV hl ⊢
  have hcap := HV.out.cap
  have HN := Lib.hid hn
  have HA := Lib.hid awake_any
  have HLM := Lib.hid hl
  clear h hM hn hw hl
  go_enter Try.func4, Try.ntmps4
  go_wp2
  go_loopg [3] n (fun f i wr => ∃ k : Nat, k ≤ n ∧ i = .int .i64 (k : Nat) ∧ f = n - k ∧ Hid (0 < k → n ≤ 60) ∧ Hid ((l.take k).all smallR = true) ∧ Drew w wr)
  case atStart => exact ⟨0, Nat.zero_le _, rfl, rfl, fun h => absurd h (by omega), rfl, Drew.refl w⟩
  case round =>
    obtain ⟨k, hk, rfl, rfl, H60, HALL, HD⟩ := hrel
    by_cases hlt : k < n
    · obtain ⟨x, hx⟩ : ∃ x, l[k]? = some x := ⟨_, List.getElem?_eq_getElem (by rw [HN.out]; exact hlt)⟩
      obtain ⟨g, o, A1, n1, p1, A2, n2, p2, rfl, c0, c1, c2, r1, r2, rfl, rfl⟩ := HV.out.at' hx
      replace c1 := HD.cell c1
      replace c2 := HD.cell c2
      have hltI : (k : Int) < (n : Int) := by omega
      have hkc : (k : Int) < (c : Int) := by omega
      have hxw := HWI.out x (List.mem_of_getElem? hx)
      simp only [reachBytes] at hxw
      obtain ⟨es, hes⟩ : ∃ z, x.seq.length = z := ⟨_, rfl⟩
      obtain ⟨ee, hee⟩ : ∃ z, x.exp.length = z := ⟨_, rfl⟩
      rw [hes] at c1 hxw
      rw [hee] at c2 hxw
      have hsum : IntKind.i64.wrap ((es : Int) + (ee : Int)) = (es : Int) + (ee : Int) := IntWalk.i64_in _ (by omega)
      have HX := Lib.hid hx
      have HES := Lib.hid hes
      have HEE := Lib.hid hee
      clear c0 r1 r2 hes hee hx hxw hlt
      by_cases h60 : 60 < n
      · have h60I : (60 : Int) < (n : Int) := by omega
        go_wp2
        go_quiet (fail)
        go_wp2_with (go_at_call 6; refine (HA.out _).mono ?_; rintro e w1 ⟨rfl, hb⟩)
        go_ret
        have hbq := HD.bel nq
        exact ⟨rfl, hbq.trans (hb.mono hbq.size)⟩
      · have h60I : ¬ (60 : Int) < (n : Int) := by omega
        by_cases h20 : 20 < es + ee
        · have h20I : (20 : Int) < (es : Int) + (ee : Int) := by omega
          go_wp2
          go_quiet (fail)
          go_wp2_with (go_at_call 6; refine (HA.out _).mono ?_; rintro e w1 ⟨rfl, hb⟩)
          go_ret
          have hbq := HD.bel nq
          exact ⟨rfl, hbq.trans (hb.mono hbq.size)⟩
        · have h20I : ¬ (20 : Int) < (es : Int) + (ee : Int) := by omega
          have HALL2 := Lib.hid (small_take HX.out (by unfold smallR; rw [HES.out, HEE.out]; exact decide_eq_true (by omega)) HALL.out)
          have H60' : Hid (0 < k + 1 → n ≤ 60) := fun _ => by omega
          go_wp2
          go_quiet (fail)
          go_wp2
          go_roundg (n - (k + 1))
          case measure => omega
          case rel => exact ⟨k + 1, by omega, by first | rfl | (congr 1), rfl, H60'.out, HALL2.out, HD.more _⟩
    · have hltI : ¬ (k : Int) < (n : Int) := by omega
      have hkn : l.take k = l := List.take_of_length_le (by rw [HN.out]; omega)
      have hal := HALL.out
      rw [hkn] at hal
      have hn60 : n ≤ 60 := by
        rcases Nat.eq_zero_or_pos n with h0 | h0
        · omega
        · exact H60.out (by omega)
      have hrs : RVs l := small_rvs (by rw [HN.out]; exact hn60) hal
      have HB0 : Hid (Below w.heap.size w wr) := by
        obtain ⟨m, e⟩ := HD.ex
        rw [e]; exact below_drewN w m
      have hv0 := HV.out.below HB0.out (Nat.le_refl _)
      have HV0 := Lib.hid hv0
      have HM0 := Lib.hid (HM.out.below HB0.out (Nat.le_refl _))
      have HOF := Lib.hid (of_any hv0 hrs)
      have htl := txt_len l hrs.2
      rw [HN.out] at htl
      clear hkn hal HALL H60 hv0
      by_cases hg : good l = true
      · obtain ⟨T, hT⟩ : ∃ t : ByteArray, t.data.toList = txt l := ⟨⟨(txt l).toArray⟩, rfl⟩
        have hTs : T.size ≤ 1000000 := by rw [← hT, T2.ba_len] at htl; omega
        have hgp := good_parse hg
        have hall : l.all okR = true := by simp only [good, Bool.and_eq_true] at hg; exact hg.1.1
        have HTX := Lib.hid (fun (w1 : World) (v1 : Value) (h1 : RdRs w1 v1 l) (h2 : MaxL w1) => text_any h1 hrs h2 (t := T) (r := 0) (by rw [if_pos hg]; exact hT) (by rw [if_pos hg]))
        have HRT := Lib.hid (fun (w1 : World) (v1 : Value) (h1 : RdRs w1 v1 l) => rtext_any h1 hrs (t0 := T) (q := true) (fun _ => ⟨hT, by rw [hgp]; simp⟩) (fun h => by rw [hall] at h; cases h))
        have HP := Lib.hid (fun w => par_form (s := T) w hTs (l := l) (at' := 0) (E := 0) (by rw [hT]; exact hgp))
        have HS := Lib.hid (fun (w : World) (u v : Value) (hu : RdRs w u l) (hv : RdRs w v l) => same_any hu hv hrs.ok hrs.ok.1)
        have hdec : decide (l = l) = true := decide_eq_true rfl
        clear hT hTs hgp hall hg htl hrs
        go_wp2_with (first
          | (go_at_call 11; refine HOF.out.mono ?_; rintro e w1 ⟨⟨v1, rfl, hr⟩, hb⟩; have HR1 := Lib.hid hr; have HB1 := Lib.hid (HB0.out.trans (hb.mono HB0.out.size)); clear hr hb)
          | (go_at_call 10; refine (HTX.out _ _ HR1.out (HM.out.below HB1.out (Nat.le_refl _))).mono ?_; rintro e w2 ⟨rfl, hb⟩; have HB2 := Lib.hid (HB1.out.trans (hb.mono HB1.out.size)); clear hb)
          | (go_at_call 12; refine (HRT.out _ _ (HV.out.below HB2.out (Nat.le_refl _))).mono ?_; rintro e w3 ⟨rfl, hb⟩; have HB3 := Lib.hid (HB2.out.trans (hb.mono HB2.out.size)); clear hb)
          | (go_at_call 7; refine (HP.out _).mono ?_; rintro e w4 ⟨⟨A1, n1, c1, rfl, hn1, hr⟩, hb⟩; have HR4 := Lib.hid hr; have HB4 := Lib.hid (HB3.out.trans (hb.mono HB3.out.size)); clear hr hb hn1)
          | (go_at_call 9; refine (HS.out _ _ _ HR4.out (HV.out.below HB4.out (Nat.le_refl _))).mono ?_; rintro e w5 ⟨rfl, m, rfl⟩)
          | (go_at_call 6; refine (HA.out _).mono ?_; rintro e w6 ⟨rfl, hb⟩; have HB6 := Lib.hid hb; clear hb))
        go_ret
        exact ⟨rfl, (HB4.out.trans ((below_drewN _ m).mono HB4.out.size)).trans (HB6.out.mono HB4.out.size)⟩
      · have HTX := Lib.hid (fun (w1 : World) (v1 : Value) (h1 : RdRs w1 v1 l) (h2 : MaxL w1) => text_any h1 hrs h2 (t := ⟨#[]⟩) (r := 1) (by rw [if_neg hg]) (by rw [if_neg hg]))
        obtain ⟨T, hT⟩ : ∃ t : ByteArray, if l.all okR = true then t.data.toList = txt l else t = ⟨#[]⟩ := by
          by_cases hall : l.all okR = true
          · exact ⟨⟨(txt l).toArray⟩, by simp [hall]⟩
          · exact ⟨⟨#[]⟩, by simp [hall]⟩
        have HRT := Lib.hid (fun (w1 : World) (v1 : Value) (h1 : RdRs w1 v1 l) => rtext_any h1 hrs (t0 := T) (q := false) (fun h => by
          rw [if_pos h] at hT
          refine ⟨hT, (decide_eq_false fun h2 => hg ?_).symm⟩
          unfold good
          rw [h, decide_eq_true h2.1, decide_eq_true h2.2]; rfl) (fun h => by
          rw [if_neg (by rw [h]; simp)] at hT
          exact ⟨hT, rfl⟩))
        clear hT hg htl hrs
        go_wp2_with (first
          | (go_at_call 11; refine HOF.out.mono ?_; rintro e w1 ⟨⟨v1, rfl, hr⟩, hb⟩; have HR1 := Lib.hid hr; have HB1 := Lib.hid (HB0.out.trans (hb.mono HB0.out.size)); clear hr hb)
          | (go_at_call 10; refine (HTX.out _ _ HR1.out (HM.out.below HB1.out (Nat.le_refl _))).mono ?_; rintro e w2 ⟨rfl, hb⟩; have HB2 := Lib.hid (HB1.out.trans (hb.mono HB1.out.size)); clear hb)
          | (go_at_call 12; refine (HRT.out _ _ (HV.out.below HB2.out (Nat.le_refl _))).mono ?_; rintro e w3 ⟨rfl, hb⟩; have HB3 := Lib.hid (HB2.out.trans (hb.mono HB2.out.size)); clear hb)
          | (go_at_call 6; refine (HA.out _).mono ?_; rintro e w6 ⟨rfl, hb⟩; have HB6 := Lib.hid hb; clear hb))
        go_ret
        exact ⟨rfl, HB3.out.trans (HB6.out.mono HB3.out.size)⟩
end Go.Proofs.Ytdodlppnjlmnaaa
