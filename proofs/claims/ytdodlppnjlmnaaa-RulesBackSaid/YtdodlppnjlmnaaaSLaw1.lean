/-
  THE LAW RulesReads, WALKED.
-/
import Derived.Test.YtdodlppnjlmnaaaSAwake
import Derived.Test.YtdodlppnjlmnaaaSRefPar
namespace Go.Proofs.Ytdodlppnjlmnaaa
open Go.RowKit
set_option linter.unusedVariables false
set_option linter.unusedSimpArgs false
theorem rpar_form {s : ByteArray} (w : World) (hs : s.size ≤ 1000000) {l : List RV} {at' E : Nat} (hR : parse s.data.toList = (l, at', E)) :
    Calls Try.prog 8 #[.string s] w fun e w' => (∃ (A : Option Addr) (n c : Nat), e = .returned (.agg #[.slice A n c, .int .i64 (at' : Nat), .int .i64 (E : Nat)]) ∧ n = l.length ∧ RdRs w' (.slice A n c) l) ∧ Below w.heap.size w w' := by
  refine (rpar_any w hs hR).mono fun e w' hh => ?_
  obtain ⟨⟨v, rfl, hr⟩, hb⟩ := hh
  obtain ⟨A, c, rfl⟩ := hr.form
  exact ⟨⟨A, _, c, rfl, rfl, hr⟩, hb⟩
theorem parD_len (L : List UInt8) : ∀ (f : Nat) (out : List RV) (k : Nat), k ≤ L.length → (∀ x ∈ out, x.seq.length ≤ 3 ∧ x.exp.length ≤ 3) → (parD L f out k).1.length ≤ 40 ∧ ∀ x ∈ (parD L f out k).1, x.seq.length ≤ 3 ∧ x.exp.length ≤ 3
  | 0, out, k, hk, ho => ⟨by simp [parD], fun x hx => by simp [parD] at hx⟩
  | f + 1, out, k, hk, ho => by
    have nil : (([] : List RV).length ≤ 40 ∧ ∀ x ∈ ([] : List RV), x.seq.length ≤ 3 ∧ x.exp.length ≤ 3) := ⟨by simp, fun x hx => by cases hx⟩
    rw [parD]
    split
    · split
      · exact nil
      · exact ⟨by simp only; omega, ho⟩
    · split
      · exact nil
      · split
        · exact nil
        · split
          · exact nil
          · rename_i h0 h1 h2 h3
            have hw := relD_ways (L.drop k)
            rw [List.length_drop] at hw
            have hc : k + (relD (L.drop k)).2 ≤ L.length := by
              rcases hw with hw | hw
              · rw [hw] at h1; exact absurd (Or.inl rfl) h1
              · omega
            have hq := seqD_le hc
            have hx := expD_le (r := (relD (L.drop k)).1) hq.2
            have ha := af_le hx.2
            refine parD_len L f _ _ ha.2 fun x hx2 => ?_
            rcases List.mem_append.1 hx2 with h4 | h4
            · exact ho x h4
            · simp only [List.mem_cons, List.not_mem_nil, or_false] at h4
              subst h4
              refine ⟨(colD_ok L 3 [] _ rfl rfl (by simpa [seqD] using h2)).2.2, ?_⟩
              simp only
              unfold expD at h3 ⊢
              split
              · rename_i h5
                rw [if_pos h5] at h3
                exact (colD_ok L 3 [] _ rfl rfl (by simpa [seqD] using h3)).2.2
              · exact Nat.zero_le _
theorem parse_ok (L : List UInt8) : RVok (parse L).1 := by
  have h := af_le (L := L) (k := 0) (Nat.zero_le _)
  have := parD_len L (L.length + 2) [] (af L 0) h.2 (fun x hx => by cases hx)
  exact ⟨by unfold parse; omega, fun x hx => by have := this.2 x hx; omega⟩
set_option maxRecDepth 100000 in
set_option maxHeartbeats 1000000 in
theorem rulesReads_walk (a0 : ByteArray) (w : World) (h0 : a0.size ≤ maxLen) : Calls Try.prog 3 #[.string a0] w fun e w' => e = .returned (.bool true) ∧ Below w.heap.size w w' := by
  by_cases hbig : 1000 < a0.size
  · have hI : (1000 : Int) < (a0.size : Int) := by omega
    have HA := Lib.hid awake_any
    go_enter Try.func3, Try.ntmps3
    go_wp2_with (go_at_call 6; refine (HA.out _).mono ?_; rintro e w1 ⟨rfl, hb⟩)
    go_ret
    exact ⟨rfl, hb⟩
  · have hI : ¬ (1000 : Int) < (a0.size : Int) := by omega
    obtain ⟨⟨l, at', E⟩, hR⟩ : ∃ z, parse a0.data.toList = z := ⟨_, rfl⟩
    have hok := parse_ok a0.data.toList
    rw [hR] at hok
    have HP := Lib.hid (fun w => par_form (s := a0) w (by omega) hR)
    have HD := Lib.hid (fun w => rpar_form (s := a0) w (by omega) hR)
    have HS := Lib.hid (fun (w : World) (u v : Value) (hu : RdRs w u l) (hv : RdRs w v l) => same_any hu hv hok hok.1)
    have HA := Lib.hid awake_any
    have hdec : decide (l = l) = true := decide_eq_true rfl
    have HB0 := Lib.hid (Below.refl w.heap.size w)
    clear hR hok h0 hbig
    go_enter Try.func3, Try.ntmps3
    go_wp2_with (first
      | (go_at_call 7; refine (HP.out _).mono ?_; rintro e w1 ⟨⟨A1, n1, c1, rfl, hn1, hr⟩, hb⟩; have HN1 := Lib.hid hn1; have HR1 := Lib.hid hr; have HB1 := Lib.hid hb; clear hr hb hn1)
      | (go_at_call 8; refine (HD.out _).mono ?_; rintro e w2 ⟨⟨A2, n2, c2, rfl, hn2, hr⟩, hb⟩; have HR2 := Lib.hid (hr.below (alloc_below w2 (.cells #[.slice A2 n2 c2, .int .i64 (at' : Nat), .int .i64 (E : Nat)] TZ)) (Nat.le_refl _)); have HR1' := Lib.hid ((HR1.out.below hb (Nat.le_refl _)).below (alloc_below w2 (.cells #[.slice A2 n2 c2, .int .i64 (at' : Nat), .int .i64 (E : Nat)] TZ)) (Nat.le_refl _)); have HB2 := Lib.hid ((HB1.out.trans (hb.mono HB1.out.size)).alloc (Nat.le_trans HB1.out.size hb.size) (.cells #[.slice A2 n2 c2, .int .i64 (at' : Nat), .int .i64 (E : Nat)] TZ)); clear hr hb hn2)
      | (go_at_call 9; refine (HS.out _ _ _ HR1'.out HR2.out).mono ?_; rintro e w3 ⟨rfl, m, rfl⟩)
      | (go_at_call 6; refine (HA.out _).mono ?_; rintro e w4 ⟨rfl, hb⟩; have HB4 := Lib.hid hb; clear hb))
    go_ret
    exact ⟨rfl, (HB2.out.trans ((below_drewN _ m).mono HB2.out.size)).trans (HB4.out.mono HB2.out.size)⟩
end Go.Proofs.Ytdodlppnjlmnaaa
