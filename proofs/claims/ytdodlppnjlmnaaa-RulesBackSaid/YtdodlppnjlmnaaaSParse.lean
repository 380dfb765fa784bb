/-
  THE CONTRACT of the program's Parse.
-/
import Derived.Test.YtdodlppnjlmnaaaSWord
namespace Go.Proofs.Ytdodlppnjlmnaaa
open Go.RowKit
set_option linter.unusedVariables false
set_option linter.unusedSimpArgs false
open T2 (gb dec one isSg isPt sgs)
theorem relL_adv {L : List UInt8} {k last : Nat} (hk : k < L.length) (hll : last = 1 ∨ last = 5) (h : (relL (L.drop k) last).1 ≠ 0) : 1 ≤ (relL (L.drop k) last).2 ∧ k + (relL (L.drop k) last).2 ≤ L.length := by
  have h5 := relD_ways (L.drop k)
  rw [List.length_drop] at h5
  rcases hll with rfl | rfl
  · rw [rel1] at h ⊢
    split
    · exact ⟨Nat.le_refl _, by simp only; omega⟩
    · rename_i h38; rw [if_neg h38] at h; exact absurd rfl h
  · rw [rel5] at h ⊢
    rcases h5 with h5 | h5
    · rw [h5] at h; exact absurd rfl h
    · exact ⟨h5.2.2.1, by omega⟩
theorem ruleP_adv {L : List UInt8} {k last : Nat} (hk : k < L.length) (hll : last = 1 ∨ last = 5) : (ruleP L last k).2.2 ≤ L.length ∧ ((ruleP L last k).1 = true → k + 1 ≤ (ruleP L last k).2.2) := by
  unfold ruleP
  split
  · exact ⟨Nat.le_of_lt hk, fun h => by cases h⟩
  · rename_i h0
    have ha := relL_adv hk hll h0
    have hq := seqP_le (L := L) ha.2
    split
    · exact ⟨hq.2, fun h => by cases h⟩
    · have hb := af_le (L := L) hq.2
      split
      · rename_i h47
        have h3 : af L (seqP L (k + (relL (L.drop k) last).2)).2.2 < L.length := by
          rcases Nat.lt_or_ge (af L (seqP L (k + (relL (L.drop k) last).2)).2.2) L.length with h4 | h4
          · exact h4
          · have := gb_out h4; omega
        have hc := seqP_le (L := L) (k := af L (seqP L (k + (relL (L.drop k) last).2)).2.2 + 1) h3
        exact ⟨hc.2, fun _ => by simp only; omega⟩
      · exact ⟨hb.2, fun _ => by simp only; omega⟩
/-- Within Parse: the reader, the rules so far. -/
structure PS (w : World) (s : ByteArray) (wr : World) (k : Nat) (lv : Value) (M : List MR) : Prop where
  rd : RD TP wr w.heap.size s k
  own : OwnR 43 (w.heap.size + 1) wr lv M
  bel : Below w.heap.size w wr
  sz : w.heap.size + 1 ≤ wr.heap.size
theorem PS.call {w wr w' : World} {s : ByteArray} {k k' : Nat} {lv : Value} {M : List MR} (h : PS w s wr k lv M) (hr : RD TP w' w.heap.size s k') (hm : Mv w.heap.size wr w') : PS w s w' k' lv M :=
  ⟨hr, h.own.mv hm (Nat.lt_succ_self _), Mv.below h.bel hm h.bel.size (Nat.le_refl _), Nat.le_trans h.sz hm.size⟩
theorem PS.quiet {w wr w' : World} {s : ByteArray} {k : Nat} {lv : Value} {M : List MR} (h : PS w s wr k lv M) (hb : Below wr.heap.size wr w') : PS w s w' k lv M :=
  ⟨h.rd.below hb (Nat.le_refl _), h.own.below hb (Nat.le_refl _), h.bel.trans (hb.mono h.bel.size), Nat.le_trans h.sz hb.size⟩
theorem PS.push {w wr w' : World} {s : ByteArray} {k : Nat} {lv lv' : Value} {M M' : List MR} (h : PS w s wr k lv M) (hb : Below (w.heap.size + 1) wr w') (ho : OwnR 43 (w.heap.size + 1) w' lv' M') : PS w s w' k lv' M' :=
  ⟨h.rd.low hb (Nat.lt_succ_self _), ho, h.bel.trans (hb.mono (Nat.le_succ _)), Nat.le_trans h.sz hb.size⟩
theorem els_base {w2 : World} {B B' : Nat} {r : Int} {x : RV} {a b : Value} (h : r = x.rel ∧ T2.OwnI B w2 a x.seq ∧ T2.OwnI B w2 b x.exp) (hB : B' ≤ B) (o : Obj) : r = x.rel ∧ T2.OwnI B' (w2.alloc o) a x.seq ∧ T2.OwnI B' (w2.alloc o) b x.exp :=
  ⟨h.1, run_alloc_own (R4.own_mono h.2.1 hB) o, run_alloc_own (R4.own_mono h.2.2 hB) o⟩
theorem PS.start {w : World} {s : ByteArray} : PS w s (w.alloc (.cells #[.string s, .int .i64 0] TP)) 0 (.slice none 0 0) [] :=
  ⟨heap_alloc_new w _, OwnR.nil _ _ _, alloc_below w _, by simp⟩
set_option maxRecDepth 100000 in
set_option maxHeartbeats 2000000 in
theorem par_any {s : ByteArray} (w : World) (hs : s.size ≤ 1000000) {l : List RV} {at' E : Nat} (hR : parse s.data.toList = (l, at', E)) :
    Calls Try.prog 7 #[.string s] w fun e w' => (∃ v, e = .returned (.tuple #[v, .int .i64 (at' : Nat), .int .i64 (E : Nat)]) ∧ RdRs w' v l) ∧ Below w.heap.size w w' := by
  have HF : Hid (parP s.data.toList (s.size + 2) 0 [] (af s.data.toList 0) = (l, at', E)) := (par_same s.data.toList).trans hR
  have HS := Lib.hid (PS.start (w := w) (s := s))
  have h0 := (af_le (L := s.data.toList) (k := 0) (Nat.zero_le _)).2
  rw [T2.ba_len] at h0
  have HB := Lib.hid (fun w' (hr : RD TP w' w.heap.size s 0) => skip_any hr (Nat.zero_le _) hs)
  clear hR
  go_enter Try.func7, Try.ntmps7
  go_wp2_with (go_at_call 15; refine (HB.out _ HS.out.rd).mono ?_; rintro e w1 ⟨rfl, hr, hm⟩; have HS1 := Lib.hid (HS.out.call hr hm); clear hr hm)
  go_loopg [2, 6] (s.size + 2) (fun f lv nv wr => ∃ (M : List MR) (n k : Nat), nv = .int .i64 (n : Nat) ∧ n ≤ k ∧ k ≤ s.size ∧ s.size + 1 < k + f ∧ M.length ≤ 40 ∧ (n ≤ 40 → M.length = n) ∧ Hid (parP s.data.toList f n (pls M) k = (l, at', E)) ∧ Hid (PS w s wr k lv M))
  case atStart => exact ⟨[], 0, af s.data.toList 0, rfl, Nat.zero_le _, h0, by omega, by simp, fun _ => rfl, HF.out, HS1.out⟩
  case round =>
    obtain ⟨M, n, k, rfl, hnk, hk, hf, hM, hMn, HJ, HP⟩ := hrel
    clear HS HS1 HB HF h0
    obtain ⟨f, rfl⟩ : ∃ f, gk = f + 1 := ⟨gk - 1, by omega⟩
    obtain ⟨A, c, rfl⟩ := HP.out.own.form
    obtain ⟨ln, hln⟩ : ∃ q, M.length = q := ⟨_, rfl⟩
    have HLN := Lib.hid hln
    rw [hln] at HP hM hMn ⊢
    clear hln
    have h9 := HJ.out
    rw [parP] at h9
    by_cases hend : s.size ≤ k
    · rw [if_pos (show s.data.toList.length ≤ k from hend)] at h9
      have HD := Lib.hid (done_any HP.out.rd (b := true) (decide_eq_true hend) hk)
      by_cases h40 : 40 < n
      · rw [if_pos h40] at h9
        cases h9
        have h40I : (40 : Int) < (n : Int) := by omega
        clear HJ hMn hM
        go_wp2_with (go_at_call 16; refine HD.out.mono ?_; rintro e w1 ⟨rfl, m, rfl⟩)
        go_ret3
        exact ⟨⟨_, rfl, RdRs.nil _⟩, (HP.out.quiet (below_drewN wr m)).bel⟩
      · rw [if_neg h40] at h9
        cases h9
        have h40I : ¬ (40 : Int) < (n : Int) := by omega
        clear HJ hMn hM
        go_wp2_with (go_at_call 16; refine HD.out.mono ?_; rintro e w1 ⟨rfl, m, rfl⟩)
        go_ret3
        exact ⟨⟨_, rfl, (HP.out.quiet (below_drewN wr m)).own.rd⟩, (HP.out.quiet (below_drewN wr m)).bel⟩
    · rw [if_neg (show ¬ s.data.toList.length ≤ k from hend)] at h9
      have HD := Lib.hid (done_any HP.out.rd (b := false) (decide_eq_false hend) hk)
      obtain ⟨last, hlast⟩ : ∃ q, (if n = 0 then 1 else 5) = q := ⟨_, rfl⟩
      rw [hlast] at h9
      have hll : last = 1 ∨ last = 5 := by rw [← hlast]; split <;> simp
      have hadv := ruleP_adv (L := s.data.toList) (k := k) (show k < s.data.toList.length by rw [T2.ba_len]; omega) hll
      obtain ⟨⟨ok, x, k2⟩, hx⟩ : ∃ z, ruleP s.data.toList last k = z := ⟨_, rfl⟩
      rw [hx] at h9 hadv
      simp only [T2.ba_len] at h9 hadv
      have HU := Lib.hid (fun w' (hr : RD TP w' w.heap.size s k) => rule_any hr hk hs (show last ≤ 5 by omega) hll hx)
      have hk2 := hadv.1
      clear hx hll
      by_cases hnz : n = 0
      · skip
        obtain rfl : last = 1 := by rw [← hlast, if_pos hnz]
        subst hnz
        clear hlast
        cases ok with
        | false =>
          rw [if_pos rfl] at h9
          cases h9
          clear HJ hMn hM hadv
          go_wp2_with (first
            | (go_at_call 16; refine HD.out.mono ?_; rintro e w1 ⟨rfl, m, rfl⟩)
            | (go_at_call 17; refine (HU.out _ (HP.out.quiet (below_drewN wr m)).rd).mono ?_; rintro e w2 ⟨⟨r3, A3, n3, c3, A4, n4, c4, rfl, ho⟩, hr, hm⟩; have HP2 := Lib.hid ((HP.out.quiet (below_drewN wr m)).call hr hm); clear ho; clear hr hm))
          have HP3 := Lib.hid (HP2.out.quiet (alloc_below w2 (.cells #[.int .i64 r3, .slice A3 n3 c3, .slice A4 n4 c4] 43)))
          have HX3 := Lib.hid (R3.new 43 w2 (.int .i64 r3) (.slice A3 n3 c3) (.slice A4 n4 c4))
          generalize w2.alloc (.cells #[.int .i64 r3, .slice A3 n3 c3, .slice A4 n4 c4] 43) = w3 at HP3 HX3 ⊢
          have c1 := HP3.out.rd.c1
          go_quiet (fail)
          go_wp2
          go_ret3
          exact ⟨⟨_, rfl, RdRs.nil _⟩, (HP3.out.quiet (below_drewN w3 nq)).bel⟩
        | true =>
          rw [if_neg (by simp)] at h9
          have hadv2 := hadv.2 rfl
          have haf := af_le (L := s.data.toList) (k := k2) hk2
          rw [T2.ba_len] at haf
          have HB := Lib.hid (fun w' (hr : RD TP w' w.heap.size s k2) => skip_any hr hk2 hs)
          have HJ2 := Lib.hid (h9)
          clear hadv
          have HL : Hid (M.length + 1 ≤ 1000000) := by show _ ≤ _; rw [HLN.out]; omega
          rw [if_pos (by omega)] at HJ2
          have HML : Hid (ln = 0) := hMn (by omega)
          have HM40 := Lib.hid hM
          have hfI := rule_info
          obtain ⟨i0, hi0, hz0, hz1, hz2⟩ := info_parts hfI
          clear hMn hM HJ h9 hfI
          go_wp2_with (first
            | (go_at_call 16; refine HD.out.mono ?_; rintro e w1 ⟨rfl, m, rfl⟩)
            | (go_at_call 17; refine (HU.out _ (HP.out.quiet (below_drewN wr m)).rd).mono ?_; rintro e w2 ⟨⟨r3, A3, n3, c3, A4, n4, c4, rfl, ho⟩, hr, hm⟩; have HP2 := Lib.hid ((HP.out.quiet (below_drewN wr m)).call hr hm); have HP3 := Lib.hid (HP2.out.quiet (alloc_below w2 (.cells #[.int .i64 r3, .slice A3 n3 c3, .slice A4 n4 c4] 43))); have HO : Hid (r3 = x.rel ∧ T2.OwnI (w.heap.size + 1) (w2.alloc (.cells #[.int .i64 r3, .slice A3 n3 c3, .slice A4 n4 c4] 43)) (.slice A3 n3 c3) x.seq ∧ T2.OwnI (w.heap.size + 1) (w2.alloc (.cells #[.int .i64 r3, .slice A3 n3 c3, .slice A4 n4 c4] 43)) (.slice A4 n4 c4) x.exp) := els_base (ho (by trivial)) (HP.out.quiet (below_drewN wr m)).sz _; clear ho; clear hr hm)
            | (at_builtin; (refine pushR Try.underlying23 hi0 hz0 hz1 hz2 (by decide) rfl (.tmp 38) (.tmp 40) rfl _ (w.heap.size + 1) _ M ⟨r3, .slice A3 n3 c3, .slice A4 n4 c4, x.seq, x.exp⟩ 1 rfl HP3.out.own HO.out.2 (World.size_alloc _ _) rfl (Nat.le_refl _) HP3.out.sz HL.out ?_); intro v4 w4 ho4 hb4; have HP4 := Lib.hid (HP3.out.push hb4 ho4); clear ho4 hb4)
            | (go_at_call 15; refine (HB.out _ HP4.out.rd).mono ?_; rintro e w5 ⟨rfl, hr, hm⟩; have HP5 := Lib.hid (HP4.out.call hr hm); clear hr hm))
          go_roundg f
          case measure => omega
          case rel => exact ⟨_, 0 + 1, af s.data.toList k2, by first | rfl | (congr 1), by omega, haf.2, by omega, by have := HML.out; have := HLN.out; have := HM40.out; rw [List.length_append, List.length_singleton]; omega, fun _ => by have := HML.out; have := HLN.out; rw [List.length_append, List.length_singleton]; omega, by show _ = _; rw [pls_app, show pls [_] = [x] from by simp only [pls, List.map_cons, List.map_nil, MR.pl, HO.out.1]]; exact HJ2.out, HP5.out⟩
      · skip
        obtain rfl : last = 5 := by rw [← hlast, if_neg hnz]
        have hnI : ((n : Int) == 0) = false := by simp; omega
        clear hlast
        cases ok with
        | false =>
          rw [if_pos rfl] at h9
          cases h9
          clear HJ hMn hM hadv
          go_wp2_with (first
            | (go_at_call 16; refine HD.out.mono ?_; rintro e w1 ⟨rfl, m, rfl⟩)
            | (go_at_call 17; refine (HU.out _ (HP.out.quiet (below_drewN wr m)).rd).mono ?_; rintro e w2 ⟨⟨r3, A3, n3, c3, A4, n4, c4, rfl, ho⟩, hr, hm⟩; have HP2 := Lib.hid ((HP.out.quiet (below_drewN wr m)).call hr hm); clear ho; clear hr hm))
          have HP3 := Lib.hid (HP2.out.quiet (alloc_below w2 (.cells #[.int .i64 r3, .slice A3 n3 c3, .slice A4 n4 c4] 43)))
          have HX3 := Lib.hid (R3.new 43 w2 (.int .i64 r3) (.slice A3 n3 c3) (.slice A4 n4 c4))
          generalize w2.alloc (.cells #[.int .i64 r3, .slice A3 n3 c3, .slice A4 n4 c4] 43) = w3 at HP3 HX3 ⊢
          have c1 := HP3.out.rd.c1
          go_quiet (fail)
          go_wp2
          go_ret3
          exact ⟨⟨_, rfl, RdRs.nil _⟩, (HP3.out.quiet (below_drewN w3 nq)).bel⟩
        | true =>
          rw [if_neg (by simp)] at h9
          have hadv2 := hadv.2 rfl
          have haf := af_le (L := s.data.toList) (k := k2) hk2
          rw [T2.ba_len] at haf
          have HB := Lib.hid (fun w' (hr : RD TP w' w.heap.size s k2) => skip_any hr hk2 hs)
          by_cases h40 : n + 1 ≤ 40
          · skip
            have HJ2 := Lib.hid (h9)
            clear hadv
            have HL : Hid (M.length + 1 ≤ 1000000) := by show _ ≤ _; rw [HLN.out]; omega
            rw [if_pos (by omega)] at HJ2
            have HML : Hid (ln = n) := hMn (by omega)
            have HM40 := Lib.hid hM
            have h40I : ((n : Int) + 1 ≤ 40) := by omega
            have hni : (n : Int) ≤ 1000000 := by omega
            have hfI := rule_info
            obtain ⟨i0, hi0, hz0, hz1, hz2⟩ := info_parts hfI
            clear hMn hM HJ h9 hfI
            go_wp2_with (first
              | (go_at_call 16; refine HD.out.mono ?_; rintro e w1 ⟨rfl, m, rfl⟩)
              | (go_at_call 17; refine (HU.out _ (HP.out.quiet (below_drewN wr m)).rd).mono ?_; rintro e w2 ⟨⟨r3, A3, n3, c3, A4, n4, c4, rfl, ho⟩, hr, hm⟩; have HP2 := Lib.hid ((HP.out.quiet (below_drewN wr m)).call hr hm); have HP3 := Lib.hid (HP2.out.quiet (alloc_below w2 (.cells #[.int .i64 r3, .slice A3 n3 c3, .slice A4 n4 c4] 43))); have HO : Hid (r3 = x.rel ∧ T2.OwnI (w.heap.size + 1) (w2.alloc (.cells #[.int .i64 r3, .slice A3 n3 c3, .slice A4 n4 c4] 43)) (.slice A3 n3 c3) x.seq ∧ T2.OwnI (w.heap.size + 1) (w2.alloc (.cells #[.int .i64 r3, .slice A3 n3 c3, .slice A4 n4 c4] 43)) (.slice A4 n4 c4) x.exp) := els_base (ho (by trivial)) (HP.out.quiet (below_drewN wr m)).sz _; clear ho; clear hr hm)
              | (at_builtin; (refine pushR Try.underlying23 hi0 hz0 hz1 hz2 (by decide) rfl (.tmp 38) (.tmp 40) rfl _ (w.heap.size + 1) _ M ⟨r3, .slice A3 n3 c3, .slice A4 n4 c4, x.seq, x.exp⟩ 1 rfl HP3.out.own HO.out.2 (World.size_alloc _ _) rfl (Nat.le_refl _) HP3.out.sz HL.out ?_); intro v4 w4 ho4 hb4; have HP4 := Lib.hid (HP3.out.push hb4 ho4); clear ho4 hb4)
              | (go_at_call 15; refine (HB.out _ HP4.out.rd).mono ?_; rintro e w5 ⟨rfl, hr, hm⟩; have HP5 := Lib.hid (HP4.out.call hr hm); clear hr hm))
            go_roundg f
            case measure => omega
            case rel => exact ⟨_, n + 1, af s.data.toList k2, by first | rfl | (congr 1), by omega, haf.2, by omega, by have := HML.out; have := HLN.out; have := HM40.out; rw [List.length_append, List.length_singleton]; omega, fun _ => by have := HML.out; have := HLN.out; rw [List.length_append, List.length_singleton]; omega, by show _ = _; rw [pls_app, show pls [_] = [x] from by simp only [pls, List.map_cons, List.map_nil, MR.pl, HO.out.1]]; exact HJ2.out, HP5.out⟩
          · skip
            have HJ2 := Lib.hid (h9)
            clear hadv
            rw [if_neg h40] at HJ2
            have HM40 := Lib.hid hM
            have h40I : ¬ ((n : Int) + 1 ≤ 40) := by omega
            have hni : (n : Int) ≤ 1000000 := by omega
            have hfI := rule_info
            obtain ⟨i0, hi0, hz0, hz1, hz2⟩ := info_parts hfI
            clear hMn hM HJ h9 hfI
            go_wp2_with (first
              | (go_at_call 16; refine HD.out.mono ?_; rintro e w1 ⟨rfl, m, rfl⟩)
              | (go_at_call 17; refine (HU.out _ (HP.out.quiet (below_drewN wr m)).rd).mono ?_; rintro e w2 ⟨⟨r3, A3, n3, c3, A4, n4, c4, rfl, ho⟩, hr, hm⟩; have HP2 := Lib.hid ((HP.out.quiet (below_drewN wr m)).call hr hm); have HP3 := Lib.hid (HP2.out.quiet (alloc_below w2 (.cells #[.int .i64 r3, .slice A3 n3 c3, .slice A4 n4 c4] 43))); have HO : Hid (r3 = x.rel ∧ T2.OwnI (w.heap.size + 1) (w2.alloc (.cells #[.int .i64 r3, .slice A3 n3 c3, .slice A4 n4 c4] 43)) (.slice A3 n3 c3) x.seq ∧ T2.OwnI (w.heap.size + 1) (w2.alloc (.cells #[.int .i64 r3, .slice A3 n3 c3, .slice A4 n4 c4] 43)) (.slice A4 n4 c4) x.exp) := els_base (ho (by trivial)) (HP.out.quiet (below_drewN wr m)).sz _; clear ho; clear hr hm)
              | (go_at_call 15; refine (HB.out _ HP3.out.rd).mono ?_; rintro e w5 ⟨rfl, hr, hm⟩; have HP5 := Lib.hid (HP3.out.call hr hm); clear hr hm))
            go_roundg f
            case measure => omega
            case rel => exact ⟨M, n + 1, af s.data.toList k2, by first | rfl | (congr 1), by omega, haf.2, by omega, by have := HLN.out; have := HM40.out; omega, fun h => absurd h h40, HJ2.out, HP5.out⟩
end Go.Proofs.Ytdodlppnjlmnaaa
