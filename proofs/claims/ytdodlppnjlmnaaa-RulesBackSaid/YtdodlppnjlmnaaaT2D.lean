/-
  CARRIED by carry.py out of the templates of an earlier stage: XTRSign XTSigs XTSame.
-/
import Derived.Test.YtdodlppnjlmnaaaT2B
import Derived.Deep.QuietTactic
import Derived.BigQuiet
import Derived.Test.YtdodlppnjlmnaaaT2C
import Derived.Lib.Strings
namespace Go.Proofs.Ytdodlppnjlmnaaa.T2
open Go.RowKit
set_option linter.unusedVariables false
set_option linter.unusedSimpArgs false
theorem rtail_at {l : List UInt8} (k : Nat) (w : World) : Calls Try.prog 46 #[.int .u8 (gb l k)] w fun e w' => e = .returned (.bool (isT (gb l k))) ∧ w = w' := rtail_any _ w (gb_lt _ _)
theorem drewN_below (B : Nat) (w : World) (n : Nat) : Below B w (w.drewN n) := ⟨rfl, rfl, rfl, Nat.le_refl _, fun _ _ => rfl⟩
set_option maxRecDepth 200000 in
theorem rsign_1 (s : ByteArray) (w : World) (h0 : 0 < s.size) (hs : s.size ≤ maxLen) (hx : gb s.data.toList 0 < 224 ∨ 244 < gb s.data.toList 0) :
    Calls Try.prog 32 #[.string s] w fun e w' => e = .returned (.tuple #[.int .i64 (dec s.data.toList).1, .int .i64 (dec s.data.toList).2]) ∧ Below w.heap.size w w' := by
  obtain ⟨l, hl⟩ : ∃ l, s.data.toList = l := ⟨_, rfl⟩
  have HG : ∀ (k : Nat) (h : k < s.size), (s[k]'h).toNat = gb l k := fun k h => by rw [← hl]; exact (gb_ba s h).symm
  have hll : l.length = s.size := by rw [← hl, ba_len]
  rw [hl] at hx ⊢
  clear hl
  have hl : 0 < l.length := by omega
  have b0 := gb_lt l 0
  have b1 := gb_lt l 1
  have DC := Lib.hid (dec_cases (l := l) (by intro e; subst e; simp at hl))
  obtain ⟨D, hD⟩ : ∃ D, dec l = D := ⟨_, rfl⟩
  rw [hD] at DC ⊢
  clear hD hl
  go_enter Try.func32, Try.ntmps32
  go_wp2_with (go_at_call 46; refine (rtail_at _ _).mono ?_; rintro e w' ⟨rfl, rfl⟩)
  all_goals go_ret2
  all_goals (have dc := DC.out; clear DC)
  all_goals refine ⟨?_, Below.refl _ _⟩
  all_goals (simp only [is2_iff, is3_iff, is4_iff, Bool.eq_false_iff, ne_eq, isT_iff, v2_eq] at *)
  all_goals (rcases dc with ⟨h, e⟩ | ⟨h, e⟩ | ⟨h, e⟩ | ⟨h, e⟩ | ⟨h, g2, g3, g4, e⟩ <;> rw [e] <;> clear e <;> first | omega | (refine two_of ?_ ?_ <;> simp only [wrap64] <;> omega))
set_option maxRecDepth 200000 in
theorem rsign_3 (s : ByteArray) (w : World) (h0 : 0 < s.size) (hs : s.size ≤ maxLen) (hx : 224 ≤ gb s.data.toList 0 ∧ gb s.data.toList 0 ≤ 239) :
    Calls Try.prog 32 #[.string s] w fun e w' => e = .returned (.tuple #[.int .i64 (dec s.data.toList).1, .int .i64 (dec s.data.toList).2]) ∧ Below w.heap.size w w' := by
  obtain ⟨l, hl⟩ : ∃ l, s.data.toList = l := ⟨_, rfl⟩
  have HG : ∀ (k : Nat) (h : k < s.size), (s[k]'h).toNat = gb l k := fun k h => by rw [← hl]; exact (gb_ba s h).symm
  have hll : l.length = s.size := by rw [← hl, ba_len]
  rw [hl] at hx ⊢
  clear hl
  have hl : 0 < l.length := by omega
  have b0 := gb_lt l 0
  have b1 := gb_lt l 1
  have b2 := gb_lt l 2
  have DC := Lib.hid (dec_cases (l := l) (by intro e; subst e; simp at hl))
  obtain ⟨D, hD⟩ : ∃ D, dec l = D := ⟨_, rfl⟩
  rw [hD] at DC ⊢
  clear hD hl
  go_enter Try.func32, Try.ntmps32
  go_wp2_with (go_at_call 46; refine (rtail_at _ _).mono ?_; rintro e w' ⟨rfl, rfl⟩)
  all_goals first
    | (go_ret2; (have dc := DC.out; clear DC); refine ⟨?_, Below.refl _ _⟩
       (simp only [is2_iff, is3_iff, is4_iff, Bool.eq_false_iff, ne_eq, isT_iff] at *)
       (rcases dc with ⟨h, e⟩ | ⟨h, e⟩ | ⟨h, e⟩ | ⟨h, e⟩ | ⟨h, g2, g3, g4, e⟩ <;> rw [e] <;> clear e <;> first | omega | (refine two_of ?_ ?_ <;> simp only [wrap64] <;> omega)))
    | skip
  go_quiet (fail)
  go_wp2
  all_goals go_ret2
  all_goals (have dc := DC.out; clear DC)
  all_goals refine ⟨?_, drewN_below _ _ _⟩
  all_goals (simp only [is2_iff, is3_iff, is4_iff, Bool.eq_false_iff, ne_eq, isT_iff, v3_eq, v4_eq] at *)
  all_goals (rcases dc with ⟨h, e⟩ | ⟨h, e⟩ | ⟨h, e⟩ | ⟨h, e⟩ | ⟨h, g2, g3, g4, e⟩ <;> rw [e] <;> clear e <;> first | omega | (refine two_of ?_ ?_ <;> simp only [wrap64] <;> omega))
set_option maxRecDepth 200000 in
theorem rsign_4 (s : ByteArray) (w : World) (h0 : 0 < s.size) (hs : s.size ≤ maxLen) (hx : 240 ≤ gb s.data.toList 0 ∧ gb s.data.toList 0 ≤ 244) :
    Calls Try.prog 32 #[.string s] w fun e w' => e = .returned (.tuple #[.int .i64 (dec s.data.toList).1, .int .i64 (dec s.data.toList).2]) ∧ Below w.heap.size w w' := by
  obtain ⟨l, hl⟩ : ∃ l, s.data.toList = l := ⟨_, rfl⟩
  have HG : ∀ (k : Nat) (h : k < s.size), (s[k]'h).toNat = gb l k := fun k h => by rw [← hl]; exact (gb_ba s h).symm
  have hll : l.length = s.size := by rw [← hl, ba_len]
  rw [hl] at hx ⊢
  clear hl
  have hl : 0 < l.length := by omega
  have b0 := gb_lt l 0
  have b1 := gb_lt l 1
  have b2 := gb_lt l 2
  have b3 := gb_lt l 3
  have DC := Lib.hid (dec_cases (l := l) (by intro e; subst e; simp at hl))
  obtain ⟨D, hD⟩ : ∃ D, dec l = D := ⟨_, rfl⟩
  rw [hD] at DC ⊢
  clear hD hl
  go_enter Try.func32, Try.ntmps32
  go_wp2_with (go_at_call 46; refine (rtail_at _ _).mono ?_; rintro e w' ⟨rfl, rfl⟩)
  all_goals first
    | (go_ret2; (have dc := DC.out; clear DC); refine ⟨?_, Below.refl _ _⟩
       (simp only [is2_iff, is3_iff, is4_iff, Bool.eq_false_iff, ne_eq, isT_iff] at *)
       (rcases dc with ⟨h, e⟩ | ⟨h, e⟩ | ⟨h, e⟩ | ⟨h, e⟩ | ⟨h, g2, g3, g4, e⟩ <;> rw [e] <;> clear e <;> first | omega | (refine two_of ?_ ?_ <;> simp only [wrap64] <;> omega)))
    | skip
  go_quiet (fail)
  go_wp2
  all_goals go_ret2
  all_goals (have dc := DC.out; clear DC)
  all_goals refine ⟨?_, drewN_below _ _ _⟩
  all_goals (simp only [is2_iff, is3_iff, is4_iff, Bool.eq_false_iff, ne_eq, isT_iff, v3_eq, v4_eq] at *)
  all_goals (rcases dc with ⟨h, e⟩ | ⟨h, e⟩ | ⟨h, e⟩ | ⟨h, e⟩ | ⟨h, g2, g3, g4, e⟩ <;> rw [e] <;> clear e <;> first | omega | (refine two_of ?_ ?_ <;> simp only [wrap64] <;> omega))
theorem rfirst_any (s : ByteArray) (w : World) (h0 : 0 < s.size) (hs : s.size ≤ maxLen) :
    Calls Try.prog 32 #[.string s] w fun e w' => e = .returned (.tuple #[.int .i64 (dec s.data.toList).1, .int .i64 (dec s.data.toList).2]) ∧ Below w.heap.size w w' := by
  by_cases h3 : 224 ≤ gb s.data.toList 0 ∧ gb s.data.toList 0 ≤ 239
  · exact rsign_3 s w h0 hs h3
  · by_cases h4 : 240 ≤ gb s.data.toList 0 ∧ gb s.data.toList 0 ≤ 244
    · exact rsign_4 s w h0 hs h4
    · exact rsign_1 s w h0 hs (by omega)
end Go.Proofs.Ytdodlppnjlmnaaa.T2
namespace Go.Proofs.Ytdodlppnjlmnaaa.T2
open Go.RowKit
set_option linter.unusedVariables false
set_option linter.unusedSimpArgs false
/-- The call hands back a list of numbers that it made itself; what stood below B stands. -/
def GotI (B : Nat) (w : World) (l : List Int) (e : Ending) (w' : World) : Prop := ∃ v, e = .returned v ∧ OwnI B w' v l ∧ Below B w w'
theorem ba_empty (s : ByteArray) : s.toList.isEmpty = s.data.toList.isEmpty := by rw [Lib.toList_data]
theorem ba_pos {s : ByteArray} (h : 0 < s.size) : s.toList.isEmpty = false := by
  rw [ba_empty]; cases hl : s.data.toList with
  | nil => have := ba_len s; rw [hl] at this; simp at this; omega
  | cons _ _ => rfl
theorem ba_zero {s : ByteArray} (h : ¬ 0 < s.size) : s.toList.isEmpty = true := by
  rw [ba_empty]; cases hl : s.data.toList with
  | nil => rfl
  | cons _ _ => have := ba_len s; rw [hl] at this; simp at this; omega
def strLen : Value → Nat | .string s => s.size | _ => 0
theorem take_at {l : List UInt8} {k : Nat} {D : Nat × Nat} (hk : pos k l < l.length) (hD : dec (l.drop (pos k l)) = D) : (sgs l).take k ++ [(D.1 : Int)] = (sgs l).take (k + 1) := by
  have hkl := (pos_len k l).1 hk
  have he : (sgs l)[k] = ((dec (l.drop (pos k l))).1 : Int) := by
    have := sgs_at k l hk
    rw [List.getElem_of_eq this, List.getElem_append_right (by rw [List.length_take]; omega)]
    simp [List.length_take, Nat.min_eq_left (Nat.le_of_lt hkl)]
  rw [List.take_succ_eq_append_getElem hkl, he, hD]
theorem rfirst_at {t : ByteArray} {D : Nat × Nat} (ht : 0 < t.size) (hs : t.size ≤ maxLen) (hD : dec t.data.toList = D) (w : World) :
    Calls Try.prog 32 #[.string t] w fun e w' => e = .returned (.tuple #[.int .i64 D.1, .int .i64 D.2]) ∧ Below w.heap.size w w' := by
  have h := rfirst_any t w ht hs
  rw [hD] at h
  exact h
set_option maxRecDepth 200000 in
theorem signs_any (s : ByteArray) (w : World) (hs : s.size ≤ 1000000) :
    Calls Try.prog 49 #[.string s] w (GotI w.heap.size w (sgs s.data.toList)) := by
  have PN := Lib.hid (fun k => pos_next k s.data.toList)
  have PL := Lib.hid (fun k => pos_len k s.data.toList)
  have PE := Lib.hid (fun k => pos_le k s.data.toList)
  have TA := Lib.hid (fun k D => @take_at s.data.toList k D)
  have SL := Lib.hid (sgs_len s.data.toList)
  obtain ⟨B, hB⟩ : ∃ B, w.heap.size = B := ⟨_, rfl⟩
  have HB := Lib.hid hB
  have CT := Lib.hid (count_any s w (by have : maxLen = 9223372036854775807 := by decide
                                        omega))
  have hm : s.size ≤ 9223372036854775807 := by omega
  have hm' : s.size ≤ maxLen := by have : maxLen = 9223372036854775807 := by decide
                                   omega
  obtain ⟨N, hN⟩ : ∃ N, (sgs s.data.toList).length = N := ⟨_, rfl⟩
  rw [hN] at PL SL CT
  rw [hB]
  simp only [ba_len] at PN PL PE SL TA
  have HN := Lib.hid hN
  clear hB hN
  go_enter Try.func49, Try.ntmps49
  go_wp2_with (first
    | (go_at_call 59; refine CT.out.mono ?_; rintro e w1 ⟨rfl, rfl⟩)
    | (refine makeI rfl _ _ rfl w B N rfl rfl (by have := SL.out; omega) (by have := HB.out; omega) ?_; intro v1 w1 ho1 hb1))
  have HO1 := Lib.hid ho1
  have HW1 := Lib.hid hb1
  clear ho1 hb1
  go_loopw [3, 4] (fun v i wr => ∃ (k p : Nat), i = .int .i64 p ∧ Hid (pos k s.data.toList = p) ∧ Hid (OwnI B wr v ((sgs s.data.toList).take k)) ∧ Hid (Below B w wr)) (fun _ i _ => s.size - (intOf i).toNat)
  case atStart => exact ⟨0, 0, rfl, rfl, HO1.out, HW1.out⟩
  case round =>
    obtain ⟨k, p, rfl, hp, HO, HW⟩ := hrel
    have h1 := PN.out k
    have h3 := PE.out (k + 1)
    have h4 := PE.out k
    have h5 := SL.out
    have h7 := PL.out k
    have hT := TA.out k
    rw [hp.out] at h1 h4 h7 hT
    by_cases hlt : p < s.size
    · have h1' := h1 hlt
      obtain ⟨D, hD⟩ : ∃ D, dec (s.data.toList.drop p) = D := ⟨_, rfl⟩
      have hpos := dec_pos (s.data.toList.drop p)
      have hT' := hT D hlt hD
      rw [hD] at h1' hpos
      have HD := Lib.hid hD
      have H1 := Lib.hid h1'
      have HTT := Lib.hid hT'
      rw [h1'] at h3
      have hkN := h7.1 hlt
      have HBB : Hid (B ≤ wr.heap.size) := by have := HW.out.size; rw [HB.out] at this; exact this
      have HSL : Hid (((sgs s.data.toList).take k).length + 1 ≤ 10000000) := by
        show _ ≤ _
        rw [List.length_take, HN.out]; omega
      clear h1 h1' h7 hD hp hT hT' hkN h5
      go_wp2_with (first
        | (go_at_call 60; refine (first_at hlt hm' HD.out _).mono ?_; rintro e w' ⟨rfl, rfl⟩)
        | (at_builtin; refine pushI rfl (.tmp 21) (.tmp 23) rfl _ B _ _ [(D.1 : Int)] 1 rfl HO.out rfl HBB.out HSL.out ?_; intro v2 w2 ho2 hb2))
      go_roundw
      case rel => exact ⟨k + 1, p + D.2, rfl, H1.out, by rw [← HTT.out]; exact ho2, HW.out.trans hb2⟩
      case measure => simp [intOf]; omega
    · have hT2 : (sgs s.data.toList).take k = sgs s.data.toList := List.take_of_length_le (by rw [HN.out]; have := mt h7.2 hlt; omega)
      have HTT := Lib.hid hT2
      clear h1 h3 h4 h5 h7 hT hT2
      go_wp2
      go_ret
      exact ⟨_, rfl, by rw [← HTT.out]; exact HO.out, HW.out⟩
end Go.Proofs.Ytdodlppnjlmnaaa.T2
namespace Go.Proofs.Ytdodlppnjlmnaaa.T2
open Go.RowKit
set_option linter.unusedVariables false
set_option linter.unusedSimpArgs false
theorem drew_below (B : Nat) (w : World) (n : Nat) : Below B w (w.drewN n) := ⟨rfl, rfl, rfl, Nat.le_refl _, fun _ _ => rfl⟩
theorem iv_at {l : List Int} {j : Nat} (h : j < l.length) : (iv l)[j]? = some (.int .i64 l[j]) := by simp [iv, List.getElem?_eq_getElem h]
theorem Rd.at_ {B : Nat} {w : World} {A : Option Addr} {n c : Nat} {l : List Int} (h : Rd B w (.slice A n c) (iv l)) : n = l.length ∧ ∀ j (hj : j < l.length), ∃ ad, A = some ad ∧ ad.block < B ∧ w.cell? (ad.add j) = some (.int .i64 l[j]) := by
  obtain ⟨A', c', e, h⟩ := h
  cases e
  rw [iv_len] at h ⊢
  refine ⟨rfl, fun j hj => ?_⟩
  obtain ⟨ad, e, hb, hc⟩ := h (by omega)
  exact ⟨ad, e, hb, hc j _ (iv_at hj)⟩
theorem eq_step {a b : List Int} (hn : a.length = b.length) {k : Nat} (hk : k < a.length) (h : a.take k = b.take k) (hx : a[k] = b[k]'(by omega)) : a.take (k + 1) = b.take (k + 1) := by
  rw [List.take_succ_eq_append_getElem hk, List.take_succ_eq_append_getElem (by omega), h, hx]
theorem ne_step {a b : List Int} {k : Nat} (hk : k < a.length) (hk' : k < b.length) (hx : a[k] ≠ b[k]) : (a == b) = false := by
  rw [beq_eq_false_iff_ne]; intro e; subst e; exact hx rfl
set_option maxRecDepth 200000 in
theorem same_any (u v : Value) (a b : List Int) (w : World) (ha : Rd w.heap.size w u (iv a)) (hb : Rd w.heap.size w v (iv b)) (hm : a.length ≤ 10000000) :
    Calls Try.prog 14 #[u, v] w fun e w' => e = .returned (.bool (a == b)) ∧ Below w.heap.size w w' := by
  obtain ⟨A, c, rfl, ha⟩ := ha
  obtain ⟨A', c', rfl, hb⟩ := hb
  rw [iv_len] at ha hb
  rw [iv_len, iv_len]
  by_cases hn : a.length = b.length
  · have HA := Lib.hid ha
    have HB := Lib.hid hb
    have HN := Lib.hid hn
    have hq : ((a.length : Int) != (b.length : Int)) = false := by rw [bne_eq_false_iff_eq]; omega
    clear ha hb hn
    go_enter Try.func14, Try.ntmps14
    go_wp2
    go_loopw [5] (fun i wr => ∃ k : Nat, k ≤ a.length ∧ i = .int .i64 k ∧ Hid (a.take k = b.take k) ∧ ∃ n, wr = w.drewN n) (fun i _ => a.length - (intOf i).toNat)
    case atStart => exact ⟨0, by omega, rfl, rfl, 0, rfl⟩
    case round =>
      obtain ⟨k, hk, rfl, HT, m, rfl⟩ := hrel
      by_cases hlt : k < a.length
      · obtain ⟨ad, rfl, _, hc⟩ := HA.out (by omega)
        obtain ⟨ad', rfl, _, hc'⟩ := HB.out (by have := HN.out; omega)
        have c1 := hc k _ (iv_at hlt)
        have hlt' : k < b.length := by have := HN.out; omega
        have c2 := hc' k _ (iv_at hlt')
        obtain ⟨x, hx⟩ : ∃ x, a[k] = x := ⟨_, rfl⟩
        obtain ⟨y, hy⟩ : ∃ y, b[k] = y := ⟨_, rfl⟩
        rw [hx] at c1
        rw [hy] at c2
        have i1 : (k : Int) < (a.length : Int) := by omega
        have i2 : (k : Int) < (b.length : Int) := by omega
        have HX := Lib.hid hx
        have HY := Lib.hid hy
        clear hx hy hc hc'
        go_wp2
        go_quiet (fail)
        go_wp2
        · have hne : (a == b) = false := ne_step hlt hlt' (by rw [HX.out, HY.out]; simp only [bne_iff_ne] at *; assumption)
          rw [hne]
          go_ret
          exact ⟨rfl, (drew_below _ _ m).trans (drew_below _ _ nq)⟩
        · refine ⟨⟨k + 1, by omega, rfl, ?_, _, rfl⟩, by simp [intOf]; omega⟩
          exact eq_step HN.out hlt HT.out (by rw [HX.out, HY.out]; simp only [bne_eq_false_iff_eq] at *; assumption)
      · go_wp2
        go_ret
        have hkn : k = a.length := by omega
        have hr : a = b := by
          have := HT.out
          rw [List.take_of_length_le (by omega), List.take_of_length_le (by have := HN.out; omega)] at this
          exact this
        rw [hr]
        exact ⟨by simp, drew_below _ _ _⟩
  · have hq : ((a.length : Int) != (b.length : Int)) = true := by rw [bne_iff_ne]; omega
    have hr : (a == b) = false := by rw [beq_eq_false_iff_ne]; intro e; exact hn (by rw [e])
    rw [hr]
    clear ha hb hn
    go_enter Try.func14, Try.ntmps14
    go_wp2
    go_ret
    exact ⟨rfl, Below.refl _ _⟩
set_option maxRecDepth 200000 in
theorem equal_any (u v : Value) (a b : List Int) (w : World) (ha : Rd w.heap.size w u (iv a)) (hb : Rd w.heap.size w v (iv b)) (hm : a.length ≤ 10000000) :
    Calls Try.prog 39 #[u, v] w fun e w' => e = .returned (.bool (a == b)) ∧ Below w.heap.size w w' := by
  obtain ⟨A, c, rfl, ha⟩ := ha
  obtain ⟨A', c', rfl, hb⟩ := hb
  rw [iv_len] at ha hb
  rw [iv_len, iv_len]
  by_cases hn : a.length = b.length
  · have HA := Lib.hid ha
    have HB := Lib.hid hb
    have HN := Lib.hid hn
    have hq : ((a.length : Int) != (b.length : Int)) = false := by rw [bne_eq_false_iff_eq]; omega
    clear ha hb hn
    go_enter Try.func39, Try.ntmps39
    go_wp2
    go_loopw [13] (fun i wr => ∃ k : Nat, k ≤ a.length ∧ i = .int .i64 k ∧ Hid (a.take k = b.take k) ∧ ∃ n, wr = w.drewN n) (fun i _ => a.length - (intOf i).toNat)
    case atStart => exact ⟨0, by omega, rfl, rfl, 0, rfl⟩
    case round =>
      obtain ⟨k, hk, rfl, HT, m, rfl⟩ := hrel
      by_cases hlt : k < a.length
      · obtain ⟨ad, rfl, _, hc⟩ := HA.out (by omega)
        obtain ⟨ad', rfl, _, hc'⟩ := HB.out (by have := HN.out; omega)
        have c1 := hc k _ (iv_at hlt)
        have hlt' : k < b.length := by have := HN.out; omega
        have c2 := hc' k _ (iv_at hlt')
        obtain ⟨x, hx⟩ : ∃ x, a[k] = x := ⟨_, rfl⟩
        obtain ⟨y, hy⟩ : ∃ y, b[k] = y := ⟨_, rfl⟩
        rw [hx] at c1
        rw [hy] at c2
        have i1 : (k : Int) < (a.length : Int) := by omega
        have i2 : (k : Int) < (b.length : Int) := by omega
        have HX := Lib.hid hx
        have HY := Lib.hid hy
        clear hx hy hc hc'
        go_wp2
        go_quiet (fail)
        go_wp2
        · have hne : (a == b) = false := ne_step hlt hlt' (by rw [HX.out, HY.out]; simp only [bne_iff_ne] at *; assumption)
          rw [hne]
          go_ret
          exact ⟨rfl, (drew_below _ _ m).trans (drew_below _ _ nq)⟩
        · refine ⟨⟨k + 1, by omega, rfl, ?_, _, rfl⟩, by simp [intOf]; omega⟩
          exact eq_step HN.out hlt HT.out (by rw [HX.out, HY.out]; simp only [bne_eq_false_iff_eq] at *; assumption)
      · go_wp2
        go_ret
        have hkn : k = a.length := by omega
        have hr : a = b := by
          have := HT.out
          rw [List.take_of_length_le (by omega), List.take_of_length_le (by have := HN.out; omega)] at this
          exact this
        rw [hr]
        exact ⟨by simp, drew_below _ _ _⟩
  · have hq : ((a.length : Int) != (b.length : Int)) = true := by rw [bne_iff_ne]; omega
    have hr : (a == b) = false := by rw [beq_eq_false_iff_ne]; intro e; exact hn (by rw [e])
    rw [hr]
    clear ha hb hn
    go_enter Try.func39, Try.ntmps39
    go_wp2
    go_ret
    exact ⟨rfl, Below.refl _ _⟩
end Go.Proofs.Ytdodlppnjlmnaaa.T2
