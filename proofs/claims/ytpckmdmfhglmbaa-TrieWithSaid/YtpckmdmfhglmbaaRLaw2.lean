/-
  THE WALK of the law TriePairs.
-/
import Derived.Test.YtpckmdmfhglmbaaRPairs
namespace Go.Proofs.Ytpckmdmfhglmbaa
open Go.RowKit
set_option linter.unusedVariables false
set_option linter.unusedSimpArgs false
theorem ex_eq {α : Type} (a : α) : ∃ b, a = b := ⟨a, rfl⟩
/-- All pairs that a trie of the blocks R tells. -/
def pairsR (R : List (List Int)) : List (Int × Int) := pairsN (atR R) 1114368
def IsPairs (R : List (List Int)) (P : List (Int × Int)) : Prop := pairsR R = P
theorem pairs_facts {l : List (Int × Int)} (hu : Uniq l) (hm : ∀ p ∈ l, MayP p) {R : List (List Int)} (hR : rowsF 17412 (findP l) = R) {P : List (Int × Int)} (hP : pairsR R = P) :
    P.length = (l.filter fun p => p.2 != 0).length ∧ (∀ q ∈ P, q.2 ≠ 0 ∧ findP l q.1 = q.2 ∧ MayP q) ∧ Strict P ∧ rowsF 17412 (findP P) = R := by
  unfold pairsR at hP
  have hat : ∀ c : Nat, c < 1114368 → atR R c = findP l (c : Int) := fun c hc => by rw [← hR]; exact atR_rowsF _ _ _ (by omega)
  refine ⟨by rw [← hP]; exact pairsN_len hu hm (Nat.le_refl _) hat, fun q hq => ?_, by rw [← hP]; exact pairsN_sorted _ _, ?_⟩
  · rw [← hP] at hq
    obtain ⟨c, h1, h2, rfl⟩ := pairsN_mem.1 hq
    have h3 := hat c h1
    have h4 := findP_range hm (c : Int)
    refine ⟨h2, h3.symm, ?_⟩
    unfold MayP
    simp only []
    rw [h3]
    omega
  · rw [← hR]
    unfold rowsF
    refine List.map_congr_left fun i hi => rowF_congr fun j hj => ?_
    have hi' : i < 17412 := by simpa using hi
    rw [← hP, pairsN_find, if_pos (by omega), hat _ (by omega)]
theorem build_rows {w : World} {v : Value} {l : List (Int × Int)} (h : RdP w.heap.size w v l) (hl : l.length ≤ 1000) (hm : ∀ p ∈ l, MayP p) (hu : Uniq l) {R : List (List Int)} (hR : rowsF 17412 (findP l) = R) :
    Calls Try.prog 7 #[v] w fun e w' => ∃ p, e = .returned (.tuple #[.pointer (some ⟨p, 0, none⟩), .int .i64 0]) ∧ TrieAt w' p R ∧ Below w.heap.size w w' := by
  refine (build_any h (by omega) (fun p hp => by have := hm p hp; unfold MayP at this; omega)).mono fun e w' hp => ?_
  obtain ⟨hb, h1 | h1 | h1⟩ := hp
  · exact absurd hm h1.1
  · exact absurd hu h1.2.1
  · obtain ⟨_, _, p, he, ht⟩ := h1
    exact ⟨p, he, by rw [← hR]; exact ht, hb⟩
theorem build_bad {w : World} {v : Value} {l : List (Int × Int)} (h : RdP w.heap.size w v l) (hl : l.length ≤ 1000) (hw : Wide l) (hn : ¬ ((∀ p ∈ l, MayP p) ∧ Uniq l)) :
    Calls Try.prog 7 #[v] w fun e w' => ∃ E : Int, e = .returned (.tuple #[.pointer none, .int .i64 E]) ∧ E ≠ 0 ∧ Below w.heap.size w w' := by
  refine (build_any h (by omega) hw).mono fun e w' hp => ?_
  obtain ⟨hb, h1 | h1 | h1⟩ := hp
  · exact ⟨1, h1.2, by decide, hb⟩
  · exact ⟨64, h1.2.2, by decide, hb⟩
  · exact absurd ⟨h1.1, h1.2.1⟩ hn
theorem pairs_is {w : World} {p : Nat} {R : List (List Int)} {P : List (Int × Int)} (h : TrieAt w p R) (hP : IsPairs R P) :
    Calls Try.prog 13 #[.pointer (some ⟨p, 0, none⟩)] w fun e w' => (∃ A c, e = .returned (.slice A P.length c) ∧ RdP w'.heap.size w' (.slice A P.length c) P) ∧ Below w.heap.size w w' := by
  rw [← show pairsR R = P from hP]
  unfold pairsR
  refine (pairs_any h).mono fun e w' ⟨⟨v, he, ho⟩, hb⟩ => ⟨?_, hb⟩
  have hr := ho.rd
  obtain ⟨A, c, rfl⟩ := hr.form
  exact ⟨A, c, he, hr⟩
set_option maxHeartbeats 1000000 in
set_option maxRecDepth 100000 in
theorem triePairs_walk (v : Value) (l : List (Int × Int)) (w : World) (h : RdP w.heap.size w v l) (hw : Wide l) (hlm : l.length ≤ maxLen) :
    Calls Try.prog 4 #[v] w fun e w' => e = .returned (.bool true) ∧ Below w.heap.size w w' := by
  obtain ⟨A, cp, rfl⟩ := h.form
  have HR := Lib.hid h
  have HWI := Lib.hid hw
  clear h hw
  by_cases hl : l.length ≤ 40
  · have hl' : (l.length : Int) ≤ 40 := by omega
    clear hlm
    by_cases hgood : (∀ p ∈ l, MayP p) ∧ Uniq l
    · obtain ⟨hm, hu⟩ := hgood
      obtain ⟨R, hR⟩ := ex_eq (rowsF 17412 (findP l))
      obtain ⟨P, hP⟩ := ex_eq (pairsR R)
      obtain ⟨nb, hnb⟩ : ∃ n, (firsts R).length = n := ⟨_, rfl⟩
      obtain ⟨f1, f2, f3, f4⟩ := pairs_facts hu hm hR hP
      have hPl : P.length ≤ 40 := by rw [f1]; exact Nat.le_trans (List.length_filter_le _ _) hl
      have hPI : (P.length : Int) ≤ 40 := by omega
      have HF1 := Lib.hid f1
      have HF2 := Lib.hid f2
      have HF3 := Lib.hid f3
      have HF4 := Lib.hid f4
      have HM := Lib.hid hm
      have HU := Lib.hid hu
      have HRE := Lib.hid hR
      have HPE := Lib.hid (fun (w : World) (p : Nat) (h : TrieAt w p R) => pairs_is h (show IsPairs R P from hP))
      have HNB := Lib.hid hnb
      have HPM : Hid (∀ p ∈ P, MayP p) := fun p hp => (f2 p hp).2.2
      clear f1 f2 f3 f4 hm hu hR hP hnb
      go_enter Try.func4, Try.ntmps4
      go_wp2_with (first
        | (go_at_call 7; (with_reducible refine (build_rows HR.out (by omega) HM.out HU.out HRE.out).mono ?_); rintro e w1 ⟨p, rfl, ht1, hw1⟩)
        | (go_at_call 13; (with_reducible refine (HPE.out _ _ ht1).mono ?_); rintro e w2 ⟨⟨A2, c2, rfl, hp2⟩, hw2⟩))
      have hbt : Below w.heap.size w w2 := hw1.trans (hw2.mono hw1.size)
      have HT2 := Lib.hid (ht1.below hw2 (Nat.le_refl _))
      have HP2 := Lib.hid hp2
      have HBT := Lib.hid hbt
      have HR2 := Lib.hid (HR.out.below hbt)
      clear ht1 hw1 hw2 hp2 hbt
      go_loop [6, 7] (fun s i => ∃ k : Nat, k ≤ l.length ∧ i = .int .i64 (k : Nat) ∧ s = .int .i64 ((((l.take k).filter fun p => p.2 != 0).length : Nat) : Int)) (fun _ i => l.length - (intOf i).toNat)
      case atStart => exact ⟨0, Nat.zero_le _, rfl, rfl⟩
      case round =>
        obtain ⟨k, hk, rfl, rfl⟩ := hrel
        have hcl : ((l.take k).filter fun p => p.2 != 0).length ≤ 40 := Nat.le_trans (List.length_filter_le _ _) (by rw [List.length_take]; omega)
        by_cases hlt : k < l.length
        · obtain ⟨q, hq⟩ : ∃ q, l[k]? = some q := ⟨_, List.getElem?_eq_getElem hlt⟩
          obtain ⟨g, o, rfl, -, c1⟩ := HR2.out.at hq
          have htk := take_snoc hq
          obtain ⟨y, hy⟩ : ∃ y : Int, q.2 = y := ⟨_, rfl⟩
          rw [hy] at c1
          have hkI : (k : Int) < (l.length : Int) := by omega
          have hclI : ((((l.take k).filter fun p => p.2 != 0).length : Nat) : Int) ≤ 40 := by omega
          have hnx : ((l.take (k + 1)).filter fun p => p.2 != 0).length = ((l.take k).filter fun p => p.2 != 0).length + if y = 0 then 0 else 1 := by
            rw [htk, List.filter_append, List.length_append]
            congr 1
            by_cases e : y = 0
            · rw [if_pos e]; simp [hy, e]
            · rw [if_neg e]; simp [hy, e]
          obtain ⟨n0, hn0⟩ : ∃ n, ((l.take k).filter fun p => p.2 != 0).length = n := ⟨_, rfl⟩
          rw [hn0] at hnx hclI ⊢
          by_cases e : y = 0
          · have e' : (y != 0) = false := by simpa using e
            rw [if_pos e] at hnx
            have HNX := Lib.hid hnx
            clear hq htk hy hnx e hn0 hcl
            go_wp2
            clear e'
            go_round
            case rel => exact ⟨k + 1, by omega, by go_num, by rw [HNX.out]; rfl⟩
            case measure => simp [intOf]; omega
          · have e' : (y != 0) = true := by simpa using e
            rw [if_neg e] at hnx
            have HNX := Lib.hid hnx
            clear hq htk hy hnx e hn0 hcl
            go_wp2
            clear e'
            go_round
            case rel => exact ⟨k + 1, by omega, by go_num, by rw [HNX.out]; go_num⟩
            case measure => simp [intOf]; omega
        · have hkl : k = l.length := by omega
          subst hkl
          have hn : ((l.take l.length).filter fun p => p.2 != 0).length = P.length := by rw [List.take_length, HF1.out]
          rw [hn]
          clear hlt hn hcl
          go_wp2
          go_loopw [8] (fun i wr => ∃ k : Nat, k ≤ P.length ∧ i = .int .i64 (k : Nat) ∧ Hid (∃ n, wr = w2.drewN n)) (fun i _ => P.length - (intOf i).toNat)
          case atStart => exact ⟨0, Nat.zero_le _, rfl, 0, rfl⟩
          case round =>
            obtain ⟨k, hk, rfl, HN⟩ := hrel
            obtain ⟨n, hn⟩ := HN.out
            have hR3 : RdP w.heap.size wr (.slice A l.length cp) l := by rw [hn]; exact HR2.out.below (below_drewN (Below.refl _ _) n)
            have hP3 : RdP wr.heap.size wr (.slice A2 P.length c2) P := by rw [hn]; exact rd_drewN HP2.out n
            have HR3 := Lib.hid hR3
            have HP3 := Lib.hid hP3
            by_cases hlt : k < P.length
            · obtain ⟨q, hq⟩ : ∃ q, P[k]? = some q := ⟨_, List.getElem?_eq_getElem hlt⟩
              obtain ⟨g, o, rfl, c0, c1⟩ := hP3.at hq
              obtain ⟨z0, z1, -⟩ := HF2.out q (List.mem_of_getElem? hq)
              obtain ⟨x, hx⟩ : ∃ x : Int, q.1 = x := ⟨_, rfl⟩
              obtain ⟨y, hy⟩ : ∃ y : Int, q.2 = y := ⟨_, rfl⟩
              rw [hx] at c0
              rw [hy] at c1
              rw [hx, hy] at z1
              rw [hy] at z0
              have z0' : (y == 0) = false := by simpa using z0
              have n1 : (y != y) = false := by simp
              have CF := Lib.hid (fun n => find_q HR3.out (by omega) z1 n)
              have hkI : (k : Int) < (P.length : Int) := by omega
              have hk0 : (0 : Int) ≤ (k : Int) := by omega
              cases k with
              | zero =>
                simp only [Nat.zero_mul, Nat.add_zero] at c0 c1
                clear hq hx z0 z1 hR3 hP3 hn
                go_wp2
                go_quiet ((go_at_call 10; with_reducible exact Calls.quiet_of_same (CF.out _)))
                clear z0'
                go_wp2
                go_roundw
                case rel => exact ⟨1, by omega, rfl, by obtain ⟨n4, h4⟩ := HN.out; exact ⟨_, by rw [h4]; exact World.drewN_drewN _ _ _⟩⟩
                case measure => simp [intOf]; omega
              | succ k =>
                obtain ⟨q', hq'⟩ : ∃ q, P[k]? = some q := ⟨_, List.getElem?_eq_getElem (by omega)⟩
                obtain ⟨g', o', e, d0, -⟩ := hP3.at hq'
                cases e
                have hst : q'.1 < x := by
                  rw [← hx]
                  have h1 := List.pairwise_iff_getElem.1 HF3.out k (k + 1) (by omega) (by omega) (by omega)
                  rw [List.getElem?_eq_getElem (by omega)] at hq hq'
                  rw [Option.some.inj hq, Option.some.inj hq'] at h1
                  exact h1
                obtain ⟨x', hx'⟩ : ∃ x : Int, q'.1 = x := ⟨_, rfl⟩
                rw [hx'] at d0 hst
                have hle : decide (x ≤ x') = false := by simp; omega
                have hkk : (0 : Int) < ((k + 1 : Nat) : Int) := by omega
                have r1 : IntKind.i64.wrap ((k : Int) + 1 - 1) = (k : Int) := by rw [show (k : Int) + 1 - 1 = k by omega]; exact IntWalk.i64_in _ (by omega)
                have r2 : (0 : Int) ≤ (k : Int) := by omega
                have r3 : (k : Int) < (P.length : Int) := by omega
                have r4 : (0 : Int) ≤ (k : Int) + 1 := by omega
                have r5 : (k : Int) + 1 < (P.length : Int) := by omega
                have r6 : ((k : Int) + 1).toNat = k + 1 := by omega
                have r7 : decide ((k : Int) + 1 > 0) = true := decide_eq_true (by omega)
                clear hq hx z0 z1 hR3 hP3 hn hq' hx' hst
                go_wp2
                go_quiet ((go_at_call 10; with_reducible exact Calls.quiet_of_same (CF.out _)))
                clear r1 r6 r7 z0' hle
                go_wp2
                go_roundw
                case rel => exact ⟨k + 1 + 1, by omega, by go_num, by obtain ⟨n4, h4⟩ := HN.out; exact ⟨_, by rw [h4]; exact World.drewN_drewN _ _ _⟩⟩
                case measure => simp [intOf]; omega
            · have hkl : k = P.length := by omega
              subst hkl
              have HT3 : Hid (TrieAt wr p R) := by show TrieAt _ _ _; rw [hn]; exact HT2.out.drewN n
              have HB3 : Hid (Below w.heap.size w wr) := by show Below _ _ _; rw [hn]; exact below_drewN HBT.out n
              clear hlt hn hR3 hP3
              go_wp2_with (first
                | (go_at_call 7; (with_reducible refine (build_rows HP3.out (by omega) HPM.out HF3.out.uniq HF4.out).mono ?_); rintro e w5 ⟨p5, rfl, ht5, hw5⟩; have HT5 := Lib.hid ht5; have HW5 := Lib.hid hw5; clear ht5 hw5)
                | (go_at_call 11; (with_reducible refine (blocks_is HT5.out HNB.out).mono ?_); rintro e w' ⟨rfl, rfl⟩)
                | (go_at_call 11; (with_reducible refine (blocks_is (HT3.out.below HW5.out (Nat.le_refl _)) HNB.out).mono ?_); rintro e w' ⟨rfl, rfl⟩)
                | (go_at_call 13; (with_reducible refine (HPE.out _ _ HT5.out).mono ?_); rintro e w6 ⟨⟨A6, c6, rfl, hp6⟩, hw6⟩; have HW6 := Lib.hid hw6; clear hp6 hw6)
                | (go_at_call 6; refine (awake_any _).mono ?_; rintro e w9 ⟨rfl, hw9⟩))
              go_ret
              exact ⟨rfl, HB3.out.trans ((HW5.out.trans ((HW6.out.trans (hw9.mono HW6.out.size)).mono HW5.out.size)).mono HB3.out.size)⟩
    · have hng : ¬ ((∀ p ∈ l, MayP p) ∧ Uniq l) := hgood
      have HNG := Lib.hid hng
      clear hng hgood
      go_enter Try.func4, Try.ntmps4
      go_wp2_with (first
        | (go_at_call 7; (with_reducible refine (build_bad HR.out (by omega) HWI.out HNG.out).mono ?_); rintro e w1 ⟨E, rfl, hE, hw1⟩; have hE1 : (E != 0) = true := by simpa using hE)
        | (go_at_call 6; refine (awake_any _).mono ?_; rintro e w9 ⟨rfl, hw9⟩))
      go_ret
      exact ⟨rfl, hw1.trans (hw9.mono hw1.size)⟩
  · have hlt : 40 < l.length := by omega
    have hltI : (40 : Int) < (l.length : Int) := by omega
    clear hl hlm
    go_enter Try.func4, Try.ntmps4
    go_wp2_with (go_at_call 6; refine (awake_any _).mono ?_; rintro e w' ⟨rfl, hb⟩)
    go_ret
    exact ⟨rfl, hb⟩
end Go.Proofs.Ytpckmdmfhglmbaa
