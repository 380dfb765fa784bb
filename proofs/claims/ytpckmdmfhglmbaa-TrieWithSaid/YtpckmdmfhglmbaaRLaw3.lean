/-
  THE WALK of the law TrieWith.
-/
import Derived.Test.YtpckmdmfhglmbaaRWith
namespace Go.Proofs.Ytpckmdmfhglmbaa
open Go.RowKit
set_option linter.unusedVariables false
set_option linter.unusedSimpArgs false
theorem with_is {w : World} {p : Nat} {f g : Int → Int} (h : TrieAt w p (rowsF 17412 f)) {c v : Int} (hm : MayP (c, v)) (hg : updF f c v = g) :
    Calls Try.prog 14 #[.pointer (some ⟨p, 0, none⟩), .int .i64 c, .int .i64 v] w fun e w' => ∃ p', e = .returned (.tuple #[.pointer (some ⟨p', 0, none⟩), .int .i64 0]) ∧ TrieAt w' p' (rowsF 17412 g) ∧ Below w.heap.size w w' := by
  obtain ⟨m0, m1, m2, m3⟩ := hm
  simp only [] at m0 m1 m2 m3
  have hc : c = ((64 * (c.toNat / 64) + c.toNat % 64 : Nat) : Int) := by omega
  refine (with_any h hc (by omega) (by omega) ⟨m2, m3⟩).mono fun e w' ⟨p', he, ht, hb⟩ => ⟨p', he, ?_, hb⟩
  rw [setR_rows (by omega) (by omega), ← hc, hg] at ht
  exact ht
theorem get_anyq {w : World} {p : Nat} {f : Int → Int} (h : TrieAt w p (rowsF 17412 f)) {c y : Int} (hc : 0 ≤ c ∧ c ≤ 1114367) (hy : f c = y) (n : Nat) :
    Calls Try.prog 9 #[.pointer (some ⟨p, 0, none⟩), .int .i64 c] (w.drewN n) fun e w' => e = .returned (.int .i64 y) ∧ ∃ m, w' = (w.drewN n).drewN m := get_any (h.drewN n) hc hy
theorem upd_back (f : Int → Int) (c v y : Int) (hy : f c = y) : updF (updF f c v) c y = f := by
  funext x
  unfold updF
  by_cases e : x = c
  · rw [if_pos e, e, hy]
  · rw [if_neg e, if_neg e]
theorem upd_at (f : Int → Int) (c v : Int) : updF f c v c = v := by unfold updF; rw [if_pos rfl]
theorem upd_off (f : Int → Int) (c v x : Int) (h : x ≠ c) : updF f c v x = f x := by unfold updF; rw [if_neg h]
set_option maxHeartbeats 1000000 in
set_option maxRecDepth 100000 in
theorem with_law (A : Option Addr) (cp : Nat) (l : List (Int × Int)) (c v : Int) (w : World) (h : RdP w.heap.size w (.slice A l.length cp) l) (hw : Wide l) (hl : l.length ≤ 20) (hv : -9223372036854775808 ≤ v ∧ v ≤ 9223372036854775807) (hm : ∀ p ∈ l, MayP p) (hu : Uniq l) :
    Calls Try.prog 5 #[.slice A l.length cp, .int .i64 c, .int .i64 v] w fun e w' => e = .returned (.bool true) ∧ Below w.heap.size w w' := by
  have HR := Lib.hid h
  have hl' : (l.length : Int) ≤ 20 := by omega
  obtain ⟨f, hf⟩ := ex_eq (findP l)
  obtain ⟨R, hR⟩ := ex_eq (rowsF 17412 (findP l))
  obtain ⟨nb, hnb⟩ := ex_eq (firsts R).length
  have HM := Lib.hid hm
  have HU := Lib.hid hu
  have HFF := Lib.hid hf
  have hRf : R = rowsF 17412 f := by rw [← hR, hf]
  have HRF := Lib.hid hRf
  have HRE := Lib.hid hR
  have HNB := Lib.hid hnb
  have CM := Lib.hid (fun w => may_any c v w)
  cases hfv : fitB c v with
  | false =>
    have CW := Lib.hid (fun w p => with_bad (w := w) (p := p) hv hfv)
    rw [hfv] at CM
    clear h hw hm hu hf hR hnb hRf hfv hv
    go_enter Try.func5, Try.ntmps5
    go_wp2_with (first
      | (go_at_call 7; (with_reducible refine (build_rows HR.out (by omega) HM.out HU.out HRE.out).mono ?_); rintro e w1 ⟨p, rfl, ht1, hw1⟩)
      | (go_at_call 14; (with_reducible refine (CW.out _ _).mono ?_); rintro e w' ⟨rfl, rfl⟩)
      | (go_at_call 8; (with_reducible refine (CM.out _).mono ?_); rintro e w2 ⟨rfl, hw2⟩)
      | (go_at_call 6; refine (awake_any _).mono ?_; rintro e w9 ⟨rfl, hw9⟩))
    go_ret
    exact ⟨rfl, hw1.trans ((hw2.trans (hw9.mono hw2.size)).mono hw1.size)⟩
  | true =>
    have hmv := (fitB_iff c v).1 hfv
    rw [hfv] at CM
    obtain ⟨y0, hy0⟩ := ex_eq (f c)
    have hyl : findP l c = y0 := by rw [hf]; exact hy0
    have hy0m : MayP (c, y0) := by
      have h1 := findP_range hm c
      rw [hyl] at h1
      exact ⟨hmv.1, hmv.2.1, h1.1, h1.2⟩
    obtain ⟨g, hg⟩ := ex_eq (updF f c v)
    have HG := Lib.hid hg
    have HMV := Lib.hid hmv
    have HY := Lib.hid hy0
    have HYL := Lib.hid hyl
    have HYM := Lib.hid hy0m
    have HGC : Hid (g c = v) := by show _ = _; rw [← hg]; exact upd_at f c v
    have HGB : Hid (updF g c y0 = f) := by show _ = _; rw [← hg]; exact upd_back f c v y0 hy0
    have HCR : Hid (0 ≤ c ∧ c ≤ 1114367) := ⟨hmv.1, hmv.2.1⟩
    clear h hw hm hu hf hR hnb hRf hfv hv hmv hy0 hyl hy0m hg
    go_enter Try.func5, Try.ntmps5
    go_wp2_with (first
      | (go_at_call 7; (with_reducible refine (build_rows HR.out (by omega) HM.out HU.out HRE.out).mono ?_); rintro e w1 ⟨p, rfl, ht1, hw1⟩; rw [HRF.out] at ht1)
      | (go_at_call 14; (with_reducible refine (with_is ht1 HMV.out HG.out).mono ?_); rintro e w2 ⟨p2, rfl, ht2, hw2⟩)
      | (go_at_call 8; (with_reducible refine (CM.out _).mono ?_); rintro e w3 ⟨rfl, hw3⟩; have HT1 := Lib.hid ((ht1.below hw2 (Nat.le_refl _)).below hw3 (Nat.le_refl _)); have HT2 := Lib.hid (ht2.below hw3 (Nat.le_refl _)); have HW3 := Lib.hid (hw1.trans ((hw2.trans (hw3.mono hw2.size)).mono hw1.size)); clear ht1 ht2 hw1 hw2 hw3; have HR3 := Lib.hid (HR.out.below HW3.out))
      | (go_at_call 9; (with_reducible refine (get_any HT2.out HCR.out HGC.out).mono ?_); rintro e w' ⟨rfl, n1, rfl⟩)
      | (go_at_call 9; (with_reducible refine (get_any (HT1.out.drewN _) HCR.out HY.out).mono ?_); rintro e w' ⟨rfl, n2, rfl⟩)
      | (go_at_call 10; (with_reducible refine (find_q HR3.out (by omega) HYL.out _).mono ?_); rintro e w' ⟨rfl, rfl⟩))
    go_loopw [11] (fun i wr => ∃ (k : Nat), k ≤ l.length ∧ i = .int .i64 (k : Nat) ∧ Hid (∃ n, wr = w3.drewN n)) (fun i _ => l.length - (intOf i).toNat)
    case atStart => exact ⟨0, Nat.zero_le _, rfl, _, rfl⟩
    case round =>
      obtain ⟨k, hk, rfl, HN⟩ := hrel
      obtain ⟨n, hn⟩ := HN.out
      have hR3 : RdP w.heap.size wr (.slice A l.length cp) l := by rw [hn]; exact HR3.out.below (below_drewN (Below.refl _ _) n)
      have HT1W : Hid (TrieAt wr p (rowsF 17412 f)) := by show TrieAt _ _ _; rw [hn]; exact HT1.out.drewN n
      have HT2W : Hid (TrieAt wr p2 (rowsF 17412 g)) := by show TrieAt _ _ _; rw [hn]; exact HT2.out.drewN n
      by_cases hlt : k < l.length
      · obtain ⟨q, hq⟩ : ∃ q, l[k]? = some q := ⟨_, List.getElem?_eq_getElem hlt⟩
        obtain ⟨gg, o, rfl, c0, c1⟩ := hR3.at hq
        have hqm := List.mem_of_getElem? hq
        have hfv := findP_of HU.out hqm
        have hmq := HM.out q hqm
        obtain ⟨x, hx⟩ : ∃ x : Int, q.1 = x := ⟨_, rfl⟩
        obtain ⟨y, hy⟩ : ∃ y : Int, q.2 = y := ⟨_, rfl⟩
        rw [hx, HFF.out] at hfv
        rw [hx] at c0
        rw [hy] at c1 hfv
        have hxr : 0 ≤ x ∧ x ≤ 1114367 := by have := hmq.1; have := hmq.2.1; omega
        have CG1 := Lib.hid (fun n => get_anyq HT1W.out hxr hfv n)
        have n1' : (y != y) = false := by simp
        have hkI : (k : Int) < (l.length : Int) := by omega
        have hk0 : (0 : Int) ≤ (k : Int) := by omega
        by_cases hxc : x = c
        · have hne' : (x != c) = false := by simpa using hxc
          have CG2 := CG1
          clear hq hqm hfv hmq hx hy hR3 hn hxc hxr
          go_wp2
          go_quiet ((first
            | (go_at_call 9; with_reducible exact Calls.quiet_of (CG1.out _))
            | (go_at_call 9; with_reducible exact Calls.quiet_of (CG2.out _))))
          clear hne'
          go_wp2
          go_roundw
          case rel => exact ⟨k + 1, by omega, by go_num, by obtain ⟨n4, h4⟩ := HN.out; exact ⟨_, by rw [h4]; exact World.drewN_drewN _ _ _⟩⟩
          case measure => simp [intOf]; omega
        · have hne' : (x != c) = true := by simpa using hxc
          have hgy : g x = y := by rw [← HG.out, upd_off f c v x hxc]; exact hfv
          have CG2 := Lib.hid (fun n => get_anyq HT2W.out hxr hgy n)
          clear hq hqm hfv hmq hx hy hR3 hn hxc hxr hgy
          go_wp2
          go_quiet ((first
            | (go_at_call 9; with_reducible exact Calls.quiet_of (CG1.out _))
            | (go_at_call 9; with_reducible exact Calls.quiet_of (CG2.out _))))
          clear hne'
          go_wp2
          go_roundw
          case rel => exact ⟨k + 1, by omega, by go_num, by obtain ⟨n4, h4⟩ := HN.out; exact ⟨_, by rw [h4]; exact World.drewN_drewN _ _ _⟩⟩
          case measure => simp [intOf]; omega
      · have hkl : k = l.length := by omega
        subst hkl
        have HR4 := Lib.hid hR3
        have HWW : Hid (Below w.heap.size w wr) := by show Below _ _ _; rw [hn]; exact below_drewN HW3.out n
        have HNB2 : Hid ((firsts (rowsF 17412 f)).length = nb) := by show _ = _; rw [← HRF.out]; exact HNB.out
        clear hlt hR3 hn
        go_wp2_with (first
          | (go_at_call 10; (with_reducible refine (find_any HR4.out (by omega) c).mono ?_); rintro e w' ⟨rfl, rfl⟩; rw [HYL.out])
          | (go_at_call 14; (with_reducible refine (with_is HT2W.out HYM.out HGB.out).mono ?_); rintro e w5 ⟨p5, rfl, ht5, hw5⟩; have HT5 := Lib.hid ht5; have HW5 := Lib.hid hw5; clear ht5 hw5)
          | (go_at_call 11; (with_reducible refine (blocks_is HT5.out HNB2.out).mono ?_); rintro e w' ⟨rfl, rfl⟩)
          | (go_at_call 11; (with_reducible refine (blocks_is (HT1W.out.below HW5.out (Nat.le_refl _)) HNB2.out).mono ?_); rintro e w' ⟨rfl, rfl⟩)
          | (go_at_call 6; refine (awake_any _).mono ?_; rintro e w9 ⟨rfl, hw9⟩))
        go_ret
        exact ⟨rfl, HWW.out.trans ((HW5.out.trans (hw9.mono HW5.out.size)).mono HWW.out.size)⟩
theorem trieWith_walk (v : Value) (l : List (Int × Int)) (c x : Int) (w : World) (h : RdP w.heap.size w v l) (hw : Wide l) (hlm : l.length ≤ maxLen) (hc : -9223372036854775808 ≤ c ∧ c ≤ 9223372036854775807) (hx : -9223372036854775808 ≤ x ∧ x ≤ 9223372036854775807) :
    Calls Try.prog 5 #[v, .int .i64 c, .int .i64 x] w fun e w' => e = .returned (.bool true) ∧ Below w.heap.size w w' := by
  obtain ⟨A, cp, rfl⟩ := h.form
  by_cases hl : l.length ≤ 20
  · by_cases hgood : (∀ p ∈ l, MayP p) ∧ Uniq l
    · exact with_law A cp l c x w h hw hl hx hgood.1 hgood.2
    · have HR := Lib.hid h
      have HWI := Lib.hid hw
      have HNG := Lib.hid hgood
      have hl' : (l.length : Int) ≤ 20 := by omega
      clear h hw hgood hlm hc hx
      go_enter Try.func5, Try.ntmps5
      go_wp2_with (first
        | (go_at_call 7; (with_reducible refine (build_bad HR.out (by omega) HWI.out HNG.out).mono ?_); rintro e w1 ⟨E, rfl, hE, hw1⟩; have hE1 : (E != 0) = true := by simpa using hE)
        | (go_at_call 6; refine (awake_any _).mono ?_; rintro e w9 ⟨rfl, hw9⟩))
      go_ret
      exact ⟨rfl, hw1.trans (hw9.mono hw1.size)⟩
  · have hltI : (20 : Int) < (l.length : Int) := by omega
    have hlt : 20 < l.length := by omega
    clear hl hlm h hw hc hx
    go_enter Try.func5, Try.ntmps5
    go_wp2_with (go_at_call 6; refine (awake_any _).mono ?_; rintro e w' ⟨rfl, hb⟩)
    go_ret
    exact ⟨rfl, hb⟩
end Go.Proofs.Ytpckmdmfhglmbaa
