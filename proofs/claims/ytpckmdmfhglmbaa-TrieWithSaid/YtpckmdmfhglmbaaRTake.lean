/-
  THE CONTRACT of take: blocks of a trie that stands are laid anew.
-/
import Derived.Test.YtpckmdmfhglmbaaRLaw2
import Derived.Deep.LoopGhost
namespace Go.Proofs.Ytpckmdmfhglmbaa
open Go.RowKit
set_option linter.unusedVariables false
set_option linter.unusedSimpArgs false
/-- A trie that lies below B, in a world that has gone on from there. -/
structure Stood (B : Nat) (w : World) (p : Nat) (r : List (List Int)) : Prop where
  at_ : ∃ w0, TrieAt w0 p r ∧ w0.heap.size ≤ B ∧ Below B w0 w
theorem Stood.trie {B : Nat} {w : World} {p : Nat} {r : List (List Int)} (h : Stood B w p r) : TrieAt w p r := by
  obtain ⟨w0, h1, h2, h3⟩ := h.at_
  exact h1.below h3 h2
theorem Stood.below {B : Nat} {w w' : World} {p : Nat} {r : List (List Int)} (h : Stood B w p r) (hb : Below B w w') : Stood B w' p r := by
  obtain ⟨w0, h1, h2, h3⟩ := h.at_
  exact ⟨w0, h1, h2, h3.trans hb⟩
theorem Stood.mk' {w : World} {p : Nat} {r : List (List Int)} (h : TrieAt w p r) : Stood w.heap.size w p r := ⟨w, h, Nat.le_refl _, Below.refl _ _⟩
/-- The cells of a trie, at every place. -/
theorem TrieAt.rows {w : World} {p : Nat} {r : List (List Int)} (h : TrieAt w p r) :
    ∃ gi ci gk ck m, w.cell? ⟨p, 0, none⟩ = some (.slice (some ⟨gi, 0, none⟩) 17412 ci) ∧ w.cell? ⟨p, 1, none⟩ = some (.slice (some ⟨gk, 0, none⟩) m ck) ∧ m ≤ 17412 ∧
      ∀ i x, r[i]? = some x → ∃ b : Nat, b < m ∧ w.cell? ⟨gi, i, none⟩ = some (.int .u16 (b : Nat)) ∧ w.rangeAt gk (b * 64) (cellsB x) ∧ (firsts r)[b]? = some x := by
  obtain ⟨⟨vi, vb, h1, h2, h3⟩, hg, hl⟩ := h
  obtain ⟨Ai, ci, rfl, -, hA⟩ := own_parts h2
  obtain ⟨Ak, ck, rfl, -, hB⟩ := own_parts h3
  have hlf := firsts_len r
  have h0 : 0 < (firsts r).length := by
    have : ∃ x, r[0]? = some x := ⟨_, List.getElem?_eq_getElem (by omega)⟩
    obtain ⟨x, hx⟩ := this
    exact List.length_pos_of_mem ((mem_firsts r x).2 (List.mem_of_getElem? hx))
  obtain ⟨gi, rfl, -, -, hci⟩ := hA (by rw [ixs_len]; omega)
  obtain ⟨gk, rfl, -, -, hck⟩ := hB h0
  refine ⟨gi, ci, gk, ck, (firsts r).length, ?_, cell_of_row w p 1 _ _ _ h1, by omega, fun i x hi => ?_⟩
  · rw [cell_of_row w p 0 _ _ _ h1, ixs_len, hl]; rfl
  · obtain ⟨k, hk1, hk2, hk3⟩ := ixs_at hi
    have hx := hg x (List.mem_of_getElem? hi)
    refine ⟨k, hk3, hci i _ (by simp [uvals, List.getElem?_map, hk1]), fun j v hv => hck _ _ ?_, hk2⟩
    have hj : j < 64 := by
      have := (List.getElem?_eq_some_iff.1 hv).1
      rw [cellsB_len, hx.1] at this; exact this
    rw [bcells_at (fun y hy => (hg y ((mem_firsts r y).1 hy)).1) hk2 hj]
    exact hv
theorem laid_q {B : Nat} {w : World} {bp : Nat} {r : List (List Int)} {k : Nat} (h : Bld B w bp r) (hk : r.length = k) (n : Nat) :
    Calls Try.prog 28 #[.pointer (some ⟨bp, 0, none⟩)] (w.drewN n) fun e w' => e = .returned (.int .i64 (k : Nat)) ∧ w' = w.drewN n :=
  (laid_is (h.kept (grown_of_below (below_drewN (Below.refl w.heap.size w) n))) hk).mono fun e w' ⟨he, hw⟩ => ⟨he, hw.symm⟩
/-- From m on the blocks of rt, up to e. -/
def tookR (r rt : List (List Int)) (m : Nat) : List (List Int) := r ++ (rt.take m).drop r.length
theorem tookR_start (r rt : List (List Int)) : tookR r rt r.length = r := by
  unfold tookR
  rw [List.drop_of_length_le (by rw [List.length_take]; omega), List.append_nil]
theorem tookR_len {r rt : List (List Int)} {m : Nat} (h1 : r.length ≤ m) (h2 : m ≤ rt.length) : (tookR r rt m).length = m := by
  unfold tookR; simp; omega
theorem tookR_step {r rt : List (List Int)} {m n : Nat} {x : List Int} (h1 : r.length ≤ m) (h2 : m + n ≤ rt.length) (h : ∀ i, m ≤ i → i < m + n → rt[i]? = some x) : tookR r rt m ++ List.replicate n x = tookR r rt (m + n) := by
  unfold tookR
  rw [List.append_assoc]
  congr 1
  apply List.ext_getElem?
  intro i
  have hl : ((rt.take m).drop r.length).length = m - r.length := by simp; omega
  by_cases hi : i < m - r.length
  · rw [List.getElem?_append_left (by rw [hl]; exact hi), List.getElem?_drop, List.getElem?_drop, List.getElem?_take_of_lt (by omega), List.getElem?_take_of_lt (by omega)]
  · rw [List.getElem?_append_right (by rw [hl]; omega), hl, List.getElem?_replicate, List.getElem?_drop]
    by_cases hn : i - (m - r.length) < n
    · rw [if_pos hn, List.getElem?_take_of_lt (by omega), h _ (by omega) (by omega)]
    · rw [if_neg hn, List.getElem?_eq_none (by rw [List.length_take]; omega)]
set_option maxHeartbeats 1000000 in
set_option maxRecDepth 100000 in
theorem take_any {B : Nat} {w : World} {bp p : Nat} {r rt : List (List Int)} (h : Bld B w bp r) (ht : Stood B w p rt) (e : Nat) (h1 : r.length ≤ e) (h2 : e ≤ 17412) :
    Calls Try.prog 23 #[.pointer (some ⟨bp, 0, none⟩), .pointer (some ⟨p, 0, none⟩), .int .i64 (e : Nat)] w fun q w' => q = .returned (.tuple #[]) ∧ Bld B w' bp (tookR r rt e) ∧ Below B w w' := by
  have hrt := ht.trie.len
  have HB := Lib.hid (show Bld B w bp (tookR r rt r.length) by rw [tookR_start]; exact h)
  have HT := Lib.hid ht
  have HL := Lib.hid hrt
  have h2I : (e : Int) ≤ 17412 := by omega
  have hBs : Hid (B ≤ w.heap.size) := by have := h.le; show _ ≤ _; omega
  clear h ht hrt
  go_enter Try.func23, Try.ntmps23
  go_wp2
  go_loopg [7] (e - r.length) (fun g v wr => ∃ m : Nat, r.length ≤ m ∧ m ≤ e ∧ g = e - m ∧ Hid (Bld B wr bp (tookR r rt m)) ∧ Hid (Below B w wr))
  case atStart => exact ⟨r.length, Nat.le_refl _, h1, rfl, HB.out, Below.refl _ _⟩
  case round =>
    obtain ⟨m, hm1, hm2, rfl, HB, HW⟩ := hrel
    have hlen := tookR_len (r := r) (rt := rt) hm1 (by rw [HL.out]; omega)
    by_cases hlt : m < e
    · have hltI : (m : Int) < (e : Int) := by omega
      obtain ⟨gi, ci, gk, ck, mm, c0, c1, hmm, hrows⟩ := (HT.out.below HW.out).trie.rows
      obtain ⟨x, hx⟩ : ∃ x, rt[m]? = some x := ⟨_, List.getElem?_eq_getElem (by rw [HL.out]; omega)⟩
      obtain ⟨b, hb, c2, hrg, hfb⟩ := hrows m x hx
      have CL := Lib.hid (fun w' (hbw : Bld B w' bp (tookR r rt m)) => laid_is hbw hlen)
      have CQ := Lib.hid (fun n => laid_q HB.out hlen n)
      have HROWS := Lib.hid hrows
      have HRG := Lib.hid hrg
      have HFB := Lib.hid hfb
      have HX := Lib.hid hx
      have m0 : (0 : Int) ≤ (m : Int) := by omega
      have m1 : (m : Int) < 17412 := by omega
      have b0 : (0 : Int) ≤ (b : Int) := by omega
      have b1 : (b : Int) < (mm : Int) := by omega
      clear hrows hrg hfb hx hlen
      go_wp2_with (go_at_call 28; (with_reducible refine (CL.out _ HB.out).mono ?_); rintro e1 w' ⟨rfl, rfl⟩)
      go_quiet ((go_at_call 28; with_reducible exact Calls.quiet_of_same (CQ.out _)))
      go_wp2
      obtain ⟨wo, hwo⟩ : ∃ wo : World, wo = wr.drewN nq := ⟨_, rfl⟩
      rw [← hwo]
      have C0 : wo.cell? ⟨p, 0, none⟩ = some (.slice (some ⟨gi, 0, none⟩) 17412 ci) := by rw [hwo]; exact c0
      have C1 : wo.cell? ⟨p, 1, none⟩ = some (.slice (some ⟨gk, 0, none⟩) mm ck) := by rw [hwo]; exact c1
      have HRO : Hid (∀ i x, rt[i]? = some x → ∃ b : Nat, b < mm ∧ wo.cell? ⟨gi, i, none⟩ = some (.int .u16 (b : Nat)) ∧ (firsts rt)[b]? = some x) := fun i x h => by
        obtain ⟨b, h1, h2, _, h4⟩ := HROWS.out i x h
        exact ⟨b, h1, by rw [hwo]; exact h2, h4⟩
      have HRG2 : Hid (wo.rangeAt gk (b * 64) (cellsB x)) := by show World.rangeAt _ _ _ _; rw [hwo]; exact HRG.out
      have HBO : Hid (Bld B wo bp (tookR r rt m)) := by show Bld _ _ _ _; rw [hwo]; exact HB.out.kept (grown_of_below (below_drewN (Below.refl wr.heap.size wr) _))
      have HWO : Hid (Below B w wo) := by show Below _ _ _; rw [hwo]; exact below_drewN HW.out _
      have HC0 := Lib.hid C0
      have HC1 := Lib.hid C1
      clear CQ CL HRG HROWS hwo c0 c1 c2 C0 C1
      have HRG := HRG2
      go_loopw [7] (fun v wr => ∃ n : Nat, 1 ≤ n ∧ m + n ≤ e ∧ v = .int .i64 (n : Nat) ∧ Hid (∀ i, m ≤ i → i < m + n → rt[i]? = some x) ∧ Hid (∃ q, wr = wo.drewN q)) (fun v _ => e - (intOf v).toNat)
      case atStart => exact ⟨1, by omega, by omega, rfl, fun i h1 h2 => by rw [show i = m by omega]; exact HX.out, 0, rfl⟩
      case round =>
        obtain ⟨n, hn1, hn2, rfl, HXN, HQ⟩ := hrel
        obtain ⟨q, hq⟩ := HQ.out
        have hlen := tookR_len (r := r) (rt := rt) hm1 (by rw [HL.out]; omega)
        have hbw0 : Bld B wr bp (tookR r rt m) := by rw [hq]; exact HBO.out.kept (grown_of_below (below_drewN (Below.refl wo.heap.size wo) q))
        have CQ := Lib.hid (fun k => laid_q hbw0 hlen k)
        have w1 : IntKind.i64.wrap ((m : Int) + (n : Int)) = (m : Int) + (n : Int) := IntWalk.i64_in _ (by omega)
        have p1 : (0 : Int) ≤ (m : Int) + (n : Int) := by omega
        clear hlen hbw0
        by_cases hmn : m + n < e
        · have d1 : decide ((m : Int) + (n : Int) < (e : Int)) = true := decide_eq_true (by omega)
          have p2 : (m : Int) + (n : Int) < 17412 := by omega
          have p3 : ((m : Int) + (n : Int)).toNat = m + n := by omega
          obtain ⟨x', hx'⟩ : ∃ x, rt[m + n]? = some x := ⟨_, List.getElem?_eq_getElem (by rw [HL.out]; omega)⟩
          obtain ⟨b', hb', k0, k1⟩ := HRO.out _ x' hx'
          have e0 : wr.cell? ⟨p, 0, none⟩ = some (.slice (some ⟨gi, 0, none⟩) 17412 ci) := by rw [hq]; exact HC0.out
          have e2 : wr.cell? ⟨gi, m + n, none⟩ = some (.int .u16 (b' : Nat)) := by rw [hq]; exact k0
          by_cases hbb : b' = b
          · subst hbb
            have hxx : x' = x := by rw [HFB.out] at k1; exact (Option.some.inj k1).symm
            have HXN2 : Hid (∀ i, m ≤ i → i < m + (n + 1) → rt[i]? = some x) := fun i h1 h2 => by
              by_cases e : i = m + n
              · rw [e, hx', hxx]
              · exact HXN.out i h1 (by omega)
            clear hx' k0 k1 hxx hq
            go_wp2
            go_quiet ((go_at_call 28; with_reducible exact Calls.quiet_of_same (CQ.out _)))
            clear w1 p3 d1
            go_wp2
            go_roundw
            case rel => exact ⟨n + 1, by omega, by omega, by go_num, HXN2.out, by obtain ⟨q, hq⟩ := HQ.out; exact ⟨_, by rw [hq]; exact World.drewN_drewN _ _ _⟩⟩
            case measure => simp [intOf]; omega
          · have hbn : ((b' : Int) == (b : Int)) = false := by rw [beq_eq_false_iff_ne]; omega
            have HQQ := Lib.hid hq
            clear hx' k0 k1 hq
            go_wp2
            go_quiet ((go_at_call 28; with_reducible exact Calls.quiet_of_same (CQ.out _)))
            clear w1 p3 d1 hbn
            obtain ⟨w8, hw8⟩ : ∃ w8 : World, w8 = wr.drewN nq := ⟨_, rfl⟩
            rw [← hw8]
            have hq8 : w8 = wo.drewN (q + nq) := by rw [hw8, HQQ.out]; exact World.drewN_drewN _ _ _
            have k8 : w8.cell? ⟨p, 1, none⟩ = some (.slice (some ⟨gk, 0, none⟩) mm ck) := by rw [hq8]; exact HC1.out
            have hstep := tookR_step (r := r) (rt := rt) (m := m) (n := n) (x := x) hm1 (by rw [HL.out]; omega) HXN.out
            have hgood := (HT.out.below HW.out).trie.good x (List.mem_of_getElem? HX.out)
            obtain ⟨cs, hcs⟩ : ∃ cs, cellsB x = cs := ⟨_, rfl⟩
            have hrg : w8.rangeAt gk (b * 64) cs := by rw [← hcs, hq8]; exact HRG.out
            have hinf : (Try.prog.info? 48).map (·.size) = some cs.length := by rw [← hcs, cellsB_len, hgood.1]; exact infoBlk
            have hbw : Bld B w8 bp (tookR r rt m) := by rw [hq8]; exact HBO.out.kept (grown_of_below (below_drewN (Below.refl wo.heap.size wo) _))
            have hww : Below B w w8 := by rw [hq8]; exact below_drewN HWO.out _
            have hlen2 := tookR_len (r := r) (rt := rt) hm1 (by rw [HL.out]; omega)
            have HLL : Hid ((tookR r rt m).length + n ≤ 20000) := by show _ ≤ _; omega
            have HGO := Lib.hid hgood
            have HCS := Lib.hid hcs
            have HRR := Lib.hid hrg
            have HIF := Lib.hid hinf
            have HST := Lib.hid hstep
            have HBW := Lib.hid hbw
            have HWW := Lib.hid hww
            clear hstep hgood hcs hrg hinf hbw hww hlen2 hq8 hw8
            go_wp2_with (first
              | (with_reducible refine wpList_load_mid rfl _ _ rfl gk (b * 64) rfl cs _ HRR.out underBlk rfl HIF.out ?_)
              | (go_at_call 24; (with_reducible refine (lay_is (z := (n : Nat)) n HBW.out HGO.out HCS.out (by rfl) HLL.out HST.out).mono ?_); rintro e9 w5 ⟨rfl, hb5, hw5⟩))
            go_roundg (e - (m + n))
            case rel => exact ⟨m + n, by omega, by omega, rfl, hb5, HWW.out.trans hw5⟩
            case measure => omega
        · have hmn' : m + n = e := by omega
          have d1 : decide ((m : Int) + (n : Int) < (e : Int)) = false := decide_eq_false (by omega)
          have HQQ := Lib.hid hq
          clear hq
          go_wp2
          go_quiet ((go_at_call 28; with_reducible exact Calls.quiet_of_same (CQ.out _)))
          clear w1 d1
          obtain ⟨w8, hw8⟩ : ∃ w8 : World, w8 = wr.drewN nq := ⟨_, rfl⟩
          rw [← hw8]
          have hq8 : w8 = wo.drewN (q + nq) := by rw [hw8, HQQ.out]; exact World.drewN_drewN _ _ _
          have k8 : w8.cell? ⟨p, 1, none⟩ = some (.slice (some ⟨gk, 0, none⟩) mm ck) := by rw [hq8]; exact HC1.out
          have hstep := tookR_step (r := r) (rt := rt) (m := m) (n := n) (x := x) hm1 (by rw [HL.out]; omega) HXN.out
          have hgood := (HT.out.below HW.out).trie.good x (List.mem_of_getElem? HX.out)
          obtain ⟨cs, hcs⟩ : ∃ cs, cellsB x = cs := ⟨_, rfl⟩
          have hrg : w8.rangeAt gk (b * 64) cs := by rw [← hcs, hq8]; exact HRG.out
          have hinf : (Try.prog.info? 48).map (·.size) = some cs.length := by rw [← hcs, cellsB_len, hgood.1]; exact infoBlk
          have hbw : Bld B w8 bp (tookR r rt m) := by rw [hq8]; exact HBO.out.kept (grown_of_below (below_drewN (Below.refl wo.heap.size wo) _))
          have hww : Below B w w8 := by rw [hq8]; exact below_drewN HWO.out _
          have hlen2 := tookR_len (r := r) (rt := rt) hm1 (by rw [HL.out]; omega)
          have HLL : Hid ((tookR r rt m).length + n ≤ 20000) := by show _ ≤ _; omega
          have HGO := Lib.hid hgood
          have HCS := Lib.hid hcs
          have HRR := Lib.hid hrg
          have HIF := Lib.hid hinf
          have HST := Lib.hid hstep
          have HBW := Lib.hid hbw
          have HWW := Lib.hid hww
          clear hstep hgood hcs hrg hinf hbw hww hlen2 hq8 hw8
          go_wp2_with (first
            | (with_reducible refine wpList_load_mid rfl _ _ rfl gk (b * 64) rfl cs _ HRR.out underBlk rfl HIF.out ?_)
            | (go_at_call 24; (with_reducible refine (lay_is (z := (n : Nat)) n HBW.out HGO.out HCS.out (by rfl) HLL.out HST.out).mono ?_); rintro e9 w5 ⟨rfl, hb5, hw5⟩))
          go_roundg (e - (m + n))
          case rel => exact ⟨m + n, by omega, by omega, rfl, hb5, HWW.out.trans hw5⟩
          case measure => omega
    · have hme : m = e := by omega
      subst hme
      have CL := Lib.hid (fun w' (hbw : Bld B w' bp (tookR r rt m)) => laid_is hbw hlen)
      clear hlt hlen
      go_wp2_with (go_at_call 28; (with_reducible refine (CL.out _ HB.out).mono ?_); rintro e1 w' ⟨rfl, rfl⟩)
      go_end0
      exact ⟨rfl, HB.out, HW.out⟩
end Go.Proofs.Ytpckmdmfhglmbaa
