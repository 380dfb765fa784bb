/-
  THE CONTRACT of Pairs.
-/
import Derived.Test.YtpckmdmfhglmbaaRLaw1
namespace Go.Proofs.Ytpckmdmfhglmbaa
open Go.RowKit
set_option linter.unusedVariables false
set_option linter.unusedSimpArgs false
theorem pushP {ops : Array Oper} {rest : List Oper} {o : Oper} {a : Act} {Q : Exit → Act → World → Prop} (hgd : o.guard = none) (s x : Operand)
    (ho : o.op = .call { callee := .builtin .append, args := #[s, x], argTypes := #[22, 22] })
    (w0 : World) (B : Nat) (v : Value) (l : List (Int × Int)) (p q : Int) (C : Nat) (hs : a.eval s = v) (hown : OwnP B w0 v l) (hx : a.eval x = .slice (some ⟨w0.heap.size, 0, none⟩) 1 C)
    (hB : B ≤ w0.heap.size) (hl : l.length + 1 ≤ 10000000)
    (h : ∀ A' C' w', OwnP B w' (.slice A' (l.length + 1) C') (l ++ [(p, q)]) → Below B w0 w' → wpList Try.prog ops Q rest (a.put o.dst (.slice A' (l.length + 1) C')) w') : wpList Try.prog ops Q (o :: rest) a (w0.alloc (.cells #[.int .i64 p, .int .i64 q] 29)) := by
  obtain ⟨i0, hi0, hz0, hz1, hz2⟩ := info_parts pair_info
  have hb1 : Below B w0 (w0.alloc (.cells #[.int .i64 p, .int .i64 q] 29)) := (Below.refl B w0).alloc hB _
  have hb2 : B ≤ (w0.alloc (.cells #[.int .i64 p, .int .i64 q] 29)).heap.size := Nat.le_trans hB hb1.size
  refine wpList_append_own_at _ hgd s x _ ho B 29 i0 _ 2 16 Try.underlying22 hi0 hz0 hz1 hz2 rfl (by omega) v l.length (pcells l) hs (World.ownsRow.alloc hown _) _ 1 C [.int .i64 p, .int .i64 q] hx rfl
    (cells_new w0 [.int .i64 p, .int .i64 q] _) (by simp [Value.oneCell']) (by simp only [maxLen]; omega) (by omega) hb2 ?_
  intro v' w' h2 h3 _ _
  obtain ⟨A', C', rfl, -, -⟩ := own_parts h2
  refine h A' C' w' ?_ ?_
  · unfold OwnP; rw [pcells_app, List.length_append]; exact h2
  · exact hb1.grown h3 hb2 (fun k hk => (World.ownsRow.lt hown k hk).1)
theorem run_ixB {cs : List Value} {j : Nat} {v : Value} (h : cs[j]? = some v) (h64 : cs.length = 64) (w : World) : (Instr.index 48 (.agg cs.toArray) (.int .i64 (j : Nat))).run Try.prog w = .ok v w := by
  have hj : j < 64 := by rw [← h64]; exact (List.getElem?_eq_some_iff.1 h).1
  have h1 : (0 : Int) ≤ (j : Int) := by omega
  have h2 : (j : Int) < 64 := by omega
  simp [Instr.index, run_underlying underBlk, asIntOf, h1, h2, go_sem]
  rw [if_pos hj, h]
  rfl
theorem TrieAt.row {w : World} {p : Nat} {r : List (List Int)} (h : TrieAt w p r) {i : Nat} {x : List Int} (hi : r[i]? = some x) :
    ∃ gi ci gk ck b m, w.cell? ⟨p, 0, none⟩ = some (.slice (some ⟨gi, 0, none⟩) 17412 ci) ∧ w.cell? ⟨p, 1, none⟩ = some (.slice (some ⟨gk, 0, none⟩) m ck) ∧ i < 17412 ∧ b < m ∧ m ≤ 17412 ∧
      w.cell? ⟨gi, i, none⟩ = some (.int .u16 (b : Nat)) ∧ w.rangeAt gk (b * 64) (cellsB x) := by
  obtain ⟨⟨vi, vb, h1, h2, h3⟩, hg, hl⟩ := h
  obtain ⟨k, hk1, hk2, hk3⟩ := ixs_at hi
  have hi' : i < r.length := (List.getElem?_eq_some_iff.1 hi).1
  obtain ⟨Ai, ci, rfl, -, hA⟩ := own_parts h2
  obtain ⟨Ak, ck, rfl, -, hB⟩ := own_parts h3
  obtain ⟨gi, rfl, -, -, hci⟩ := hA (by rw [ixs_len]; omega)
  obtain ⟨gk, rfl, -, -, hck⟩ := hB (by omega)
  have hx := hg x (List.mem_of_getElem? hi)
  have hlf := firsts_len r
  refine ⟨gi, ci, gk, ck, k, (firsts r).length, ?_, cell_of_row w p 1 _ _ _ h1, by omega, hk3, by omega, hci i _ ?_, fun j v hv => hck _ _ ?_⟩
  · rw [cell_of_row w p 0 _ _ _ h1, ixs_len, hl]; rfl
  · simp [uvals, List.getElem?_map, hk1]
  · have hj : j < 64 := by
      have := (List.getElem?_eq_some_iff.1 hv).1
      rw [cellsB_len, hx.1] at this; exact this
    rw [bcells_at (fun y hy => (hg y ((mem_firsts r y).1 hy)).1) hk2 hj]
    exact hv
theorem pairsN_step (f : Nat → Int) (n : Nat) : pairsN f (n + 1) = pairsN f n ++ if f n = 0 then [] else [((n : Int), f n)] := rfl
theorem atR_row {r : List (List Int)} {k : Nat} {x : List Int} (hk : r[k]? = some x) {j : Nat} {y : Int} (hj : x[j]? = some y) (h64 : j < 64) : atR r (64 * k + j) = y := by
  unfold atR
  rw [show (64 * k + j) / 64 = k by omega, show (64 * k + j) % 64 = j by omega, List.getD_eq_getElem?_getD, List.getD_eq_getElem?_getD, hk, Option.getD_some, hj, Option.getD_some]
set_option maxHeartbeats 1000000 in
set_option maxRecDepth 100000 in
theorem pairs_any {w : World} {p : Nat} {r : List (List Int)} (h : TrieAt w p r) :
    Calls Try.prog 13 #[.pointer (some ⟨p, 0, none⟩)] w fun e w' => (∃ v, e = .returned v ∧ OwnP w.heap.size w' v (pairsN (atR r) 1114368)) ∧ Below w.heap.size w w' := by
  have HT := Lib.hid h
  obtain ⟨x0, hx0⟩ : ∃ x, r[0]? = some x := ⟨_, List.getElem?_eq_getElem (by rw [h.len]; omega)⟩
  obtain ⟨gi, ci, gk, ck, b0, m, c0, c1, -, -, hm, -, -⟩ := h.row hx0
  clear h hx0
  have C0 := Lib.hid c0
  have C1 := Lib.hid c1
  go_enter Try.func13, Try.ntmps13
  go_wp2
  clear c0 c1
  go_loopw [3, 13] (fun v i wr => ∃ (k : Nat) (A : Option Addr) (c : Nat) (acc : List (Int × Int)), k ≤ 17412 ∧ i = .int .i64 (k : Nat) ∧ v = .slice A acc.length c ∧ Hid (OwnP w.heap.size wr (.slice A acc.length c) acc) ∧ Hid (pairsN (atR r) (64 * k) = acc) ∧ Hid (Below w.heap.size w wr)) (fun _ i _ => 17412 - (intOf i).toNat)
  case atStart => exact ⟨0, none, 0, [], by omega, rfl, rfl, World.ownsRow_nil _ _ _ _, rfl, Below.refl _ _⟩
  case round =>
    obtain ⟨k, A, c, acc, hk, rfl, rfl, HO, HA, HW⟩ := hrel
    by_cases hlt : k < 17412
    · obtain ⟨x, hx⟩ : ∃ x, r[k]? = some x := ⟨_, List.getElem?_eq_getElem (by rw [HT.out.len]; exact hlt)⟩
      have hxg := HT.out.good x (List.mem_of_getElem? hx)
      obtain ⟨gi', ci', gk', ck', b, m', d0, d1, -, hbm, -, d2, d3⟩ := (HT.out.below HW.out (Nat.le_refl _)).row hx
      have e0 := (HW.out.cell (p := ⟨p, 0, none⟩) (heap_lt HT.out.at_.choose_spec.choose_spec.1)).trans C0.out
      have e1 := (HW.out.cell (p := ⟨p, 1, none⟩) (heap_lt HT.out.at_.choose_spec.choose_spec.1)).trans C1.out
      rw [d0] at e0
      rw [d1] at e1
      cases e0
      cases e1
      obtain ⟨cs, hcs⟩ : ∃ cs, cellsB x = cs := ⟨_, rfl⟩
      rw [hcs] at d3
      have hcl : cs.length = 64 := by rw [← hcs, cellsB_len]; exact hxg.1
      have HC := Lib.hid hcl
      have HIF : Hid ((Try.prog.info? 48).map (·.size) = some cs.length) := by show _ = _; rw [hcl]; exact infoBlk
      have HRG := Lib.hid d3
      have HX := Lib.hid hx
      have HXG := Lib.hid hxg
      have HCS := Lib.hid hcs
      have hkI : (k : Int) < 17412 := by omega
      have hbI : (b : Int) < (m : Int) := by omega
      have hb0 : (0 : Int) ≤ (b : Int) := by omega
      clear hx hxg hcs hcl d3
      go_wp2_with (with_reducible refine wpList_load_mid rfl _ _ rfl gk (b * 64) rfl cs _ HRG.out underBlk rfl HIF.out ?_)
      obtain ⟨wo, hwo⟩ : ∃ wo : World, wo = wr := ⟨_, rfl⟩
      subst hwo
      go_loopw [3, 25] (fun v i wr => ∃ (j : Nat) (A : Option Addr) (c : Nat) (acc : List (Int × Int)), j ≤ 64 ∧ i = .int .i64 (j : Nat) ∧ v = .slice A acc.length c ∧ Hid (OwnP w.heap.size wr (.slice A acc.length c) acc) ∧ Hid (pairsN (atR r) (64 * k + j) = acc) ∧ Hid (Below w.heap.size w wr)) (fun _ i _ => 64 - (intOf i).toNat)
      case atStart => exact ⟨0, A, c, acc, by omega, rfl, rfl, HO.out, HA.out, HW.out⟩
      case round =>
        obtain ⟨j, A, c, acc, hj, rfl, rfl, HO, HA, HW⟩ := hrel
        by_cases hj64 : j < 64
        · obtain ⟨y, hy⟩ : ∃ y, x[j]? = some y := ⟨_, List.getElem?_eq_getElem (by rw [HXG.out.1]; exact hj64)⟩
          have hyb := HXG.out.2 y (List.mem_of_getElem? hy)
          have hix := run_ixB (cs := cs) (j := j) (v := .int .i32 y) (by rw [← HCS.out]; simp [cellsB, List.getElem?_map, hy]) HC.out
          have hst := pairsN_step (atR r) (64 * k + j)
          rw [atR_row HX.out hy hj64, HA.out] at hst
          obtain ⟨y1, y2⟩ := hyb
          have hjI : (j : Int) < 64 := by omega
          have hal : acc.length ≤ 1114368 := by rw [← HA.out]; exact Nat.le_trans (pairsN_len_le _ _) (by omega)
          by_cases hy0 : y = 0
          · have hy0' : (y != 0) = false := by simpa using hy0
            rw [if_pos hy0, List.append_nil] at hst
            have HST := Lib.hid hst
            clear hst hy hy0 hal
            go_wp2
            clear hy0' hix
            go_roundw
            case rel => exact ⟨j + 1, A, c, acc, by omega, by go_num, rfl, HO.out, HST.out, HW.out⟩
            case measure => simp [intOf]; omega
          · have hy0' : (y != 0) = true := by simpa using hy0
            rw [if_neg hy0, show (((64 * k + j : Nat) : Int), y) = ((k : Int) * 64 + (j : Int), y) by congr 1; omega] at hst
            have HST := Lib.hid hst
            have HBB : Hid (w.heap.size ≤ wr.heap.size) := HW.out.size
            have HLL : Hid (acc.length + 1 ≤ 10000000) := by show _ ≤ _; omega
            clear hst hy hy0 hal
            go_wp2_with (at_builtin; refine pushP rfl (.tmp 31) (.tmp 39) rfl _ w.heap.size _ _ ((k : Int) * 64 + (j : Int)) y 1 rfl HO.out rfl HBB.out HLL.out ?_; intro A2 C2 w2 ho2 hb2)
            clear hy0' hix
            go_roundw
            case rel => exact ⟨j + 1, A2, C2, acc ++ [((k : Int) * 64 + (j : Int), y)], by omega, by go_num, by simp, by rw [List.length_append]; exact ho2, HST.out, HW.out.trans hb2⟩
            case measure => simp [intOf]; omega
        · have hj' : j = 64 := by omega
          subst hj'
          have HA2 : Hid (pairsN (atR r) (64 * (k + 1)) = acc) := HA.out
          clear hj64
          go_wp2
          go_roundw
          case rel => exact ⟨k + 1, A, c, acc, by omega, by go_num, rfl, HO.out, HA2.out, HW.out⟩
          case measure => simp [intOf]; omega
    · have hk' : k = 17412 := by omega
      subst hk'
      clear hlt
      go_wp2
      go_ret
      refine ⟨⟨_, rfl, ?_⟩, HW.out⟩
      have e : pairsN (atR r) 1114368 = acc := HA.out
      rw [e]
      exact HO.out
end Go.Proofs.Ytpckmdmfhglmbaa
