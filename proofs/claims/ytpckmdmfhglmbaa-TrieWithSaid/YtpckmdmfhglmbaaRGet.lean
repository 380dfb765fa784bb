/-
  THE CONTRACTS of Get, of a new builder, and steps that append to an index and to blocks.
-/
import Derived.Test.YtpckmdmfhglmbaaRLeaf
import Derived.Deep.RegionHeld3
import Derived.Carry
namespace Go.Proofs.Ytpckmdmfhglmbaa
open Go.RowKit
set_option linter.unusedVariables false
set_option linter.unusedSimpArgs false
theorem u16_info : (Try.prog.info? 53).map (fun i => (i.zero, i.size, i.bytes)) = some (some (.int .u16 0), 1, 2) := by kernel_rfl
theorem blk_info : (Try.prog.info? 48).map (fun i => (i.zero, i.size, i.bytes)) = some (some (bval zrow), 64, 256) := by kernel_rfl
theorem makeU {ops : Array Oper} {rest : List Oper} {o : Oper} {a : Act} {Q : Exit → Act → World → Prop} (hg : o.guard = none) (s c : Operand) (hop : o.op = Op.makeSlice 49 s c)
    (w : World) (B N : Nat) (hl : a.eval s = .int .i64 0) (hc : a.eval c = .int .i64 (N : Int)) (hN : N ≤ 10000000) (hB : B ≤ w.heap.size)
    (hK : ∀ A C w', OwnU B w' (.slice A 0 C) [] → Below B w w' → wpList Try.prog ops Q rest (a.put o.dst (.slice A 0 C)) w') : wpList Try.prog ops Q (o :: rest) a w := by
  obtain ⟨i0, hi0, hz0, hz1, hz2⟩ := info_parts u16_info
  refine wpList_make_own w hg s c _ hop B 53 i0 _ 1 Try.underlying49 hi0 hz0 hz1 .i64 .i64 N N hl hc rfl (by rw [hz2]; omega) (by simp only [maxLen]; omega) hB ?_
  intro w' h1 h2
  obtain ⟨A, C, e, -, -⟩ := own_parts h1
  have h1' := h1
  rw [e] at h1' ⊢
  exact hK _ _ w' h1' ((Below.refl B w).grown h2 hB (by simp))
theorem new_any (w : World) : Calls Try.prog 22 #[] w fun e w' => ∃ bp, e = .returned (.pointer (some ⟨bp, 0, none⟩)) ∧ Bld w.heap.size w' bp [] ∧ Below w.heap.size w w' := by
  have hmm := @run_makeMap Try.prog
  have HB : Hid (w.heap.size ≤ w.heap.size) := Nat.le_refl _
  go_enter Try.func22, Try.ntmps22
  go_wp2_with (refine makeU rfl _ _ rfl _ w.heap.size 17412 rfl rfl (by omega) HB.out ?_; intro A C w1 ho hb)
  go_ret
  refine ⟨_, rfl, ⟨w1.heap.size, w1.heap.size + 1, .slice A 0 C, .slice none 0 0, ?_⟩, ?_⟩
  · have hs := hb.size
    have e1 : (w1.alloc (.cells #[.slice A 0 C, .slice none 0 0] 52)).heap.size = w1.heap.size + 1 := by simp
    have hF : Found ((w1.alloc (.cells #[.slice A 0 C, .slice none 0 0] 52)).alloc (.map #[] 0)) (w1.heap.size + 1) [] := by
      have := Found.new (w1.alloc (.cells #[.slice A 0 C, .slice none 0 0] 52))
      rwa [e1] at this
    have ho2 : OwnU w.heap.size ((w1.alloc (.cells #[.slice A 0 C, .slice none 0 0] 52)).alloc (.map #[] 0)) (.slice A 0 C) [] := World.ownsRow.alloc (World.ownsRow.alloc ho _) _
    have e2 : ((w1.alloc (.cells #[.slice A 0 C, .slice none 0 0] 52)).alloc (.map #[] 0)).heap.size = w1.heap.size + 2 := by simp
    refine ⟨by omega, hs, by omega, ?_, ?_, World.ownsRow.alloc ho2 _, World.ownsRow_nil _ _ _ _, hF.kept (World.grownBy_alloc _ _ none) (by simp)⟩
    · have := heap_alloc_new ((w1.alloc (.cells #[.slice A 0 C, .slice none 0 0] 52)).alloc (.map #[] 0)) (.cells #[.pointer (some ⟨w1.heap.size, 0, none⟩), .map (some (w1.heap.size + 1))] 61)
      rw [e2] at this
      exact this
    · rw [Below.heap_alloc _ _ _ (by rw [e2]; omega), Below.heap_alloc _ _ _ (by rw [e1]; omega)]
      exact heap_alloc_new _ _
  · exact ((hb.alloc hb.size _).alloc (by simp; have := hb.size; omega) _).alloc (by simp; have := hb.size; omega) _
/-- A trie's cells: the index' place, the block's. -/
theorem TrieAt.cells {w : World} {p : Nat} {r : List (List Int)} (h : TrieAt w p r) {i j : Nat} {x : List Int} {v : Int} (hi : r[i]? = some x) (hj : x[j]? = some v) :
    ∃ gi ci gk ck k m, w.cell? ⟨p, 0, none⟩ = some (.slice (some ⟨gi, 0, none⟩) 17412 ci) ∧ w.cell? ⟨p, 1, none⟩ = some (.slice (some ⟨gk, 0, none⟩) m ck) ∧ i < 17412 ∧ k < m ∧ j < 64 ∧
      w.cell? ⟨gi, i, none⟩ = some (.int .u16 (k : Nat)) ∧ w.cell? ⟨gk, k * 64 + j, none⟩ = some (.int .i32 v) ∧ -2147483648 ≤ v ∧ v ≤ 2147483647 ∧ m ≤ 17412 := by
  obtain ⟨⟨vi, vb, h1, h2, h3⟩, hg, hl⟩ := h
  obtain ⟨k, hk1, hk2, hk3⟩ := ixs_at hi
  have hi' : i < r.length := (List.getElem?_eq_some_iff.1 hi).1
  obtain ⟨Ai, ci, rfl, -, hA⟩ := own_parts h2
  obtain ⟨Ak, ck, rfl, -, hB⟩ := own_parts h3
  obtain ⟨gi, rfl, -, -, hci⟩ := hA (by rw [ixs_len]; omega)
  obtain ⟨gk, rfl, -, -, hck⟩ := hB (by omega)
  have hx := hg x (List.mem_of_getElem? hi)
  have hj' : j < 64 := by rw [← hx.1]; exact (List.getElem?_eq_some_iff.1 hj).1
  have hv := hx.2 v (List.mem_of_getElem? hj)
  have hlf := firsts_len r
  refine ⟨gi, ci, gk, ck, k, (firsts r).length, ?_, cell_of_row w p 1 _ _ _ h1, by omega, hk3, hj', hci i _ ?_, hck _ _ ?_, hv.1, hv.2, by omega⟩
  · rw [cell_of_row w p 0 _ _ _ h1, ixs_len, hl]; rfl
  · simp [uvals, List.getElem?_map, hk1]
  · rw [bcells_at (fun y hy => (hg y ((mem_firsts r y).1 hy)).1) hk2 hj']
    simp [cellsB, List.getElem?_map, hj]
theorem get_in {w : World} {p : Nat} {r : List (List Int)} (h : TrieAt w p r) (c : Nat) (hc : c ≤ 1114367) :
    Calls Try.prog 9 #[.pointer (some ⟨p, 0, none⟩), .int .i64 (c : Nat)] w fun e w' => e = .returned (.int .i64 (atR r c)) ∧ ∃ n, w' = w.drewN n := by
  obtain ⟨i, hi⟩ : ∃ i, c / 64 = i := ⟨_, rfl⟩
  obtain ⟨j, hj⟩ : ∃ j, c % 64 = j := ⟨_, rfl⟩
  have hil : i < r.length := by rw [h.len]; omega
  have hix : r[i]? = some r[i] := List.getElem?_eq_getElem hil
  have hxl : (r[i]).length = 64 := (h.good _ (List.getElem_mem hil)).1
  have hjx : (r[i])[j]? = some ((r[i])[j]'(by rw [hxl]; omega)) := List.getElem?_eq_getElem _
  obtain ⟨v, hv⟩ : ∃ v, v = (r[i])[j]'(by rw [hxl]; omega) := ⟨_, rfl⟩
  rw [← hv] at hjx
  have hat : atR r c = v := by
    unfold atR
    rw [hi, hj, List.getD_eq_getElem?_getD, List.getD_eq_getElem?_getD, hix, Option.getD_some, hjx, Option.getD_some]
  obtain ⟨gi, ci, gk, ck, k, m, c0, c1, b1, b2, b3, c2, c3, v1, v2, hm⟩ := h.cells hix hjx
  rw [hat]
  have q1 : ((c : Nat) : Int) / 64 = (i : Int) := by omega
  have q2 : ((c : Nat) : Int) % 64 = (j : Int) := by omega
  have q3 : (0 : Int) ≤ (c : Int) := by omega
  have q4 : (0 : Int) ≤ (i : Int) := by omega
  have q5 : (i : Int) < 17412 := by omega
  have q6 : (0 : Int) ≤ (j : Int) := by omega
  have q7 : (j : Int) < 64 := by omega
  have q8 : (k : Int) < (m : Int) := by omega
  have q9 : (0 : Int) ≤ (k : Int) := by omega
  have q10 : (c : Int) ≤ 1114367 := by omega
  have CS := Lib.hid (fun w => sign_is ((signB_iff (c : Int)).2 ⟨by omega, by omega⟩) w)
  clear h hi hj hil hix hxl hjx hv hat
  go_enter Try.func9, Try.ntmps9
  go_wp2_with (go_at_call 21; refine (CS.out _).mono ?_; rintro e w' ⟨rfl, rfl⟩)
  go_quiet (fail)
  go_wp2
  go_ret
  exact ⟨rfl, _, rfl⟩
theorem get_out {c : Int} (hc : signB c = false) (w : World) (v : Value) :
    Calls Try.prog 9 #[v, .int .i64 c] w fun e w' => e = .returned (.int .i64 0) ∧ ∃ n, w' = w.drewN n := by
  have CS := Lib.hid (fun w => sign_is hc w)
  clear hc
  go_enter Try.func9, Try.ntmps9
  go_wp2_with (go_at_call 21; refine (CS.out _).mono ?_; rintro e w' ⟨rfl, rfl⟩)
  go_ret
  exact ⟨rfl, 0, rfl⟩
end Go.Proofs.Ytpckmdmfhglmbaa
