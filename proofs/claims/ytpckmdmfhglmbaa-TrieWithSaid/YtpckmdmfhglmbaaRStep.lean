/-
  STEPS of regions: an append of one place to an index, of one block to blocks; a slice of one block.
-/
import Derived.Test.YtpckmdmfhglmbaaRGet
import Derived.Deep.RegionLaw
import Derived.Laws.Tables
import Derived.Great.BuildSlice
namespace Go.Proofs.Ytpckmdmfhglmbaa
open Go.RowKit
set_option linter.unusedVariables false
set_option linter.unusedSimpArgs false
theorem cells_new (w : World) (xs : List Value) (t : TypeId) : ∀ j u, xs[j]? = some u → (w.alloc (.cells xs.toArray t)).cell? ((⟨w.heap.size, 0, none⟩ : Addr).add j) = some u := by
  intro j u hu
  rw [Addr.add_lit, Nat.zero_add, World.cell?_alloc_mark, List.getElem?_toArray]
  exact hu
theorem step_pushU {ops : Array Oper} {o : Oper} {a : Act} {K : Act → World → Prop} {Q : Exit → Act → World → Prop} {E : Prop} (hgd : o.guard = none) (s x : Operand)
    (ho : o.op = .call { callee := .builtin .append, args := #[s, x], argTypes := #[49, 49] })
    (w0 : World) (B : Nat) (v : Value) (ix : List Nat) (k C : Nat) (hs : a.eval s = v) (hown : OwnU B w0 v ix) (hx : a.eval x = .slice (some ⟨w0.heap.size, 0, none⟩) 1 C)
    (hB : B ≤ w0.heap.size) (hl : ix.length + 1 ≤ 10000000)
    (h : ∀ A' C' w', OwnU B w' (.slice A' (ix.length + 1) C') (ix ++ [k]) → w0.grownBy w' v.ownBlock → K (a.put o.dst (.slice A' (ix.length + 1) C')) w') :
    if Region.wanted o (yielded ops a.tmps) = true then Oper.wp Try.prog o a (w0.alloc (.cells #[.int .u16 (k : Int)] 53)) K Q else E := by
  have hw : Region.wanted o (yielded ops a.tmps) = true := by simp [Region.wanted, hgd]
  rw [if_pos hw]
  obtain ⟨i0, hi0, hz0, hz1, hz2⟩ := info_parts u16_info
  have hb1 := World.grownBy_alloc w0 (.cells #[.int .u16 (k : Int)] 53) v.ownBlock
  have hb2 : B ≤ (w0.alloc (.cells #[.int .u16 (k : Int)] 53)).heap.size := Nat.le_trans hB hb1.size
  obtain ⟨v', w', hrun, h2, h3, -, -⟩ := run_append_own_at (P := Try.prog) (w := w0.alloc (.cells #[.int .u16 (k : Int)] 53)) B 49 o.type 53 i0 _ 1 2 Try.underlying49 hi0 hz0 hz1 hz2 rfl (by omega) v ix.length (uvals ix) (World.ownsRow.alloc hown _)
    ⟨w0.heap.size, 0, none⟩ 1 C [.int .u16 (k : Int)] rfl (cells_new w0 [.int .u16 (k : Int)] _) (by simp [Value.oneCell']) (by simp only [maxLen]; omega) (by omega) hb2
  obtain ⟨A', C', rfl, -, -⟩ := own_parts h2
  unfold Oper.wp
  simp [execOp, ho, resolve, invoke, builtin, hs, hx, hrun, Result.andThen]
  refine h A' C' w' ?_ (hb1.trans h3)
  unfold OwnU
  rw [uvals_app, List.length_append]
  exact h2
theorem step_pushK {ops : Array Oper} {o : Oper} {a : Act} {K : Act → World → Prop} {Q : Exit → Act → World → Prop} {E : Prop} (hgd : o.guard = none) (s x : Operand)
    (ho : o.op = .call { callee := .builtin .append, args := #[s, x], argTypes := #[50, 50] })
    (w0 : World) (B : Nat) (v : Value) (bs : List (List Int)) (y : List Int) (cs : List Value) (hcs : cs = cellsB y) (hy : y.length = 64) (C : Nat) (hs : a.eval s = v) (hown : OwnK B w0 v bs) (hx : a.eval x = .slice (some ⟨w0.heap.size, 0, none⟩) 1 C)
    (hB : B ≤ w0.heap.size) (hl : bs.length + 1 ≤ 10000000)
    (h : ∀ A' C' w', OwnK B w' (.slice A' (bs.length + 1) C') (bs ++ [y]) → w0.grownBy w' v.ownBlock → K (a.put o.dst (.slice A' (bs.length + 1) C')) w') :
    if Region.wanted o (yielded ops a.tmps) = true then Oper.wp Try.prog o a (w0.alloc (.cells cs.toArray 48)) K Q else E := by
  have hw : Region.wanted o (yielded ops a.tmps) = true := by simp [Region.wanted, hgd]
  rw [if_pos hw]
  subst hcs
  obtain ⟨i0, hi0, hz0, hz1, hz2⟩ := info_parts blk_info
  have hb1 := World.grownBy_alloc w0 (.cells (cellsB y).toArray 48) v.ownBlock
  have hb2 : B ≤ (w0.alloc (.cells (cellsB y).toArray 48)).heap.size := Nat.le_trans hB hb1.size
  obtain ⟨v', w', hrun, h2, h3, -, -⟩ := run_append_own_at (P := Try.prog) (w := w0.alloc (.cells (cellsB y).toArray 48)) B 50 o.type 48 i0 _ 64 256 Try.underlying50 hi0 hz0 hz1 hz2 rfl (by omega) v bs.length (bcells bs) (World.ownsRow.alloc hown _)
    ⟨w0.heap.size, 0, none⟩ 1 C (cellsB y) (by rw [cellsB_len, hy]) (cells_new w0 (cellsB y) _) (cellsB_one y) (by simp only [maxLen]; omega) (by omega) hb2
  obtain ⟨A', C', rfl, -, -⟩ := own_parts h2
  unfold Oper.wp
  simp [execOp, ho, resolve, invoke, builtin, hs, hx, hrun, Result.andThen]
  refine h A' C' w' ?_ (hb1.trans h3)
  unfold OwnK
  rw [bcells_app, List.length_append, show bcells [y] = cellsB y by simp [bcells]]
  exact h2
theorem blk_size (i : TypeInfo) (h : Try.prog.info? 48 = some i) : i.size = 64 := by
  have := infoBlk
  rw [h] at this
  simpa using this
theorem run_sliceOf (cs : List Value) (h : cs.length = 64) (w : World) : (Instr.buildSlice 50 1 #[(0, .agg cs.toArray)]).run Try.prog w = .ok (.slice (some ⟨w.heap.size, 0, none⟩) 1 1) (w.alloc (.cells cs.toArray 48)) := by
  obtain ⟨i0, hi0, hz0, hz1, hz2⟩ := info_parts blk_info
  have hf := Great.fill_whole (s := 64) (by omega) [Value.agg cs.toArray] ((Array.range (1 * i0.size)).map ((bval zrow).cells[· % (bval zrow).cells.size]!)) (by intro v hv; simp at hv; subst hv; simp [Value.cells, h]) (by simp [hz1])
  refine run_buildSlice (P := Try.prog) w 50 48 1 #[(0, .agg cs.toArray)] cs.toArray i0 (bval zrow) Try.underlying50 hi0 hz0 (by rw [hz1]; omega) (by rw [hz1]; omega) ?_
  rw [hz1]
  rw [hz1] at hf
  exact hf.trans (by simp [Value.cells])
theorem step_sliceOf {ops : Array Oper} {o : Oper} {a : Act} {w : World} {K : Act → World → Prop} {Q : Exit → Act → World → Prop} {E : Prop} (hgd : o.guard = none) (x : Operand)
    (ho : o.op = .buildSlice 50 1 #[(0, x)]) (cs : List Value) (hcs : cs.length = 64) (hx : a.eval x = .agg cs.toArray)
    (h : K (a.put o.dst (.slice (some ⟨w.heap.size, 0, none⟩) 1 1)) (w.alloc (.cells cs.toArray 48))) :
    if Region.wanted o (yielded ops a.tmps) = true then Oper.wp Try.prog o a w K Q else E := by
  have hw : Region.wanted o (yielded ops a.tmps) = true := by simp [Region.wanted, hgd]
  rw [if_pos hw]
  have hrun := run_sliceOf cs hcs w
  unfold Oper.wp execOp
  simp only [ho, Sem.run_bind, Sem.run_pure, List.map_toArray, List.map_cons, List.map_nil, hx, hrun, Result.andThen_ok]
  exact h
end Go.Proofs.Ytpckmdmfhglmbaa
