/-
  THE STATE BEHIND Root's LOOPS: three single elements in blocks of their own, that the table does not reach.
-/
import Derived.Test.YtaabdpfhpolcgaaGreatBRefR
namespace Go.Proofs.YtaabdpfhpolcgaaGreat
open Go.RowKit
set_option linter.unusedVariables false
set_option linter.unusedSimpArgs false
theorem RdF.kmono {U V : Nat → Prop} {w : World} {v : Value} {n : Nat} {xs : List Value} (h : RdF (KRU U w) w v n xs) (hV : ∀ k, U k → k < w.heap.size → V k) : RdF (KRU V w) w v n xs :=
  RdF.mono h fun k hk => by
    obtain ⟨hU, cs, T, fr, h1, h2⟩ := hk
    exact ⟨hV k hU (R4.heap_lt h1), cs, T, fr, h1, h2⟩
theorem RefU.mono {U V : Nat → Prop} {w : World} {v : Value} {L : List PE} (h : RefU U w v L) (hV : ∀ k, U k → k < w.heap.size → V k) : RefU V w v L := by
  obtain ⟨M, e, h1, h2⟩ := h
  exact ⟨M, e, RdF.kmono h1 hV, fun m hm => ⟨RdF.kmono (h2 m hm).1 hV, RdF.kmono (h2 m hm).2 hV⟩⟩
/-- Other than the three. -/
def Off3 (gS gA gE : Nat) (k : Nat) : Prop := k ≠ gS ∧ k ≠ gA ∧ k ≠ gE
def el4 (p t : Nat) : Array Value := #[.int .i64 (p : Int), .int .i64 32, .int .i64 (t : Int), .bool false]
structure RT (w : World) (b0 b1 gS gA gE : Nat) (t : Nat) (xs : List PE) (wr : World) : Prop where
  bel : Below w.heap.size w wr
  lo : w.heap.size ≤ b0 ∧ w.heap.size ≤ b1 ∧ w.heap.size ≤ gA ∧ w.heap.size ≤ gE
  ne : b0 ≠ b1 ∧ b0 ≠ gA ∧ b0 ≠ gE ∧ b0 ≠ gS ∧ b1 ≠ gA ∧ b1 ≠ gE ∧ b1 ≠ gS ∧ gA ≠ gE ∧ gS ≠ gA ∧ gS ≠ gE
  res : wr.heap[b0]? = some (.cells #[.slice none 0 0] 42)
  cur : ∃ A c, wr.heap[b1]? = some (.cells #[.slice A (putL xs).length c] 42) ∧ RefU (Off3 gS gA gE) wr (.slice A (putL xs).length c) (putL xs) ∧ (putL xs = [] → Value.slice A (putL xs).length c = .slice none 0 0)
  hS : wr.heap[gS]? = some (.cells (el4 400 4) 72)
  hA : wr.heap[gA]? = some (.cells (el4 256 t) 72)
  hE : wr.heap[gE]? = some (.cells (el4 288 t) 72)
theorem RT.of {w wr : World} {b0 b1 : Nat} {K : List (Nat × Obj)} {xs : List PE} (h : RS w b0 b1 K xs wr) :
    RT w b0 b1 wr.heap.size (wr.heap.size + 1) (wr.heap.size + 1 + 1) 4 xs (((wr.alloc (.cells (el4 400 4) 72)).alloc (.cells (el4 256 4) 72)).alloc (.cells (el4 288 4) 72)) := by
  obtain ⟨A, c, h6, h7, h8⟩ := h.cur
  have l0 := R4.heap_lt h.res
  have l1 := R4.heap_lt h6
  have hsz := h.bel.size
  have B1 := alloc_below wr (.cells (el4 400 4) 72)
  have B2 := alloc_below (wr.alloc (.cells (el4 400 4) 72)) (.cells (el4 256 4) 72)
  have B3 := alloc_below ((wr.alloc (.cells (el4 400 4) 72)).alloc (.cells (el4 256 4) 72)) (.cells (el4 288 4) 72)
  have BB := B1.trans ((B2.trans (B3.mono B2.size)).mono B1.size)
  have n1 := heap_alloc_new wr (.cells (el4 400 4) 72)
  have n2 := heap_alloc_new (wr.alloc (.cells (el4 400 4) 72)) (.cells (el4 256 4) 72)
  have n3 := heap_alloc_new ((wr.alloc (.cells (el4 400 4) 72)).alloc (.cells (el4 256 4) 72)) (.cells (el4 288 4) 72)
  have s1 : (wr.alloc (.cells (el4 400 4) 72)).heap.size = wr.heap.size + 1 := World.size_alloc _ _
  have s2 : ((wr.alloc (.cells (el4 400 4) 72)).alloc (.cells (el4 256 4) 72)).heap.size = wr.heap.size + 1 + 1 := by rw [World.size_alloc, s1]
  rw [s1] at n2
  rw [s2] at n3
  refine ⟨h.bel.trans (BB.mono h.bel.size), ⟨h.h0, h.h1, by omega, by omega⟩, ⟨h.ne, by omega, by omega, by omega, by omega, by omega, by omega, by omega, by omega, by omega⟩, (BB.block _ l0).trans h.res,
    ⟨A, c, (BB.block _ l1).trans h6, (h7.mono fun k _ hk => ?_).below BB (Nat.le_refl _), h8⟩, ?_, ?_, n3⟩
  · exact ⟨by omega, by omega, by omega⟩
  · exact ((B3.block _ (by omega)).trans ((B2.block _ (by omega)).trans n1))
  · exact (B3.block _ (by omega)).trans n2
theorem RT.hU {w wr : World} {b0 b1 gS gA gE t : Nat} {xs : List PE} (h : RT w b0 b1 gS gA gE t xs wr) {wx : World} (hx : wr.heap.size ≤ wx.heap.size) : ∀ k, wx.heap.size ≤ k → Off3 gS gA gE k := fun k hk => by
  have l1 := R4.heap_lt h.hS
  have l2 := R4.heap_lt h.hA
  have l3 := R4.heap_lt h.hE
  exact ⟨by omega, by omega, by omega⟩
theorem RT.below {w wr wr' : World} {b0 b1 gS gA gE t : Nat} {xs : List PE} (h : RT w b0 b1 gS gA gE t xs wr) (hb : Below wr.heap.size wr wr') : RT w b0 b1 gS gA gE t xs wr' := by
  obtain ⟨h1, h2, h3, h5, ⟨A, c, h6, h7, h8⟩, h9, h10, h11⟩ := h
  exact ⟨h1.trans (hb.mono h1.size), h2, h3, (hb.block _ (R4.heap_lt h5)).trans h5, ⟨A, c, (hb.block _ (R4.heap_lt h6)).trans h6, h7.below hb (Nat.le_refl _), h8⟩, (hb.block _ (R4.heap_lt h9)).trans h9, (hb.block _ (R4.heap_lt h10)).trans h10, (hb.block _ (R4.heap_lt h11)).trans h11⟩
theorem RT.store {w wr : World} {b0 b1 gS gA gE t : Nat} {xs ys : List PE} {A : Option Addr} {c : Nat} (h : RT w b0 b1 gS gA gE t xs wr) (hu : RefU (Off3 gS gA gE) wr (.slice A (putL ys).length c) (putL ys)) (hy : ys ≠ []) : RT w b0 b1 gS gA gE t ys (wr.setCell ⟨b1, 0, none⟩ (.slice A (putL ys).length c)) := by
  obtain ⟨k1, k2, k4, k5, ⟨A', c', k6, k7, k8⟩, k9, k10, k11⟩ := h
  have hg := R4.grown_setCell wr ⟨b1, 0, none⟩ (.slice A (putL ys).length c)
  refine ⟨k1.setCell k2.2.1 _, k2, k4, (hg.block _ (R4.heap_lt k5) (by simp; omega)).trans k5, ⟨A, c, heap_setCell_same wr b1 0 _ _ _ k6, hu.off hg k6 (by decide) (by decide) (by decide), fun e => absurd e (putL_ne hy)⟩,
    (hg.block _ (R4.heap_lt k9) (by simp; omega)).trans k9, (hg.block _ (R4.heap_lt k10) (by simp; omega)).trans k10, (hg.block _ (R4.heap_lt k11) (by simp; omega)).trans k11⟩
theorem RT.cell {w wr : World} {b0 b1 gS gA gE t : Nat} {xs : List PE} (h : RT w b0 b1 gS gA gE t xs wr) : ∃ A c, wr.cell? ⟨b1, 0, none⟩ = some (.slice A (putL xs).length c) ∧ wr.frozen? ⟨b1, 0, none⟩ = false ∧ RefU (Off3 gS gA gE) wr (.slice A (putL xs).length c) (putL xs) ∧ (putL xs = [] → Value.slice A (putL xs).length c = .slice none 0 0) := by
  obtain ⟨A, c, h6, h7, h8⟩ := h.cur
  exact ⟨A, c, by rw [cell_of_row _ _ 0 _ _ _ h6]; rfl, frozen_of_row _ _ 0 _ _ h6, h7, h8⟩
theorem el_cells {w : World} {g p t : Nat} (h : w.heap[g]? = some (.cells (el4 p t) 72)) : w.cell? ⟨g, 0, none⟩ = some (.int .i64 (p : Int)) ∧ w.cell? ⟨g, 1, none⟩ = some (.int .i64 32) ∧ w.cell? ⟨g, 2, none⟩ = some (.int .i64 (t : Int)) ∧ w.cell? ⟨g, 3, none⟩ = some (.bool false) :=
  ⟨by rw [cell_of_row _ _ 0 _ _ _ h]; rfl, by rw [cell_of_row _ _ 1 _ _ _ h]; rfl, by rw [cell_of_row _ _ 2 _ _ _ h]; rfl, by rw [cell_of_row _ _ 3 _ _ _ h]; rfl⟩
theorem RefU.miss {U : Nat → Prop} {w w' : World} {v : Value} {L : List PE} {b : Nat} (h : RefU U w v L) (hg : w.grownBy w' (some b)) (hb : ¬ U b) : RefU U w' v L := h.step fun k hU _ hk => hg.block k hk (by intro e; injection e with e; subst e; exact hb hU)
/-- The third weights of two of them are changed. -/
theorem RT.poke {w wr : World} {b0 b1 gS gA gE t : Nat} {xs : List PE} (h : RT w b0 b1 gS gA gE t xs wr) (s : Nat) : RT w b0 b1 gS gA gE s xs ((wr.setCell ⟨gA, 2, none⟩ (.int .i64 (s : Int))).setCell ⟨gE, 2, none⟩ (.int .i64 (s : Int))) := by
  obtain ⟨k1, k2, k4, k5, ⟨A', c', k6, k7, k8⟩, k9, k10, k11⟩ := h
  have g1 := R4.grown_setCell wr ⟨gA, 2, none⟩ (.int .i64 (s : Int))
  have g2 := R4.grown_setCell (wr.setCell ⟨gA, 2, none⟩ (.int .i64 (s : Int))) ⟨gE, 2, none⟩ (.int .i64 (s : Int))
  have sz := g1.size
  have keep : ∀ {k : Nat} {o : Obj}, wr.heap[k]? = some o → k ≠ gA → k ≠ gE → ((wr.setCell ⟨gA, 2, none⟩ (.int .i64 (s : Int))).setCell ⟨gE, 2, none⟩ (.int .i64 (s : Int))).heap[k]? = some o := fun {k o} hk n1 n2 =>
    (g2.block k (by have := R4.heap_lt hk; omega) (by simp; omega)).trans ((g1.block k (R4.heap_lt hk) (by simp; omega)).trans hk)
  refine ⟨(k1.setCell k2.2.2.1 _).setCell k2.2.2.2 _, k2, k4, keep k5 (by omega) (by omega), ⟨A', c', keep k6 (by omega) (by omega), (k7.miss g1 (fun h => h.2.1 rfl)).miss g2 (fun h => h.2.2 rfl), k8⟩, keep k9 (by omega) (by omega), ?_, ?_⟩
  · have e1 : (wr.setCell ⟨gA, 2, none⟩ (.int .i64 (s : Int))).heap[gA]? = some (.cells (el4 256 s) 72) := heap_setCell_same wr gA 2 _ _ _ k10
    exact (g2.block gA (R4.heap_lt e1) (by simp; omega)).trans e1
  · have e1 : (wr.setCell ⟨gA, 2, none⟩ (.int .i64 (s : Int))).heap[gE]? = some (.cells (el4 288 t) 72) := (g1.block gE (R4.heap_lt k11) (by simp; omega)).trans k11
    exact heap_setCell_same _ gE 2 _ _ _ e1
theorem putT {U : Nat → Prop} {wr : World} {xs : List PE} {A : Option Addr} {c : Nat} {sv lv : Value} {s : List Int} {l : List Nat} {G H : Nat → Prop} (hU : ∀ k, wr.heap.size ≤ k → U k) (hT : RefU U wr (.slice A (putL xs).length c) (putL xs)) (hz : putL xs = [] → Value.slice A (putL xs).length c = .slice none 0 0) (hx : ∀ x ∈ xs, x.1.length = 1) (hl : xs.length ≤ 900) (hs : RdI G wr sv s) (hq : RdQ H wr lv l) (h1 : s.length = 1) (h2 : l.length ≤ 1000) {ys : List PE} (hy : xs ++ [(s, l)] = ys) :
    Calls Tryz.prog 59 #[.agg #[.slice A (putL xs).length c], sv, lv] wr fun e w' => (∃ A' c', e = .returned (.agg #[.slice A' (putL ys).length c']) ∧ RefU U w' (.slice A' (putL ys).length c') (putL ys)) ∧ Below wr.heap.size wr w' := by
  subst hy
  have ho := ok_putL hx
  refine (put_any hU hT hs hq ho.seq (by omega) (by omega) h2 (Nat.le_trans ho.len (by omega)) hz (R := putL (xs ++ [(s, l)])) (by rw [putL_one])).mono fun e w' h => ?_
  obtain ⟨⟨u, he, hu⟩, hb⟩ := h
  obtain ⟨A', c', rfl⟩ := hu.form
  exact ⟨⟨A', c', he, hu⟩, hb⟩
end Go.Proofs.YtaabdpfhpolcgaaGreat
