/-
  PACKED for a claim.
-/
import Derived.Test.YtichfdjjbafeiaaGreatF26
import Derived.Test.YtichfdjjbafeiaaGreatF28
set_option linter.unusedVariables false
set_option linter.unusedSimpArgs false
set_option maxRecDepth 100000
namespace Go.Proofs.YtichfdjjbafeiaaGreat
open Go.RowKit
structure TabAt (F : Nat -> Prop) (w : World) (p : Nat) (L : List PE) : Prop where
 good : GoodT L
 at_ : ∃ (ve : Value) (bo b2 b3 : Nat), w.heap[p]? = some (.cells #[ve, .pointer (some ⟨bo, 0, none⟩), .map (some b2), .map (some b3)] 70 (0, 0)) /\ RdT F w ve L /\ R4.TrieAt w bo (R4.rowsF 17412 (R4.findP (ones 0 L))) /\ KMap 128 2 w b2 L /\ KMap 129 3 w b3 L
theorem TabAt.below {F : Nat -> Prop} {w w' : World} {p : Nat} {L : List PE} {B : Nat} (h : TabAt F w p L) (hb : Below B w w') (hB : w.heap.size <= B) : TabAt F w' p L := by
 obtain ⟨hg, ve, bo, b2, b3, h1, h2, h3, h4, h5⟩ := h; exact ⟨hg, ve, bo, b2, b3, (hb.block p (Nat.lt_of_lt_of_le (R4.yac h1) hB)).trans h1, h2.below hb hB, h3.below hb hB, h4.below hb hB, h5.below hb hB⟩
theorem TabAt.mono {F G : Nat -> Prop} {w : World} {p : Nat} {L : List PE} (h : TabAt F w p L) (hG : ∀ g, F g -> G g) : TabAt G w p L := by
 obtain ⟨hg, ve, bo, b2, b3, h1, h2, h3, h4, h5⟩ := h; exact ⟨hg, ve, bo, b2, b3, h1, h2.mono hG, h3, h4, h5⟩
theorem TabAt.lt {F : Nat -> Prop} {w : World} {p : Nat} {L : List PE} (h : TabAt F w p L) : p < w.heap.size := by
 obtain ⟨hg, ve, bo, b2, b3, h1, h2, h3, h4, h5⟩ := h; exact R4.yac h1
theorem TabAt.cells {F : Nat -> Prop} {w : World} {p : Nat} {L : List PE} (h : TabAt F w p L) : ∃ (A : Option Addr) (c bo b2 b3 : Nat), w.cell? ⟨p, 0, none⟩ = some (.slice A L.length c) /\ w.cell? ⟨p, 1, none⟩ = some (.pointer (some ⟨bo, 0, none⟩)) /\ w.cell? ⟨p, 2, none⟩ = some (.map (some b2)) /\ w.cell? ⟨p, 3, none⟩ = some (.map (some b3)) ∧
  RdT F w (.slice A L.length c) L /\ R4.TrieAt w bo (R4.rowsF 17412 (R4.findP (ones 0 L))) /\ KMap 128 2 w b2 L /\ KMap 129 3 w b3 L := by
 obtain ⟨hg, ve, bo, b2, b3, h1, h2, h3, h4, h5⟩ := h; obtain ⟨A, c, rfl⟩ := h2.form; exact ⟨A, c, bo, b2, b3, by rw [cell_of_row w p 0 _ _ _ h1]; rfl, by rw [cell_of_row w p 1 _ _ _ h1]; rfl, by rw [cell_of_row w p 2 _ _ _ h1]; rfl, by rw [cell_of_row w p 3 _ _ _ h1]; rfl, h2, h3, h4, h5⟩
theorem ykn {w w' : World} {p : Nat} {r : List (List Int)} {b : Nat} {cs : Array Value} {T : TypeId} {fr : Nat × Nat} (h : R4.TrieAt w p r) (hg : w.grownBy w' (some b)) (hb : w.heap[b]? = some (.cells cs T fr)) (h1 : T ≠ 193) (h2 : T ≠ 194) (h3 : T ≠ 189) : R4.TrieAt w' p r := by
 obtain ⟨⟨vi, vb, e1, e2, e3⟩, hgd, hl⟩ := h; refine ⟨⟨vi, vb, (hg.block p (R4.yac e1) ?_).trans e1, World.ownsRow.kept e2 hg ?_, World.ownsRow.kept e3 hg ?_⟩, hgd, hl⟩
 ·intro e
  injection e with e
  subst e; rw [hb] at e1
  injection e1 with e1
  injection e1 with e1 e4 e5
  exact h1 e4
 ·cases q : vi.ownBlock with
  | none => exact .inl rfl
  | some g => exact .inr (fun e => R4.yai e2 hb h2 (by rw [q, e]))
 ·cases q : vb.ownBlock with
  | none => exact .inl rfl
  | some g => exact .inr (fun e => R4.yai e3 hb h3 (by rw [q, e]))
theorem ypb {L : List PE} (h : GoodT L) : R4.Wide (ones 0 L) := by
 intro p hp; obtain ⟨e, he, e1, h1, h2⟩ := yhn hp; have hl := h.len; exact ⟨by omega, by omega⟩
structure BuildSt (w : World) (vl : Value) (v : Value) (L : List PE) (wr : World) : Prop where
 own : R4.OwnP (w.heap.size + 3) wr v (ones 0 L)
 m2 : KMap 128 2 wr w.heap.size L
 m3 : KMap 129 3 wr (w.heap.size + 1) L
 tab : wr.heap[w.heap.size + 2]? = some (.cells #[vl, .pointer none, .map (some w.heap.size), .map (some (w.heap.size + 1))] 70 (0, 0))
 bel : Below w.heap.size w wr
theorem BuildSt.big {w wr : World} {vl v : Value} {L : List PE} (h : BuildSt w vl v L wr) : w.heap.size + 3 <= wr.heap.size := by
 have := R4.yac h.tab; omega
theorem BuildSt.more {w wr wr' : World} {vl v : Value} {L : List PE} (h : BuildSt w vl v L wr) (hb : Below wr.heap.size wr wr') : BuildSt w vl v L wr' :=
 ⟨R4.yah h.own hb (zN _), h.m2.below hb (zN _), h.m3.below hb (zN _), (hb.block _ (R4.yac h.tab)).trans h.tab, h.bel.trans (hb.mono h.bel.size)⟩
theorem BuildSt.start (w : World) (A : Option Addr) (n c : Nat) : BuildSt w (.slice A n c) (.slice none 0 0) [] (((w.alloc (.map #[] 0)).alloc (.map #[] 0)).alloc (.cells #[.slice A n c, .pointer none, .map (some w.heap.size), .map (some (w.heap.size + 1))] 70)) := by
 have e1 : (w.alloc (.map #[] 0)).heap.size = w.heap.size + 1 := by simp
 have e2 : ((w.alloc (.map #[] 0)).alloc (.map #[] 0)).heap.size = w.heap.size + 2 := by simp
 have hb1 : ∀ o, Below (w.alloc (.map #[] 0)).heap.size (w.alloc (.map #[] 0)) ((w.alloc (.map #[] 0)).alloc o) := fun o => (zR _ _).alloc (zN _) o
 have hb2 : ∀ o, Below ((w.alloc (.map #[] 0)).alloc (.map #[] 0)).heap.size ((w.alloc (.map #[] 0)).alloc (.map #[] 0)) (((w.alloc (.map #[] 0)).alloc (.map #[] 0)).alloc o) := fun o => (zR _ _).alloc (zN _) o
 refine ⟨World.ownsRow_nil _ _ _ _, ((KMap.new _ _ w).below (hb1 _) (zN _)).below (hb2 _) (zN _), ?_, ?_, (((zR _ w).alloc (zN _) _).alloc (by omega) _).alloc (by omega) _⟩
 ·have := KMap.new 129 3 (w.alloc (.map #[] 0))
  rw [e1] at this; exact this.below (hb2 _) (zN _)
 ·have := heap_alloc_new ((w.alloc (.map #[] 0)).alloc (.map #[] 0)) (.cells #[.slice A n c, .pointer none, .map (some w.heap.size), .map (some (w.heap.size + 1))] 70)
  rw [e2] at this; exact this
theorem yfm : (Tryz.prog.info? 127).map (fun i => (i.zero, i.size, i.bytes)) = some (some (.agg #[.int .i64 0, .int .i64 0]), 2, 16) := by kernel_rfl
theorem BuildSt.push {ops : Array Oper} {rest : List Oper} {o : Oper} {a : Act} {Q : Exit -> Act -> World -> Prop} {w wr : World} {vl v : Value} {L : List PE} (h : BuildSt w vl v L wr) {e : PE} (he : e.1.length = 1) {x : Int} (hx : hd e.1 = x) {y : Int} (hy : (L.length : Int) + 1 = y) (hlen : L.length <= 1000) (hgd : o.guard = none) (s z : Operand)
  (ho : o.op = .call { callee := .builtin .append, args := #[s, z], argTypes := #[125, 125] }) (C : Nat) {b : Nat} (hbb : wr.heap.size = b) (hs : a.eval s = v) (hz : a.eval z = .slice (some ⟨b, 0, none⟩) 1 C)
  (hK : ∀ v' w', BuildSt w vl v' (L ++ [e]) w' -> wpList Tryz.prog ops Q rest (a.put o.dst v') w') : wpList Tryz.prog ops Q (o :: rest) a (wr.alloc (.cells #[.int .i64 x, .int .i64 y] 127)) := by
 subst hbb; obtain ⟨i0, hi0, hz0, hz1, hz2⟩ := info_parts yfm
 have hA : Below wr.heap.size wr (wr.alloc (.cells #[.int .i64 x, .int .i64 y] 127)) := (zR _ wr).alloc (zN _) _
 have h1 := h.more hA; have hol := ykx 0 L
 refine wpList_append_own_at _ hgd s z _ ho (w.heap.size + 3) 127 i0 _ 2 16 Tryz.underlying125 hi0 hz0 hz1 hz2 rfl (by omega) v (ones 0 L).length (R4.pcells (ones 0 L)) hs h1.own ⟨wr.heap.size, 0, none⟩ 1 C [.int .i64 x, .int .i64 y] hz rfl
  (R4.yar wr [.int .i64 x, .int .i64 y] _) (by intro u hu; simp at hu; rcases hu with rfl | rfl <;> rfl) (by simp only [maxLen]; omega) (by omega) h1.big ?_
 intro v' w' h2 h3 _ _
 have hse : ones 0 (L ++ [e]) = ones 0 L ++ [(x, y)] := by
  rw [yho, Nat.zero_add, ones, ones, if_pos he, hx, List.append_nil, <- hy]
 refine hK v' w' ⟨?_, ?_, ?_, ?_, ?_⟩
 ·unfold R4.OwnP; rw [hse, R4.ymn, List.length_append]; exact h2
 ·obtain ⟨es, c, hm⟩ := h1.m2.isMap; exact (h1.m2.kept h3 (R4.yaw h1.own hm)).other e (by omega)
 ·obtain ⟨es, c, hm⟩ := h1.m3.isMap; exact (h1.m3.kept h3 (R4.yaw h1.own hm)).other e (by omega)
 ·exact (h3.block _ (R4.yac h1.tab) (R4.yai h1.own h1.tab (by decide))).trans h1.tab
 ·exact h1.bel.grown h3 h1.bel.size (fun k hk => by have := (World.ownsRow.lt h1.own k hk).1; omega)
theorem ycm {w w' : World} {B : Nat} {e : TypeId} {s : Nat} {v : Value} {n : Nat} {xs : List Value} (h : w.ownsRow B e s v n xs) {b : Nat} (hg : w.grownBy w' (some b)) (hb : b < B) : w'.ownsRow B e s v n xs := by
 refine World.ownsRow.kept h hg ?_
 cases q : v.ownBlock with
 | none => exact .inl rfl
 | some g =>
  right
  intro e'
  injection e' with e'
  have := (World.ownsRow.lt h g q).1
  omega
theorem BuildSt.map2 {w wr w' : World} {vl v : Value} {L : List PE} (h : BuildSt w vl v L wr) {e : PE} (he : e.1.length = 2) (hg : wr.grownBy w' (some w.heap.size)) (hm : KMap 128 2 w' w.heap.size (L ++ [e])) : BuildSt w vl v (L ++ [e]) w' where
 own := by
  have hse : ones 0 (L ++ [e]) = ones 0 L := by rw [yho, ones, ones, if_neg (by omega)]; simp
  unfold R4.OwnP; rw [hse]; exact ycm h.own hg (by omega)
 m2 := hm
 m3 := (h.m3.kept hg (by simp)).other e (by omega)
 tab := (hg.block _ (R4.yac h.tab) (by simp)).trans h.tab
 bel := h.bel.grown hg h.bel.size (fun k hk => by cases hk; exact zN _)
theorem BuildSt.map3 {w wr w' : World} {vl v : Value} {L : List PE} (h : BuildSt w vl v L wr) {e : PE} (he : e.1.length = 3) (hg : wr.grownBy w' (some (w.heap.size + 1))) (hm : KMap 129 3 w' (w.heap.size + 1) (L ++ [e])) : BuildSt w vl v (L ++ [e]) w' where
 own := by
  have hse : ones 0 (L ++ [e]) = ones 0 L := by rw [yho, ones, ones, if_neg (by omega)]; simp
  unfold R4.OwnP; rw [hse]; exact ycm h.own hg (by omega)
 m2 := (h.m2.kept hg (by simp)).other e (by omega)
 m3 := hm
 tab := (hg.block _ (R4.yac h.tab) (by simp)).trans h.tab
 bel := h.bel.grown hg h.bel.size (fun k hk => by cases hk; omega)
end Go.Proofs.YtichfdjjbafeiaaGreat
