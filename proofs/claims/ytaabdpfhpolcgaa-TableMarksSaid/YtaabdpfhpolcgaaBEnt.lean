/-
  ENTRIES that a call makes: what one gives, what append does, lists of them.
-/
import Derived.Test.YtaabdpfhpolcgaaBSort
import Derived.Maps.AppendAt
import Derived.OwnWalk
namespace Go.Proofs.Ytaabdpfhpolcgaa
open Go.RowKit
set_option linter.unusedVariables false
set_option linter.unusedSimpArgs false
/-- Block k has cells, and they are no entries. -/
def NotE (w : World) (k : Nat) : Prop := ∃ cs T fr, w.heap[k]? = some (.cells cs T fr) ∧ T ≠ 40
/-- An entry whose slices lie from block B on, in blocks of no entries. -/
def Ent (B : Nat) (w : World) (m : ME) : Prop := EntOk (fun k => B ≤ k ∧ NotE w k) w m
theorem Ent.ok {B : Nat} {w : World} {m : ME} (h : Ent B w m) {F : Nat → Prop} (hF : ∀ k, B ≤ k → F k) : EntOk F w m := h.mono fun k hk => hF k hk.1
theorem Ent.step {B : Nat} {w w' : World} {m : ME} (h : Ent B w m) (hf : ∀ k, NotE w k → k < w.heap.size → w'.heap[k]? = w.heap[k]?) : Ent B w' m := by
  have key : ∀ {v : Value} {n : Nat} {xs : List Value}, RdF (fun k => B ≤ k ∧ NotE w k) w v n xs → RdF (fun k => B ≤ k ∧ NotE w' k) w' v n xs := fun {v n xs} hr => by
    obtain ⟨A, c, rfl, hc, hr⟩ := hr
    refine ⟨A, c, rfl, hc, fun h0 => ?_⟩
    obtain ⟨g, o, e, hg, hx⟩ := hr h0
    obtain ⟨cs, T, fr, h1, h2⟩ := hg.2
    have e2 := hf g hg.2 (R4.heap_lt h1)
    refine ⟨g, o, e, ⟨hg.1, cs, T, fr, e2.trans h1, h2⟩, fun j u hu => ?_⟩
    rw [World.cell?_of_block (w := w) (a := ⟨g, o + j, none⟩) e2]
    exact hx j u hu
  exact ⟨key h.1, key h.2⟩
theorem Ent.below {B B' : Nat} {w w' : World} {m : ME} (h : Ent B w m) (hb : Below B' w w') (hB : w.heap.size ≤ B') : Ent B w' m := h.step fun k _ hk => hb.block k (by omega)
theorem Ent.grown {B B' : Nat} {w w' : World} {v : Value} {M : List ME} {m : ME} (h : Ent B w m) (ho : OwnM B' w v M) (hg : w.grownBy w' v.ownBlock) : Ent B w' m := h.step fun k hk hl => by
  obtain ⟨cs, T, fr, h1, h2⟩ := hk
  exact hg.block k hl (R4.own_apart ho h1 h2)
theorem rdF_own {B B' : Nat} {w : World} {e : TypeId} {s : Nat} {v : Value} {n : Nat} {xs : List Value} (h : w.ownsRow B e s v n xs) (he : e ≠ 40) (hB : B' ≤ B) : RdF (fun k => B' ≤ k ∧ NotE w k) w v n xs := by
  obtain ⟨A, c, rfl, hc, hr⟩ := R4.own_parts h
  refine ⟨A, c, rfl, hc, fun h0 => ?_⟩
  obtain ⟨g, e', hg, hl, hx⟩ := hr h0
  obtain ⟨cur, h1⟩ := R4.own_block h (g := g) (by rw [e']; rfl)
  exact ⟨g, 0, e', ⟨by omega, _, _, _, h1, he⟩, fun j u hu => by rw [Nat.zero_add]; exact hx j u hu⟩
theorem ent_of {B B1 B2 : Nat} {w : World} {vs vl : Value} {s : List Int} {l : List Nat} (h1 : T2.OwnI B1 w vs s) (h2 : OwnE B2 w vl l) (hB1 : B ≤ B1) (hB2 : B ≤ B2) : Ent B w ⟨vs, vl, s, l⟩ :=
  ⟨rdF_own h1 (by decide) hB1, rdF_own h2 (by decide) hB2⟩
theorem OwnE.below {B B' : Nat} {w w' : World} {v : Value} {l : List Nat} (h : OwnE B w v l) (hb : Below B' w w') (hB : w.heap.size ≤ B') : OwnE B w' v l := R4.own_below h hb hB
theorem OwnM.below {B B' : Nat} {w w' : World} {v : Value} {M : List ME} (h : OwnM B w v M) (hb : Below B' w w') (hB : w.heap.size ≤ B') : OwnM B w' v M := R4.own_below h hb hB
theorem OwnE.form {B : Nat} {w : World} {v : Value} {l : List Nat} (h : OwnE B w v l) : ∃ A c, v = .slice A l.length c := by
  obtain ⟨A, c, e, _⟩ := R4.own_parts h
  exact ⟨A, c, e⟩
theorem OwnM.form {B : Nat} {w : World} {v : Value} {M : List ME} (h : OwnM B w v M) : ∃ A c, v = .slice A M.length c := by
  obtain ⟨A, c, e, _⟩ := R4.own_parts h
  exact ⟨A, c, e⟩
theorem one_ent {B : Nat} {W : World} {vl : Value} {l : List Nat} (h : OwnE B W vl l) (hB : B ≤ W.heap.size) (c : Int) :
    Calls Try.prog 43 #[.int .i64 c, vl] W fun e w' => ∃ vs, e = .returned (.agg #[vs, vl]) ∧ Ent B w' ⟨vs, vl, [c], l⟩ ∧ Below W.heap.size W w' := by
  obtain ⟨A, n, rfl⟩ := h.form
  exact (one_any c A _ n W).mono fun e w' ⟨⟨vs, he, ho⟩, hb⟩ => ⟨vs, he, ent_of ho (h.below hb (Nat.le_refl _)) hB (Nat.le_refl _), hb⟩
theorem entry_info : (Try.prog.info? 40).map (fun i => (i.zero, i.size, i.bytes)) = some (some (.agg #[.slice none 0 0, .slice none 0 0]), 2, 48) := by kernel_rfl
theorem pushM {ops : Array Oper} {rest : List Oper} {o : Oper} {a : Act} {Q : Exit → Act → World → Prop} (hgd : o.guard = none) (s x : Operand)
    (ho : o.op = .call { callee := .builtin .append, args := #[s, x], argTypes := #[36, 36] })
    (w0 : World) (B : Nat) (v : Value) (M N : List ME) (C : Nat) (hs : a.eval s = v) (hown : OwnM B w0 v M) (hM : ∀ m ∈ M, Ent B w0 m) (hN : ∀ m ∈ N, Ent B w0 m) (hx : a.eval x = .slice (some ⟨w0.heap.size, 0, none⟩) N.length C)
    (hB : B ≤ w0.heap.size) (hl : M.length + N.length ≤ 1000000)
    (h : ∀ v' w', OwnM B w' v' (M ++ N) → (∀ m ∈ M ++ N, Ent B w' m) → Below B w0 w' → wpList Try.prog ops Q rest (a.put o.dst v') w') : wpList Try.prog ops Q (o :: rest) a (w0.alloc (.cells (mcells N).toArray 40)) := by
  obtain ⟨i0, hi0, hz0, hz1, hz2⟩ := info_parts entry_info
  have hb1 : Below B w0 (w0.alloc (.cells (mcells N).toArray 40)) := (Below.refl B w0).alloc hB _
  have hb0 : Below w0.heap.size w0 (w0.alloc (.cells (mcells N).toArray 40)) := (Below.refl _ w0).alloc (Nat.le_refl _) _
  have hb2 : B ≤ (w0.alloc (.cells (mcells N).toArray 40)).heap.size := Nat.le_trans hB hb1.size
  have hone : ∀ u ∈ mcells N, u.oneCell' = true := mcells_one (F := anyB) fun m hm => (hN m hm).ok fun _ _ => trivial
  refine wpList_append_own_at _ hgd s x _ ho B 40 i0 _ 2 48 Try.underlying36 hi0 hz0 hz1 hz2 rfl (by omega) v M.length (mcells M) hs (hown.alloc _) _ N.length C (mcells N) hx (by rw [mcells_len])
    (R4.cells_new w0 (mcells N) _) hone (by simp only [maxLen]; omega) (by omega) hb2 ?_
  intro v' w' h2 h3 _ _
  refine h v' w' ?_ ?_ ?_
  · unfold OwnM; rw [mcells_app, List.length_append]; exact h2
  · intro m hm
    have he : Ent B w0 m := by
      rcases List.mem_append.1 hm with hm | hm
      · exact hM m hm
      · exact hN m hm
    exact (he.below hb0 (Nat.le_refl _)).grown (hown.below hb0 (Nat.le_refl _)) h3
  · exact hb1.grown h3 hb2 (fun k hk => (World.ownsRow.lt hown k hk).1)
/-- A new slice of new entries. -/
def GotM (B : Nat) (w : World) (L : List PE) (e : Ending) (w' : World) : Prop := ∃ v M, e = .returned v ∧ pls M = L ∧ OwnM B w' v M ∧ (∀ m ∈ M, Ent B w' m) ∧ Below B w w'
/-- What a loop has made so far. -/
structure Made (B : Nat) (w wr : World) (v : Value) (L : List PE) : Prop where
  got : ∃ M, pls M = L ∧ OwnM B wr v M ∧ ∀ m ∈ M, Ent B wr m
  bel : Below B w wr
theorem Made.nil (B : Nat) (w : World) : Made B w w (.slice none 0 0) [] := ⟨⟨[], rfl, World.ownsRow_nil _ _ _ _, fun m hm => by simp at hm⟩, Below.refl _ _⟩
theorem Made.more {B : Nat} {w wr wr' : World} {v : Value} {L : List PE} (h : Made B w wr v L) (hb : Below wr.heap.size wr wr') (hB : B ≤ wr.heap.size) : Made B w wr' v L := by
  obtain ⟨⟨M, h1, h2, h3⟩, h4⟩ := h
  exact ⟨⟨M, h1, h2.below hb (Nat.le_refl _), fun m hm => (h3 m hm).below hb (Nat.le_refl _)⟩, h4.trans (hb.mono hB)⟩
theorem Made.pushed {ops : Array Oper} {rest : List Oper} {o : Oper} {a : Act} {Q : Exit → Act → World → Prop} {B : Nat} {w w0 : World} {v : Value} {L : List PE} (hmade : Made B w w0 v L) (hgd : o.guard = none) (s x : Operand)
    (ho : o.op = .call { callee := .builtin .append, args := #[s, x], argTypes := #[36, 36] }) (N : List ME) (hN : ∀ m ∈ N, Ent B w0 m) (C : Nat) (hs : a.eval s = v) (hx : a.eval x = .slice (some ⟨w0.heap.size, 0, none⟩) N.length C)
    (hB : B ≤ w0.heap.size) (hl : L.length + N.length ≤ 1000000)
    (h : ∀ v' w', Made B w w' v' (L ++ pls N) → wpList Try.prog ops Q rest (a.put o.dst v') w') : wpList Try.prog ops Q (o :: rest) a (w0.alloc (.cells (mcells N).toArray 40)) := by
  obtain ⟨⟨M, rfl, h2, h3⟩, h4⟩ := hmade
  rw [pls_len] at hl
  exact pushM hgd s x ho w0 B v M N C hs h2 h3 hN hx hB hl fun v' w' k1 k2 k3 => h v' w' ⟨⟨M ++ N, pls_app _ _, k1, k2⟩, h4.trans k3⟩
theorem Made.gotM {B : Nat} {w wr : World} {v : Value} {L : List PE} (h : Made B w wr v L) : GotM B w L (.returned v) wr := by
  obtain ⟨⟨M, h1, h2, h3⟩, h4⟩ := h
  exact ⟨v, M, rfl, h1, h2, h3, h4⟩
end Go.Proofs.Ytaabdpfhpolcgaa
