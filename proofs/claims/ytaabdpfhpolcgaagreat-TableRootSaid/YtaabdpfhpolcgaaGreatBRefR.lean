/-
  PLAIN: the entries of the document's Root in its order; the state between its puts.
-/
import Derived.Test.YtaabdpfhpolcgaaGreatBMark
namespace Go.Proofs.YtaabdpfhpolcgaaGreat
open Go.RowKit
set_option linter.unusedVariables false
set_option linter.unusedSimpArgs false
def putL (xs : List PE) : List PE := xs.foldl putR []
def sixC : List Int := [768, 769, 770, 771, 776, 778]
def fourC : List Int := [768, 769, 770, 776]
def A1 : List PE := (List.range 6).map varE
def A2 : List PE := A1 ++ (List.range 10).map digE
def A3 : List PE := A2 ++ (List.range 26).flatMap letE
def A4 : List PE := A3 ++ (List.range 8).map mkE
def A5 : List PE := A4 ++ (List.range 6).flatMap (compE 192 65 sixC)
def A6 : List PE := A5 ++ compE 199 67 [807] 0
def ceiE (i : Nat) : List PE := compE 200 69 fourC i ++ (compE 204 73 fourC i ++ compE 217 85 fourC i)
def A7 : List PE := A6 ++ (List.range 4).flatMap ceiE
def A8 : List PE := A7 ++ compE 209 78 [771] 0
def A9 : List PE := A8 ++ (List.range 5).flatMap (compE 210 79 sixC)
def A10 : List PE := A9 ++ compE 221 89 [769] 0
def A11 : List PE := A10 ++ [([223], [E3.mk 400 32 4 0, E3.mk 400 32 4 0]), ([230], [E3.mk 256 32 4 0, E3.mk 288 32 4 0]), ([198], [E3.mk 256 32 10 0, E3.mk 288 32 10 0]), ([173], [])]
set_option maxRecDepth 100000 in
theorem ref_root : putL A11 = rootP := by decide +kernel
theorem putL_one (xs : List PE) (x : PE) : putL (xs ++ [x]) = putR (putL xs) x := by simp [putL]
theorem putL_two (xs : List PE) (x y : PE) : putL (xs ++ [x, y]) = putR (putR (putL xs) x) y := by simp [putL]
theorem ok_putL {xs : List PE} (h : ∀ x ∈ xs, x.1.length = 1) : Ok (putL xs) xs.length := by
  have : ∀ (xs L : List PE) (n : Nat), Ok L n → (∀ x ∈ xs, x.1.length = 1) → Ok (xs.foldl putR L) (n + xs.length) := by
    intro xs
    induction xs with
    | nil => intro L n h _; exact h
    | cons x t ih =>
      intro L n h hx
      have h1 := hx x (List.mem_cons_self ..)
      have := ih (putR L x) (n + 1) (h.put (s := x.1) (l := x.2) (by omega) (by omega)) (fun y hy => hx y (List.mem_cons_of_mem _ hy))
      rw [List.length_cons, show n + (t.length + 1) = n + 1 + t.length by omega]
      exact this
  have h2 := this xs [] 0 ⟨fun e he => absurd he (List.not_mem_nil), Nat.le_refl _⟩ h
  rwa [Nat.zero_add] at h2
theorem putL_ne {xs : List PE} (h : xs ≠ []) : putL xs ≠ [] := by
  obtain ⟨ys, y, rfl⟩ : ∃ ys y, xs = ys ++ [y] := ⟨_, _, (List.dropLast_concat_getLast h).symm⟩
  rw [putL_one]
  exact putR_pos _ _
/-- Between two puts: the table's block, the result's block, blocks that are only read. -/
structure RS (w : World) (b0 b1 : Nat) (K : List (Nat × Obj)) (xs : List PE) (wr : World) : Prop where
  bel : Below w.heap.size w wr
  h0 : w.heap.size ≤ b0
  h1 : w.heap.size ≤ b1
  ne : b0 ≠ b1
  res : wr.heap[b0]? = some (.cells #[.slice none 0 0] 42)
  cur : ∃ A c, wr.heap[b1]? = some (.cells #[.slice A (putL xs).length c] 42) ∧ RefT wr (.slice A (putL xs).length c) (putL xs) ∧ (putL xs = [] → Value.slice A (putL xs).length c = .slice none 0 0)
  kp : ∀ p ∈ K, p.1 ≠ b1 ∧ wr.heap[p.1]? = some p.2
theorem RS.below {w wr wr' : World} {b0 b1 : Nat} {K : List (Nat × Obj)} {xs : List PE} (h : RS w b0 b1 K xs wr) (hb : Below wr.heap.size wr wr') : RS w b0 b1 K xs wr' := by
  obtain ⟨h1, h2, h3, h4, h5, ⟨A, c, h6, h7, h8⟩, h9⟩ := h
  exact ⟨h1.trans (hb.mono h1.size), h2, h3, h4, (hb.block _ (R4.heap_lt h5)).trans h5, ⟨A, c, (hb.block _ (R4.heap_lt h6)).trans h6, h7.below hb (Nat.le_refl _), h8⟩, fun p hp => ⟨(h9 p hp).1, (hb.block _ (R4.heap_lt (h9 p hp).2)).trans (h9 p hp).2⟩⟩
theorem RS.keep {w wr : World} {b0 b1 : Nat} {K : List (Nat × Obj)} {xs : List PE} (h : RS w b0 b1 K xs wr) {g : Nat} {o : Obj} (hg : g ≠ b1) (ho : wr.heap[g]? = some o) : RS w b0 b1 ((g, o) :: K) xs wr :=
  ⟨h.bel, h.h0, h.h1, h.ne, h.res, h.cur, fun p hp => by
    rcases List.mem_cons.1 hp with rfl | hp
    · exact ⟨hg, ho⟩
    · exact h.kp p hp⟩
theorem RS.store {w wr : World} {b0 b1 : Nat} {K : List (Nat × Obj)} {xs ys : List PE} {A : Option Addr} {c : Nat} (h : RS w b0 b1 K xs wr) (hu : RefT wr (.slice A (putL ys).length c) (putL ys)) (hy : ys ≠ []) : RS w b0 b1 K ys (wr.setCell ⟨b1, 0, none⟩ (.slice A (putL ys).length c)) := by
  obtain ⟨k1, k2, k3, k4, k5, ⟨A', c', k6, k7, k8⟩, k9⟩ := h
  have hg := R4.grown_setCell wr ⟨b1, 0, none⟩ (.slice A (putL ys).length c)
  refine ⟨k1.setCell k3 _, k2, k3, k4, (hg.block _ (R4.heap_lt k5) (by intro e; injection e with e; exact k4 e)).trans k5, ⟨A, c, heap_setCell_same wr b1 0 _ _ _ k6, hu.off hg k6 (by decide) (by decide) (by decide), fun e => absurd e (putL_ne hy)⟩, fun p hp => ⟨(k9 p hp).1, (hg.block _ (R4.heap_lt (k9 p hp).2) (by intro e; injection e with e; exact (k9 p hp).1 e)).trans (k9 p hp).2⟩⟩
theorem RS.cell {w wr : World} {b0 b1 : Nat} {K : List (Nat × Obj)} {xs : List PE} (h : RS w b0 b1 K xs wr) : ∃ A c, wr.cell? ⟨b1, 0, none⟩ = some (.slice A (putL xs).length c) ∧ wr.frozen? ⟨b1, 0, none⟩ = false ∧ RefT wr (.slice A (putL xs).length c) (putL xs) ∧ (putL xs = [] → Value.slice A (putL xs).length c = .slice none 0 0) := by
  obtain ⟨A, c, h6, h7, h8⟩ := h.cur
  exact ⟨A, c, by rw [cell_of_row _ _ 0 _ _ _ h6]; rfl, frozen_of_row _ _ 0 _ _ h6, h7, h8⟩
theorem RS.start (w : World) : RS w w.heap.size (w.heap.size + 1) [] [] ((w.alloc (.cells #[.slice none 0 0] 42)).alloc (.cells #[.slice none 0 0] 42)) := by
  have e1 : (w.alloc (.cells #[.slice none 0 0] 42)).heap.size = w.heap.size + 1 := by simp
  refine ⟨((Below.refl _ w).alloc (Nat.le_refl _) _).alloc (by simp) _, Nat.le_refl _, Nat.le_succ _, by omega, ?_, ⟨none, 0, ?_, RefT.nil _, fun _ => rfl⟩, fun p hp => absurd hp (List.not_mem_nil)⟩
  · rw [(alloc_below (w.alloc (.cells #[.slice none 0 0] 42)) (.cells #[.slice none 0 0] 42)).block _ (by simp)]
    exact heap_alloc_new w _
  · have := heap_alloc_new (w.alloc (.cells #[.slice none 0 0] 42)) (.cells #[.slice none 0 0] 42)
    rw [e1] at this
    exact this
/-- A put, in the words of the state. -/
theorem putS {wr : World} {xs : List PE} {A : Option Addr} {c : Nat} {sv lv : Value} {s : List Int} {l : List Nat} {G H : Nat → Prop} (hT : RefT wr (.slice A (putL xs).length c) (putL xs)) (hz : putL xs = [] → Value.slice A (putL xs).length c = .slice none 0 0) (hx : ∀ x ∈ xs, x.1.length = 1) (hl : xs.length ≤ 900) (hs : RdI G wr sv s) (hq : RdQ H wr lv l) (h1 : s.length = 1) (h2 : l.length ≤ 1000) {ys : List PE} (hy : xs ++ [(s, l)] = ys) :
    Calls Tryz.prog 59 #[.agg #[.slice A (putL xs).length c], sv, lv] wr fun e w' => (∃ A' c', e = .returned (.agg #[.slice A' (putL ys).length c']) ∧ RefT w' (.slice A' (putL ys).length c') (putL ys)) ∧ Below wr.heap.size wr w' := by
  subst hy
  refine (putO hT (ok_putL hx) (by omega) hz hs hq (by omega) (by omega) h2 (R := putL (xs ++ [(s, l)])) (by rw [putL_one])).mono fun e w' h => ?_
  obtain ⟨⟨u, he, hu⟩, hb⟩ := h
  obtain ⟨A', c', rfl⟩ := hu.form
  exact ⟨⟨A', c', he, hu⟩, hb⟩
theorem markedS {wr : World} {xs : List PE} {A : Option Addr} {cc : Nat} {c x m : Int} {b : Nat} (hT : RefT wr (.slice A (putL xs).length cc) (putL xs)) (hne : xs ≠ []) (hx : ∀ x ∈ xs, x.1.length = 1) (hl : xs.length ≤ 900) (hb : 65 ≤ b ∧ b ≤ 90) (hbx : (b : Int) = x) (hm : m ∈ mkC) (hc : 0 ≤ c ∧ c ≤ 1000) {ys : List PE} (hy : xs ++ [([c], [letW b, mkW m]), ([c + 32], [letW (b + 32), mkW m])] = ys) :
    Calls Tryz.prog 62 #[.agg #[.slice A (putL xs).length cc], .int .i64 c, .int .i64 x, .int .i64 m] wr fun e w' => (∃ A' c', e = .returned (.agg #[.slice A' (putL ys).length c']) ∧ RefT w' (.slice A' (putL ys).length c') (putL ys)) ∧ Below wr.heap.size wr w' := by
  subst hy
  refine (marked_any hT (ok_putL hx) (by omega) (putL_ne hne) hb hbx hm hc (R := putL (xs ++ [([c], [letW b, mkW m]), ([c + 32], [letW (b + 32), mkW m])])) (by rw [putL_two])).mono fun e w' h => ?_
  obtain ⟨⟨u, he, hu⟩, hb⟩ := h
  obtain ⟨A', c', rfl⟩ := hu.form
  exact ⟨⟨A', c', he, hu⟩, hb⟩
theorem RS.kept {w wr : World} {b0 b1 : Nat} {K : List (Nat × Obj)} {xs : List PE} (h : RS w b0 b1 K xs wr) {g : Nat} {l : List Int} (hg : (g, Obj.cells (iv l).toArray 3) ∈ K) {k : Nat} {x : Int} (hk : l[k]? = some x) : wr.cell? ⟨g, k, none⟩ = some (.int .i64 x) := by
  rw [cell_of_row _ _ k _ _ _ (h.kp _ hg).2, List.getElem?_toArray]
  exact iv_at hk
/-- A block of numbers is made. -/
theorem RS.row {w wr : World} {b0 b1 : Nat} {K : List (Nat × Obj)} {xs : List PE} (h : RS w b0 b1 K xs wr) (l : List Int) : RS w b0 b1 ((wr.heap.size, .cells (iv l).toArray 3) :: K) xs (wr.alloc (.cells (iv l).toArray 3)) := by
  refine (h.below (alloc_below wr _)).keep ?_ (heap_alloc_new wr _)
  obtain ⟨A, c, h6, _⟩ := h.cur
  have := R4.heap_lt h6
  omega
end Go.Proofs.YtaabdpfhpolcgaaGreat
