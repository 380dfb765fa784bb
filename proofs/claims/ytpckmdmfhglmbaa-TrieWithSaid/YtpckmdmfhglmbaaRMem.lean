/-
  WORDS FOR MEMORY: a trie, a builder of one, the rows that they own, pairs in a slice.
-/
import Derived.Test.YtpckmdmfhglmbaaRFound
import Derived.WalkKit
import Derived.Below
import Derived.Maps.AppendAt
import Derived.Deep.AppendLies
import Derived.Deep.DeepAppendRoom
import Derived.OwnWalk
import Derived.Laws.OwnMore
import Derived.Laws.Rows
namespace Go.Proofs.Ytpckmdmfhglmbaa
open Go.RowKit
set_option linter.unusedVariables false
set_option linter.unusedSimpArgs false
def uvals (ix : List Nat) : List Value := ix.map fun k : Nat => Value.int .u16 (k : Int)
def bcells (bs : List (List Int)) : List Value := bs.flatMap cellsB
def pcells (l : List (Int × Int)) : List Value := l.flatMap fun p => [Value.int .i64 p.1, Value.int .i64 p.2]
def OwnU (B : Nat) (w : World) (v : Value) (ix : List Nat) : Prop := w.ownsRow B 53 1 v ix.length (uvals ix)
def OwnK (B : Nat) (w : World) (v : Value) (bs : List (List Int)) : Prop := w.ownsRow B 48 64 v bs.length (bcells bs)
def OwnP (B : Nat) (w : World) (v : Value) (l : List (Int × Int)) : Prop := w.ownsRow B 29 2 v l.length (pcells l)
theorem uvals_len (l : List Nat) : (uvals l).length = l.length := by simp [uvals]
theorem uvals_app (a b : List Nat) : uvals (a ++ b) = uvals a ++ uvals b := by simp [uvals]
theorem uvals_one (l : List Nat) : ∀ u ∈ uvals l, u.oneCell' = true := by
  intro u hu
  obtain ⟨k, _, rfl⟩ := List.mem_map.1 hu
  rfl
theorem cellsB_one (x : List Int) : ∀ u ∈ cellsB x, u.oneCell' = true := by
  intro u hu
  obtain ⟨k, _, rfl⟩ := List.mem_map.1 hu
  rfl
theorem pcells_app (a b : List (Int × Int)) : pcells (a ++ b) = pcells a ++ pcells b := by simp [pcells]
theorem bcells_app (a b : List (List Int)) : bcells (a ++ b) = bcells a ++ bcells b := by simp [bcells]
theorem pcells_len (l : List (Int × Int)) : (pcells l).length = l.length * 2 := by
  induction l with
  | nil => rfl
  | cons p t ih => rw [show pcells (p :: t) = [Value.int .i64 p.1, Value.int .i64 p.2] ++ pcells t from rfl, List.length_append, ih]; simp; omega
theorem pcells_at {l : List (Int × Int)} {k : Nat} {p : Int × Int} (h : l[k]? = some p) : (pcells l)[k * 2]? = some (.int .i64 p.1) ∧ (pcells l)[k * 2 + 1]? = some (.int .i64 p.2) := by
  induction l generalizing k with
  | nil => simp at h
  | cons q t ih =>
    rw [show pcells (q :: t) = Value.int .i64 q.1 :: Value.int .i64 q.2 :: pcells t from rfl]
    cases k with
    | zero => simp at h; subst h; exact ⟨rfl, rfl⟩
    | succ k =>
      simp only [List.getElem?_cons_succ] at h
      obtain ⟨h1, h2⟩ := ih h
      refine ⟨?_, ?_⟩
      · rw [show (k + 1) * 2 = k * 2 + 1 + 1 by omega]; simpa using h1
      · rw [show (k + 1) * 2 + 1 = k * 2 + 1 + 1 + 1 by omega]; simpa using h2
theorem pcells_one (l : List (Int × Int)) : ∀ u ∈ pcells l, u.oneCell' = true := by
  intro u hu
  obtain ⟨p, _, hp⟩ := List.mem_flatMap.1 hu
  simp at hp
  rcases hp with rfl | rfl <;> rfl
theorem bcells_at {bs : List (List Int)} (hg : ∀ x ∈ bs, x.length = 64) {k j : Nat} {x : List Int} (h : bs[k]? = some x) (hj : j < 64) : (bcells bs)[k * 64 + j]? = (cellsB x)[j]? := by
  induction bs generalizing k with
  | nil => simp at h
  | cons y t ih =>
    rw [show bcells (y :: t) = cellsB y ++ bcells t from rfl]
    have hy : (cellsB y).length = 64 := by rw [cellsB_len]; exact hg y (by simp)
    cases k with
    | zero =>
      simp at h
      subst h
      rw [List.getElem?_append_left (by rw [hy]; omega)]
      congr 1; omega
    | succ k =>
      simp only [List.getElem?_cons_succ] at h
      rw [List.getElem?_append_right (by rw [hy]; omega), hy, show (k + 1) * 64 + j - 64 = k * 64 + j by omega]
      exact ih (fun z hz => hg z (by simp [hz])) h
theorem own_block {w : World} {B : Nat} {e : TypeId} {s : Nat} {v : Value} {n : Nat} {xs : List Value} (h : w.ownsRow B e s v n xs) {g : Nat} (hg : v.ownBlock = some g) : ∃ cur, w.heap[g]? = some (.cells cur e (0, 0)) := by
  rcases h.2 with ⟨rfl, _⟩ | ⟨g', cap, cur, rfl, _, hgg, _⟩
  · cases hg
  · simp [Value.ownBlock] at hg
    subst hg
    exact ⟨cur, hgg⟩
theorem own_lt {w : World} {B : Nat} {e : TypeId} {s : Nat} {v : Value} {n : Nat} {xs : List Value} (h : w.ownsRow B e s v n xs) : ∀ k, v.ownBlock = some k → B ≤ k ∧ k < w.heap.size := World.ownsRow.lt h
theorem own_mono {w : World} {B B' : Nat} {e : TypeId} {s : Nat} {v : Value} {n : Nat} {xs : List Value} (h : w.ownsRow B e s v n xs) (hB : B' ≤ B) : w.ownsRow B' e s v n xs := by
  refine ⟨h.1, ?_⟩
  rcases h.2 with hn | ⟨g, cap, cur, e1, hg, rest⟩
  · exact .inl hn
  · exact .inr ⟨g, cap, cur, e1, by omega, rest⟩
theorem own_below {w w' : World} {B B' : Nat} {e : TypeId} {s : Nat} {v : Value} {n : Nat} {xs : List Value} (h : w.ownsRow B e s v n xs) (hb : Below B' w w') (hB : w.heap.size ≤ B') : w'.ownsRow B e s v n xs := by
  refine ⟨h.1, ?_⟩
  rcases h.2 with hn | ⟨g, cap, cur, rfl, hg, hgg, rest⟩
  · exact .inl hn
  · exact .inr ⟨g, cap, cur, rfl, hg, by rw [hb.block g (Nat.lt_of_lt_of_le (Array.getElem?_eq_some_iff.1 hgg).1 hB)]; exact hgg, rest⟩
/-- The row of another type, or a block that is no such row: not the row that was written. -/
theorem own_apart {w : World} {B : Nat} {e e' : TypeId} {s : Nat} {v : Value} {n : Nat} {xs : List Value} (h : w.ownsRow B e s v n xs) {k : Nat} {cs : Array Value} {fr : Nat × Nat} (hk : w.heap[k]? = some (.cells cs e' fr)) (hne : e' ≠ e) : some k ≠ v.ownBlock := by
  intro e0
  obtain ⟨cur, hc⟩ := own_block h e0.symm
  rw [hk] at hc
  injection hc with hc
  injection hc with h1 h2 h3
  exact hne h2
theorem own_apart_map {w : World} {B : Nat} {e : TypeId} {s : Nat} {v : Value} {n : Nat} {xs : List Value} (h : w.ownsRow B e s v n xs) {k : Nat} {es : Array MapEntry} {c : Nat} (hk : w.heap[k]? = some (.map es c)) : some k ≠ v.ownBlock := by
  intro e0
  obtain ⟨cur, hc⟩ := own_block h e0.symm
  rw [hk] at hc
  injection hc with hc
  cases hc
theorem own_apart_own {w : World} {B B' : Nat} {e e' : TypeId} {s s' : Nat} {v v' : Value} {n n' : Nat} {xs xs' : List Value} (h : w.ownsRow B e s v n xs) (h' : w.ownsRow B' e' s' v' n' xs') (hne : e' ≠ e) : v'.ownBlock = none ∨ v'.ownBlock ≠ v.ownBlock := by
  cases hv : v'.ownBlock with
  | none => exact .inl rfl
  | some g =>
    obtain ⟨cur, hc⟩ := own_block h' hv
    exact .inr (own_apart h hc hne)
theorem grown_setCell (w : World) (a : Addr) (v : Value) : w.grownBy (w.setCell a v) (some a.block) :=
  ⟨rfl, rfl, rfl, by simp [World.setCell], fun k _ hk => Below.heap_setCell _ _ _ _ (fun e => hk (by rw [e]))⟩
theorem grown_drew (w : World) : w.grownBy w.drew none := ⟨rfl, rfl, rfl, Nat.le_refl _, fun _ _ _ => rfl⟩
theorem grown_of_below {w w' : World} (h : Below w.heap.size w w') : w.grownBy w' none := ⟨h.os, h.tape, h.output, h.size, fun k hk _ => h.block k hk⟩
/-- A builder in block bp: its trie in block bt, its map in block bm. -/
structure BldAt (B : Nat) (w : World) (bp bt bm : Nat) (vi vb : Value) (ix : List Nat) (bs : List (List Int)) : Prop where
  hbp : B ≤ bp
  hbt : B ≤ bt
  hbm : B ≤ bm
  hp : w.heap[bp]? = some (.cells #[.pointer (some ⟨bt, 0, none⟩), .map (some bm)] 61 (0, 0))
  ht : w.heap[bt]? = some (.cells #[vi, vb] 52 (0, 0))
  hi : OwnU B w vi ix
  hk : OwnK B w vb bs
  hm : Found w bm bs
theorem heap_lt {w : World} {k : Nat} {o : Obj} (h : w.heap[k]? = some o) : k < w.heap.size := (Array.getElem?_eq_some_iff.1 h).1
theorem heap_ne {w : World} {i k : Nat} {o o' : Obj} (h : w.heap[i]? = some o) (h' : w.heap[k]? = some o') (hne : o ≠ o') : i ≠ k := by
  rintro rfl
  rw [h] at h'
  exact hne (Option.some.inj h')
theorem BldAt.bp_ne {B : Nat} {w : World} {bp bt bm : Nat} {vi vb : Value} {ix : List Nat} {bs : List (List Int)} (h : BldAt B w bp bt bm vi vb ix bs) : bp ≠ bt :=
  heap_ne h.hp h.ht (by intro e; injection e with e1 e2; exact absurd e2 (by decide))
/-- What was made anew, or drawn, or written elsewhere, does not touch it. -/
theorem BldAt.kept {B : Nat} {w w' : World} {bp bt bm : Nat} {vi vb : Value} {ix : List Nat} {bs : List (List Int)} (h : BldAt B w bp bt bm vi vb ix bs) (hg : w.grownBy w' none) : BldAt B w' bp bt bm vi vb ix bs :=
  ⟨h.hbp, h.hbt, h.hbm, (hg.block _ (heap_lt h.hp) (by simp)).trans h.hp, (hg.block _ (heap_lt h.ht) (by simp)).trans h.ht,
    World.ownsRow.kept h.hi hg (by cases vi.ownBlock <;> simp), World.ownsRow.kept h.hk hg (by cases vb.ownBlock <;> simp), h.hm.kept hg (by simp)⟩
/-- Behind an append to the index and the store of the new slice. -/
theorem BldAt.pushed {B : Nat} {w w' : World} {bp bt bm : Nat} {vi vb vi' : Value} {ix ix' : List Nat} {bs : List (List Int)} (h : BldAt B w bp bt bm vi vb ix bs) (hg : w.grownBy w' vi.ownBlock) (ho : OwnU B w' vi' ix') :
    BldAt B (w'.setCell ⟨bt, 0, none⟩ vi') bp bt bm vi' vb ix' bs := by
  have hp' := (hg.block _ (heap_lt h.hp) (own_apart h.hi h.hp (by decide))).trans h.hp
  have ht' := (hg.block _ (heap_lt h.ht) (own_apart h.hi h.ht (by decide))).trans h.ht
  have hk' : OwnK B w' vb bs := World.ownsRow.kept h.hk hg (own_apart_own h.hi h.hk (by decide))
  obtain ⟨es, c, hmm⟩ := h.hm.isMap
  have hm' := h.hm.kept hg (own_apart_map h.hi hmm)
  obtain ⟨es', c', hmm'⟩ := hm'.isMap
  have g2 := grown_setCell w' ⟨bt, 0, none⟩ vi'
  have nbp : bp ≠ bt := h.bp_ne
  refine ⟨h.hbp, h.hbt, h.hbm, (g2.block _ (heap_lt hp') (by simp; exact nbp)).trans hp', ?_, ?_, ?_, ?_⟩
  · exact heap_setCell_same w' bt 0 _ _ vi' ht'
  · refine World.ownsRow.kept ho g2 ?_
    cases e : vi'.ownBlock with
    | none => exact .inl rfl
    | some g => exact .inr (e ▸ (own_apart ho ht' (by decide)).symm)
  · refine World.ownsRow.kept hk' g2 ?_
    cases e : vb.ownBlock with
    | none => exact .inl rfl
    | some g => exact .inr (e ▸ (own_apart hk' ht' (by decide)).symm)
  · exact hm'.kept g2 (by simp; exact heap_ne hmm' ht' (by intro e; cases e))
/-- Behind a new block: in the map, behind the others, and the new slice stored. -/
theorem BldAt.blocked {B : Nat} {w w1 w2 w' : World} {bp bt bm : Nat} {vi vb vb' : Value} {ix : List Nat} {bs bs' : List (List Int)} (h : BldAt B w bp bt bm vi vb ix bs) (hg : w.grownBy w1 (some bm)) (hm1 : Found w1 bm bs')
    (hg1 : w1.grownBy w2 none) (hg2 : w2.grownBy w' vb.ownBlock) (ho : OwnK B w' vb' bs') :
    BldAt B (w'.setCell ⟨bt, 1, none⟩ vb') bp bt bm vi vb' ix bs' := by
  obtain ⟨es, c, hmm⟩ := h.hm.isMap
  have ha : ∀ {k : Nat} {cs : Array Value} {e : TypeId} {fr : Nat × Nat}, w.heap[k]? = some (Obj.cells cs e fr) → w2.heap[k]? = some (Obj.cells cs e fr) := fun {k cs e fr} hk =>
    (hg1.block _ (Nat.lt_of_lt_of_le (heap_lt hk) hg.size) (by simp)).trans ((hg.block _ (heap_lt hk) (by simp; exact heap_ne hk hmm (by intro e; cases e))).trans hk)
  have nown : ∀ {e : TypeId} {s : Nat} {v : Value} {n : Nat} {xs : List Value}, w.ownsRow B e s v n xs → w2.ownsRow B e s v n xs := fun {e s v n xs} hv => by
    refine World.ownsRow.kept (World.ownsRow.kept hv hg ?_) hg1 (by cases v.ownBlock <;> simp)
    cases q : v.ownBlock with
    | none => exact .inl rfl
    | some g => exact .inr (q ▸ (own_apart_map hv hmm).symm)
  have hk2 : OwnK B w2 vb bs := nown h.hk
  have hi2 : OwnU B w2 vi ix := nown h.hi
  have hp2 := ha h.hp
  have ht2 := ha h.ht
  have hm2 := hm1.kept hg1 (by simp)
  obtain ⟨es2, c2, hmm2⟩ := hm2.isMap
  have hp' := (hg2.block _ (heap_lt hp2) (own_apart hk2 hp2 (by decide))).trans hp2
  have ht' := (hg2.block _ (heap_lt ht2) (own_apart hk2 ht2 (by decide))).trans ht2
  have hi' : OwnU B w' vi ix := World.ownsRow.kept hi2 hg2 (own_apart_own hk2 hi2 (by decide))
  have hm' := hm2.kept hg2 (own_apart_map hk2 hmm2)
  obtain ⟨es', c', hmm'⟩ := hm'.isMap
  have g2 := grown_setCell w' ⟨bt, 1, none⟩ vb'
  have nbp : bp ≠ bt := h.bp_ne
  refine ⟨h.hbp, h.hbt, h.hbm, (g2.block _ (heap_lt hp') (by simp; exact nbp)).trans hp', ?_, ?_, ?_, ?_⟩
  · exact heap_setCell_same w' bt 1 _ _ vb' ht'
  · refine World.ownsRow.kept hi' g2 ?_
    cases e : vi.ownBlock with
    | none => exact .inl rfl
    | some g => exact .inr (e ▸ (own_apart hi' ht' (by decide)).symm)
  · refine World.ownsRow.kept ho g2 ?_
    cases e : vb'.ownBlock with
    | none => exact .inl rfl
    | some g => exact .inr (e ▸ (own_apart ho ht' (by decide)).symm)
  · exact hm'.kept g2 (by simp; exact heap_ne hmm' ht' (by intro e; cases e))
/-- A builder that has laid the blocks r. -/
def Bld (B : Nat) (w : World) (bp : Nat) (r : List (List Int)) : Prop := ∃ bt bm vi vb, BldAt B w bp bt bm vi vb (ixs r) (firsts r)
theorem Bld.kept {B : Nat} {w w' : World} {bp : Nat} {r : List (List Int)} (h : Bld B w bp r) (hg : w.grownBy w' none) : Bld B w' bp r := by
  obtain ⟨bt, bm, vi, vb, h⟩ := h
  exact ⟨bt, bm, vi, vb, h.kept hg⟩
/-- A trie of the blocks r in block p. -/
structure TrieAt (w : World) (p : Nat) (r : List (List Int)) : Prop where
  at_ : ∃ vi vb, w.heap[p]? = some (.cells #[vi, vb] 52 (0, 0)) ∧ OwnU 0 w vi (ixs r) ∧ OwnK 0 w vb (firsts r)
  good : ∀ x ∈ r, GoodR x
  len : r.length = 17412
theorem TrieAt.below {w w' : World} {p : Nat} {r : List (List Int)} {B : Nat} (h : TrieAt w p r) (hb : Below B w w') (hB : w.heap.size ≤ B) : TrieAt w' p r := by
  obtain ⟨⟨vi, vb, h1, h2, h3⟩, g, l⟩ := h
  exact ⟨⟨vi, vb, (hb.block _ (Nat.lt_of_lt_of_le (heap_lt h1) hB)).trans h1, own_below h2 hb hB, own_below h3 hb hB⟩, g, l⟩
theorem own_parts {w : World} {B : Nat} {e : TypeId} {s : Nat} {v : Value} {n : Nat} {xs : List Value} (h : w.ownsRow B e s v n xs) :
    ∃ A c, v = .slice A n c ∧ n ≤ c ∧ (0 < n → ∃ g, A = some ⟨g, 0, none⟩ ∧ B ≤ g ∧ g < w.heap.size ∧ ∀ j u, xs[j]? = some u → w.cell? ⟨g, j, none⟩ = some u) := by
  rcases h.2 with ⟨rfl, rfl⟩ | ⟨g, cap, cur, rfl, hg, hgg, hc, _⟩
  · exact ⟨none, 0, rfl, Nat.le_refl _, fun h => absurd h (by omega)⟩
  · refine ⟨_, cap, rfl, hc, fun _ => ⟨g, rfl, hg, heap_lt hgg, fun j u hu => ?_⟩⟩
    have := World.ownsRow.cells h (g := g) rfl j u hu
    rw [Addr.add_lit, Nat.zero_add] at this
    exact this
end Go.Proofs.Ytpckmdmfhglmbaa
