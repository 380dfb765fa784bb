/-
  PACKED for a claim.
-/
import Derived.Test.YtichfdjjbafeiaaGreatP09
import Derived.Test.YtichfdjjbafeiaaGreatP10
import Derived.Test.YtichfdjjbafeiaaGreatP11
set_option linter.unusedVariables false
set_option linter.unusedSimpArgs false
set_option maxRecDepth 100000
namespace Go.Proofs.YtichfdjjbafeiaaGreat
open Go.RowKit
theorem yag {w : World} {p : Addr} {u : Value} (h : w.cell? p = some u) : p.block < w.heap.size := by
 unfold World.cell? at h
 cases hb : w.heap[p.block]? with
 | none => rw [hb] at h; cases h
 | some o => exact (Array.getElem?_eq_some_iff.1 hb).1
def RdF (F : Nat -> Prop) (w : World) (v : Value) (n : Nat) (xs : List Value) : Prop :=
 ∃ A c, v = .slice A n c /\ n <= c /\ (0 < n -> ∃ g o : Nat, A = some ⟨g, o, none⟩ /\ F g /\ ∀ j u, xs[j]? = some u -> w.cell? ⟨g, o + j, none⟩ = some u)
theorem RdF.mono {F G : Nat -> Prop} {w : World} {v : Value} {n : Nat} {xs : List Value} (h : RdF F w v n xs) (hG : ∀ g, F g -> G g) : RdF G w v n xs := by
 obtain ⟨A, c, rfl, hc, h⟩ := h; refine ⟨A, c, rfl, hc, fun hn => ?_⟩
 obtain ⟨g, o, e, hg, hx⟩ := h hn; exact ⟨g, o, e, hG g hg, hx⟩
theorem RdF.frame {F : Nat -> Prop} {w w' : World} {v : Value} {n : Nat} {xs : List Value} (h : RdF F w v n xs) (hf : ∀ g, F g -> g < w.heap.size -> w'.heap[g]? = w.heap[g]?) : RdF F w' v n xs := by
 obtain ⟨A, c, rfl, hc, h⟩ := h; refine ⟨A, c, rfl, hc, fun hn => ?_⟩
 obtain ⟨g, o, e, hg, hx⟩ := h hn; refine ⟨g, o, e, hg, fun j u hu => ?_⟩
 have h1 := hx j u hu; rw [World.cell?_of_block (w := w) (a := ⟨g, o + j, none⟩) (hf g hg (yag h1))]; exact h1
theorem RdF.below {F : Nat -> Prop} {B : Nat} {w w' : World} {v : Value} {n : Nat} {xs : List Value} (h : RdF F w v n xs) (hb : Below B w w') (hB : w.heap.size <= B) : RdF F w' v n xs :=
 h.frame fun g _ hg => hb.block g (by omega)
theorem RdF.form {F : Nat -> Prop} {w : World} {v : Value} {n : Nat} {xs : List Value} (h : RdF F w v n xs) : ∃ A c, v = .slice A n c := by
 obtain ⟨A, c, e, _⟩ := h; exact ⟨A, c, e⟩
theorem RdF.cap {F : Nat -> Prop} {w : World} {A : Option Addr} {n m c : Nat} {xs : List Value} (h : RdF F w (.slice A m c) n xs) : n <= c /\ m = n := by
 obtain ⟨A', c', e, hc, _⟩ := h
 cases e
 exact ⟨hc, rfl⟩
theorem RdF.base {F : Nat -> Prop} {w : World} {A : Option Addr} {n m c : Nat} {xs : List Value} (h : RdF F w (.slice A m c) n xs) (h0 : 0 < n) : ∃ g o : Nat, A = some ⟨g, o, none⟩ /\ F g /\ ∀ j u, xs[j]? = some u -> w.cell? ⟨g, o + j, none⟩ = some u := by
 obtain ⟨A', c', e, hc, h⟩ := h
 cases e
 exact h h0
theorem RdF.nil (F : Nat -> Prop) (w : World) : RdF F w (.slice none 0 0) 0 [] := ⟨none, 0, rfl, zN _, fun h => absurd h (by omega)⟩
theorem RdF.of_own {F : Nat -> Prop} {w : World} {B : Nat} {e : TypeId} {s : Nat} {v : Value} {n : Nat} {xs : List Value} (h : w.ownsRow B e s v n xs) (hF : ∀ g, B <= g -> F g) : RdF F w v n xs := by
 obtain ⟨A, c, rfl, hc, hr⟩ := R4.yaf h; refine ⟨A, c, rfl, hc, fun hn => ?_⟩
 obtain ⟨g, e, h1, h2, h3⟩ := hr hn; exact ⟨g, 0, e, hF g h1, fun j u hu => by rw [Nat.zero_add]; exact h3 j u hu⟩
theorem RdF.take {F : Nat -> Prop} {w : World} {A : Option Addr} {n c : Nat} {xs : List Value} (h : RdF F w (.slice A n c) n xs) {m : Nat} (hm : m <= n) (k : Nat) : RdF F w (.slice A m c) m (xs.take k) := by
 obtain ⟨A', c', e, hc, h⟩ := h
 cases e
 refine ⟨A, c, rfl, by omega, fun h0 => ?_⟩
 obtain ⟨g, o, e, hg, hx⟩ := h (by omega)
 refine ⟨g, o, e, hg, fun j u hu => hx j u ?_⟩
 rw [List.getElem?_take] at hu
 split at hu
 ·exact hu
 ·cases hu
theorem RdF.drop {F : Nat -> Prop} {w : World} {A A2 : Option Addr} {n c u : Nat} {xs : List Value} (h : RdF F w (.slice A n c) n xs) (hu : u <= n) (hA : ∀ ad : Addr, A = some ad -> (if c = u then some ad else some (ad.add u)) = A2) : RdF F w (.slice A2 (n - u) (c - u)) (n - u) (xs.drop u) := by
 obtain ⟨A', c', e, hc, h⟩ := h
 cases e
 refine ⟨A2, c - u, rfl, by omega, fun h0 => ?_⟩
 obtain ⟨g, o, e, hg, hx⟩ := h (by omega)
 have h1 := hA _ e; rw [if_neg (by omega), Addr.add_lit] at h1
 refine ⟨g, o + u, h1.symm, hg, fun j x hx' => ?_⟩
 rw [Nat.add_assoc]; refine hx _ _ ?_
 rwa [List.getElem?_drop] at hx'
theorem RdF.rd {F : Nat -> Prop} {w : World} {v : Value} {xs : List Value} {n : Nat} (h : RdF F w v n xs) (hn : n = xs.length) : T2.Rd w.heap.size w v xs := by
 subst hn; obtain ⟨A, c, rfl, hc, h⟩ := h; refine ⟨A, c, rfl, fun h0 => ?_⟩
 obtain ⟨g, o, e, _, hx⟩ := h h0; refine ⟨_, e, ?_, fun j u hu => by rw [Addr.add_lit]; exact hx j u hu⟩
 obtain ⟨x, t, rfl⟩ : ∃ x t, xs = x :: t := by cases xs with | nil => simp at h0 | cons x t => exact ⟨x, t, rfl⟩
 exact yag (hx 0 x rfl)
def anyB : Nat -> Prop := fun _ => True
theorem RdF.any {F : Nat -> Prop} {w : World} {v : Value} {n : Nat} {xs : List Value} (h : RdF F w v n xs) : RdF anyB w v n xs := h.mono fun _ _ => trivial
abbrev iv := T2.iv
def ev (l : List Nat) : List Value := l.map fun x : Nat => Value.int .u32 (x : Int)
theorem ev_len (l : List Nat) : (ev l).length = l.length := by simp [ev]
theorem iv_len (l : List Int) : (iv l).length = l.length := T2.iv_len l
theorem iv_at {l : List Int} {k : Nat} {x : Int} (h : l[k]? = some x) : (iv l)[k]? = some (.int .i64 x) := by simp [iv, T2.iv, h]
theorem ev_at {l : List Nat} {k x : Nat} (h : l[k]? = some x) : (ev l)[k]? = some (.int .u32 (x : Int)) := by simp [ev, h]
theorem ev_app (a b : List Nat) : ev (a ++ b) = ev a ++ ev b := by simp [ev]
theorem ev_one (l : List Nat) : ∀ u ∈ ev l, u.oneCell' = true := by
 intro u hu; obtain ⟨k, _, rfl⟩ := List.mem_map.1 hu
 rfl
def RdI (F : Nat -> Prop) (w : World) (v : Value) (l : List Int) : Prop := RdF F w v l.length (iv l)
def RdE (F : Nat -> Prop) (w : World) (v : Value) (l : List Nat) : Prop := RdF F w v l.length (ev l)
theorem RdI.below {F : Nat -> Prop} {B : Nat} {w w' : World} {v : Value} {l : List Int} (h : RdI F w v l) (hb : Below B w w') (hB : w.heap.size <= B) : RdI F w' v l := RdF.below h hb hB
theorem RdE.below {F : Nat -> Prop} {B : Nat} {w w' : World} {v : Value} {l : List Nat} (h : RdE F w v l) (hb : Below B w w') (hB : w.heap.size <= B) : RdE F w' v l := RdF.below h hb hB
theorem RdI.rd {F : Nat -> Prop} {w : World} {v : Value} {l : List Int} (h : RdI F w v l) : T2.Rd w.heap.size w v (iv l) := RdF.rd h (iv_len l).symm
theorem RdI.form {F : Nat -> Prop} {w : World} {v : Value} {l : List Int} (h : RdI F w v l) : ∃ A c, v = .slice A l.length c := RdF.form h
theorem RdE.form {F : Nat -> Prop} {w : World} {v : Value} {l : List Nat} (h : RdE F w v l) : ∃ A c, v = .slice A l.length c := RdF.form h
theorem RdI.at {F : Nat -> Prop} {w : World} {A : Option Addr} {n c : Nat} {l : List Int} (h : RdI F w (.slice A n c) l) {k : Nat} {x : Int} (hk : l[k]? = some x) : ∃ g o : Nat, A = some ⟨g, o, none⟩ /\ w.cell? ⟨g, o + k, none⟩ = some (.int .i64 x) := by
 have := (List.getElem?_eq_some_iff.1 hk).1
 obtain ⟨g, o, e, _, hx⟩ := RdF.base h (by omega)
 exact ⟨g, o, e, hx k _ (iv_at hk)⟩
theorem RdE.at {F : Nat -> Prop} {w : World} {A : Option Addr} {n c : Nat} {l : List Nat} (h : RdE F w (.slice A n c) l) {k : Nat} {x : Nat} (hk : l[k]? = some x) : ∃ g o : Nat, A = some ⟨g, o, none⟩ /\ w.cell? ⟨g, o + k, none⟩ = some (.int .u32 (x : Int)) := by
 have := (List.getElem?_eq_some_iff.1 hk).1
 obtain ⟨g, o, e, _, hx⟩ := RdF.base h (by omega)
 exact ⟨g, o, e, hx k _ (ev_at hk)⟩
structure ME where
 vs : Value
 vl : Value
 s : List Int
 l : List Nat
instance : Inhabited ME := ⟨⟨.slice none 0 0, .slice none 0 0, [], []⟩⟩
def ME.pl (m : ME) : PE := (m.s, m.l)
def pls (M : List ME) : List PE := M.map ME.pl
def mcells (M : List ME) : List Value := M.flatMap fun m => [m.vs, m.vl]
theorem ybp (a b : List ME) : pls (a ++ b) = pls a ++ pls b := by simp [pls]
theorem yao (M : List ME) : (pls M).length = M.length := by simp [pls]
theorem yaq (a b : List ME) : mcells (a ++ b) = mcells a ++ mcells b := by simp [mcells]
theorem ydn (m : ME) (t : List ME) : mcells (m :: t) = [m.vs, m.vl] ++ mcells t := rfl
theorem yaj (l : List ME) : (mcells l).length = l.length * 2 := by
 induction l with
 | nil => rfl
 | cons p t ih => rw [ydn, List.length_append, ih]; simp; omega
theorem ybt {l : List ME} {k : Nat} {p : ME} (h : l[k]? = some p) : (mcells l)[k * 2]? = some p.vs /\ (mcells l)[k * 2 + 1]? = some p.vl := by
 induction l generalizing k with
 | nil => simp at h
 | cons q t ih =>
  rw [show mcells (q :: t) = q.vs :: q.vl :: mcells t from rfl]
  cases k with
  | zero => simp at h; subst h; exact ⟨rfl, rfl⟩
  | succ k =>
   simp only [List.getElem?_cons_succ] at h; obtain ⟨h1, h2⟩ := ih h; refine ⟨?_, ?_⟩
   ·rw [show (k + 1) * 2 = k * 2 + 1 + 1 by omega]; simpa using h1
   ·rw [show (k + 1) * 2 + 1 = k * 2 + 1 + 1 + 1 by omega]; simpa using h2
def EntOk (F : Nat -> Prop) (w : World) (m : ME) : Prop := RdI F w m.vs m.s /\ RdE F w m.vl m.l
theorem EntOk.mono {F G : Nat -> Prop} {w : World} {m : ME} (h : EntOk F w m) (hG : ∀ g, F g -> G g) : EntOk G w m := ⟨RdF.mono h.1 hG, RdF.mono h.2 hG⟩
theorem EntOk.frame {F : Nat -> Prop} {w w' : World} {m : ME} (h : EntOk F w m) (hf : ∀ g, F g -> g < w.heap.size -> w'.heap[g]? = w.heap[g]?) : EntOk F w' m := ⟨RdF.frame h.1 hf, RdF.frame h.2 hf⟩
theorem EntOk.below {F : Nat -> Prop} {B : Nat} {w w' : World} {m : ME} (h : EntOk F w m) (hb : Below B w w') (hB : w.heap.size <= B) : EntOk F w' m := ⟨RdF.below h.1 hb hB, RdF.below h.2 hb hB⟩
theorem EntOk.one {F : Nat -> Prop} {w : World} {m : ME} (h : EntOk F w m) : m.vs.oneCell' = true /\ m.vl.oneCell' = true := by
 obtain ⟨A, c, e⟩ := h.1.form; obtain ⟨A', c', e'⟩ := h.2.form; rw [e, e']; exact ⟨rfl, rfl⟩
theorem yce {F : Nat -> Prop} {w : World} {M : List ME} (h : ∀ m ∈ M, EntOk F w m) : ∀ u ∈ mcells M, u.oneCell' = true := by
 intro u hu; obtain ⟨p, hp, hq⟩ := List.mem_flatMap.1 hu
 have := (h p hp).one
 simp at hq
 rcases hq with rfl | rfl
 ·exact this.1
 ·exact this.2
def RdM (F : Nat -> Prop) (w : World) (v : Value) (M : List ME) : Prop := RdF anyB w v M.length (mcells M) /\ ∀ m ∈ M, EntOk F w m
def RdT (F : Nat -> Prop) (w : World) (v : Value) (L : List PE) : Prop := ∃ M, pls M = L /\ RdM F w v M
theorem RdM.below {F : Nat -> Prop} {B : Nat} {w w' : World} {v : Value} {M : List ME} (h : RdM F w v M) (hb : Below B w w') (hB : w.heap.size <= B) : RdM F w' v M :=
 ⟨h.1.below hb hB, fun m hm => (h.2 m hm).below hb hB⟩
theorem RdT.below {F : Nat -> Prop} {B : Nat} {w w' : World} {v : Value} {L : List PE} (h : RdT F w v L) (hb : Below B w w') (hB : w.heap.size <= B) : RdT F w' v L := by
 obtain ⟨M, e, h⟩ := h; exact ⟨M, e, h.below hb hB⟩
theorem RdT.mono {F G : Nat -> Prop} {w : World} {v : Value} {L : List PE} (h : RdT F w v L) (hG : ∀ g, F g -> G g) : RdT G w v L := by
 obtain ⟨M, e, h1, h2⟩ := h; exact ⟨M, e, h1, fun m hm => (h2 m hm).mono hG⟩
theorem RdM.form {F : Nat -> Prop} {w : World} {v : Value} {M : List ME} (h : RdM F w v M) : ∃ A c, v = .slice A M.length c := h.1.form
theorem RdT.form {F : Nat -> Prop} {w : World} {v : Value} {L : List PE} (h : RdT F w v L) : ∃ A c, v = .slice A L.length c := by
 obtain ⟨M, rfl, h⟩ := h; rw [yao]; exact h.form
theorem RdM.at {F : Nat -> Prop} {w : World} {A : Option Addr} {n c : Nat} {M : List ME} (h : RdM F w (.slice A n c) M) {k : Nat} {m : ME} (hk : M[k]? = some m) :
  ∃ g o : Nat, A = some ⟨g, o, none⟩ /\ w.cell? ⟨g, o + k * 2, none⟩ = some m.vs /\ w.cell? ⟨g, o + k * 2 + 1, none⟩ = some m.vl /\ EntOk F w m := by
 have hl := (List.getElem?_eq_some_iff.1 hk).1; obtain ⟨g, o, e, _, hx⟩ := RdF.base h.1 (by omega)
 obtain ⟨h1, h2⟩ := ybt hk; exact ⟨g, o, e, hx _ _ h1, by rw [Nat.add_assoc]; exact hx _ _ h2, h.2 m (List.mem_of_getElem? hk)⟩
theorem RdT.at {F : Nat -> Prop} {w : World} {A : Option Addr} {n c : Nat} {L : List PE} (h : RdT F w (.slice A n c) L) {k : Nat} {e : PE} (hk : L[k]? = some e) :
  ∃ (g o : Nat) (vs vl : Value), A = some ⟨g, o, none⟩ /\ w.cell? ⟨g, o + k * 2, none⟩ = some vs /\ w.cell? ⟨g, o + k * 2 + 1, none⟩ = some vl /\ RdI F w vs e.1 /\ RdE F w vl e.2 := by
 obtain ⟨M, rfl, h⟩ := h; unfold pls at hk; rw [List.getElem?_map] at hk
 cases hm : M[k]? with
 | none => rw [hm] at hk; cases hk
 | some m =>
  rw [hm] at hk
  simp at hk
  subst hk; obtain ⟨g, o, e, h1, h2, h3⟩ := h.at hm; exact ⟨g, o, m.vs, m.vl, e, h1, h2, h3.1, h3.2⟩
def OwnM (B : Nat) (w : World) (v : Value) (M : List ME) : Prop := w.ownsRow B 45 2 v M.length (mcells M)
def OwnE (B : Nat) (w : World) (v : Value) (l : List Nat) : Prop := w.ownsRow B 47 1 v l.length (ev l)
theorem OwnM.rd {B : Nat} {F : Nat -> Prop} {w : World} {v : Value} {M : List ME} (h : OwnM B w v M) (hM : ∀ m ∈ M, EntOk F w m) : RdM F w v M := ⟨RdF.of_own h fun _ _ => trivial, hM⟩
theorem OwnE.rd {B : Nat} {F : Nat -> Prop} {w : World} {v : Value} {l : List Nat} (h : OwnE B w v l) (hF : ∀ g, B <= g -> F g) : RdE F w v l := RdF.of_own h hF
theorem ybr {B : Nat} {F : Nat -> Prop} {w : World} {v : Value} {l : List Int} (h : T2.OwnI B w v l) (hF : ∀ g, B <= g -> F g) : RdI F w v l := RdF.of_own h hF
end Go.Proofs.YtichfdjjbafeiaaGreat
