/-
  PACKED for a claim.
-/
import Derived.Test.YteibnfeokgibmaaGreatP07
import Derived.Test.YteibnfeokgibmaaGreatP09
import Derived.Test.YteibnfeokgibmaaGreatP10
set_option linter.unusedVariables false
set_option linter.unusedSimpArgs false
set_option maxRecDepth 100000
namespace Go.Proofs.YteibnfeokgibmaaGreat
open Go.RowKit
theorem yaj {w : World} {p : Addr} {u : Value} (h : w.cell? p = some u) : p.block < w.heap.size := by
 unfold World.cell? at h
 cases hb : w.heap[p.block]? with
 | none => rw [hb] at h; cases h
 | some o => exact (Array.getElem?_eq_some_iff.1 hb).1
def RdF (F : Nat -> Prop) (w : World) (v : Value) (n : Nat) (xs : List Value) : Prop :=
 ∃ A c, v = .slice A n c /\ n <= c /\ (0 < n -> ∃ g o : Nat, A = some ⟨g, o, none⟩ /\ F g /\ ∀ j u, xs[j]? = some u -> w.cell? ⟨g, o + j, none⟩ = some u)
theorem RdF.mono {F G : Nat -> Prop} {w : World} {v : Value} {n : Nat} {xs : List Value} (h : RdF F w v n xs) (hG : ∀ g, F g -> G g) : RdF G w v n xs := by
 obtain ⟨A, c, rfl, hc, h⟩ := h; refine ⟨A, c, rfl, hc, fun hn => ?_⟩
 obtain ⟨g, o, e, hg, hx⟩ := h hn; exact ⟨g, o, e, hG g hg, hx⟩
theorem RdF.frame {F : Nat -> Prop} {w w' : World} {v : Value} {n : Nat} {xs : List Value} (h : RdF F w v n xs) (hf : ∀ g, F g -> g < w.heap.size -> w'.heap[g]? = w.heap[g]?) : RdF F w' v n xs := by
 obtain ⟨A, c, rfl, hc, h⟩ := h; refine ⟨A, c, rfl, hc, fun hn => ?_⟩
 obtain ⟨g, o, e, hg, hx⟩ := h hn; refine ⟨g, o, e, hg, fun j u hu => ?_⟩
 have h1 := hx j u hu; rw [World.cell?_of_block (w := w) (a := ⟨g, o + j, none⟩) (hf g hg (yaj h1))]; exact h1
theorem RdF.below {F : Nat -> Prop} {B : Nat} {w w' : World} {v : Value} {n : Nat} {xs : List Value} (h : RdF F w v n xs) (hb : Below B w w') (hB : w.heap.size <= B) : RdF F w' v n xs :=
 h.frame fun g _ hg => hb.block g (by omega)
theorem RdF.form {F : Nat -> Prop} {w : World} {v : Value} {n : Nat} {xs : List Value} (h : RdF F w v n xs) : ∃ A c, v = .slice A n c := by
 obtain ⟨A, c, e, _⟩ := h; exact ⟨A, c, e⟩
theorem RdF.cap {F : Nat -> Prop} {w : World} {A : Option Addr} {n m c : Nat} {xs : List Value} (h : RdF F w (.slice A m c) n xs) : n <= c /\ m = n := by
 obtain ⟨A', c', e, hc, _⟩ := h
 cases e
 exact ⟨hc, rfl⟩
theorem RdF.base {F : Nat -> Prop} {w : World} {A : Option Addr} {n m c : Nat} {xs : List Value} (h : RdF F w (.slice A m c) n xs) (h0 : 0 < n) : ∃ g o : Nat, A = some ⟨g, o, none⟩ /\ F g /\ ∀ j u, xs[j]? = some u -> w.cell? ⟨g, o + j, none⟩ = some u := by
 obtain ⟨A', c', e, hc, h⟩ := h
 cases e
 exact h h0
theorem RdF.nil (F : Nat -> Prop) (w : World) : RdF F w (.slice none 0 0) 0 [] := ⟨none, 0, rfl, zN _, fun h => absurd h (by omega)⟩
theorem RdF.of_own {F : Nat -> Prop} {w : World} {B : Nat} {e : TypeId} {s : Nat} {v : Value} {n : Nat} {xs : List Value} (h : w.ownsRow B e s v n xs) (hF : ∀ g, B <= g -> F g) : RdF F w v n xs := by
 obtain ⟨A, c, rfl, hc, hr⟩ := R4.yai h; refine ⟨A, c, rfl, hc, fun hn => ?_⟩
 obtain ⟨g, e, h1, h2, h3⟩ := hr hn; exact ⟨g, 0, e, hF g h1, fun j u hu => by rw [Nat.zero_add]; exact h3 j u hu⟩
theorem RdF.take {F : Nat -> Prop} {w : World} {A : Option Addr} {n c : Nat} {xs : List Value} (h : RdF F w (.slice A n c) n xs) {m : Nat} (hm : m <= n) (k : Nat) : RdF F w (.slice A m c) m (xs.take k) := by
 obtain ⟨A', c', e, hc, h⟩ := h
 cases e
 refine ⟨A, c, rfl, by omega, fun h0 => ?_⟩
 obtain ⟨g, o, e, hg, hx⟩ := h (by omega)
 refine ⟨g, o, e, hg, fun j u hu => hx j u ?_⟩
 rw [List.getElem?_take] at hu
 split at hu
 ·exact hu
 ·cases hu
theorem RdF.drop {F : Nat -> Prop} {w : World} {A A2 : Option Addr} {n c u : Nat} {xs : List Value} (h : RdF F w (.slice A n c) n xs) (hu : u <= n) (hA : ∀ ad : Addr, A = some ad -> (if c = u then some ad else some (ad.add u)) = A2) : RdF F w (.slice A2 (n - u) (c - u)) (n - u) (xs.drop u) := by
 obtain ⟨A', c', e, hc, h⟩ := h
 cases e
 refine ⟨A2, c - u, rfl, by omega, fun h0 => ?_⟩
 obtain ⟨g, o, e, hg, hx⟩ := h (by omega)
 have h1 := hA _ e; rw [if_neg (by omega), Addr.add_lit] at h1
 refine ⟨g, o + u, h1.symm, hg, fun j x hx' => ?_⟩
 rw [Nat.add_assoc]; refine hx _ _ ?_
 rwa [List.getElem?_drop] at hx'
theorem RdF.rd {F : Nat -> Prop} {w : World} {v : Value} {xs : List Value} {n : Nat} (h : RdF F w v n xs) (hn : n = xs.length) : T2.Rd w.heap.size w v xs := by
 subst hn; obtain ⟨A, c, rfl, hc, h⟩ := h; refine ⟨A, c, rfl, fun h0 => ?_⟩
 obtain ⟨g, o, e, _, hx⟩ := h h0; refine ⟨_, e, ?_, fun j u hu => by rw [Addr.add_lit]; exact hx j u hu⟩
 obtain ⟨x, t, rfl⟩ : ∃ x t, xs = x :: t := by cases xs with | nil => simp at h0 | cons x t => exact ⟨x, t, rfl⟩
 exact yaj (hx 0 x rfl)
def anyB : Nat -> Prop := fun _ => True
theorem RdF.any {F : Nat -> Prop} {w : World} {v : Value} {n : Nat} {xs : List Value} (h : RdF F w v n xs) : RdF anyB w v n xs := h.mono fun _ _ => trivial
abbrev iv := T2.iv
def ev (l : List Nat) : List Value := l.map fun x : Nat => Value.int .u32 (x : Int)
theorem ev_len (l : List Nat) : (ev l).length = l.length := by simp [ev]
theorem iv_len (l : List Int) : (iv l).length = l.length := T2.iv_len l
theorem iv_at {l : List Int} {k : Nat} {x : Int} (h : l[k]? = some x) : (iv l)[k]? = some (.int .i64 x) := by simp [iv, T2.iv, h]
theorem ev_at {l : List Nat} {k x : Nat} (h : l[k]? = some x) : (ev l)[k]? = some (.int .u32 (x : Int)) := by simp [ev, h]
theorem ev_app (a b : List Nat) : ev (a ++ b) = ev a ++ ev b := by simp [ev]
theorem ev_one (l : List Nat) : ∀ u ∈ ev l, u.oneCell' = true := by
 intro u hu; obtain ⟨k, _, rfl⟩ := List.mem_map.1 hu
 rfl
def RdI (F : Nat -> Prop) (w : World) (v : Value) (l : List Int) : Prop := RdF F w v l.length (iv l)
def RdE (F : Nat -> Prop) (w : World) (v : Value) (l : List Nat) : Prop := RdF F w v l.length (ev l)
theorem RdI.below {F : Nat -> Prop} {B : Nat} {w w' : World} {v : Value} {l : List Int} (h : RdI F w v l) (hb : Below B w w') (hB : w.heap.size <= B) : RdI F w' v l := RdF.below h hb hB
theorem RdE.below {F : Nat -> Prop} {B : Nat} {w w' : World} {v : Value} {l : List Nat} (h : RdE F w v l) (hb : Below B w w') (hB : w.heap.size <= B) : RdE F w' v l := RdF.below h hb hB
theorem RdI.rd {F : Nat -> Prop} {w : World} {v : Value} {l : List Int} (h : RdI F w v l) : T2.Rd w.heap.size w v (iv l) := RdF.rd h (iv_len l).symm
theorem RdI.form {F : Nat -> Prop} {w : World} {v : Value} {l : List Int} (h : RdI F w v l) : ∃ A c, v = .slice A l.length c := RdF.form h
theorem RdE.form {F : Nat -> Prop} {w : World} {v : Value} {l : List Nat} (h : RdE F w v l) : ∃ A c, v = .slice A l.length c := RdF.form h
theorem RdI.at {F : Nat -> Prop} {w : World} {A : Option Addr} {n c : Nat} {l : List Int} (h : RdI F w (.slice A n c) l) {k : Nat} {x : Int} (hk : l[k]? = some x) : ∃ g o : Nat, A = some ⟨g, o, none⟩ /\ w.cell? ⟨g, o + k, none⟩ = some (.int .i64 x) := by
 have := (List.getElem?_eq_some_iff.1 hk).1
 obtain ⟨g, o, e, _, hx⟩ := RdF.base h (by omega)
 exact ⟨g, o, e, hx k _ (iv_at hk)⟩
theorem RdE.at {F : Nat -> Prop} {w : World} {A : Option Addr} {n c : Nat} {l : List Nat} (h : RdE F w (.slice A n c) l) {k : Nat} {x : Nat} (hk : l[k]? = some x) : ∃ g o : Nat, A = some ⟨g, o, none⟩ /\ w.cell? ⟨g, o + k, none⟩ = some (.int .u32 (x : Int)) := by
 have := (List.getElem?_eq_some_iff.1 hk).1
 obtain ⟨g, o, e, _, hx⟩ := RdF.base h (by omega)
 exact ⟨g, o, e, hx k _ (ev_at hk)⟩
structure ME where
 vs : Value
 vl : Value
 s : List Int
 l : List Nat
instance : Inhabited ME := ⟨⟨.slice none 0 0, .slice none 0 0, [], []⟩⟩
def ME.pl (m : ME) : PE := (m.s, m.l)
def pls (M : List ME) : List PE := M.map ME.pl
def mcells (M : List ME) : List Value := M.flatMap fun m => [m.vs, m.vl]
theorem yay (a b : List ME) : pls (a ++ b) = pls a ++ pls b := by simp [pls]
theorem yap (M : List ME) : (pls M).length = M.length := by simp [pls]
theorem yaw (a b : List ME) : mcells (a ++ b) = mcells a ++ mcells b := by simp [mcells]
theorem yes (m : ME) (t : List ME) : mcells (m :: t) = [m.vs, m.vl] ++ mcells t := rfl
theorem yaq (l : List ME) : (mcells l).length = l.length * 2 := by
 induction l with
 | nil => rfl
 | cons p t ih => rw [yes, List.length_append, ih]; simp; omega
theorem ycl {l : List ME} {k : Nat} {p : ME} (h : l[k]? = some p) : (mcells l)[k * 2]? = some p.vs /\ (mcells l)[k * 2 + 1]? = some p.vl := by
 induction l generalizing k with
 | nil => simp at h
 | cons q t ih =>
  rw [show mcells (q :: t) = q.vs :: q.vl :: mcells t from rfl]
  cases k with
  | zero => simp at h; subst h; exact ⟨rfl, rfl⟩
  | succ k =>
   simp only [List.getElem?_cons_succ] at h; obtain ⟨h1, h2⟩ := ih h; refine ⟨?_, ?_⟩
   ·rw [show (k + 1) * 2 = k * 2 + 1 + 1 by omega]; simpa using h1
   ·rw [show (k + 1) * 2 + 1 = k * 2 + 1 + 1 + 1 by omega]; simpa using h2
def EntOk (F : Nat -> Prop) (w : World) (m : ME) : Prop := RdI F w m.vs m.s /\ RdE F w m.vl m.l
theorem EntOk.mono {F G : Nat -> Prop} {w : World} {m : ME} (h : EntOk F w m) (hG : ∀ g, F g -> G g) : EntOk G w m := ⟨RdF.mono h.1 hG, RdF.mono h.2 hG⟩
theorem EntOk.frame {F : Nat -> Prop} {w w' : World} {m : ME} (h : EntOk F w m) (hf : ∀ g, F g -> g < w.heap.size -> w'.heap[g]? = w.heap[g]?) : EntOk F w' m := ⟨RdF.frame h.1 hf, RdF.frame h.2 hf⟩
theorem EntOk.below {F : Nat -> Prop} {B : Nat} {w w' : World} {m : ME} (h : EntOk F w m) (hb : Below B w w') (hB : w.heap.size <= B) : EntOk F w' m := ⟨RdF.below h.1 hb hB, RdF.below h.2 hb hB⟩
theorem EntOk.one {F : Nat -> Prop} {w : World} {m : ME} (h : EntOk F w m) : m.vs.oneCell' = true /\ m.vl.oneCell' = true := by
 obtain ⟨A, c, e⟩ := h.1.form; obtain ⟨A', c', e'⟩ := h.2.form; rw [e, e']; exact ⟨rfl, rfl⟩
theorem ydb {F : Nat -> Prop} {w : World} {M : List ME} (h : ∀ m ∈ M, EntOk F w m) : ∀ u ∈ mcells M, u.oneCell' = true := by
 intro u hu; obtain ⟨p, hp, hq⟩ := List.mem_flatMap.1 hu
 have := (h p hp).one
 simp at hq
 rcases hq with rfl | rfl
 ·exact this.1
 ·exact this.2
def RdM (F : Nat -> Prop) (w : World) (v : Value) (M : List ME) : Prop := RdF anyB w v M.length (mcells M) /\ ∀ m ∈ M, EntOk F w m
def RdT (F : Nat -> Prop) (w : World) (v : Value) (L : List PE) : Prop := ∃ M, pls M = L /\ RdM F w v M
theorem RdM.below {F : Nat -> Prop} {B : Nat} {w w' : World} {v : Value} {M : List ME} (h : RdM F w v M) (hb : Below B w w') (hB : w.heap.size <= B) : RdM F w' v M :=
 ⟨h.1.below hb hB, fun m hm => (h.2 m hm).below hb hB⟩
theorem RdT.below {F : Nat -> Prop} {B : Nat} {w w' : World} {v : Value} {L : List PE} (h : RdT F w v L) (hb : Below B w w') (hB : w.heap.size <= B) : RdT F w' v L := by
 obtain ⟨M, e, h⟩ := h; exact ⟨M, e, h.below hb hB⟩
theorem RdT.mono {F G : Nat -> Prop} {w : World} {v : Value} {L : List PE} (h : RdT F w v L) (hG : ∀ g, F g -> G g) : RdT G w v L := by
 obtain ⟨M, e, h1, h2⟩ := h; exact ⟨M, e, h1, fun m hm => (h2 m hm).mono hG⟩
theorem RdM.form {F : Nat -> Prop} {w : World} {v : Value} {M : List ME} (h : RdM F w v M) : ∃ A c, v = .slice A M.length c := h.1.form
theorem RdT.form {F : Nat -> Prop} {w : World} {v : Value} {L : List PE} (h : RdT F w v L) : ∃ A c, v = .slice A L.length c := by
 obtain ⟨M, rfl, h⟩ := h; rw [yap]; exact h.form
theorem RdM.at {F : Nat -> Prop} {w : World} {A : Option Addr} {n c : Nat} {M : List ME} (h : RdM F w (.slice A n c) M) {k : Nat} {m : ME} (hk : M[k]? = some m) :
  ∃ g o : Nat, A = some ⟨g, o, none⟩ /\ w.cell? ⟨g, o + k * 2, none⟩ = some m.vs /\ w.cell? ⟨g, o + k * 2 + 1, none⟩ = some m.vl /\ EntOk F w m := by
 have hl := (List.getElem?_eq_some_iff.1 hk).1; obtain ⟨g, o, e, _, hx⟩ := RdF.base h.1 (by omega)
 obtain ⟨h1, h2⟩ := ycl hk; exact ⟨g, o, e, hx _ _ h1, by rw [Nat.add_assoc]; exact hx _ _ h2, h.2 m (List.mem_of_getElem? hk)⟩
theorem RdT.at {F : Nat -> Prop} {w : World} {A : Option Addr} {n c : Nat} {L : List PE} (h : RdT F w (.slice A n c) L) {k : Nat} {e : PE} (hk : L[k]? = some e) :
  ∃ (g o : Nat) (vs vl : Value), A = some ⟨g, o, none⟩ /\ w.cell? ⟨g, o + k * 2, none⟩ = some vs /\ w.cell? ⟨g, o + k * 2 + 1, none⟩ = some vl /\ RdI F w vs e.1 /\ RdE F w vl e.2 := by
 obtain ⟨M, rfl, h⟩ := h; unfold pls at hk; rw [List.getElem?_map] at hk
 cases hm : M[k]? with
 | none => rw [hm] at hk; cases hk
 | some m =>
  rw [hm] at hk
  simp at hk
  subst hk; obtain ⟨g, o, e, h1, h2, h3⟩ := h.at hm; exact ⟨g, o, m.vs, m.vl, e, h1, h2, h3.1, h3.2⟩
def OwnM (B : Nat) (w : World) (v : Value) (M : List ME) : Prop := w.ownsRow B 88 2 v M.length (mcells M)
def OwnE (B : Nat) (w : World) (v : Value) (l : List Nat) : Prop := w.ownsRow B 168 1 v l.length (ev l)
theorem OwnM.rd {B : Nat} {F : Nat -> Prop} {w : World} {v : Value} {M : List ME} (h : OwnM B w v M) (hM : ∀ m ∈ M, EntOk F w m) : RdM F w v M := ⟨RdF.of_own h fun _ _ => trivial, hM⟩
theorem OwnE.rd {B : Nat} {F : Nat -> Prop} {w : World} {v : Value} {l : List Nat} (h : OwnE B w v l) (hF : ∀ g, B <= g -> F g) : RdE F w v l := RdF.of_own h hF
theorem ybi {B : Nat} {F : Nat -> Prop} {w : World} {v : Value} {l : List Int} (h : T2.OwnI B w v l) (hF : ∀ g, B <= g -> F g) : RdI F w v l := RdF.of_own h hF
def cmpW : List Int -> List Int -> Int
 | [], [] => 0
 | [], _ :: _ => -1
 | _ :: _, [] => 1
 | a :: p, b :: q => if a = b then cmpW p q else if a < b then -1 else 1
theorem ywm {p q : List Int} {k : Nat} {a b : Int} (ha : p[k]? = some a) (hb : q[k]? = some b) : cmpW (p.drop k) (q.drop k) = if a = b then cmpW (p.drop (k + 1)) (q.drop (k + 1)) else if a < b then -1 else 1 := by
 obtain ⟨h1, rfl⟩ := List.getElem?_eq_some_iff.1 ha; obtain ⟨h2, rfl⟩ := List.getElem?_eq_some_iff.1 hb; rw [List.drop_eq_getElem_cons h1, List.drop_eq_getElem_cons h2]
 rfl
theorem ypo {p q : List Int} {k : Nat} (h : p.length <= k \/ q.length <= k) (hp : k <= p.length) (hq : k <= q.length) : cmpW (p.drop k) (q.drop k) = if p.length < q.length then -1 else if q.length < p.length then 1 else 0 := by
 rcases h with h | h
 ·rw [List.drop_of_length_le h]
  have : p.length = k := by omega
  by_cases h2 : q.length = k
  ·rw [List.drop_of_length_le (Nat.le_of_eq h2), if_neg (by omega), if_neg (by omega)]; rfl
  ·rw [List.drop_eq_getElem_cons (by omega), if_pos (by omega)]; rfl
 ·rw [List.drop_of_length_le (l := q) h]
  have : q.length = k := by omega
  by_cases h2 : p.length = k
  ·rw [List.drop_of_length_le (Nat.le_of_eq h2), if_neg (by omega), if_neg (by omega)]; rfl
  ·rw [List.drop_eq_getElem_cons (by omega), if_neg (by omega), if_pos (by omega)]; rfl
def DrewQ (w wr : World) : Prop := ∃ n, wr = w.drewN n
theorem DrewQ.refl (w : World) : DrewQ w w := ⟨0, rfl⟩
theorem belDrew (w : World) (n : Nat) : Below w.heap.size w (w.drewN n) := ⟨rfl, rfl, rfl, zN _, fun _ _ => rfl⟩
theorem DrewQ.bel {w wr : World} (h : DrewQ w wr) (n : Nat) : Below w.heap.size w (wr.drewN n) := by
 obtain ⟨m, rfl⟩ := h
 have : (w.drewN m).drewN n = w.drewN (m + n) := by simp [World.drewN, Nat.add_assoc]
 rw [this]; exact belDrew w _
theorem DrewQ.bel0 {w wr : World} (h : DrewQ w wr) : Below w.heap.size w wr := by
 obtain ⟨m, rfl⟩ := h; exact belDrew w m
theorem DrewQ.cell {w wr : World} (h : DrewQ w wr) {p : Addr} {u : Value} (c : w.cell? p = some u) : wr.cell? p = some u := (h.bel0.cell (yaj c)).trans c
theorem DrewQ.more {w wr : World} (h : DrewQ w wr) (n : Nat) : DrewQ w (wr.drewN n) := by
 obtain ⟨m, rfl⟩ := h; exact ⟨m + n, by simp [World.drewN, Nat.add_assoc]⟩
end Go.Proofs.YteibnfeokgibmaaGreat
namespace Go.Proofs.YteibnfeokgibmaaGreat
def wsF (lv : Nat) (sh : Bool) : List Nat -> List Int
 | [] => []
 | x :: l => if wgt lv x = 0 \/ (sh = true /\ x % 2 = 1) then wsF lv sh l else ((wgt lv x : Nat) : Int) :: wsF lv sh l
def wsP (lv : Nat) (sh bk : Bool) (E : List Nat) : List Int := if lv = 2 /\ bk = true then (wsF lv sh E).reverse else wsF lv sh E
def colU (sh bk : Bool) (a b : List Nat) : Nat -> Nat -> Int
 | 0, _ => 0
 | n + 1, lv => lexC (cmpW (wsP lv sh bk a) (wsP lv sh bk b)) (colU sh bk a b n (lv + 1))
def colC (n : Nat) (sh bk : Bool) (a b : List Nat) : Int := colU sh bk a b n 1
theorem yse (lv : Nat) (sh : Bool) : ∀ l : List Nat, (wsF lv sh l).length <= l.length
 | [] => zN _
 | x :: l => by
  rw [wsF]
  have := yse lv sh l
  split <;> (simp only [List.length_cons]; omega)
theorem ydf : ∀ p q : List Int, cmpW p q = cmpL p q
 | [], [] => rfl
 | [], _ :: _ => rfl
 | _ :: _, [] => rfl
 | a :: p, b :: q => by
  show (if a = b then cmpW p q else if a < b then -1 else 1) = (if cmpI a b = 0 then cmpL p q else cmpI a b)
  rw [ydf p q]
  by_cases e : a = b
  ·rw [if_pos e, if_pos (ybd.2 e)]
  ·rw [if_neg e, if_neg (fun h => e (ybd.1 h))]
   unfold cmpI
   by_cases f : a < b
   ·rw [if_pos f, if_pos f]
   ·rw [if_neg f, if_neg f, if_pos (by omega)]
theorem to_cmpW : TO cmpW where
 anti a b := by rw [ydf, ydf]; exact to_cmpL.anti a b
 trans a b d h1 h2 := by rw [ydf] at *; exact to_cmpL.trans a b d h1 h2
 zero a b d h := by rw [ydf] at *; rw [ydf]; exact to_cmpL.zero a b d h
theorem TO.on {α β : Type} {c : β -> β -> Int} (h : TO c) (f : α -> β) : TO (fun a b => c (f a) (f b)) where
 anti a b := h.anti _ _
 trans a b d := h.trans _ _ _
 zero a b d := h.zero _ _ _
theorem TO.self {α : Type} {c : α -> α -> Int} (h : TO c) (a : α) : c a a = 0 := by have := h.anti a a; omega
theorem ygk {n : Nat} (hn : 1 <= n) {sh bk : Bool} {a b : List Nat} {r : Int} (h : cmpW (wsP 1 sh bk a) (wsP 1 sh bk b) = r) (hr : r ≠ 0) : colC n sh bk a b = r := by
 obtain ⟨m, rfl⟩ : ∃ m, n = m + 1 := ⟨n - 1, by omega⟩
 show lexC _ _ = r
 rw [h, lexC, if_neg hr]
def bI (l : List UInt8) : List Int := l.map fun x => ((x.toNat : Nat) : Int)
def cmpB (p q : List UInt8) : Int := cmpW (bI p) (bI q)
theorem to_cmpB : TO cmpB := to_cmpW.on bI
def cmpLL : List (List Int) -> List (List Int) -> Int
 | [], [] => 0
 | [], _ :: _ => -1
 | _ :: _, [] => 1
 | a :: p, b :: q => lexC (cmpW a b) (cmpLL p q)
structure PL where
 bytes : List UInt8
 lists : List (List Int)
def cmpP (p q : PL) : Int := lexC (cmpB p.bytes q.bytes) (cmpLL p.lists q.lists)
theorem yvh {x y : Int} : lexC x y = 0 ↔ x = 0 /\ y = 0 := by
 unfold lexC; split <;> constructor <;> intro h
 ·exact ⟨by assumption, h⟩
 ·exact h.2
 ·exact absurd h (by assumption)
 ·exact absurd h.1 (by assumption)
theorem to_cmpLL : TO cmpLL where
 anti a b := by
  induction a generalizing b with
  | nil => cases b <;> rfl
  | cons x a ih =>
   cases b with
   | nil => rfl
   | cons y b =>
    show lexC (cmpW y x) (cmpLL b a) = - lexC (cmpW x y) (cmpLL a b)
    have h1 := to_cmpW.anti x y; have h2 := ih b; unfold lexC
    split <;> split <;> omega
 trans a b d := by
  induction a generalizing b d with
  | nil =>
   intro h1 h2
   cases d with
   | nil => cases b with
    | nil => exact h1
    | cons y b => exact absurd (show (1 : Int) < 0 from h2) (by omega)
   | cons z d => show (-1 : Int) < 0; omega
  | cons x a ih =>
   intro h1 h2
   cases b with
   | nil => exact absurd (show (1 : Int) < 0 from h1) (by omega)
   | cons y b =>
    cases d with
    | nil => exact absurd (show (1 : Int) < 0 from h2) (by omega)
    | cons z d =>
     have h1 : lexC (cmpW x y) (cmpLL a b) < 0 := h1
     have h2 : lexC (cmpW y z) (cmpLL b d) < 0 := h2
     show lexC (cmpW x z) (cmpLL a d) < 0
     have e0 := to_cmpW.zero x y z; have e1 := to_cmpW.trans x y z; have e2 := fun e => to_cmpW.zero' (a := x) (b := y) (d := z) e
     have e3 := ih b d; unfold lexC at *
     by_cases c1 : cmpW x y = 0
     ·rw [if_pos c1] at h1; rw [e0 c1]
      by_cases c2 : cmpW y z = 0
      ·rw [if_pos c2] at h2; rw [if_pos c2]; exact e3 h1 h2
      ·rw [if_neg c2] at h2; rw [if_neg c2]; exact h2
     ·rw [if_neg c1] at h1
      by_cases c2 : cmpW y z = 0
      ·rw [e2 c2, if_neg c1]; exact h1
      ·rw [if_neg c2] at h2
       have := e1 h1 h2
       rw [if_neg (by omega)]; exact this
 zero a b d := by
  induction a generalizing b d with
  | nil =>
   intro h
   cases b with
   | nil => rfl
   | cons y b => exact absurd (show (-1 : Int) = 0 from h) (by omega)
  | cons x a ih =>
   intro h
   cases b with
   | nil => exact absurd (show (1 : Int) = 0 from h) (by omega)
   | cons y b =>
    have h : lexC (cmpW x y) (cmpLL a b) = 0 := h
    obtain ⟨h1, h2⟩ := yvh.1 h
    cases d with
    | nil => rfl
    | cons z d =>
     show lexC (cmpW x z) (cmpLL a d) = lexC (cmpW y z) (cmpLL b d)
     rw [to_cmpW.zero x y z h1, ih b d h2]
theorem to_cmpP : TO cmpP := (to_cmpB.on PL.bytes).lex (to_cmpLL.on PL.lists)
theorem zas : cmpB [] [] = 0 := rfl
def wsL (sh bk : Bool) (E : List Nat) : Nat -> Nat -> List (List Int)
 | 0, _ => []
 | n + 1, lv => wsP lv sh bk E :: wsL sh bk E n (lv + 1)
theorem ymn (sh bk : Bool) (E : List Nat) : ∀ n lv, (wsL sh bk E n lv).length = n
 | 0, _ => rfl
 | n + 1, lv => by rw [wsL, List.length_cons, ymn]
theorem ysc (sh bk : Bool) (E : List Nat) : ∀ (n lv k : Nat), k < n -> (wsL sh bk E n lv)[k]? = some (wsP (lv + k) sh bk E)
 | 0, _, _, h => absurd h (by omega)
 | n + 1, lv, 0, h => rfl
 | n + 1, lv, k + 1, h => by
  rw [wsL, List.getElem?_cons_succ, ysc sh bk E n (lv + 1) k (by omega), Nat.add_assoc, Nat.add_comm 1 k]
theorem ymh (sh bk : Bool) (a b : List Nat) : ∀ n lv, cmpLL (wsL sh bk a n lv) (wsL sh bk b n lv) = colU sh bk a b n lv
 | 0, _ => rfl
 | n + 1, lv => by
  show lexC _ (cmpLL _ _) = lexC _ (colU _ _ _ _ _ _)
  rw [ymh sh bk a b n (lv + 1)]
inductive CK where
 | bytes : CK
 | fold : CK
 | table (n : Nat) (sh bk : Bool) (L : List PE) : CK
def plK : CK -> List UInt8 -> PL
 | .bytes, b => ⟨b, []⟩
 | .fold, b => ⟨T2.ft b, []⟩
 | .table n sh bk L, b => ⟨[], wsL sh bk (elsP L (T2.sgs b)) n 1⟩
def colK (K : CK) (a b : List UInt8) : Int := cmpP (plK K a) (plK K b)
theorem to_colK (K : CK) : TO (colK K) := to_cmpP.on (plK K)
theorem yek (n : Nat) (sh bk : Bool) (L : List PE) (a b : List UInt8) : colK (.table n sh bk L) a b = colC n sh bk (elsP L (T2.sgs a)) (elsP L (T2.sgs b)) := by
 show lexC (cmpB [] []) (cmpLL (wsL _ _ _ _ _) (wsL _ _ _ _ _)) = _
 rw [ymh, zas, lexC, if_pos rfl]; rfl
theorem yiq : ∀ p q : List UInt8, Lib.compareBytes p q = cmpB p q
 | [], [] => rfl
 | [], _ :: _ => rfl
 | _ :: _, [] => rfl
 | a :: p, b :: q => by
  have e2 : cmpB (a :: p) (b :: q) = if ((a.toNat : Nat) : Int) = ((b.toNat : Nat) : Int) then cmpB p q else if ((a.toNat : Nat) : Int) < ((b.toNat : Nat) : Int) then -1 else 1 := rfl
  rw [e2]; unfold Lib.compareBytes; rw [yiq p q]
  by_cases e : a = b
  ·subst e; simp
  ·have hn : a.toNat ≠ b.toNat := fun h => e (UInt8.toNat_inj.1 h)
   by_cases f : a.toNat < b.toNat
   ·have : a < b := UInt8.lt_iff_toNat_lt.2 f
    simp [this]; omega
   ·have h1 : ¬ a < b := fun h => f (UInt8.lt_iff_toNat_lt.1 h)
    have h2 : b < a := UInt8.lt_iff_toNat_lt.2 (by omega)
    rw [if_neg h1, if_pos h2, if_neg (by omega), if_neg (by omega)]
end Go.Proofs.YteibnfeokgibmaaGreat
