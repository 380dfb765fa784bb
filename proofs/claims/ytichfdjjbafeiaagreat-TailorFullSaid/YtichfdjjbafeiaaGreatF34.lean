/-
  PACKED for a claim.
-/
import Derived.Test.YtichfdjjbafeiaaGreatF33
set_option linter.unusedVariables false
set_option linter.unusedSimpArgs false
set_option maxRecDepth 100000
namespace Go.Proofs.YtichfdjjbafeiaaGreat
open Go.RowKit
def KR (w : World) (k : Nat) : Prop := ∃ cs T fr, w.heap[k]? = some (.cells cs T fr) /\ (T = 102 \/ T = 91 \/ T = 3)
def KRU (U : Nat -> Prop) (w : World) (k : Nat) : Prop := U k /\ KR w k
theorem RdF.kstep {U : Nat -> Prop} {w w' : World} {v : Value} {n : Nat} {xs : List Value} (hr : RdF (KRU U w) w v n xs) (hf : ∀ k, U k -> KR w k -> k < w.heap.size -> w'.heap[k]? = w.heap[k]?) : RdF (KRU U w') w' v n xs := by
 obtain ⟨A, c, rfl, hc, hr⟩ := hr; refine ⟨A, c, rfl, hc, fun h0 => ?_⟩
 obtain ⟨g, o, e, ⟨hU, hg⟩, hx⟩ := hr h0; have hg0 := hg; obtain ⟨cs, T, fr, h1, h2⟩ := hg; have e2 := hf g hU hg0 (R4.yac h1); refine ⟨g, o, e, ⟨hU, cs, T, fr, e2.trans h1, h2⟩, fun j u hu => ?_⟩
 rw [World.cell?_of_block (w := w) (a := ⟨g, o + j, none⟩) e2]; exact hx j u hu
def EntU (U : Nat -> Prop) (w : World) (m : ME) : Prop := RdF (KRU U w) w m.vs m.s.length (iv m.s) /\ RdF (KRU U w) w m.vl m.l.length (qcells m.l)
theorem EntU.step {U : Nat -> Prop} {w w' : World} {m : ME} (h : EntU U w m) (hf : ∀ k, U k -> KR w k -> k < w.heap.size -> w'.heap[k]? = w.heap[k]?) : EntU U w' m := ⟨RdF.kstep h.1 hf, RdF.kstep h.2 hf⟩
theorem EntU.below {U : Nat -> Prop} {B : Nat} {w w' : World} {m : ME} (h : EntU U w m) (hb : Below B w w') (hB : w.heap.size <= B) : EntU U w' m := h.step fun k _ _ hk => hb.block k (by omega)
theorem EntU.ints {U : Nat -> Prop} {w : World} {m : ME} (h : EntU U w m) : RdI anyB w m.vs m.s := RdF.any h.1
theorem EntU.els {U : Nat -> Prop} {w : World} {m : ME} (h : EntU U w m) : RdQ anyB w m.vl m.l := RdF.any h.2
theorem EntU.one {U : Nat -> Prop} {w : World} {m : ME} (h : EntU U w m) : m.vs.oneCell' = true /\ m.vl.oneCell' = true := by
 obtain ⟨A, c, e⟩ := h.1.form; obtain ⟨A', c', e'⟩ := h.2.form; rw [e, e']; exact ⟨rfl, rfl⟩
def RdN (U : Nat -> Prop) (w : World) (v : Value) (M : List ME) : Prop := RdF (KRU U w) w v M.length (mcells M) /\ ∀ m ∈ M, EntU U w m
def RefU (U : Nat -> Prop) (w : World) (v : Value) (L : List PE) : Prop := ∃ M, pls M = L /\ RdN U w v M
abbrev RefT (w : World) (v : Value) (L : List PE) : Prop := RefU anyB w v L
theorem RdN.step {U : Nat -> Prop} {w w' : World} {v : Value} {M : List ME} (h : RdN U w v M) (hf : ∀ k, U k -> KR w k -> k < w.heap.size -> w'.heap[k]? = w.heap[k]?) : RdN U w' v M := ⟨RdF.kstep h.1 hf, fun m hm => (h.2 m hm).step hf⟩
theorem RdN.below {U : Nat -> Prop} {B : Nat} {w w' : World} {v : Value} {M : List ME} (h : RdN U w v M) (hb : Below B w w') (hB : w.heap.size <= B) : RdN U w' v M := h.step fun k _ _ hk => hb.block k (by omega)
theorem RefU.step {U : Nat -> Prop} {w w' : World} {v : Value} {L : List PE} (h : RefU U w v L) (hf : ∀ k, U k -> KR w k -> k < w.heap.size -> w'.heap[k]? = w.heap[k]?) : RefU U w' v L := by
 obtain ⟨M, e, h⟩ := h; exact ⟨M, e, h.step hf⟩
theorem RefU.below {U : Nat -> Prop} {B : Nat} {w w' : World} {v : Value} {L : List PE} (h : RefU U w v L) (hb : Below B w w') (hB : w.heap.size <= B) : RefU U w' v L := h.step fun k _ _ hk => hb.block k (by omega)
theorem RefU.off {U : Nat -> Prop} {w w' : World} {v : Value} {L : List PE} {b : Nat} {cs : Array Value} {T : TypeId} {fr : Nat × Nat} (h : RefU U w v L) (hg : w.grownBy w' (some b)) (hb : w.heap[b]? = some (.cells cs T fr)) (h1 : T ≠ 102) (h2 : T ≠ 91) (h3 : T ≠ 3) : RefU U w' v L := h.step fun k _ hk hl => by
 refine hg.block k hl ?_; intro e
 injection e with e
 subst e; obtain ⟨cs', T', fr', e1, e2⟩ := hk; rw [hb] at e1
 injection e1 with e1
 injection e1 with _ e4 _
 subst e4
 rcases e2 with e2 | e2 | e2
 ·exact h1 e2
 ·exact h2 e2
 ·exact h3 e2
theorem RefU.form {U : Nat -> Prop} {w : World} {v : Value} {L : List PE} (h : RefU U w v L) : ∃ A c, v = .slice A L.length c := by
 obtain ⟨M, rfl, h⟩ := h; rw [yao]; exact h.1.form
theorem RefT.nil (w : World) : RefT w (.slice none 0 0) [] := ⟨[], rfl, RdF.nil _ _, fun m hm => by cases hm⟩
theorem RdN.at {U : Nat -> Prop} {w : World} {A : Option Addr} {n c : Nat} {M : List ME} (h : RdN U w (.slice A n c) M) {k : Nat} {m : ME} (hk : M[k]? = some m) :
  ∃ g o : Nat, A = some ⟨g, o, none⟩ /\ w.cell? ⟨g, o + k * 2, none⟩ = some m.vs /\ w.cell? ⟨g, o + k * 2 + 1, none⟩ = some m.vl /\ EntU U w m := by
 have hl := (List.getElem?_eq_some_iff.1 hk).1; obtain ⟨g, o, e, _, hx⟩ := RdF.base h.1 (by omega)
 obtain ⟨h1, h2⟩ := ybp hk; exact ⟨g, o, e, hx _ _ h1, by rw [Nat.add_assoc]; exact hx _ _ h2, h.2 m (List.mem_of_getElem? hk)⟩
theorem RefU.at {U : Nat -> Prop} {w : World} {A : Option Addr} {n c : Nat} {L : List PE} (h : RefU U w (.slice A n c) L) {k : Nat} {e : PE} (hk : L[k]? = some e) :
  ∃ (g o : Nat) (vs vl : Value), A = some ⟨g, o, none⟩ /\ w.cell? ⟨g, o + k * 2, none⟩ = some vs /\ w.cell? ⟨g, o + k * 2 + 1, none⟩ = some vl /\ RdI anyB w vs e.1 /\ RdQ anyB w vl e.2 := by
 obtain ⟨M, rfl, h⟩ := h; unfold pls at hk; rw [List.getElem?_map] at hk
 cases hm : M[k]? with
 | none => rw [hm] at hk; cases hk
 | some m =>
  rw [hm] at hk
  simp at hk
  subst hk; obtain ⟨g, o, e, h1, h2, h3⟩ := h.at hm; exact ⟨g, o, m.vs, m.vl, e, h1, h2, h3.ints, h3.els⟩
def SV.els (l : List Nat) : SV := ⟨fun v w => RdE anyB w v l, fun _ _ _ h hb => h.below hb (zN _)⟩
theorem appendG {T e : TypeId} {i : TypeInfo} {z : Value} {size bytes : Nat} (hT : Tryz.prog.underlying T = some (.slice e)) (hi : Tryz.prog.info? e = some i) (hz0 : i.zero = some z) (hz1 : i.size = size) (hz2 : i.bytes = bytes) (hzs : z.cells.size = size) (h0 : 0 < size) (hby : bytes <= 1000)
  {ops : Array Oper} {rest : List Oper} {o : Oper} {a : Act} {Q : Exit -> Act -> World -> Prop} (hgd : o.guard = none) (s x : Operand) (ho : o.op = .call { callee := .builtin .append, args := #[s, x], argTypes := #[T, T] })
  (w : World) (B : Nat) (v : Value) (n : Nat) (xs : List Value) {A : Option Addr} {m C : Nat} {ys : List Value} {F : Nat -> Prop} (hs : a.eval s = v) (hown : w.ownsRow B e size v n xs) (hx : a.eval x = .slice A m C)
  (hsrc : RdF F w (.slice A m C) m ys) (hys : ys.length = m * size) (hone : ∀ u ∈ ys, u.oneCell' = true) (hB : B <= w.heap.size) (hl : n + m <= 1000000)
  (h : ∀ v' w', w'.ownsRow B e size v' (n + m) (xs ++ ys) -> w.grownBy w' v.ownBlock -> Below B w w' -> wpList Tryz.prog ops Q rest (a.put o.dst v') w') : wpList Tryz.prog ops Q (o :: rest) a w := by
 cases A with
 | none =>
  have hm : m = 0 := by
   rcases Nat.eq_zero_or_pos m with h0 | h0
   ·exact h0
   ·obtain ⟨g, o, e, _⟩ := RdF.base hsrc h0
    cases e
  subst hm; obtain rfl : ys = [] := List.eq_nil_of_length_eq_zero (by omega)
  refine wpList_plain hgd fun K hK => ?_
  have hrun := yck (w := w) B T o.type e i size C hT hi v n xs hown; unfold Oper.wp
  simp [execOp, ho, resolve, invoke, builtin, hs, hx, hrun, Result.andThen]
  exact hK _ _ (h v w (by rw [List.append_nil]; exact hown) (World.grownBy.refl _ _) (zR _ _))
 | some ad =>
  refine wpList_append_own_at _ hgd s x _ ho B e i z size bytes hT hi hz0 hz1 hz2 hzs h0 v n xs hs hown ad m C ys hx hys
   ?_ hone (by simp only [maxLen]; omega) (Nat.le_trans (Nat.mul_le_mul hl hby) (by omega)) hB ?_
  ·intro j u hu
   have h0' : 0 < m := by
    have := (List.getElem?_eq_some_iff.1 hu).1
    rcases Nat.eq_zero_or_pos m with h1 | h1
    ·subst h1; omega
    ·exact h1
   obtain ⟨g, o, e, _, hc⟩ := RdF.base hsrc h0'
   cases e
   rw [Addr.add_lit]; exact hc j u hu
  ·intro v' w' h2 h3 _ _; exact h v' w' h2 h3 ((zR B w).grown h3 hB (fun k hk => (World.ownsRow.lt hown k hk).1))
theorem RdF.new (w : World) (ys : List Value) (T : TypeId) {n C : Nat} (hn : n <= C) : RdF anyB (w.alloc (.cells ys.toArray T)) (.slice (some ⟨w.heap.size, 0, none⟩) n C) n ys :=
 ⟨_, C, rfl, hn, fun _ => ⟨w.heap.size, 0, rfl, trivial, fun j u hu => by have := R4.yar w ys T j u hu; rw [Addr.add_lit] at this; exact this⟩⟩
def OwnN (B : Nat) (w : World) (v : Value) (M : List ME) : Prop := w.ownsRow B 102 2 v M.length (mcells M)
theorem OwnN.below {B B' : Nat} {w w' : World} {v : Value} {M : List ME} (h : OwnN B w v M) (hb : Below B' w w') (hB : w.heap.size <= B') : OwnN B w' v M := R4.yah h hb hB
theorem OwnN.form {B : Nat} {w : World} {v : Value} {M : List ME} (h : OwnN B w v M) : ∃ A c, v = .slice A M.length c := by
 obtain ⟨A, c, e, _⟩ := R4.yaf h; exact ⟨A, c, e⟩
def NotN (w : World) (k : Nat) : Prop := ∃ cs T fr, w.heap[k]? = some (.cells cs T fr) /\ (T = 91 \/ T = 3)
theorem NotN.kr {w : World} {k : Nat} (h : NotN w k) : KR w k := by
 obtain ⟨cs, T, fr, h1, h2⟩ := h; exact ⟨cs, T, fr, h1, .inr h2⟩
theorem RdF.nstep {B : Nat} {w w' : World} {v : Value} {n : Nat} {xs : List Value} (hr : RdF (fun k => B <= k /\ NotN w k) w v n xs) (hf : ∀ k, B <= k -> NotN w k -> k < w.heap.size -> w'.heap[k]? = w.heap[k]?) : RdF (fun k => B <= k /\ NotN w' k) w' v n xs := by
 obtain ⟨A, c, rfl, hc, hr⟩ := hr; refine ⟨A, c, rfl, hc, fun h0 => ?_⟩
 obtain ⟨g, o, e, ⟨hB, hg⟩, hx⟩ := hr h0; have hg0 := hg; obtain ⟨cs, T, fr, h1, h2⟩ := hg; have e2 := hf g hB hg0 (R4.yac h1); refine ⟨g, o, e, ⟨hB, cs, T, fr, e2.trans h1, h2⟩, fun j u hu => ?_⟩
 rw [World.cell?_of_block (w := w) (a := ⟨g, o + j, none⟩) e2]; exact hx j u hu
theorem RdF.nown {B B' : Nat} {w : World} {e : TypeId} {s : Nat} {v : Value} {n : Nat} {xs : List Value} (h : w.ownsRow B e s v n xs) (he : e = 91 \/ e = 3) (hB : B' <= B) : RdF (fun k => B' <= k /\ NotN w k) w v n xs := by
 obtain ⟨A, c, rfl, hc, hr⟩ := R4.yaf h; refine ⟨A, c, rfl, hc, fun h0 => ?_⟩
 obtain ⟨g, e', hg, hl, hx⟩ := hr h0; obtain ⟨cur, h1⟩ := R4.ybn h (g := g) (by rw [e']; rfl)
 exact ⟨g, 0, e', ⟨by omega, _, _, _, h1, he⟩, fun j u hu => by rw [Nat.zero_add]; exact hx j u hu⟩
def EntN (B : Nat) (w : World) (m : ME) : Prop := RdF (fun k => B <= k /\ NotN w k) w m.vs m.s.length (iv m.s) /\ RdF (fun k => B <= k /\ NotN w k) w m.vl m.l.length (qcells m.l)
theorem EntN.okU {U : Nat -> Prop} {B : Nat} {w : World} {m : ME} (h : EntN B w m) (hU : ∀ k, B <= k -> U k) : EntU U w m := ⟨RdF.mono h.1 fun k hk => ⟨hU k hk.1, hk.2.kr⟩, RdF.mono h.2 fun k hk => ⟨hU k hk.1, hk.2.kr⟩⟩
theorem EntN.ok {B : Nat} {w : World} {m : ME} (h : EntN B w m) : EntU anyB w m := h.okU fun _ _ => trivial
theorem EntN.step {B : Nat} {w w' : World} {m : ME} (h : EntN B w m) (hf : ∀ k, B <= k -> NotN w k -> k < w.heap.size -> w'.heap[k]? = w.heap[k]?) : EntN B w' m := ⟨RdF.nstep h.1 hf, RdF.nstep h.2 hf⟩
theorem EntN.below {B B' : Nat} {w w' : World} {m : ME} (h : EntN B w m) (hb : Below B' w w') (hB : w.heap.size <= B') : EntN B w' m := h.step fun k _ _ hk => hb.block k (by omega)
theorem EntN.grown {B B' : Nat} {w w' : World} {v : Value} {M : List ME} {m : ME} (h : EntN B w m) (ho : OwnN B' w v M) (hg : w.grownBy w' v.ownBlock) : EntN B w' m := h.step fun k _ hk hl => by
 obtain ⟨cs, T, fr, h1, h2⟩ := hk; exact hg.block k hl (R4.yai ho h1 (by rcases h2 with e | e <;> (rw [e]; decide)))
theorem EntN.off {B b : Nat} {w w' : World} {m : ME} (h : EntN B w m) (hg : w.grownBy w' (some b)) (hb : b < B) : EntN B w' m := h.step fun k hk _ hl => hg.block k hl (by intro e; injection e with e; omega)
theorem ycf (M : List ME) (u : Nat) : mcells (M.drop u) = (mcells M).drop (u * 2) := by
 induction u generalizing M with
 | zero => simp
 | succ u ih =>
  cases M with
  | nil => simp [mcells]
  | cons m t => rw [List.drop_succ_cons, ih, ydd, show (u + 1) * 2 = u * 2 + 1 + 1 by omega]; rfl
theorem yse (M : List ME) (k : Nat) : pls (M.take k) = (pls M).take k := by simp [pls, List.map_take]
theorem ysf (M : List ME) (k : Nat) : pls (M.drop k) = (pls M).drop k := by simp [pls, List.map_drop]
theorem pls_at {M : List ME} {k : Nat} {m : ME} (h : M[k]? = some m) : (pls M)[k]? = some m.pl := by simp [pls, h]
theorem pls_of {M : List ME} {k : Nat} {e : PE} (h : (pls M)[k]? = some e) : ∃ m, M[k]? = some m /\ m.pl = e := by
 unfold pls at h; rw [List.getElem?_map] at h
 cases hm : M[k]? with
 | none => rw [hm] at h; cases h
 | some m => rw [hm] at h; exact ⟨m, rfl, by simpa using h⟩
theorem OwnI.below {B B' : Nat} {w w' : World} {v : Value} {l : List Int} (h : T2.OwnI B w v l) (hb : Below B' w w') (hB : w.heap.size <= B') : T2.OwnI B w' v l := R4.yah h hb hB
theorem OwnQ.below {B B' : Nat} {w w' : World} {v : Value} {l : List Nat} (h : OwnQ B w v l) (hb : Below B' w w') (hB : w.heap.size <= B') : OwnQ B w' v l := R4.yah h hb hB
theorem yab (w : World) (o : Obj) : Below w.heap.size w (w.alloc o) := (zR _ w).alloc (zN _) o
theorem yim {B : Nat} (w : World) (e : TypeId) (s : Nat) (hB : B <= w.heap.size) : (w.alloc (.cells #[] e)).ownsRow B e s (.slice (some ⟨w.heap.size, 0, none⟩) 0 0) 0 [] := World.ownsRow_made w #[] 0 hB (Nat.zero_le _) (by simp)
def zME : ME := ⟨.slice none 0 0, .slice none 0 0, [], []⟩
theorem yjy (n : Nat) : (madeCells (Value.agg #[.slice none 0 0, .slice none 0 0]).cells (n * 2)).toList = mcells (List.replicate n zME) := by
 apply List.ext_getElem?
 intro j
 by_cases hj : j < n * 2
 ·have hk : (List.replicate n zME)[j / 2]? = some zME := by rw [List.getElem?_replicate, if_pos (by omega)]
  obtain ⟨h1, h2⟩ := ybp hk
  have hl : (madeCells (Value.agg #[.slice none 0 0, .slice none 0 0]).cells (n * 2)).toList[j]? = some (.slice none 0 0) := by
   rcases Nat.mod_two_eq_zero_or_one j with e | e <;> simp [madeCells, Value.cells, hj, e]
  rw [hl]
  rcases Nat.mod_two_eq_zero_or_one j with e | e
  ·rw [show j / 2 * 2 = j by omega] at h1
   rw [h1]; rfl
  ·rw [show j / 2 * 2 + 1 = j by omega] at h2
   rw [h2]; rfl
 ·rw [List.getElem?_eq_none (by simp [madeCells]; omega), List.getElem?_eq_none (by rw [yaj, List.length_replicate]; omega)]
theorem ygo {D R : List ME} {z m : ME} {k : Nat} (hk : D.length = k) : ((mcells (D ++ z :: R)).set (k * 2) m.vs).set (k * 2 + 1) m.vl = mcells (D ++ [m] ++ R) := by
 subst hk; rw [yap, yap, yap, ydd, List.append_assoc]; have hl := yaj D; rw [<- hl, List.set_append_right _ _ (zN _), List.set_append_right _ _ (by omega)]
 simp [mcells]
theorem yry {n k : Nat} (h : k < n) : List.replicate (n - k) zME = zME :: List.replicate (n - (k + 1)) zME := by
 rw [show n - k = (n - (k + 1)) + 1 by omega, List.replicate_succ]
def SV.intsF (N : Nat) (l : List Int) : SV := ⟨fun v w => RdI (fun k => N <= k) w v l, fun _ _ _ h hb => h.below hb (zN _)⟩
def SV.elsF (N : Nat) (l : List Nat) : SV := ⟨fun v w => RdE (fun k => N <= k) w v l, fun _ _ _ h hb => h.below hb (zN _)⟩
def SV.entF (N : Nat) (s : List Int) (l : List Nat) : SV := ⟨fun v w => ∃ a b, v = .agg #[a, b] /\ RdI (fun k => N <= k) w a s /\ RdE (fun k => N <= k) w b l, fun _ _ _ ⟨a, b, e, h1, h2⟩ hb => ⟨a, b, e, h1.below hb (zN _), h2.below hb (zN _)⟩⟩
structure ES (w : World) (B g n : Nat) (L : List PE) (k : Nat) (wr : World) : Prop where
 own : ∃ D, pls D = L.take k /\ wr.ownsRow B 45 2 (.slice (some ⟨g, 0, none⟩) n n) n (mcells (D ++ List.replicate (n - k) zME)) /\ ∀ m ∈ D, EntOk (fun j => j ≠ g) wr m
 bel : Below w.heap.size w wr
theorem EntOk.miss {w w' : World} {g : Nat} {m : ME} (h : EntOk (fun j => j ≠ g) w m) (hg : w.grownBy w' (some g)) : EntOk (fun j => j ≠ g) w' m := h.frame fun k hk hl => hg.block k hl (by intro e; injection e with e; exact hk e)
theorem ES.more {w : World} {B g n : Nat} {L : List PE} {k : Nat} {wr wr' : World} (h : ES w B g n L k wr) (hb : Below wr.heap.size wr wr') : ES w B g n L k wr' := by
 obtain ⟨⟨D, h1, h2, h3⟩, h4⟩ := h; exact ⟨⟨D, h1, R4.yah h2 hb (zN _), fun m hm => (h3 m hm).below hb (zN _)⟩, h4.trans (hb.mono h4.size)⟩
theorem ES.put {w : World} {B g n : Nat} {L : List PE} {k : Nat} {wr : World} {e : PE} {a b : Value} {N : Nat} (h : ES w B g n L k wr) (hn : L.length = n) (hk : L[k]? = some e) (ha : RdI (fun j => N <= j) wr a e.1) (hb : RdE (fun j => N <= j) wr b e.2) (hN : g < N) (hB : w.heap.size <= B) :
  ES w B g n L (k + 1) ((wr.setCell ⟨g, k * 2, none⟩ a).setCell ⟨g, k * 2 + 1, none⟩ b) := by
 obtain ⟨⟨D, h1, h2, h3⟩, h4⟩ := h
 have hkn : k < n := by rw [<- hn]; exact (List.getElem?_eq_some_iff.1 hk).1
 have hD : D.length = k := by rw [<- yao, h1, List.length_take]; omega
 obtain ⟨s1, g1⟩ := h2.stored (k * 2) a; obtain ⟨s2, g2⟩ := s1.stored (k * 2 + 1) b
 have hgB : B <= g := (World.ownsRow.lt h2 g rfl).1
 refine ⟨⟨D ++ [⟨a, b, e.1, e.2⟩], ?_, ?_, fun m hm => ?_⟩, (h4.setCell (by show _ <= g; omega) _).setCell (by show _ <= g; omega) _⟩
 ·rw [ybm, h1, List.take_add_one, hk]; rfl
 ·rw [yry hkn] at s2; rw [<- ygo (m := ⟨a, b, e.1, e.2⟩) hD]; exact s2
 ·rcases List.mem_append.1 hm with hm | hm
  ·exact ((h3 m hm).miss g1).miss g2
  ·simp at hm
   subst hm; exact EntOk.miss (EntOk.miss ⟨RdF.mono ha fun j hj => by omega, RdF.mono hb fun j hj => by omega⟩ g1) g2
theorem ES.done {w : World} {B g n : Nat} {L : List PE} {wr : World} (h : ES w B g n L n wr) (hn : L.length = n) : RdT anyB wr (.slice (some ⟨g, 0, none⟩) n n) L := by
 obtain ⟨⟨D, h1, h2, h3⟩, -⟩ := h; rw [<- hn, List.take_length] at h1
 have hD : D.length = n := by rw [<- yao, h1, hn]
 rw [Nat.sub_self, List.replicate_zero, List.append_nil, <- hD] at h2; refine ⟨D, h1, ?_, fun m hm => (h3 m hm).mono fun _ _ => trivial⟩
 have := RdF.of_own (F := anyB) h2 (fun _ _ => trivial)
 rw [hD] at this |-; exact this
theorem ES.cells {w : World} {B g n : Nat} {L : List PE} {k : Nat} {wr : World} (h : ES w B g n L k wr) (hk : k < n) (hn : L.length = n) : (∃ u, wr.cell? ⟨g, k * 2, none⟩ = some u) /\ (∃ u, wr.cell? ⟨g, k * 2 + 1, none⟩ = some u) /\ (∀ j, wr.frozen? ⟨g, j, none⟩ = false) := by
 obtain ⟨⟨D, h1, h2, -⟩, -⟩ := h
 have hD : D.length = k := by rw [<- yao, h1, List.length_take]; omega
 have hl : (mcells (D ++ List.replicate (n - k) zME)).length = n * 2 := by rw [yaj, List.length_append, List.length_replicate]; omega
 refine ⟨?_, ?_, fun j => h2.frozenAt j⟩
 iterate 2 (·rw [h2.cellAt _ (by omega), List.getElem?_eq_getElem (by omega)]; exact ⟨_, rfl⟩)
set_option maxHeartbeats 4000000 in
theorem ydg {F : Nat -> Prop} {w : World} {p : Nat} {L : List PE} (h : TabAt F w p L) :
  Calls Tryz.prog 16 #[.pointer (some ⟨p, 0, none⟩)] w fun e w' => (∃ A c, e = .returned (.slice A L.length c) /\ RdT anyB w' (.slice A L.length c) L) /\ Below w.heap.size w w' := by
 obtain ⟨A1, c1, bo, b2, b3, d0, -, -, -, hrt, -, -, -⟩ := h.cells; have HE := zH hrt; have hlen := h.good.len; obtain ⟨n, hn⟩ : ∃ n, L.length = n := ⟨_, rfl⟩; have HN := zH hn; have HD := zH d0; have HGOOD := zH h.good; rw [hn] at d0 HE HD hlen |-
 have hnI : (n : Int) <= 500 := by omega
 obtain ⟨i0, hi0, hz0, hz1, hz2⟩ := info_parts yba; have HI := zH hi0; have HZ0 := zH hz0; have HZ1 := zH hz1; have HZ2 := zH hz2; clear hrt h hn hi0 hz0 hz1 hz2
 go_enter Tryz.func16, Tryz.ntmps16
 go_wp2_with (refine wpList_make_full _ rfl (.tmp 10) (.tmp 10) 41 rfl w.heap.size 45 i0 _ 2 Tryz.underlying41 HI.out HZ0.out HZ1.out .i64 .i64 _ _ n rfl rfl rfl rfl (by rw [HZ2.out]; omega) (by simp only [maxLen]; omega) (zN _) ?_; intro w1 ho hg; have HS1 : Hid (ES w w.heap.size w.heap.size n L 0 w1) := ⟨⟨[], rfl, (by rw [List.nil_append, Nat.sub_zero, <- yjy]; exact ho), fun m hm => by cases hm⟩, (zR _ w).grown hg (zN _) (by simp)⟩; have d1 := (HS1.out.bel.cell (p := ⟨p, 0, none⟩) (yag HD.out)).trans HD.out; clear ho hg d0)
 obtain ⟨g, hg⟩ : ∃ g, w.heap.size = g := ⟨_, rfl⟩; have HG := zH hg
 have HS2 : Hid (ES w g g n L 0 w1) := by rw [<- hg]; exact HS1.out
 rw [hg]; clear hg HS1 d1
 go_loopw [17] (fun i wr => ∃ k : Nat, k <= n /\ i = .int .i64 (k : Nat) /\ Hid (ES w g g n L k wr)) (fun i _ => n - (intOf i).toNat)
 case atStart => exact ⟨0, Nat.zero_le _, rfl, HS2.out⟩
 case round =>
  clear HS2; obtain ⟨k, hk, rfl, HS⟩ := hrel
  by_cases hlt : k < n
  ·obtain ⟨e, he⟩ : ∃ e, L[k]? = some e := ⟨_, List.getElem?_eq_getElem (by rw [HN.out]; exact hlt)⟩
   obtain ⟨g1, o1, vs, vl, rfl, c0, c1, hri, hre⟩ := (HE.out.below HS.out.bel (zN _)).at he; obtain ⟨A2, k2, rfl⟩ := hri.form; obtain ⟨A3, k3, rfl⟩ := hre.form; have HRI := zH hri; have HRE := zH hre; have HEE := zH he
   have hkI : (k : Int) < (n : Int) := by omega
   have hgw : g < wr.heap.size := by obtain ⟨D, _, h2, _⟩ := HS.out.own; exact (World.ownsRow.lt h2 g rfl).2
   have HGW := zH hgw; have HLS := zH (show e.1.length <= 1000000 /\ e.2.length <= 1000000 from ⟨by have := (HGOOD.out.seq e (List.mem_of_getElem? he)).2.1; omega, by have := (HGOOD.out.els e (List.mem_of_getElem? he)).1; omega⟩)
   clear hri hre he hlt hgw
   go_wp2
   have HSX := zH (HS.out.more (yab wr (.cells #[.slice A2 e.1.length k2, .slice A3 e.2.length k3] 45))); have HRIX := zH (HRI.out.below (yab wr (.cells #[.slice A2 e.1.length k2, .slice A3 e.2.length k3] 45)) (zN _)); have HREX := zH (HRE.out.below (yab wr (.cells #[.slice A2 e.1.length k2, .slice A3 e.2.length k3] 45)) (zN _))
   have hx0 : (wr.alloc (.cells #[.slice A2 e.1.length k2, .slice A3 e.2.length k3] 45)).cell? ⟨wr.heap.size, 0, none⟩ = some (.slice A2 e.1.length k2) := by rw [cell_of_row _ _ 0 _ _ _ (heap_alloc_new wr _)]; rfl
   have hx1 : (wr.alloc (.cells #[.slice A2 e.1.length k2, .slice A3 e.2.length k3] 45)).cell? ⟨wr.heap.size, 1, none⟩ = some (.slice A3 e.2.length k3) := by rw [cell_of_row _ _ 1 _ _ _ (heap_alloc_new wr _)]; rfl
   have HX0 := zH hx0; have HX1 := zH hx1
   have HSZ : Hid ((wr.alloc (.cells #[.slice A2 e.1.length k2, .slice A3 e.2.length k3] 45)).heap.size = wr.heap.size + 1) := World.size_alloc _ _
   clear hx0 hx1 HS HRI HRE c0 c1; generalize (wr.alloc (.cells #[.slice A2 e.1.length k2, .slice A3 e.2.length k3] 45)) = wx at HSX HRIX HREX HX0 HX1 HSZ |-; obtain ⟨bx, hbx⟩ : ∃ bx, wr.heap.size = bx := ⟨_, rfl⟩; rw [hbx] at HX0 HX1 HSZ HGW |-; clear hbx; refine ybb (m := 10) [22, 23, 24, 25, 26, 27, 28, 29, 30, 31] [SV.eq (.slice (some ⟨g, 0, none⟩) n n), SV.eq (.int .i64 (k : Int)), SV.eq (.pointer (some ⟨bx, 0, none⟩)), SV.eq (.slice A2 e.1.length k2), SV.intsF wx.heap.size e.1, SV.eq (.pointer (some ⟨bx, 1, none⟩)), SV.eq (.slice A3 e.2.length k3), SV.elsF wx.heap.size e.2, SV.entF wx.heap.size e.1 e.2, SV.eq (.pointer (some ⟨g, k * 2, none⟩))] (by kernel_rfl) (by kernel_rfl) ?_ ?_
   ·refine ⟨⟨⟨⟨⟨⟨⟨⟨⟨⟨trivial, ?_⟩, ?_⟩, ?_⟩, ?_⟩, ?_⟩, ?_⟩, ?_⟩, ?_⟩, ?_⟩, ?_⟩
    all_goals (refine OpIs.mk rfl ?_; intro vs w1 hb hd K hK; simp only [frameV, zS, zA, zB, zC, zD] at hK |-)
    iterate 3 (·have HK := zH hK; clear hK; go_simp; exact HK.out _ _ rfl (zR _ _))
    ·have d2 : vs 2 = .pointer (some ⟨bx, 0, none⟩) := hd 2 (by kernel_rfl)
     have c0 := yae hb HX0.out; simp only [d2] at hK |-; have HK := zH hK; clear hK; go_simp; exact HK.out _ _ rfl (zR _ _)
    ·have d3 : vs 3 = .slice A2 e.1.length k2 := hd 3 (by kernel_rfl)
     simp only [d3] at hK |-; have HK := zH hK; clear hK; go_simp
     go_at_call 34
     refine (ydx (HRIX.out.below hb (zN _)) HLS.out.1).mono ?_; rintro r w3 ⟨⟨v', rfl, ho⟩, hb3⟩; exact HK.out _ _ (yce ho fun j hj => Nat.le_trans hb.size hj) hb3
    ·have HK := zH hK; clear hK; go_simp; exact HK.out _ _ rfl (zR _ _)
    ·have d5 : vs 5 = .pointer (some ⟨bx, 1, none⟩) := hd 5 (by kernel_rfl)
     have c0 := yae hb HX1.out; simp only [d5] at hK |-; have HK := zH hK; clear hK; go_simp; exact HK.out _ _ rfl (zR _ _)
    ·have d6 : vs 6 = .slice A3 e.2.length k3 := hd 6 (by kernel_rfl)
     simp only [d6] at hK |-; have HK := zH hK; clear hK; go_simp
     go_at_call 35
     refine (ycs (HREX.out.below hb (zN _)) HLS.out.2).mono ?_; rintro r w3 ⟨⟨v', rfl, ho⟩, hb3⟩; exact HK.out _ _ (ho.rd fun j hj => Nat.le_trans hb.size hj) hb3
    ·have d4 : RdI (fun j => wx.heap.size <= j) w1 (vs 4) e.1 := hd 4 (by kernel_rfl)
     have d7 : RdE (fun j => wx.heap.size <= j) w1 (vs 7) e.2 := hd 7 (by kernel_rfl)
     obtain ⟨Aa, ka, e4⟩ := RdI.form d4; obtain ⟨Ab, kb, e7⟩ := RdE.form d7; simp only [e4, e7] at hK |-; have HK := zH hK; clear hK; go_simp; exact HK.out _ _ ⟨_, _, rfl, e4 ▸ d4, e7 ▸ d7⟩ (zR _ _)
    ·have d0 : vs 0 = .slice (some ⟨g, 0, none⟩) n n := hd 0 (by kernel_rfl)
     have d1 : vs 1 = .int .i64 (k : Int) := hd 1 (by kernel_rfl)
     simp only [d0, d1] at hK |-; have HK := zH hK; clear hK; go_simp; exact HK.out _ _ rfl (zR _ _)
   ·intro vs w3 hb hd; obtain ⟨va, vb, d8, ha, hb8⟩ : ∃ a b, vs 8 = .agg #[a, b] /\ RdI (fun j => wx.heap.size <= j) w3 a e.1 /\ RdE (fun j => wx.heap.size <= j) w3 b e.2 := hd 8 (by omega)
    have d9 : vs 9 = .pointer (some ⟨g, k * 2, none⟩) := hd 9 (by omega)
    have HS3 := zH (HSX.out.more hb); obtain ⟨⟨u0, f0⟩, ⟨u1, f1⟩, ff⟩ := HS3.out.cells (by omega) HN.out
    have ff0 := ff (k * 2); have ff1 := ff (k * 2 + 1); have HS4 := zH (HS3.out.put HN.out HEE.out ha hb8 (by have := HSZ.out; have := HGW.out; omega) (Nat.le_of_eq HG.out))
    obtain ⟨Aa, ka, rfl⟩ := ha.form; obtain ⟨Ab, kb, rfl⟩ := hb8.form; simp only [frameV, zS, zA, zB, List.drop_succ_cons, List.drop_zero, d8, d9]; clear ha hb8 hb hd ff
    go_wp2
    go_roundw
    case rel => exact ⟨k + 1, by omega, by go_num, HS4.out⟩
    case measure => simp [intOf]; omega
  ·obtain rfl : k = n := by omega
   clear hlt
   go_wp2
   go_ret
   exact ⟨⟨_, _, rfl, HS.out.done HN.out⟩, HS.out.bel⟩
end Go.Proofs.YtichfdjjbafeiaaGreat
