/-
  PACKED for a claim.
-/
import Derived.Test.YtichfdjjbafeiaaGreatP30
set_option linter.unusedVariables false
set_option linter.unusedSimpArgs false
set_option maxRecDepth 100000
section
namespace Go.Proofs.YtichfdjjbafeiaaGreat
open Go.RowKit
structure SV where
 p : Value -> World -> Prop
 st : ∀ v w w', p v w -> Below w.heap.size w w' -> p v w'
def SV.any : SV := ⟨fun _ _ => True, fun _ _ _ _ _ => trivial⟩
def SV.eq (x : Value) : SV := ⟨fun v _ => v = x, fun _ _ _ h _ => h⟩
def SV.ints (l : List Int) : SV := ⟨fun v w => RdI anyB w v l, fun _ _ _ h hb => h.below hb (zN _)⟩
def upd (vs : Nat -> Value) (i : Nat) (v : Value) : Nat -> Value := fun j => if j = i then v else vs j
def frameV (ts : Array Value) : List Nat -> (Nat -> Value) -> Nat -> Array Value
 | [], _, _ => ts
 | d :: l, vs, k => (frameV ts l vs (k + 1)).setIfInBounds d (vs k)
theorem yfi {ts : Array Value} : ∀ (ds : List Nat) {vs vs' : Nat -> Value} (k : Nat), (∀ j, k <= j -> vs j = vs' j) -> frameV ts ds vs k = frameV ts ds vs' k
 | [], _, _, _, _ => rfl
 | d :: l, vs, vs', k, h => by
  rw [frameV, frameV, h k (zN _), yfi l (k + 1) fun j hj => h j (by omega)]
theorem yfd {ts : Array Value} {i d : Nat} {v : Value} : ∀ (ds : List Nat) {vs : Nat -> Value} (k j : Nat), ds.Nodup -> ds[j]? = some d -> k + j = i →
  frameV ts ds (upd vs i v) k = (frameV ts ds vs k).setIfInBounds d v
 | [], _, _, _, _, hd, _ => by simp at hd
 | e :: l, vs, k, j, hn, hd, hk => by
  rw [frameV, frameV]
  cases j with
  | zero =>
   simp at hd
   subst hd; obtain rfl : k = i := by omega
   rw [yfi l (vs' := vs) (k + 1) fun j hj => by unfold upd; rw [if_neg (by omega)], Array.setIfInBounds_setIfInBounds]
   unfold upd; rw [if_pos rfl]
  | succ j =>
   simp at hd
   have hne : e ≠ d := by
    rintro rfl; exact (List.nodup_cons.1 hn).1 (List.mem_of_getElem? hd)
   rw [yfd l (vs := vs) (k + 1) j (List.nodup_cons.1 hn).2 hd (by omega)]
   have hu : upd vs i v k = vs k := by unfold upd; rw [if_neg (by omega)]
   rw [hu, Array.setIfInBounds_comm _ _ (Ne.symm hne)]
theorem ycy {ts : Array Value} : ∀ (ds : List Nat) (vs : Nat -> Value) (k : Nat), (∀ j d, ds[j]? = some d -> vs (k + j) = ts.getD d undef) -> frameV ts ds vs k = ts
 | [], _, _, _ => rfl
 | d :: l, vs, k, h => by
  rw [frameV, ycy l vs (k + 1) fun j e he => by rw [show k + 1 + j = k + (j + 1) by omega]; exact h (j + 1) e (by simpa using he)]
  have h0 := h 0 d rfl; rw [Nat.add_zero] at h0; rw [h0]
  rcases Nat.lt_or_ge d ts.size with hd | hd
  ·apply Array.ext
   ·simp
   ·intro i h1 h2; rw [Array.getElem_setIfInBounds]
    split
    ·rename_i e; subst e; simp [Array.getD, hd]
    ·rfl
  ·rw [Array.setIfInBounds, dif_neg (by omega)]
def AllB (C : Nat -> Prop) : Nat -> Prop
 | 0 => True
 | n + 1 => AllB C n /\ C n
theorem AllB.all {C : Nat -> Prop} : ∀ {n : Nat}, AllB C n -> ∀ i, i < n -> C i
 | 0, _, i, hi => absurd hi (Nat.not_lt_zero _)
 | n + 1, h, i, hi => by
  by_cases e : i = n
  ·subst e; exact h.2
  ·exact h.1.all i (by omega)
def unl (listed : Array Bool) : Nat -> Nat
 | 0 => 0
 | n + 1 => unl listed n + if listed.getD n true = false then 1 else 0
theorem ypc (listed : Array Bool) (i : Nat) : ∀ n, n <= i -> unl (listed.setIfInBounds i true) n = unl listed n
 | 0, _ => rfl
 | n + 1, h => by rw [unl, unl, ypc listed i n (by omega), getD_set_ne true (by omega)]
theorem yke (listed : Array Bool) (i : Nat) (h : listed.getD i true = false) : ∀ n, i < n -> unl (listed.setIfInBounds i true) n + 1 = unl listed n
 | 0, hi => absurd hi (Nat.not_lt_zero _)
 | n + 1, hi => by
  rw [unl, unl]
  by_cases e : i = n
  ·subst e
   have h1 : (listed.setIfInBounds i true).getD i true = true := by
    rcases Nat.lt_or_ge i listed.size with h' | h'
    ·simp [h']
    ·simp [Array.getElem?_eq_none h'] at h
   rw [ypc listed i i (zN _), if_neg (by rw [h1]; simp), if_pos h]
  ·have := yke listed i h n (by omega)
   rw [getD_set_ne true e]
   omega
theorem yhz (listed : Array Bool) : ∀ n, unl listed n = 0 -> ∀ i, i < n -> listed.getD i true = true
 | 0, _, i, hi => absurd hi (Nat.not_lt_zero _)
 | n + 1, h, i, hi => by
  rw [unl] at h
  by_cases e : i = n
  ·subst e
   cases hl : listed.getD i true with
   | true => rfl
   | false => rw [if_pos hl] at h; omega
  ·exact yhz listed n (by omega) i (by omega)
theorem ykf (listed : Array Bool) : ∀ n, 0 < unl listed n -> ∃ i, i < n /\ listed.getD i true = false
 | 0, h => absurd h (Nat.lt_irrefl _)
 | n + 1, h => by
  rw [unl] at h
  by_cases hl : listed.getD n true = false
  ·exact ⟨n, by omega, hl⟩
  ·rw [if_neg hl] at h; obtain ⟨i, hi, hi2⟩ := ykf listed n h; exact ⟨i, by omega, hi2⟩
section
variable {P : Program} {ops : Array Oper} {Q : Exit -> Act -> World -> Prop} {m : Nat}
theorem yll : ∀ (l : List Oper) (k fuel : Nat) (listed : Array Bool) (a : Act) (w : World), (∀ j, l[j]? = ops[k + j]?) -> l.length <= fuel →
  Region.seqB .any ops l.length k listed = true -> wpList P ops Q l a w -> wpAny P .any ops Q fuel listed a w
 | [], k, fuel, listed, a, w, hl, hf, hB, h => by
  have hr : Region.ready .any ops listed = [] := by simpa [Region.seqB] using hB
  cases fuel with
  | zero => exact ⟨hr, h⟩
  | succ f => exact ⟨fun _ => h, fun i hi => by rw [hr] at hi; cases hi⟩
 | o :: l, k, fuel, listed, a, w, hl, hf, hB, h => by
  have h0 : ops[k]? = some o := by simpa using (hl 0).symm
  simp only [List.length_cons, Region.seqB, Bool.and_eq_true, decide_eq_true_eq] at hB hf; obtain ⟨f, rfl⟩ : ∃ f, fuel = f + 1 := ⟨fuel - 1, by omega⟩
  refine ⟨fun h1 => (by rw [hB.1] at h1; cases h1), fun i hi => ?_⟩
  rw [hB.1] at hi
  have hik : i = k := by simpa using hi
  subst hik
  have hw : wpOp P ops Q i (wpList P ops Q l) a w := by unfold wpOp; simp only [h0]; exact h
  refine wpOp_mono (fun a' w' h' => yll l (i + 1) f _ a' w' (fun j => ?_) (by omega) hB.2 h') hw
  have := hl (j + 1)
  simpa [Nat.add_assoc, Nat.add_comm 1 j] using this
def backB (ops : Array Oper) : Bool := (List.range ops.size).all fun i => ((ops[i]?).map (·.after.all fun e => !Region.binds .any e || decide (e.on < i))).getD true
theorem yew {listed : Array Bool} (hb : backB ops = true) (hl : listed.size = ops.size) : ∀ (n i : Nat), i < n -> i < ops.size -> listed.getD i true = false -> ∃ j, j ∈ Region.ready .any ops listed
 | 0, i, hi, _, _ => absurd hi (Nat.not_lt_zero _)
 | n + 1, i, hi, his, hun => by
  by_cases hr : i ∈ Region.ready .any ops listed
  ·exact ⟨i, hr⟩
  ·obtain ⟨o, ho⟩ : ∃ o, ops[i]? = some o := ⟨_, Array.getElem?_eq_getElem his⟩
   have hback : ∀ e ∈ o.after, Region.binds .any e = true -> e.on < i := by
    have h1 := List.all_eq_true.1 hb i (List.mem_range.2 his); rw [ho] at h1; simp only [Option.map_some, Option.getD_some] at h1; intro e he hbi
    have := Array.all_eq_true_iff_forall_mem.1 h1 e he
    simpa [hbi] using this
   have hex : ∃ e ∈ o.after, Region.binds .any e = true /\ listed.getD e.on false = false := by
    apply Classical.byContradiction
    intro hno; refine hr (mem_ready.2 ⟨hun, o, ho, fun e he hbi => ?_⟩)
    cases hl2 : listed.getD e.on false with
    | true => rfl
    | false => exact absurd ⟨e, he, hbi, hl2⟩ hno
   obtain ⟨e, he, hbi, hl2⟩ := hex; have hlt := hback e he hbi; exact yew hb hl n e.on (by omega) (by omega) (getD_in (by omega) hl2)
def anyOk (ops : Array Oper) (m : Nat) (ds : List Nat) : Bool :=
 backB ops && Region.sinkB .any ops m && Region.chainB .any ops m && decide (m < ops.size) && decide ds.Nodup && decide (ds.length = m) && Region.seqB .any ops (ops.toList.drop m).length m (Array.replicate m true ++ Array.replicate (ops.size - m) false)
def OpIs (P : Program) (ops : Array Oper) (Q : Exit -> Act -> World -> Prop) (ts : Array Value) (df : List Deferred) (ds : List Nat) (Vs : List SV) (w : World) (i : Nat) : Prop :=
 ∀ o, ops[i]? = some o -> ∀ (vs : Nat -> Value) (w1 : World), Below w.heap.size w w1 -> (∀ j, Region.waitsFor .any ops i j = true -> (Vs.getD j SV.any).p (vs j) w1) →
  ∀ K : Act -> World -> Prop, (∀ v w2, (Vs.getD i SV.any).p v w2 -> Below w1.heap.size w1 w2 -> K ⟨(frameV ts ds vs 0).setIfInBounds (ds.getD i 0) v, df⟩ w2) →
   if Region.wanted o (yielded ops (frameV ts ds vs 0)) = true then Oper.wp P o ⟨frameV ts ds vs 0, df⟩ w1 K Q else K (Act.put ⟨frameV ts ds vs 0, df⟩ o.dst undef) w1
theorem OpIs.mk {ts : Array Value} {df : List Deferred} {ds : List Nat} {Vs : List SV} {w : World} {i : Nat} {o : Oper} (ho : ops[i]? = some o)
  (h : ∀ (vs : Nat -> Value) (w1 : World), Below w.heap.size w w1 -> (∀ j, Region.waitsFor .any ops i j = true -> (Vs.getD j SV.any).p (vs j) w1) →
  ∀ K : Act -> World -> Prop, (∀ v w2, (Vs.getD i SV.any).p v w2 -> Below w1.heap.size w1 w2 -> K ⟨(frameV ts ds vs 0).setIfInBounds (ds.getD i 0) v, df⟩ w2) →
   if Region.wanted o (yielded ops (frameV ts ds vs 0)) = true then Oper.wp P o ⟨frameV ts ds vs 0, df⟩ w1 K Q else K (Act.put ⟨frameV ts ds vs 0, df⟩ o.dst undef) w1) : OpIs P ops Q ts df ds Vs w i := fun o' ho' => by
 have : o = o' := Option.some.inj (ho.symm.trans ho')
 subst this; exact h
theorem any_go {ts : Array Value} {df : List Deferred} {ds : List Nat} {Vs : List SV} {w : World} (hbk : backB ops = true) (hs : Region.sinkB .any ops m = true) (hc : Region.chainB .any ops m = true) (hlt : m < ops.size) (hn : ds.Nodup) (hdl : ds.length = m)
  (hq : Region.seqB .any ops (ops.toList.drop m).length m (Array.replicate m true ++ Array.replicate (ops.size - m) false) = true)
  (hop : ∀ i, i < m -> OpIs P ops Q ts df ds Vs w i)
  (hend : ∀ (vs : Nat -> Value) (w1 : World), Below w.heap.size w w1 -> (∀ j, j < m -> (Vs.getD j SV.any).p (vs j) w1) -> wpList P ops Q (ops.toList.drop m) ⟨frameV ts ds vs 0, df⟩ w1) :
  ∀ (u fuel : Nat) (listed : Array Bool) (vs : Nat -> Value) (w1 : World), unl listed m = u -> u + (ops.size - m) <= fuel -> HeadInv .any ops m listed -> Below w.heap.size w w1 →
   (∀ j, j < m -> listed.getD j false = true -> (Vs.getD j SV.any).p (vs j) w1) -> wpAny P .any ops Q fuel listed ⟨frameV ts ds vs 0, df⟩ w1 := by
 intro u
 induction u with
 | zero =>
  intro fuel listed vs w1 hu hf inv hb hv; have hall := yhz listed m hu
  have hlisted : listed = Array.replicate m true ++ Array.replicate (ops.size - m) false := by
   apply Array.ext
   ·rw [inv.size]; simp; omega
   ·intro i h1 h2; rw [inv.size] at h1
    rcases Nat.lt_or_ge i m with hi | hi
    ·rw [Array.getElem_append_left (by simpa using hi)]
     have := hall i hi
     simp [Array.getD, inv.size, h1] at this
     simpa using this
    ·rw [Array.getElem_append_right (by simpa using hi)]
     have := inv.tail i hi h1
     simp [Array.getD, inv.size, h1] at this
     simpa using this
  refine yll (ops.toList.drop m) m fuel listed _ w1 (fun j => by simp [List.getElem?_drop]) (by simp; omega) (by rw [hlisted]; exact hq) ?_
  refine hend vs w1 hb fun j hj => hv j hj ?_
  have := hall j hj
  simp [Array.getD, inv.size, show j < ops.size by omega] at this |-
  exact this
 | succ u ih =>
  intro fuel listed vs w1 hu hf inv hb hv; obtain ⟨i0, hi0, hun0⟩ := ykf listed m (by omega)
  obtain ⟨f, rfl⟩ : ∃ f, fuel = f + 1 := ⟨fuel - 1, by omega⟩
  have hlow : ∀ t ∈ Region.ready .any ops listed, t < m := fun t ht => by
   rcases Nat.lt_or_ge t m with h | h
   ·exact h
   ·exact absurd ht (tail_waits hs hc hlt inv _ i0 rfl hi0 hun0 t h)
  have hne : Region.ready .any ops listed ≠ [] := by
   intro hr; obtain ⟨j, hj⟩ := yew hbk inv.size (i0 + 1) i0 (by omega) (by omega) hun0
   rw [hr] at hj
   cases hj
  refine ⟨fun h => absurd h hne, fun i hi => ?_⟩
  have him := hlow i hi; obtain ⟨hun, o, ho, hall⟩ := mem_ready.1 hi; refine wpOp_step ho fun K hK => ?_
  have hwait : ∀ j, Region.waitsFor .any ops i j = true -> listed.getD j false = true := fun j hj => by
   obtain ⟨oj, hoj, e, he, hb2, hon⟩ := Region.waitsFor_spec hj
   have : oj = o := Option.some.inj (hoj.symm.trans ho)
   subst this; rw [<- hon]; exact hall e he hb2
  refine hop i him o ho vs w1 hb (fun j hj => ?_) K fun v w2 hv2 hb2 => hK _ _ ?_
  ·have hjl := hwait j hj
   rcases Nat.lt_or_ge j m with h | h
   ·exact hv j h hjl
   ·exfalso
    rcases Nat.lt_or_ge j ops.size with h' | h'
    ·have := inv.tail j h h'
     rw [getD_both this] at hjl
     cases hjl
    ·simp [Array.getD, inv.size, show ¬ j < ops.size by omega] at hjl
  ·have hdi : ds[i]? = some (ds.getD i 0) := by
    rw [List.getD_eq_getElem?_getD, List.getElem?_eq_getElem (by omega)]; rfl
   have := yfd (ts := ts) (v := v) (i := i) ds (vs := vs) 0 i hn hdi (by omega)
   rw [<- this]; refine ih f _ (upd vs i v) w2 (by have := yke listed i hun m him; omega) (by omega) (inv.set hi him) (hb.trans (hb2.mono hb.size)) fun j hj hl => ?_
   unfold upd
   by_cases e : j = i
   ·subst e; rw [if_pos rfl]; exact hv2
   ·rw [if_neg e]; rw [getD_set_ne false (Ne.symm e)] at hl; exact (Vs.getD j SV.any).st _ _ _ (hv j hj hl) hb2
theorem ybc {id : Nat} {ts : Array Value} {df : List Deferred} {w : World} (ds : List Nat) (Vs : List SV) (hm : P.follows .mixedOrders = true) (hok : anyOk ops m ds = true)
  (hop : AllB (OpIs P ops Q ts df ds Vs w) m)
  (hend : ∀ (vs : Nat -> Value) (w1 : World), Below w.heap.size w w1 -> (∀ j, j < m -> (Vs.getD j SV.any).p (vs j) w1) -> wpList P ops Q (ops.toList.drop m) ⟨frameV ts ds vs 0, df⟩ w1) :
  (Code.region id ops true).wp P Q ⟨ts, df⟩ w := by
 simp only [anyOk, Bool.and_eq_true, decide_eq_true_eq] at hok; obtain ⟨⟨⟨⟨⟨⟨h0, h1⟩, h2⟩, h3⟩, h4⟩, h5⟩, h6⟩ := hok; refine wp_region_any hm ?_
 have hstart := ycy (ts := ts) ds (fun i => ts.getD (ds.getD i 0) undef) 0 fun j d hd => by
  rw [Nat.zero_add, List.getD_eq_getElem?_getD, hd]; rfl
 have hgo := any_go h0 h1 h2 h3 h4 h5 h6 hop.all hend (unl (Array.replicate ops.size false) m) ops.size (Array.replicate ops.size false) (fun i => ts.getD (ds.getD i 0) undef) w.drew rfl ?_ ?_ ((zR _ w).drew) ?_
 ·rw [hstart] at hgo; exact hgo
 ·have hle : ∀ n, unl (Array.replicate ops.size false) n <= n := by
   intro n
   induction n with
   | zero => exact zN _
   | succ n ih => rw [unl]; split <;> omega
  have := hle m
  omega
 ·exact ⟨by simp, (fun j oj _ hl => absurd hl (by rw [getD_replicate_false]; exact Bool.false_ne_true)), (fun t _ ht' => by simp [ht'])⟩
 ·intro j _ hl; exact absurd hl (by rw [getD_replicate_false]; exact Bool.false_ne_true)
end
end Go.Proofs.YtichfdjjbafeiaaGreat
end
namespace Go.Proofs.YtichfdjjbafeiaaGreat
open Go.RowKit
def KR (w : World) (k : Nat) : Prop := ∃ cs T fr, w.heap[k]? = some (.cells cs T fr) /\ (T = 102 \/ T = 91 \/ T = 3)
def KRU (U : Nat -> Prop) (w : World) (k : Nat) : Prop := U k /\ KR w k
theorem RdF.kstep {U : Nat -> Prop} {w w' : World} {v : Value} {n : Nat} {xs : List Value} (hr : RdF (KRU U w) w v n xs) (hf : ∀ k, U k -> KR w k -> k < w.heap.size -> w'.heap[k]? = w.heap[k]?) : RdF (KRU U w') w' v n xs := by
 obtain ⟨A, c, rfl, hc, hr⟩ := hr; refine ⟨A, c, rfl, hc, fun h0 => ?_⟩
 obtain ⟨g, o, e, ⟨hU, hg⟩, hx⟩ := hr h0; have hg0 := hg; obtain ⟨cs, T, fr, h1, h2⟩ := hg; have e2 := hf g hU hg0 (R4.yac h1); refine ⟨g, o, e, ⟨hU, cs, T, fr, e2.trans h1, h2⟩, fun j u hu => ?_⟩
 rw [World.cell?_of_block (w := w) (a := ⟨g, o + j, none⟩) e2]; exact hx j u hu
def EntU (U : Nat -> Prop) (w : World) (m : ME) : Prop := RdF (KRU U w) w m.vs m.s.length (iv m.s) /\ RdF (KRU U w) w m.vl m.l.length (qcells m.l)
theorem EntU.step {U : Nat -> Prop} {w w' : World} {m : ME} (h : EntU U w m) (hf : ∀ k, U k -> KR w k -> k < w.heap.size -> w'.heap[k]? = w.heap[k]?) : EntU U w' m := ⟨RdF.kstep h.1 hf, RdF.kstep h.2 hf⟩
theorem EntU.below {U : Nat -> Prop} {B : Nat} {w w' : World} {m : ME} (h : EntU U w m) (hb : Below B w w') (hB : w.heap.size <= B) : EntU U w' m := h.step fun k _ _ hk => hb.block k (by omega)
theorem EntU.ints {U : Nat -> Prop} {w : World} {m : ME} (h : EntU U w m) : RdI anyB w m.vs m.s := RdF.any h.1
theorem EntU.els {U : Nat -> Prop} {w : World} {m : ME} (h : EntU U w m) : RdQ anyB w m.vl m.l := RdF.any h.2
theorem EntU.one {U : Nat -> Prop} {w : World} {m : ME} (h : EntU U w m) : m.vs.oneCell' = true /\ m.vl.oneCell' = true := by
 obtain ⟨A, c, e⟩ := h.1.form; obtain ⟨A', c', e'⟩ := h.2.form; rw [e, e']; exact ⟨rfl, rfl⟩
def RdN (U : Nat -> Prop) (w : World) (v : Value) (M : List ME) : Prop := RdF (KRU U w) w v M.length (mcells M) /\ ∀ m ∈ M, EntU U w m
def RefU (U : Nat -> Prop) (w : World) (v : Value) (L : List PE) : Prop := ∃ M, pls M = L /\ RdN U w v M
abbrev RefT (w : World) (v : Value) (L : List PE) : Prop := RefU anyB w v L
theorem RdN.step {U : Nat -> Prop} {w w' : World} {v : Value} {M : List ME} (h : RdN U w v M) (hf : ∀ k, U k -> KR w k -> k < w.heap.size -> w'.heap[k]? = w.heap[k]?) : RdN U w' v M := ⟨RdF.kstep h.1 hf, fun m hm => (h.2 m hm).step hf⟩
theorem RdN.below {U : Nat -> Prop} {B : Nat} {w w' : World} {v : Value} {M : List ME} (h : RdN U w v M) (hb : Below B w w') (hB : w.heap.size <= B) : RdN U w' v M := h.step fun k _ _ hk => hb.block k (by omega)
theorem RefU.step {U : Nat -> Prop} {w w' : World} {v : Value} {L : List PE} (h : RefU U w v L) (hf : ∀ k, U k -> KR w k -> k < w.heap.size -> w'.heap[k]? = w.heap[k]?) : RefU U w' v L := by
 obtain ⟨M, e, h⟩ := h; exact ⟨M, e, h.step hf⟩
theorem RefU.below {U : Nat -> Prop} {B : Nat} {w w' : World} {v : Value} {L : List PE} (h : RefU U w v L) (hb : Below B w w') (hB : w.heap.size <= B) : RefU U w' v L := h.step fun k _ _ hk => hb.block k (by omega)
theorem RefU.off {U : Nat -> Prop} {w w' : World} {v : Value} {L : List PE} {b : Nat} {cs : Array Value} {T : TypeId} {fr : Nat × Nat} (h : RefU U w v L) (hg : w.grownBy w' (some b)) (hb : w.heap[b]? = some (.cells cs T fr)) (h1 : T ≠ 102) (h2 : T ≠ 91) (h3 : T ≠ 3) : RefU U w' v L := h.step fun k _ hk hl => by
 refine hg.block k hl ?_; intro e
 injection e with e
 subst e; obtain ⟨cs', T', fr', e1, e2⟩ := hk; rw [hb] at e1
 injection e1 with e1
 injection e1 with _ e4 _
 subst e4
 rcases e2 with e2 | e2 | e2
 ·exact h1 e2
 ·exact h2 e2
 ·exact h3 e2
theorem RefU.form {U : Nat -> Prop} {w : World} {v : Value} {L : List PE} (h : RefU U w v L) : ∃ A c, v = .slice A L.length c := by
 obtain ⟨M, rfl, h⟩ := h; rw [yao]; exact h.1.form
theorem RefT.nil (w : World) : RefT w (.slice none 0 0) [] := ⟨[], rfl, RdF.nil _ _, fun m hm => by cases hm⟩
theorem RdN.at {U : Nat -> Prop} {w : World} {A : Option Addr} {n c : Nat} {M : List ME} (h : RdN U w (.slice A n c) M) {k : Nat} {m : ME} (hk : M[k]? = some m) :
  ∃ g o : Nat, A = some ⟨g, o, none⟩ /\ w.cell? ⟨g, o + k * 2, none⟩ = some m.vs /\ w.cell? ⟨g, o + k * 2 + 1, none⟩ = some m.vl /\ EntU U w m := by
 have hl := (List.getElem?_eq_some_iff.1 hk).1; obtain ⟨g, o, e, _, hx⟩ := RdF.base h.1 (by omega)
 obtain ⟨h1, h2⟩ := ybt hk; exact ⟨g, o, e, hx _ _ h1, by rw [Nat.add_assoc]; exact hx _ _ h2, h.2 m (List.mem_of_getElem? hk)⟩
theorem RefU.at {U : Nat -> Prop} {w : World} {A : Option Addr} {n c : Nat} {L : List PE} (h : RefU U w (.slice A n c) L) {k : Nat} {e : PE} (hk : L[k]? = some e) :
  ∃ (g o : Nat) (vs vl : Value), A = some ⟨g, o, none⟩ /\ w.cell? ⟨g, o + k * 2, none⟩ = some vs /\ w.cell? ⟨g, o + k * 2 + 1, none⟩ = some vl /\ RdI anyB w vs e.1 /\ RdQ anyB w vl e.2 := by
 obtain ⟨M, rfl, h⟩ := h; unfold pls at hk; rw [List.getElem?_map] at hk
 cases hm : M[k]? with
 | none => rw [hm] at hk; cases hk
 | some m =>
  rw [hm] at hk
  simp at hk
  subst hk; obtain ⟨g, o, e, h1, h2, h3⟩ := h.at hm; exact ⟨g, o, m.vs, m.vl, e, h1, h2, h3.ints, h3.els⟩
def SV.els (l : List Nat) : SV := ⟨fun v w => RdE anyB w v l, fun _ _ _ h hb => h.below hb (zN _)⟩
theorem appendG {T e : TypeId} {i : TypeInfo} {z : Value} {size bytes : Nat} (hT : Tryz.prog.underlying T = some (.slice e)) (hi : Tryz.prog.info? e = some i) (hz0 : i.zero = some z) (hz1 : i.size = size) (hz2 : i.bytes = bytes) (hzs : z.cells.size = size) (h0 : 0 < size) (hby : bytes <= 1000)
  {ops : Array Oper} {rest : List Oper} {o : Oper} {a : Act} {Q : Exit -> Act -> World -> Prop} (hgd : o.guard = none) (s x : Operand) (ho : o.op = .call { callee := .builtin .append, args := #[s, x], argTypes := #[T, T] })
  (w : World) (B : Nat) (v : Value) (n : Nat) (xs : List Value) {A : Option Addr} {m C : Nat} {ys : List Value} {F : Nat -> Prop} (hs : a.eval s = v) (hown : w.ownsRow B e size v n xs) (hx : a.eval x = .slice A m C)
  (hsrc : RdF F w (.slice A m C) m ys) (hys : ys.length = m * size) (hone : ∀ u ∈ ys, u.oneCell' = true) (hB : B <= w.heap.size) (hl : n + m <= 1000000)
  (h : ∀ v' w', w'.ownsRow B e size v' (n + m) (xs ++ ys) -> w.grownBy w' v.ownBlock -> Below B w w' -> wpList Tryz.prog ops Q rest (a.put o.dst v') w') : wpList Tryz.prog ops Q (o :: rest) a w := by
 cases A with
 | none =>
  have hm : m = 0 := by
   rcases Nat.eq_zero_or_pos m with h0 | h0
   ·exact h0
   ·obtain ⟨g, o, e, _⟩ := RdF.base hsrc h0
    cases e
  subst hm; obtain rfl : ys = [] := List.eq_nil_of_length_eq_zero (by omega)
  refine wpList_plain hgd fun K hK => ?_
  have hrun := ycs (w := w) B T o.type e i size C hT hi v n xs hown; unfold Oper.wp
  simp [execOp, ho, resolve, invoke, builtin, hs, hx, hrun, Result.andThen]
  exact hK _ _ (h v w (by rw [List.append_nil]; exact hown) (World.grownBy.refl _ _) (zR _ _))
 | some ad =>
  refine wpList_append_own_at _ hgd s x _ ho B e i z size bytes hT hi hz0 hz1 hz2 hzs h0 v n xs hs hown ad m C ys hx hys
   ?_ hone (by simp only [maxLen]; omega) (Nat.le_trans (Nat.mul_le_mul hl hby) (by omega)) hB ?_
  ·intro j u hu
   have h0' : 0 < m := by
    have := (List.getElem?_eq_some_iff.1 hu).1
    rcases Nat.eq_zero_or_pos m with h1 | h1
    ·subst h1; omega
    ·exact h1
   obtain ⟨g, o, e, _, hc⟩ := RdF.base hsrc h0'
   cases e
   rw [Addr.add_lit]; exact hc j u hu
  ·intro v' w' h2 h3 _ _; exact h v' w' h2 h3 ((zR B w).grown h3 hB (fun k hk => (World.ownsRow.lt hown k hk).1))
theorem RdF.new (w : World) (ys : List Value) (T : TypeId) {n C : Nat} (hn : n <= C) : RdF anyB (w.alloc (.cells ys.toArray T)) (.slice (some ⟨w.heap.size, 0, none⟩) n C) n ys :=
 ⟨_, C, rfl, hn, fun _ => ⟨w.heap.size, 0, rfl, trivial, fun j u hu => by have := R4.yap w ys T j u hu; rw [Addr.add_lit] at this; exact this⟩⟩
def OwnN (B : Nat) (w : World) (v : Value) (M : List ME) : Prop := w.ownsRow B 102 2 v M.length (mcells M)
theorem OwnN.below {B B' : Nat} {w w' : World} {v : Value} {M : List ME} (h : OwnN B w v M) (hb : Below B' w w') (hB : w.heap.size <= B') : OwnN B w' v M := R4.yah h hb hB
theorem OwnN.form {B : Nat} {w : World} {v : Value} {M : List ME} (h : OwnN B w v M) : ∃ A c, v = .slice A M.length c := by
 obtain ⟨A, c, e, _⟩ := R4.yaf h; exact ⟨A, c, e⟩
def NotN (w : World) (k : Nat) : Prop := ∃ cs T fr, w.heap[k]? = some (.cells cs T fr) /\ (T = 91 \/ T = 3)
theorem NotN.kr {w : World} {k : Nat} (h : NotN w k) : KR w k := by
 obtain ⟨cs, T, fr, h1, h2⟩ := h; exact ⟨cs, T, fr, h1, .inr h2⟩
theorem RdF.nstep {B : Nat} {w w' : World} {v : Value} {n : Nat} {xs : List Value} (hr : RdF (fun k => B <= k /\ NotN w k) w v n xs) (hf : ∀ k, B <= k -> NotN w k -> k < w.heap.size -> w'.heap[k]? = w.heap[k]?) : RdF (fun k => B <= k /\ NotN w' k) w' v n xs := by
 obtain ⟨A, c, rfl, hc, hr⟩ := hr; refine ⟨A, c, rfl, hc, fun h0 => ?_⟩
 obtain ⟨g, o, e, ⟨hB, hg⟩, hx⟩ := hr h0; have hg0 := hg; obtain ⟨cs, T, fr, h1, h2⟩ := hg; have e2 := hf g hB hg0 (R4.yac h1); refine ⟨g, o, e, ⟨hB, cs, T, fr, e2.trans h1, h2⟩, fun j u hu => ?_⟩
 rw [World.cell?_of_block (w := w) (a := ⟨g, o + j, none⟩) e2]; exact hx j u hu
theorem RdF.nown {B B' : Nat} {w : World} {e : TypeId} {s : Nat} {v : Value} {n : Nat} {xs : List Value} (h : w.ownsRow B e s v n xs) (he : e = 91 \/ e = 3) (hB : B' <= B) : RdF (fun k => B' <= k /\ NotN w k) w v n xs := by
 obtain ⟨A, c, rfl, hc, hr⟩ := R4.yaf h; refine ⟨A, c, rfl, hc, fun h0 => ?_⟩
 obtain ⟨g, e', hg, hl, hx⟩ := hr h0; obtain ⟨cur, h1⟩ := R4.ybq h (g := g) (by rw [e']; rfl)
 exact ⟨g, 0, e', ⟨by omega, _, _, _, h1, he⟩, fun j u hu => by rw [Nat.zero_add]; exact hx j u hu⟩
def EntN (B : Nat) (w : World) (m : ME) : Prop := RdF (fun k => B <= k /\ NotN w k) w m.vs m.s.length (iv m.s) /\ RdF (fun k => B <= k /\ NotN w k) w m.vl m.l.length (qcells m.l)
theorem EntN.okU {U : Nat -> Prop} {B : Nat} {w : World} {m : ME} (h : EntN B w m) (hU : ∀ k, B <= k -> U k) : EntU U w m := ⟨RdF.mono h.1 fun k hk => ⟨hU k hk.1, hk.2.kr⟩, RdF.mono h.2 fun k hk => ⟨hU k hk.1, hk.2.kr⟩⟩
theorem EntN.ok {B : Nat} {w : World} {m : ME} (h : EntN B w m) : EntU anyB w m := h.okU fun _ _ => trivial
theorem EntN.step {B : Nat} {w w' : World} {m : ME} (h : EntN B w m) (hf : ∀ k, B <= k -> NotN w k -> k < w.heap.size -> w'.heap[k]? = w.heap[k]?) : EntN B w' m := ⟨RdF.nstep h.1 hf, RdF.nstep h.2 hf⟩
theorem EntN.below {B B' : Nat} {w w' : World} {m : ME} (h : EntN B w m) (hb : Below B' w w') (hB : w.heap.size <= B') : EntN B w' m := h.step fun k _ _ hk => hb.block k (by omega)
theorem EntN.grown {B B' : Nat} {w w' : World} {v : Value} {M : List ME} {m : ME} (h : EntN B w m) (ho : OwnN B' w v M) (hg : w.grownBy w' v.ownBlock) : EntN B w' m := h.step fun k _ hk hl => by
 obtain ⟨cs, T, fr, h1, h2⟩ := hk; exact hg.block k hl (R4.yai ho h1 (by rcases h2 with e | e <;> (rw [e]; decide)))
theorem EntN.off {B b : Nat} {w w' : World} {m : ME} (h : EntN B w m) (hg : w.grownBy w' (some b)) (hb : b < B) : EntN B w' m := h.step fun k hk _ hl => hg.block k hl (by intro e; injection e with e; omega)
theorem ycl (M : List ME) (u : Nat) : mcells (M.drop u) = (mcells M).drop (u * 2) := by
 induction u generalizing M with
 | zero => simp
 | succ u ih =>
  cases M with
  | nil => simp [mcells]
  | cons m t => rw [List.drop_succ_cons, ih, ydn, show (u + 1) * 2 = u * 2 + 1 + 1 by omega]; rfl
theorem ytq (M : List ME) (k : Nat) : pls (M.take k) = (pls M).take k := by simp [pls, List.map_take]
theorem ytr (M : List ME) (k : Nat) : pls (M.drop k) = (pls M).drop k := by simp [pls, List.map_drop]
theorem pls_at {M : List ME} {k : Nat} {m : ME} (h : M[k]? = some m) : (pls M)[k]? = some m.pl := by simp [pls, h]
theorem pls_of {M : List ME} {k : Nat} {e : PE} (h : (pls M)[k]? = some e) : ∃ m, M[k]? = some m /\ m.pl = e := by
 unfold pls at h; rw [List.getElem?_map] at h
 cases hm : M[k]? with
 | none => rw [hm] at h; cases h
 | some m => rw [hm] at h; exact ⟨m, rfl, by simpa using h⟩
theorem OwnI.below {B B' : Nat} {w w' : World} {v : Value} {l : List Int} (h : T2.OwnI B w v l) (hb : Below B' w w') (hB : w.heap.size <= B') : T2.OwnI B w' v l := R4.yah h hb hB
theorem OwnQ.below {B B' : Nat} {w w' : World} {v : Value} {l : List Nat} (h : OwnQ B w v l) (hb : Below B' w w') (hB : w.heap.size <= B') : OwnQ B w' v l := R4.yah h hb hB
theorem yab (w : World) (o : Obj) : Below w.heap.size w (w.alloc o) := (zR _ w).alloc (zN _) o
theorem yji {B : Nat} (w : World) (e : TypeId) (s : Nat) (hB : B <= w.heap.size) : (w.alloc (.cells #[] e)).ownsRow B e s (.slice (some ⟨w.heap.size, 0, none⟩) 0 0) 0 [] := World.ownsRow_made w #[] 0 hB (Nat.zero_le _) (by simp)
end Go.Proofs.YtichfdjjbafeiaaGreat
