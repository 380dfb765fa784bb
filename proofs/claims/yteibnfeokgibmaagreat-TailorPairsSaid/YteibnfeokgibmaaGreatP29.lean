/-
  PACKED for a claim.
-/
import Derived.Test.YteibnfeokgibmaaGreatP28
set_option linter.unusedVariables false
set_option linter.unusedSimpArgs false
set_option maxRecDepth 100000
section
namespace Go.Proofs.YteibnfeokgibmaaGreat
open Go.RowKit
structure SV where
 p : Value -> World -> Prop
 st : ∀ v w w', p v w -> Below w.heap.size w w' -> p v w'
def SV.any : SV := ⟨fun _ _ => True, fun _ _ _ _ _ => trivial⟩
def SV.eq (x : Value) : SV := ⟨fun v _ => v = x, fun _ _ _ h _ => h⟩
def SV.ints (l : List Int) : SV := ⟨fun v w => RdI anyB w v l, fun _ _ _ h hb => h.below hb (zN _)⟩
def upd (vs : Nat -> Value) (i : Nat) (v : Value) : Nat -> Value := fun j => if j = i then v else vs j
def frameV (ts : Array Value) : List Nat -> (Nat -> Value) -> Nat -> Array Value
 | [], _, _ => ts
 | d :: l, vs, k => (frameV ts l vs (k + 1)).setIfInBounds d (vs k)
theorem ygo {ts : Array Value} : ∀ (ds : List Nat) {vs vs' : Nat -> Value} (k : Nat), (∀ j, k <= j -> vs j = vs' j) -> frameV ts ds vs k = frameV ts ds vs' k
 | [], _, _, _, _ => rfl
 | d :: l, vs, vs', k, h => by
  rw [frameV, frameV, h k (zN _), ygo l (k + 1) fun j hj => h j (by omega)]
theorem ygi {ts : Array Value} {i d : Nat} {v : Value} : ∀ (ds : List Nat) {vs : Nat -> Value} (k j : Nat), ds.Nodup -> ds[j]? = some d -> k + j = i →
  frameV ts ds (upd vs i v) k = (frameV ts ds vs k).setIfInBounds d v
 | [], _, _, _, _, hd, _ => by simp at hd
 | e :: l, vs, k, j, hn, hd, hk => by
  rw [frameV, frameV]
  cases j with
  | zero =>
   simp at hd
   subst hd; obtain rfl : k = i := by omega
   rw [ygo l (vs' := vs) (k + 1) fun j hj => by unfold upd; rw [if_neg (by omega)], Array.setIfInBounds_setIfInBounds]
   unfold upd; rw [if_pos rfl]
  | succ j =>
   simp at hd
   have hne : e ≠ d := by
    rintro rfl; exact (List.nodup_cons.1 hn).1 (List.mem_of_getElem? hd)
   rw [ygi l (vs := vs) (k + 1) j (List.nodup_cons.1 hn).2 hd (by omega)]
   have hu : upd vs i v k = vs k := by unfold upd; rw [if_neg (by omega)]
   rw [hu, Array.setIfInBounds_comm _ _ (Ne.symm hne)]
theorem yeb {ts : Array Value} : ∀ (ds : List Nat) (vs : Nat -> Value) (k : Nat), (∀ j d, ds[j]? = some d -> vs (k + j) = ts.getD d undef) -> frameV ts ds vs k = ts
 | [], _, _, _ => rfl
 | d :: l, vs, k, h => by
  rw [frameV, yeb l vs (k + 1) fun j e he => by rw [show k + 1 + j = k + (j + 1) by omega]; exact h (j + 1) e (by simpa using he)]
  have h0 := h 0 d rfl; rw [Nat.add_zero] at h0; rw [h0]
  rcases Nat.lt_or_ge d ts.size with hd | hd
  ·apply Array.ext
   ·simp
   ·intro i h1 h2; rw [Array.getElem_setIfInBounds]
    split
    ·rename_i e; subst e; simp [Array.getD, hd]
    ·rfl
  ·rw [Array.setIfInBounds, dif_neg (by omega)]
def AllB (C : Nat -> Prop) : Nat -> Prop
 | 0 => True
 | n + 1 => AllB C n /\ C n
theorem AllB.all {C : Nat -> Prop} : ∀ {n : Nat}, AllB C n -> ∀ i, i < n -> C i
 | 0, _, i, hi => absurd hi (Nat.not_lt_zero _)
 | n + 1, h, i, hi => by
  by_cases e : i = n
  ·subst e; exact h.2
  ·exact h.1.all i (by omega)
def unl (listed : Array Bool) : Nat -> Nat
 | 0 => 0
 | n + 1 => unl listed n + if listed.getD n true = false then 1 else 0
theorem ysm (listed : Array Bool) (i : Nat) : ∀ n, n <= i -> unl (listed.setIfInBounds i true) n = unl listed n
 | 0, _ => rfl
 | n + 1, h => by rw [unl, unl, ysm listed i n (by omega), getD_set_ne true (by omega)]
theorem ymq (listed : Array Bool) (i : Nat) (h : listed.getD i true = false) : ∀ n, i < n -> unl (listed.setIfInBounds i true) n + 1 = unl listed n
 | 0, hi => absurd hi (Nat.not_lt_zero _)
 | n + 1, hi => by
  rw [unl, unl]
  by_cases e : i = n
  ·subst e
   have h1 : (listed.setIfInBounds i true).getD i true = true := by
    rcases Nat.lt_or_ge i listed.size with h' | h'
    ·simp [h']
    ·simp [Array.getElem?_eq_none h'] at h
   rw [ysm listed i i (zN _), if_neg (by rw [h1]; simp), if_pos h]
  ·have := ymq listed i h n (by omega)
   rw [getD_set_ne true e]
   omega
theorem yjt (listed : Array Bool) : ∀ n, unl listed n = 0 -> ∀ i, i < n -> listed.getD i true = true
 | 0, _, i, hi => absurd hi (Nat.not_lt_zero _)
 | n + 1, h, i, hi => by
  rw [unl] at h
  by_cases e : i = n
  ·subst e
   cases hl : listed.getD i true with
   | true => rfl
   | false => rw [if_pos hl] at h; omega
  ·exact yjt listed n (by omega) i (by omega)
theorem ymr (listed : Array Bool) : ∀ n, 0 < unl listed n -> ∃ i, i < n /\ listed.getD i true = false
 | 0, h => absurd h (Nat.lt_irrefl _)
 | n + 1, h => by
  rw [unl] at h
  by_cases hl : listed.getD n true = false
  ·exact ⟨n, by omega, hl⟩
  ·rw [if_neg hl] at h; obtain ⟨i, hi, hi2⟩ := ymr listed n h; exact ⟨i, by omega, hi2⟩
section
variable {P : Program} {ops : Array Oper} {Q : Exit -> Act -> World -> Prop} {m : Nat}
theorem yoa : ∀ (l : List Oper) (k fuel : Nat) (listed : Array Bool) (a : Act) (w : World), (∀ j, l[j]? = ops[k + j]?) -> l.length <= fuel →
  Region.seqB .any ops l.length k listed = true -> wpList P ops Q l a w -> wpAny P .any ops Q fuel listed a w
 | [], k, fuel, listed, a, w, hl, hf, hB, h => by
  have hr : Region.ready .any ops listed = [] := by simpa [Region.seqB] using hB
  cases fuel with
  | zero => exact ⟨hr, h⟩
  | succ f => exact ⟨fun _ => h, fun i hi => by rw [hr] at hi; cases hi⟩
 | o :: l, k, fuel, listed, a, w, hl, hf, hB, h => by
  have h0 : ops[k]? = some o := by simpa using (hl 0).symm
  simp only [List.length_cons, Region.seqB, Bool.and_eq_true, decide_eq_true_eq] at hB hf; obtain ⟨f, rfl⟩ : ∃ f, fuel = f + 1 := ⟨fuel - 1, by omega⟩
  refine ⟨fun h1 => (by rw [hB.1] at h1; cases h1), fun i hi => ?_⟩
  rw [hB.1] at hi
  have hik : i = k := by simpa using hi
  subst hik
  have hw : wpOp P ops Q i (wpList P ops Q l) a w := by unfold wpOp; simp only [h0]; exact h
  refine wpOp_mono (fun a' w' h' => yoa l (i + 1) f _ a' w' (fun j => ?_) (by omega) hB.2 h') hw
  have := hl (j + 1)
  simpa [Nat.add_assoc, Nat.add_comm 1 j] using this
def backB (ops : Array Oper) : Bool := (List.range ops.size).all fun i => ((ops[i]?).map (·.after.all fun e => !Region.binds .any e || decide (e.on < i))).getD true
theorem yfz {listed : Array Bool} (hb : backB ops = true) (hl : listed.size = ops.size) : ∀ (n i : Nat), i < n -> i < ops.size -> listed.getD i true = false -> ∃ j, j ∈ Region.ready .any ops listed
 | 0, i, hi, _, _ => absurd hi (Nat.not_lt_zero _)
 | n + 1, i, hi, his, hun => by
  by_cases hr : i ∈ Region.ready .any ops listed
  ·exact ⟨i, hr⟩
  ·obtain ⟨o, ho⟩ : ∃ o, ops[i]? = some o := ⟨_, Array.getElem?_eq_getElem his⟩
   have hback : ∀ e ∈ o.after, Region.binds .any e = true -> e.on < i := by
    have h1 := List.all_eq_true.1 hb i (List.mem_range.2 his); rw [ho] at h1; simp only [Option.map_some, Option.getD_some] at h1; intro e he hbi
    have := Array.all_eq_true_iff_forall_mem.1 h1 e he
    simpa [hbi] using this
   have hex : ∃ e ∈ o.after, Region.binds .any e = true /\ listed.getD e.on false = false := by
    apply Classical.byContradiction
    intro hno; refine hr (mem_ready.2 ⟨hun, o, ho, fun e he hbi => ?_⟩)
    cases hl2 : listed.getD e.on false with
    | true => rfl
    | false => exact absurd ⟨e, he, hbi, hl2⟩ hno
   obtain ⟨e, he, hbi, hl2⟩ := hex; have hlt := hback e he hbi; exact yfz hb hl n e.on (by omega) (by omega) (getD_in (by omega) hl2)
def anyOk (ops : Array Oper) (m : Nat) (ds : List Nat) : Bool :=
 backB ops && Region.sinkB .any ops m && Region.chainB .any ops m && decide (m < ops.size) && decide ds.Nodup && decide (ds.length = m) && Region.seqB .any ops (ops.toList.drop m).length m (Array.replicate m true ++ Array.replicate (ops.size - m) false)
def OpIs (P : Program) (ops : Array Oper) (Q : Exit -> Act -> World -> Prop) (ts : Array Value) (df : List Deferred) (ds : List Nat) (Vs : List SV) (w : World) (i : Nat) : Prop :=
 ∀ o, ops[i]? = some o -> ∀ (vs : Nat -> Value) (w1 : World), Below w.heap.size w w1 -> (∀ j, Region.waitsFor .any ops i j = true -> (Vs.getD j SV.any).p (vs j) w1) →
  ∀ K : Act -> World -> Prop, (∀ v w2, (Vs.getD i SV.any).p v w2 -> Below w1.heap.size w1 w2 -> K ⟨(frameV ts ds vs 0).setIfInBounds (ds.getD i 0) v, df⟩ w2) →
   if Region.wanted o (yielded ops (frameV ts ds vs 0)) = true then Oper.wp P o ⟨frameV ts ds vs 0, df⟩ w1 K Q else K (Act.put ⟨frameV ts ds vs 0, df⟩ o.dst undef) w1
theorem OpIs.mk {ts : Array Value} {df : List Deferred} {ds : List Nat} {Vs : List SV} {w : World} {i : Nat} {o : Oper} (ho : ops[i]? = some o)
  (h : ∀ (vs : Nat -> Value) (w1 : World), Below w.heap.size w w1 -> (∀ j, Region.waitsFor .any ops i j = true -> (Vs.getD j SV.any).p (vs j) w1) →
  ∀ K : Act -> World -> Prop, (∀ v w2, (Vs.getD i SV.any).p v w2 -> Below w1.heap.size w1 w2 -> K ⟨(frameV ts ds vs 0).setIfInBounds (ds.getD i 0) v, df⟩ w2) →
   if Region.wanted o (yielded ops (frameV ts ds vs 0)) = true then Oper.wp P o ⟨frameV ts ds vs 0, df⟩ w1 K Q else K (Act.put ⟨frameV ts ds vs 0, df⟩ o.dst undef) w1) : OpIs P ops Q ts df ds Vs w i := fun o' ho' => by
 have : o = o' := Option.some.inj (ho.symm.trans ho')
 subst this; exact h
theorem any_go {ts : Array Value} {df : List Deferred} {ds : List Nat} {Vs : List SV} {w : World} (hbk : backB ops = true) (hs : Region.sinkB .any ops m = true) (hc : Region.chainB .any ops m = true) (hlt : m < ops.size) (hn : ds.Nodup) (hdl : ds.length = m)
  (hq : Region.seqB .any ops (ops.toList.drop m).length m (Array.replicate m true ++ Array.replicate (ops.size - m) false) = true)
  (hop : ∀ i, i < m -> OpIs P ops Q ts df ds Vs w i)
  (hend : ∀ (vs : Nat -> Value) (w1 : World), Below w.heap.size w w1 -> (∀ j, j < m -> (Vs.getD j SV.any).p (vs j) w1) -> wpList P ops Q (ops.toList.drop m) ⟨frameV ts ds vs 0, df⟩ w1) :
  ∀ (u fuel : Nat) (listed : Array Bool) (vs : Nat -> Value) (w1 : World), unl listed m = u -> u + (ops.size - m) <= fuel -> HeadInv .any ops m listed -> Below w.heap.size w w1 →
   (∀ j, j < m -> listed.getD j false = true -> (Vs.getD j SV.any).p (vs j) w1) -> wpAny P .any ops Q fuel listed ⟨frameV ts ds vs 0, df⟩ w1 := by
 intro u
 induction u with
 | zero =>
  intro fuel listed vs w1 hu hf inv hb hv; have hall := yjt listed m hu
  have hlisted : listed = Array.replicate m true ++ Array.replicate (ops.size - m) false := by
   apply Array.ext
   ·rw [inv.size]; simp; omega
   ·intro i h1 h2; rw [inv.size] at h1
    rcases Nat.lt_or_ge i m with hi | hi
    ·rw [Array.getElem_append_left (by simpa using hi)]
     have := hall i hi
     simp [Array.getD, inv.size, h1] at this
     simpa using this
    ·rw [Array.getElem_append_right (by simpa using hi)]
     have := inv.tail i hi h1
     simp [Array.getD, inv.size, h1] at this
     simpa using this
  refine yoa (ops.toList.drop m) m fuel listed _ w1 (fun j => by simp [List.getElem?_drop]) (by simp; omega) (by rw [hlisted]; exact hq) ?_
  refine hend vs w1 hb fun j hj => hv j hj ?_
  have := hall j hj
  simp [Array.getD, inv.size, show j < ops.size by omega] at this |-
  exact this
 | succ u ih =>
  intro fuel listed vs w1 hu hf inv hb hv; obtain ⟨i0, hi0, hun0⟩ := ymr listed m (by omega)
  obtain ⟨f, rfl⟩ : ∃ f, fuel = f + 1 := ⟨fuel - 1, by omega⟩
  have hlow : ∀ t ∈ Region.ready .any ops listed, t < m := fun t ht => by
   rcases Nat.lt_or_ge t m with h | h
   ·exact h
   ·exact absurd ht (tail_waits hs hc hlt inv _ i0 rfl hi0 hun0 t h)
  have hne : Region.ready .any ops listed ≠ [] := by
   intro hr; obtain ⟨j, hj⟩ := yfz hbk inv.size (i0 + 1) i0 (by omega) (by omega) hun0
   rw [hr] at hj
   cases hj
  refine ⟨fun h => absurd h hne, fun i hi => ?_⟩
  have him := hlow i hi; obtain ⟨hun, o, ho, hall⟩ := mem_ready.1 hi; refine wpOp_step ho fun K hK => ?_
  have hwait : ∀ j, Region.waitsFor .any ops i j = true -> listed.getD j false = true := fun j hj => by
   obtain ⟨oj, hoj, e, he, hb2, hon⟩ := Region.waitsFor_spec hj
   have : oj = o := Option.some.inj (hoj.symm.trans ho)
   subst this; rw [<- hon]; exact hall e he hb2
  refine hop i him o ho vs w1 hb (fun j hj => ?_) K fun v w2 hv2 hb2 => hK _ _ ?_
  ·have hjl := hwait j hj
   rcases Nat.lt_or_ge j m with h | h
   ·exact hv j h hjl
   ·exfalso
    rcases Nat.lt_or_ge j ops.size with h' | h'
    ·have := inv.tail j h h'
     rw [getD_both this] at hjl
     cases hjl
    ·simp [Array.getD, inv.size, show ¬ j < ops.size by omega] at hjl
  ·have hdi : ds[i]? = some (ds.getD i 0) := by
    rw [List.getD_eq_getElem?_getD, List.getElem?_eq_getElem (by omega)]; rfl
   have := ygi (ts := ts) (v := v) (i := i) ds (vs := vs) 0 i hn hdi (by omega)
   rw [<- this]; refine ih f _ (upd vs i v) w2 (by have := ymq listed i hun m him; omega) (by omega) (inv.set hi him) (hb.trans (hb2.mono hb.size)) fun j hj hl => ?_
   unfold upd
   by_cases e : j = i
   ·subst e; rw [if_pos rfl]; exact hv2
   ·rw [if_neg e]; rw [getD_set_ne false (Ne.symm e)] at hl; exact (Vs.getD j SV.any).st _ _ _ (hv j hj hl) hb2
theorem yag {id : Nat} {ts : Array Value} {df : List Deferred} {w : World} (ds : List Nat) (Vs : List SV) (hm : P.follows .mixedOrders = true) (hok : anyOk ops m ds = true)
  (hop : AllB (OpIs P ops Q ts df ds Vs w) m)
  (hend : ∀ (vs : Nat -> Value) (w1 : World), Below w.heap.size w w1 -> (∀ j, j < m -> (Vs.getD j SV.any).p (vs j) w1) -> wpList P ops Q (ops.toList.drop m) ⟨frameV ts ds vs 0, df⟩ w1) :
  (Code.region id ops true).wp P Q ⟨ts, df⟩ w := by
 simp only [anyOk, Bool.and_eq_true, decide_eq_true_eq] at hok; obtain ⟨⟨⟨⟨⟨⟨h0, h1⟩, h2⟩, h3⟩, h4⟩, h5⟩, h6⟩ := hok; refine wp_region_any hm ?_
 have hstart := yeb (ts := ts) ds (fun i => ts.getD (ds.getD i 0) undef) 0 fun j d hd => by
  rw [Nat.zero_add, List.getD_eq_getElem?_getD, hd]; rfl
 have hgo := any_go h0 h1 h2 h3 h4 h5 h6 hop.all hend (unl (Array.replicate ops.size false) m) ops.size (Array.replicate ops.size false) (fun i => ts.getD (ds.getD i 0) undef) w.drew rfl ?_ ?_ ((zR _ w).drew) ?_
 ·rw [hstart] at hgo; exact hgo
 ·have hle : ∀ n, unl (Array.replicate ops.size false) n <= n := by
   intro n
   induction n with
   | zero => exact zN _
   | succ n ih => rw [unl]; split <;> omega
  have := hle m
  omega
 ·exact ⟨by simp, (fun j oj _ hl => absurd hl (by rw [getD_replicate_false]; exact Bool.false_ne_true)), (fun t _ ht' => by simp [ht'])⟩
 ·intro j _ hl; exact absurd hl (by rw [getD_replicate_false]; exact Bool.false_ne_true)
end
end Go.Proofs.YteibnfeokgibmaaGreat
end
namespace Go.Proofs.YteibnfeokgibmaaGreat
open Go.RowKit
def KR (w : World) (k : Nat) : Prop := ∃ cs T fr, w.heap[k]? = some (.cells cs T fr) /\ (T = 131 \/ T = 77 \/ T = 3)
def KRU (U : Nat -> Prop) (w : World) (k : Nat) : Prop := U k /\ KR w k
theorem RdF.kstep {U : Nat -> Prop} {w w' : World} {v : Value} {n : Nat} {xs : List Value} (hr : RdF (KRU U w) w v n xs) (hf : ∀ k, U k -> KR w k -> k < w.heap.size -> w'.heap[k]? = w.heap[k]?) : RdF (KRU U w') w' v n xs := by
 obtain ⟨A, c, rfl, hc, hr⟩ := hr; refine ⟨A, c, rfl, hc, fun h0 => ?_⟩
 obtain ⟨g, o, e, ⟨hU, hg⟩, hx⟩ := hr h0; have hg0 := hg; obtain ⟨cs, T, fr, h1, h2⟩ := hg; have e2 := hf g hU hg0 (R4.yad h1); refine ⟨g, o, e, ⟨hU, cs, T, fr, e2.trans h1, h2⟩, fun j u hu => ?_⟩
 rw [World.cell?_of_block (w := w) (a := ⟨g, o + j, none⟩) e2]; exact hx j u hu
theorem RdF.kown {U : Nat -> Prop} {B : Nat} {w : World} {e : TypeId} {s : Nat} {v : Value} {n : Nat} {xs : List Value} (h : w.ownsRow B e s v n xs) (he : e = 131 \/ e = 77 \/ e = 3) (hU : ∀ k, B <= k -> U k) : RdF (KRU U w) w v n xs := by
 obtain ⟨A, c, rfl, hc, hr⟩ := R4.yai h; refine ⟨A, c, rfl, hc, fun h0 => ?_⟩
 obtain ⟨g, e', hg, hl, hx⟩ := hr h0; obtain ⟨cur, h1⟩ := R4.yca h (g := g) (by rw [e']; rfl)
 exact ⟨g, 0, e', ⟨hU g hg, _, _, _, h1, he⟩, fun j u hu => by rw [Nat.zero_add]; exact hx j u hu⟩
def EntU (U : Nat -> Prop) (w : World) (m : ME) : Prop := RdF (KRU U w) w m.vs m.s.length (iv m.s) /\ RdF (KRU U w) w m.vl m.l.length (qcells m.l)
theorem EntU.step {U : Nat -> Prop} {w w' : World} {m : ME} (h : EntU U w m) (hf : ∀ k, U k -> KR w k -> k < w.heap.size -> w'.heap[k]? = w.heap[k]?) : EntU U w' m := ⟨RdF.kstep h.1 hf, RdF.kstep h.2 hf⟩
theorem EntU.below {U : Nat -> Prop} {B : Nat} {w w' : World} {m : ME} (h : EntU U w m) (hb : Below B w w') (hB : w.heap.size <= B) : EntU U w' m := h.step fun k _ _ hk => hb.block k (by omega)
theorem EntU.ints {U : Nat -> Prop} {w : World} {m : ME} (h : EntU U w m) : RdI anyB w m.vs m.s := RdF.any h.1
theorem EntU.els {U : Nat -> Prop} {w : World} {m : ME} (h : EntU U w m) : RdQ anyB w m.vl m.l := RdF.any h.2
theorem EntU.one {U : Nat -> Prop} {w : World} {m : ME} (h : EntU U w m) : m.vs.oneCell' = true /\ m.vl.oneCell' = true := by
 obtain ⟨A, c, e⟩ := h.1.form; obtain ⟨A', c', e'⟩ := h.2.form; rw [e, e']; exact ⟨rfl, rfl⟩
theorem ybc {U : Nat -> Prop} {w : World} {M : List ME} (h : ∀ m ∈ M, EntU U w m) : ∀ u ∈ mcells M, u.oneCell' = true := by
 intro u hu; obtain ⟨p, hp, hq⟩ := List.mem_flatMap.1 hu
 have := (h p hp).one
 simp at hq
 rcases hq with rfl | rfl
 ·exact this.1
 ·exact this.2
def RdN (U : Nat -> Prop) (w : World) (v : Value) (M : List ME) : Prop := RdF (KRU U w) w v M.length (mcells M) /\ ∀ m ∈ M, EntU U w m
def RefU (U : Nat -> Prop) (w : World) (v : Value) (L : List PE) : Prop := ∃ M, pls M = L /\ RdN U w v M
abbrev RefT (w : World) (v : Value) (L : List PE) : Prop := RefU anyB w v L
theorem RdN.step {U : Nat -> Prop} {w w' : World} {v : Value} {M : List ME} (h : RdN U w v M) (hf : ∀ k, U k -> KR w k -> k < w.heap.size -> w'.heap[k]? = w.heap[k]?) : RdN U w' v M := ⟨RdF.kstep h.1 hf, fun m hm => (h.2 m hm).step hf⟩
theorem RdN.below {U : Nat -> Prop} {B : Nat} {w w' : World} {v : Value} {M : List ME} (h : RdN U w v M) (hb : Below B w w') (hB : w.heap.size <= B) : RdN U w' v M := h.step fun k _ _ hk => hb.block k (by omega)
theorem RefU.step {U : Nat -> Prop} {w w' : World} {v : Value} {L : List PE} (h : RefU U w v L) (hf : ∀ k, U k -> KR w k -> k < w.heap.size -> w'.heap[k]? = w.heap[k]?) : RefU U w' v L := by
 obtain ⟨M, e, h⟩ := h; exact ⟨M, e, h.step hf⟩
theorem RefU.below {U : Nat -> Prop} {B : Nat} {w w' : World} {v : Value} {L : List PE} (h : RefU U w v L) (hb : Below B w w') (hB : w.heap.size <= B) : RefU U w' v L := h.step fun k _ _ hk => hb.block k (by omega)
theorem RefU.off {U : Nat -> Prop} {w w' : World} {v : Value} {L : List PE} {b : Nat} {cs : Array Value} {T : TypeId} {fr : Nat × Nat} (h : RefU U w v L) (hg : w.grownBy w' (some b)) (hb : w.heap[b]? = some (.cells cs T fr)) (h1 : T ≠ 131) (h2 : T ≠ 77) (h3 : T ≠ 3) : RefU U w' v L := h.step fun k _ hk hl => by
 refine hg.block k hl ?_; intro e
 injection e with e
 subst e; obtain ⟨cs', T', fr', e1, e2⟩ := hk; rw [hb] at e1
 injection e1 with e1
 injection e1 with _ e4 _
 subst e4
 rcases e2 with e2 | e2 | e2
 ·exact h1 e2
 ·exact h2 e2
 ·exact h3 e2
theorem RefU.form {U : Nat -> Prop} {w : World} {v : Value} {L : List PE} (h : RefU U w v L) : ∃ A c, v = .slice A L.length c := by
 obtain ⟨M, rfl, h⟩ := h; rw [yap]; exact h.1.form
theorem RefT.nil (w : World) : RefT w (.slice none 0 0) [] := ⟨[], rfl, RdF.nil _ _, fun m hm => by cases hm⟩
theorem RdN.at {U : Nat -> Prop} {w : World} {A : Option Addr} {n c : Nat} {M : List ME} (h : RdN U w (.slice A n c) M) {k : Nat} {m : ME} (hk : M[k]? = some m) :
  ∃ g o : Nat, A = some ⟨g, o, none⟩ /\ w.cell? ⟨g, o + k * 2, none⟩ = some m.vs /\ w.cell? ⟨g, o + k * 2 + 1, none⟩ = some m.vl /\ EntU U w m := by
 have hl := (List.getElem?_eq_some_iff.1 hk).1; obtain ⟨g, o, e, _, hx⟩ := RdF.base h.1 (by omega)
 obtain ⟨h1, h2⟩ := ycl hk; exact ⟨g, o, e, hx _ _ h1, by rw [Nat.add_assoc]; exact hx _ _ h2, h.2 m (List.mem_of_getElem? hk)⟩
theorem RefU.at {U : Nat -> Prop} {w : World} {A : Option Addr} {n c : Nat} {L : List PE} (h : RefU U w (.slice A n c) L) {k : Nat} {e : PE} (hk : L[k]? = some e) :
  ∃ (g o : Nat) (vs vl : Value), A = some ⟨g, o, none⟩ /\ w.cell? ⟨g, o + k * 2, none⟩ = some vs /\ w.cell? ⟨g, o + k * 2 + 1, none⟩ = some vl /\ RdI anyB w vs e.1 /\ RdQ anyB w vl e.2 := by
 obtain ⟨M, rfl, h⟩ := h; unfold pls at hk; rw [List.getElem?_map] at hk
 cases hm : M[k]? with
 | none => rw [hm] at hk; cases hk
 | some m =>
  rw [hm] at hk
  simp at hk
  subst hk; obtain ⟨g, o, e, h1, h2, h3⟩ := h.at hm; exact ⟨g, o, m.vs, m.vl, e, h1, h2, h3.ints, h3.els⟩
def SV.qs (l : List Nat) : SV := ⟨fun v w => RdQ anyB w v l, fun _ _ _ h hb => h.below hb (zN _)⟩
def SV.els (l : List Nat) : SV := ⟨fun v w => RdE anyB w v l, fun _ _ _ h hb => h.below hb (zN _)⟩
def SV.ref (L : List PE) : SV := ⟨fun v w => ∃ u, v = .agg #[u] /\ RefT w u L, fun _ _ _ ⟨u, e, h⟩ hb => ⟨u, e, h.below hb (zN _)⟩⟩
theorem yhc {w wr : World} (h : ∃ n, wr = w.drewN n) (k : Nat) : ∃ n, wr.drewN k = w.drewN n := by
 obtain ⟨n, rfl⟩ := h; exact ⟨n + k, by simp [World.drewN, Nat.add_assoc]⟩
theorem bef_hd {a b : List Int} (h : hd a ≠ hd b) : befB a b = decide (hd a < hd b) := by
 unfold befB ord lexC; rw [if_neg (fun e => h (ybd.1 e))]
 simp only [ygl]
theorem bef_len {a b : List Int} (h : hd a = hd b) (hl : a.length ≠ b.length) : befB a b = decide (a.length < b.length) := by
 unfold befB ord lexC; rw [if_pos (ybd.2 h), if_neg (fun e => hl (by have := ybd.1 e; omega))]
 simp only [ygl, Int.ofNat_lt]
theorem bef_tail {a b : List Int} (h : hd a = hd b) (hl : a.length = b.length) : befB a b = decide (cmpL a b < 0) := by
 unfold befB ord lexC; rw [if_pos (ybd.2 h), if_pos (ybd.2 (by omega))]
set_option maxHeartbeats 1000000 in
theorem yrw {F G : Nat -> Prop} {w : World} {u v : Value} {a b : List Int} (ha : RdI F w u a) (hb : RdI G w v b) (h1 : 1 <= a.length) (h2 : 1 <= b.length) (hl : a.length <= 1000000) (hl2 : b.length <= 1000000) {r : Bool} (hr : befB a b = r) :
  Calls Tryz.prog 78 #[u, v] w fun e w' => e = .returned (.bool r) /\ ∃ n, w' = w.drewN n := by
 obtain ⟨A, c, rfl⟩ := ha.form; obtain ⟨A', c', rfl⟩ := hb.form; obtain ⟨x, hx⟩ : ∃ x, hd a = x := ⟨_, rfl⟩; obtain ⟨y, hy⟩ : ∃ y, hd b = y := ⟨_, rfl⟩; obtain ⟨g1, o1, rfl, c0⟩ := ha.at (hd_at h1); obtain ⟨g2, o2, rfl, d0⟩ := hb.at (hd_at h2); rw [hx] at c0; rw [hy] at d0; simp only [Nat.add_zero] at c0 d0; have HA := zH ha; have HB := zH hb
 have h1I : (0 : Int) < (a.length : Int) := by omega
 have h2I : (0 : Int) < (b.length : Int) := by omega
 have hlI : (a.length : Int) <= 1000000 := by omega
 have hlI2 : (b.length : Int) <= 1000000 := by omega
 by_cases exy : x = y
 ·subst exy
  by_cases elen : a.length = b.length
  ·have hbt := bef_tail (hx.trans hy.symm) elen; rw [hr] at hbt
   have hs0 : cmpL (a.drop 1) (b.drop 1) = cmpL a b := by
    have h3 := yip (hd_at h1) (hd_at h2); rw [hx, hy, if_pos (ydg _), List.drop_zero, List.drop_zero] at h3; exact h3.symm
   obtain ⟨q, hq⟩ : ∃ q, cmpL a b = q := ⟨_, rfl⟩; rw [hq] at hs0 hbt; have HS0 := zH hs0; have HR := zH hbt; have HLN := zH elen
   have hne : ((a.length : Int) != (b.length : Int)) = false := by rw [bne_eq_false_iff_eq]; omega
   clear ha hb hr hbt hs0 hx hy elen hq
   go_enter Tryz.func78, Tryz.ntmps78
   go_wp2
   go_quiet (fail)
   go_wp2
   clear c0 d0; generalize hw1 : w.drewN _ = w1
   have HW1 : Hid (∃ n, w1 = w.drewN n) := ⟨_, hw1.symm⟩
   clear hw1
   go_loopw [5] (fun i wr => ∃ k : Nat, 1 <= k /\ k <= a.length /\ i = .int .i64 (k : Nat) /\ Hid (cmpL (a.drop k) (b.drop k) = q) /\ Hid (∃ n, wr = w.drewN n)) (fun i _ => a.length - (intOf i).toNat)
   case atStart => exact ⟨1, zN _, by omega, rfl, HS0.out, HW1.out⟩
   case round =>
    obtain ⟨k, hk1, hk, rfl, HK, HN⟩ := hrel
    by_cases hlt : k < a.length
    ·obtain ⟨x, hx⟩ : ∃ x, a[k]? = some x := ⟨_, List.getElem?_eq_getElem hlt⟩; obtain ⟨y, hy⟩ : ∃ y, b[k]? = some y := ⟨_, List.getElem?_eq_getElem (by have := HLN.out; omega)⟩
     have hbl : Below w.heap.size w wr := by obtain ⟨n, e⟩ := HN.out; rw [e]; exact yac w n
     obtain ⟨g3, o3, e3, c0⟩ := (HA.out.below hbl (zN _)).at hx; obtain ⟨g4, o4, e4, d0⟩ := (HB.out.below hbl (zN _)).at hy
     cases e3
     cases e4
     have hkI : (k : Int) < (a.length : Int) := by omega
     have hkJ : (k : Int) < (b.length : Int) := by have := HLN.out; omega
     have hcd := yip hx hy; rw [HK.out] at hcd
     by_cases exy : x = y
     ·subst exy; rw [if_pos (ydg _)] at hcd; have HD := zH hcd.symm; clear hcd hx hy hbl hlt
      go_wp2
      go_quiet (fail)
      go_wp2
      go_roundw
      case rel => exact ⟨k + 1, by omega, by omega, by go_num, HD.out, yhc HN.out _⟩
      case measure => simp [intOf]; omega
     ·rw [if_neg (fun e => exy (ybd.1 e))] at hcd
      have hne2 : (x != y) = true := by rw [bne_iff_ne]; exact exy
      have hrr : r = decide (x < y) := by rw [HR.out, hcd]; simp only [ygl]
      have HRR := zH hrr; clear hcd hx hy hbl hlt hrr
      go_wp2
      go_quiet (fail)
      go_wp2
      go_quiet (fail)
      go_wp2
      go_ret
      exact ⟨by rw [HRR.out]; rfl, yhc (yhc HN.out _) _⟩
    ·obtain rfl : k = a.length := by omega
     have hrr : r = false := by
      rw [HR.out, <- HK.out, List.drop_length, List.drop_eq_nil_of_le (by have := HLN.out; omega)]; rfl
     subst hrr; clear hlt
     go_wp2
     go_ret
     exact ⟨rfl, HN.out⟩
  ·have hbt := bef_len (hx.trans hy.symm) elen; rw [hr] at hbt; have HR := zH hbt
   have hne : ((a.length : Int) != (b.length : Int)) = true := by rw [bne_iff_ne]; omega
   clear ha hb hr hbt hx hy elen
   go_enter Tryz.func78, Tryz.ntmps78
   go_wp2
   go_quiet (fail)
   go_wp2
   go_ret
   exact ⟨by rw [HR.out]; rfl, _, rfl⟩
 ·have hbt := bef_hd (a := a) (b := b) (by rw [hx, hy]; exact exy)
  rw [hr, hx, hy] at hbt; have HR := zH hbt
  have hne : (x != y) = true := by rw [bne_iff_ne]; exact exy
  clear ha hb hr hbt hx hy
  go_enter Tryz.func78, Tryz.ntmps78
  go_wp2
  go_quiet (fail)
  go_wp2
  go_quiet (fail)
  go_wp2
  go_ret
  exact ⟨by rw [HR.out]; rfl, yhc ⟨_, rfl⟩ _⟩
theorem ynf {p s t : Nat} {P S T : Int} {V : Bool} (hp : p < 65536) (hs : s < 256) (ht : t < 128) (hq : q4 (E3.mk p s t 0) = [.int .i64 P, .int .i64 S, .int .i64 T, .bool V]) : P = (p : Int) /\ S = (s : Int) /\ T = (t : Int) /\ V = false := by
 rw [q4_mk hp hs ht] at hq; simp only [List.cons.injEq, Value.int.injEq, Value.bool.injEq, true_and, and_true] at hq; exact ⟨hq.1.symm, hq.2.1.symm, hq.2.2.1.symm, hq.2.2.2.symm⟩
theorem ybk {c : Nat} {x : Int} (h : 65 <= c /\ c <= 90 \/ 97 <= c /\ c <= 122) (hx : (c : Int) = x) {P S T : Int} {V : Bool} (hq : q4 (letW c) = [.int .i64 P, .int .i64 S, .int .i64 T, .bool V]) (w : World) :
  Calls Tryz.prog 43 #[.int .i64 x] w fun e w' => e = .returned (.agg #[.int .i64 P, .int .i64 S, .int .i64 T, .bool V]) /\ Below w.heap.size w w' := by
 subst hx
 rcases h with h | h
 ·have e1 : letW c = E3.mk (256 + 8 * (c - 65)) 32 8 0 := by unfold letW; rw [if_pos (by omega)]
  rw [e1] at hq; obtain ⟨hP, rfl, rfl, rfl⟩ := ynf (by omega) (by omega) (by omega) hq
  have hP2 : P = 256 + 8 * ((c : Int) - 65) := by omega
  subst hP2
  have r1 : ¬ (97 : Int) <= (c : Int) := by omega
  have r2 : (0 : Int) <= (c : Int) - 65 := by omega
  have r3 : (c : Int) <= 90 := by omega
  clear hq e1 h hP
  go_enter Tryz.func43, Tryz.ntmps43
  go_wp2
  exact bodyPost_ret (v := .agg #[.int .i64 (256 + 8 * ((c : Int) - 65)), .int .i64 32, .int .i64 8, .bool false]) (by simp [results, Tryz.results43, go_sem]) rfl ⟨rfl, (zR _ _).alloc (zN _) _⟩
 ·have e1 : letW c = E3.mk (256 + 8 * (c - 97)) 32 2 0 := by unfold letW; rw [if_neg (by omega)]
  rw [e1] at hq; obtain ⟨hP, rfl, rfl, rfl⟩ := ynf (by omega) (by omega) (by omega) hq
  have hP2 : P = 256 + 8 * ((c : Int) - 97) := by omega
  subst hP2
  have r1 : (97 : Int) <= (c : Int) := by omega
  have r2 : (0 : Int) <= (c : Int) - 97 := by omega
  have r3 : (c : Int) <= 122 := by omega
  clear hq e1 h hP
  go_enter Tryz.func43, Tryz.ntmps43
  go_wp2
  exact bodyPost_ret (v := .agg #[.int .i64 (256 + 8 * ((c : Int) - 97)), .int .i64 32, .int .i64 2, .bool false]) (by simp [results, Tryz.results43, go_sem]) rfl ⟨rfl, (zR _ _).alloc (zN _) _⟩
theorem ylj {c : Int} (h : c ∈ mkC) {P S T : Int} {V : Bool} (hq : q4 (mkW c) = [.int .i64 P, .int .i64 S, .int .i64 T, .bool V]) (w : World) :
  Calls Tryz.prog 44 #[.int .i64 c] w fun e w' => e = .returned (.agg #[.int .i64 P, .int .i64 S, .int .i64 T, .bool V]) /\ Below w.heap.size w w' := by
 have hS : mkS c < 256 := by unfold mkS; repeat' split
                             all_goals omega
 obtain ⟨rfl, hS2, rfl, rfl⟩ := ynf (by omega) hS (by omega) hq
 subst hS2; simp only [mkC, List.mem_cons, List.not_mem_nil, or_false] at h; clear hq hS
 rcases h with rfl | rfl | rfl | rfl | rfl | rfl | rfl | rfl
 all_goals
  go_enter Tryz.func44, Tryz.ntmps44
  go_wp2
  refine bodyPost_ret (v := .agg #[.int .i64 0, .int .i64 _, .int .i64 2, .bool false]) (by simp [results, Tryz.results44, go_sem]; rfl) rfl ⟨rfl, (zR _ _).alloc (zN _) _⟩
theorem appendG {T e : TypeId} {i : TypeInfo} {z : Value} {size bytes : Nat} (hT : Tryz.prog.underlying T = some (.slice e)) (hi : Tryz.prog.info? e = some i) (hz0 : i.zero = some z) (hz1 : i.size = size) (hz2 : i.bytes = bytes) (hzs : z.cells.size = size) (h0 : 0 < size) (hby : bytes <= 1000)
  {ops : Array Oper} {rest : List Oper} {o : Oper} {a : Act} {Q : Exit -> Act -> World -> Prop} (hgd : o.guard = none) (s x : Operand) (ho : o.op = .call { callee := .builtin .append, args := #[s, x], argTypes := #[T, T] })
  (w : World) (B : Nat) (v : Value) (n : Nat) (xs : List Value) {A : Option Addr} {m C : Nat} {ys : List Value} {F : Nat -> Prop} (hs : a.eval s = v) (hown : w.ownsRow B e size v n xs) (hx : a.eval x = .slice A m C)
  (hsrc : RdF F w (.slice A m C) m ys) (hys : ys.length = m * size) (hone : ∀ u ∈ ys, u.oneCell' = true) (hB : B <= w.heap.size) (hl : n + m <= 1000000)
  (h : ∀ v' w', w'.ownsRow B e size v' (n + m) (xs ++ ys) -> w.grownBy w' v.ownBlock -> Below B w w' -> wpList Tryz.prog ops Q rest (a.put o.dst v') w') : wpList Tryz.prog ops Q (o :: rest) a w := by
 cases A with
 | none =>
  have hm : m = 0 := by
   rcases Nat.eq_zero_or_pos m with h0 | h0
   ·exact h0
   ·obtain ⟨g, o, e, _⟩ := RdF.base hsrc h0
    cases e
  subst hm; obtain rfl : ys = [] := List.eq_nil_of_length_eq_zero (by omega)
  refine wpList_plain hgd fun K hK => ?_
  have hrun := ydu (w := w) B T o.type e i size C hT hi v n xs hown; unfold Oper.wp
  simp [execOp, ho, resolve, invoke, builtin, hs, hx, hrun, Result.andThen]
  exact hK _ _ (h v w (by rw [List.append_nil]; exact hown) (World.grownBy.refl _ _) (zR _ _))
 | some ad =>
  refine wpList_append_own_at _ hgd s x _ ho B e i z size bytes hT hi hz0 hz1 hz2 hzs h0 v n xs hs hown ad m C ys hx hys
   ?_ hone (by simp only [maxLen]; omega) (Nat.le_trans (Nat.mul_le_mul hl hby) (by omega)) hB ?_
  ·intro j u hu
   have h0' : 0 < m := by
    have := (List.getElem?_eq_some_iff.1 hu).1
    rcases Nat.eq_zero_or_pos m with h1 | h1
    ·subst h1; omega
    ·exact h1
   obtain ⟨g, o, e, _, hc⟩ := RdF.base hsrc h0'
   cases e
   rw [Addr.add_lit]; exact hc j u hu
  ·intro v' w' h2 h3 _ _; exact h v' w' h2 h3 ((zR B w).grown h3 hB (fun k hk => (World.ownsRow.lt hown k hk).1))
theorem RdF.new (w : World) (ys : List Value) (T : TypeId) {n C : Nat} (hn : n <= C) : RdF anyB (w.alloc (.cells ys.toArray T)) (.slice (some ⟨w.heap.size, 0, none⟩) n C) n ys :=
 ⟨_, C, rfl, hn, fun _ => ⟨w.heap.size, 0, rfl, trivial, fun j u hu => by have := R4.yax w ys T j u hu; rw [Addr.add_lit] at this; exact this⟩⟩
theorem ynb : (Tryz.prog.info? 131).map (fun i => (i.zero, i.size, i.bytes)) = some (some (.agg #[.slice none 0 0, .slice none 0 0]), 2, 48) := by kernel_rfl
theorem yqj : (Tryz.prog.info? 77).map (fun i => (i.zero, i.size, i.bytes)) = some (some (.agg #[.int .i64 0, .int .i64 0, .int .i64 0, .bool false]), 4, 32) := by kernel_rfl
def OwnN (B : Nat) (w : World) (v : Value) (M : List ME) : Prop := w.ownsRow B 131 2 v M.length (mcells M)
theorem OwnN.below {B B' : Nat} {w w' : World} {v : Value} {M : List ME} (h : OwnN B w v M) (hb : Below B' w w') (hB : w.heap.size <= B') : OwnN B w' v M := R4.yan h hb hB
theorem OwnN.form {B : Nat} {w : World} {v : Value} {M : List ME} (h : OwnN B w v M) : ∃ A c, v = .slice A M.length c := by
 obtain ⟨A, c, e, _⟩ := R4.yai h; exact ⟨A, c, e⟩
theorem appendN {ops : Array Oper} {rest : List Oper} {o : Oper} {a : Act} {Q : Exit -> Act -> World -> Prop} (hgd : o.guard = none) (s x : Operand)
  (ho : o.op = .call { callee := .builtin .append, args := #[s, x], argTypes := #[38, 38] })
  (w : World) (B : Nat) (v : Value) (M N : List ME) {A : Option Addr} {C : Nat} {F : Nat -> Prop} (hs : a.eval s = v) (hown : OwnN B w v M) (hx : a.eval x = .slice A N.length C) (hsrc : RdF F w (.slice A N.length C) N.length (mcells N)) (hone : ∀ u ∈ mcells N, u.oneCell' = true) (hB : B <= w.heap.size) (hl : M.length + N.length <= 1000000)
  (h : ∀ v' w', OwnN B w' v' (M ++ N) -> w.grownBy w' v.ownBlock -> Below B w w' -> wpList Tryz.prog ops Q rest (a.put o.dst v') w') : wpList Tryz.prog ops Q (o :: rest) a w := by
 obtain ⟨i0, hi0, hz0, hz1, hz2⟩ := info_parts ynb; refine appendG Tryz.underlying38 hi0 hz0 hz1 hz2 rfl (by omega) (by omega) hgd s x ho w B v M.length (mcells M) hs hown hx hsrc (by rw [yaq]) hone hB hl fun v' w' h1 h2 h3 => h v' w' ?_ h2 h3
 unfold OwnN; rw [yaw, List.length_append]; exact h1
theorem appendQ {ops : Array Oper} {rest : List Oper} {o : Oper} {a : Act} {Q : Exit -> Act -> World -> Prop} (hgd : o.guard = none) (s x : Operand)
  (ho : o.op = .call { callee := .builtin .append, args := #[s, x], argTypes := #[74, 74] })
  (w : World) (B : Nat) (v : Value) (l m : List Nat) {A : Option Addr} {C : Nat} {F : Nat -> Prop} (hs : a.eval s = v) (hown : OwnQ B w v l) (hx : a.eval x = .slice A m.length C) (hsrc : RdQ F w (.slice A m.length C) m) (hB : B <= w.heap.size) (hl : l.length + m.length <= 1000000)
  (h : ∀ v' w', OwnQ B w' v' (l ++ m) -> w.grownBy w' v.ownBlock -> Below B w w' -> wpList Tryz.prog ops Q rest (a.put o.dst v') w') : wpList Tryz.prog ops Q (o :: rest) a w := by
 obtain ⟨i0, hi0, hz0, hz1, hz2⟩ := info_parts yqj; refine appendG Tryz.underlying74 hi0 hz0 hz1 hz2 rfl (by omega) (by omega) hgd s x ho w B v l.length (qcells l) hs hown hx hsrc (ycz m) (yqq m) hB hl fun v' w' h1 h2 h3 => h v' w' ?_ h2 h3
 unfold OwnQ; rw [yjb, List.length_append]; exact h1
theorem appendI {ops : Array Oper} {rest : List Oper} {o : Oper} {a : Act} {Q : Exit -> Act -> World -> Prop} (hgd : o.guard = none) (s x : Operand)
  (ho : o.op = .call { callee := .builtin .append, args := #[s, x], argTypes := #[29, 29] })
  (w : World) (B : Nat) (v : Value) (l m : List Int) {A : Option Addr} {C : Nat} {F : Nat -> Prop} (hs : a.eval s = v) (hown : T2.OwnI B w v l) (hx : a.eval x = .slice A m.length C) (hsrc : RdI F w (.slice A m.length C) m) (hB : B <= w.heap.size) (hl : l.length + m.length <= 1000000)
  (h : ∀ v' w', T2.OwnI B w' v' (l ++ m) -> w.grownBy w' v.ownBlock -> Below B w w' -> wpList Tryz.prog ops Q rest (a.put o.dst v') w') : wpList Tryz.prog ops Q (o :: rest) a w := by
 obtain ⟨i0, hi0, hz0, hz1, hz2⟩ := info_parts yfj; refine appendG Tryz.underlying29 hi0 hz0 hz1 hz2 rfl (by omega) (by omega) hgd s x ho w B v l.length (iv l) hs hown hx hsrc (by rw [iv_len]; omega) (fun u hu => by obtain ⟨k, _, rfl⟩ := List.mem_map.1 hu; rfl) hB hl fun v' w' h1 h2 h3 => h v' w' ?_ h2 h3
 unfold T2.OwnI; rw [show T2.iv (l ++ m) = T2.iv l ++ T2.iv m from by simp [T2.iv], List.length_append]; exact h1
end Go.Proofs.YteibnfeokgibmaaGreat
