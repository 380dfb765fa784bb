/-
  PACKED for a claim.
-/
import Derived.Test.YtichfdjjbafeiaaGreatF32
set_option linter.unusedVariables false
set_option linter.unusedSimpArgs false
set_option maxRecDepth 100000
namespace Go.Proofs.YtichfdjjbafeiaaGreat
open Go.RowKit
structure SV where
 p : Value -> World -> Prop
 st : ∀ v w w', p v w -> Below w.heap.size w w' -> p v w'
def SV.any : SV := ⟨fun _ _ => True, fun _ _ _ _ _ => trivial⟩
def SV.eq (x : Value) : SV := ⟨fun v _ => v = x, fun _ _ _ h _ => h⟩
def SV.ints (l : List Int) : SV := ⟨fun v w => RdI anyB w v l, fun _ _ _ h hb => h.below hb (zN _)⟩
def upd (vs : Nat -> Value) (i : Nat) (v : Value) : Nat -> Value := fun j => if j = i then v else vs j
def frameV (ts : Array Value) : List Nat -> (Nat -> Value) -> Nat -> Array Value
 | [], _, _ => ts
 | d :: l, vs, k => (frameV ts l vs (k + 1)).setIfInBounds d (vs k)
theorem yes {ts : Array Value} : ∀ (ds : List Nat) {vs vs' : Nat -> Value} (k : Nat), (∀ j, k <= j -> vs j = vs' j) -> frameV ts ds vs k = frameV ts ds vs' k
 | [], _, _, _, _ => rfl
 | d :: l, vs, vs', k, h => by
  rw [frameV, frameV, h k (zN _), yes l (k + 1) fun j hj => h j (by omega)]
theorem yen {ts : Array Value} {i d : Nat} {v : Value} : ∀ (ds : List Nat) {vs : Nat -> Value} (k j : Nat), ds.Nodup -> ds[j]? = some d -> k + j = i →
  frameV ts ds (upd vs i v) k = (frameV ts ds vs k).setIfInBounds d v
 | [], _, _, _, _, hd, _ => by simp at hd
 | e :: l, vs, k, j, hn, hd, hk => by
  rw [frameV, frameV]
  cases j with
  | zero =>
   simp at hd
   subst hd; obtain rfl : k = i := by omega
   rw [yes l (vs' := vs) (k + 1) fun j hj => by unfold upd; rw [if_neg (by omega)], Array.setIfInBounds_setIfInBounds]
   unfold upd; rw [if_pos rfl]
  | succ j =>
   simp at hd
   have hne : e ≠ d := by
    rintro rfl; exact (List.nodup_cons.1 hn).1 (List.mem_of_getElem? hd)
   rw [yen l (vs := vs) (k + 1) j (List.nodup_cons.1 hn).2 hd (by omega)]
   have hu : upd vs i v k = vs k := by unfold upd; rw [if_neg (by omega)]
   rw [hu, Array.setIfInBounds_comm _ _ (Ne.symm hne)]
theorem ycq {ts : Array Value} : ∀ (ds : List Nat) (vs : Nat -> Value) (k : Nat), (∀ j d, ds[j]? = some d -> vs (k + j) = ts.getD d undef) -> frameV ts ds vs k = ts
 | [], _, _, _ => rfl
 | d :: l, vs, k, h => by
  rw [frameV, ycq l vs (k + 1) fun j e he => by rw [show k + 1 + j = k + (j + 1) by omega]; exact h (j + 1) e (by simpa using he)]
  have h0 := h 0 d rfl; rw [Nat.add_zero] at h0; rw [h0]
  rcases Nat.lt_or_ge d ts.size with hd | hd
  ·apply Array.ext
   ·simp
   ·intro i h1 h2; rw [Array.getElem_setIfInBounds]
    split
    ·rename_i e; subst e; simp [Array.getD, hd]
    ·rfl
  ·rw [Array.setIfInBounds, dif_neg (by omega)]
def AllB (C : Nat -> Prop) : Nat -> Prop
 | 0 => True
 | n + 1 => AllB C n /\ C n
theorem AllB.all {C : Nat -> Prop} : ∀ {n : Nat}, AllB C n -> ∀ i, i < n -> C i
 | 0, _, i, hi => absurd hi (Nat.not_lt_zero _)
 | n + 1, h, i, hi => by
  by_cases e : i = n
  ·subst e; exact h.2
  ·exact h.1.all i (by omega)
def unl (listed : Array Bool) : Nat -> Nat
 | 0 => 0
 | n + 1 => unl listed n + if listed.getD n true = false then 1 else 0
theorem ynu (listed : Array Bool) (i : Nat) : ∀ n, n <= i -> unl (listed.setIfInBounds i true) n = unl listed n
 | 0, _ => rfl
 | n + 1, h => by rw [unl, unl, ynu listed i n (by omega), getD_set_ne true (by omega)]
theorem yji (listed : Array Bool) (i : Nat) (h : listed.getD i true = false) : ∀ n, i < n -> unl (listed.setIfInBounds i true) n + 1 = unl listed n
 | 0, hi => absurd hi (Nat.not_lt_zero _)
 | n + 1, hi => by
  rw [unl, unl]
  by_cases e : i = n
  ·subst e
   have h1 : (listed.setIfInBounds i true).getD i true = true := by
    rcases Nat.lt_or_ge i listed.size with h' | h'
    ·simp [h']
    ·simp [Array.getElem?_eq_none h'] at h
   rw [ynu listed i i (zN _), if_neg (by rw [h1]; simp), if_pos h]
  ·have := yji listed i h n (by omega)
   rw [getD_set_ne true e]
   omega
theorem yhd (listed : Array Bool) : ∀ n, unl listed n = 0 -> ∀ i, i < n -> listed.getD i true = true
 | 0, _, i, hi => absurd hi (Nat.not_lt_zero _)
 | n + 1, h, i, hi => by
  rw [unl] at h
  by_cases e : i = n
  ·subst e
   cases hl : listed.getD i true with
   | true => rfl
   | false => rw [if_pos hl] at h; omega
  ·exact yhd listed n (by omega) i (by omega)
theorem yjj (listed : Array Bool) : ∀ n, 0 < unl listed n -> ∃ i, i < n /\ listed.getD i true = false
 | 0, h => absurd h (Nat.lt_irrefl _)
 | n + 1, h => by
  rw [unl] at h
  by_cases hl : listed.getD n true = false
  ·exact ⟨n, by omega, hl⟩
  ·rw [if_neg hl] at h; obtain ⟨i, hi, hi2⟩ := yjj listed n h; exact ⟨i, by omega, hi2⟩
section
variable {P : Program} {ops : Array Oper} {Q : Exit -> Act -> World -> Prop} {m : Nat}
theorem ykh : ∀ (l : List Oper) (k fuel : Nat) (listed : Array Bool) (a : Act) (w : World), (∀ j, l[j]? = ops[k + j]?) -> l.length <= fuel →
  Region.seqB .any ops l.length k listed = true -> wpList P ops Q l a w -> wpAny P .any ops Q fuel listed a w
 | [], k, fuel, listed, a, w, hl, hf, hB, h => by
  have hr : Region.ready .any ops listed = [] := by simpa [Region.seqB] using hB
  cases fuel with
  | zero => exact ⟨hr, h⟩
  | succ f => exact ⟨fun _ => h, fun i hi => by rw [hr] at hi; cases hi⟩
 | o :: l, k, fuel, listed, a, w, hl, hf, hB, h => by
  have h0 : ops[k]? = some o := by simpa using (hl 0).symm
  simp only [List.length_cons, Region.seqB, Bool.and_eq_true, decide_eq_true_eq] at hB hf; obtain ⟨f, rfl⟩ : ∃ f, fuel = f + 1 := ⟨fuel - 1, by omega⟩
  refine ⟨fun h1 => (by rw [hB.1] at h1; cases h1), fun i hi => ?_⟩
  rw [hB.1] at hi
  have hik : i = k := by simpa using hi
  subst hik
  have hw : wpOp P ops Q i (wpList P ops Q l) a w := by unfold wpOp; simp only [h0]; exact h
  refine wpOp_mono (fun a' w' h' => ykh l (i + 1) f _ a' w' (fun j => ?_) (by omega) hB.2 h') hw
  have := hl (j + 1)
  simpa [Nat.add_assoc, Nat.add_comm 1 j] using this
def backB (ops : Array Oper) : Bool := (List.range ops.size).all fun i => ((ops[i]?).map (·.after.all fun e => !Region.binds .any e || decide (e.on < i))).getD true
theorem yeh {listed : Array Bool} (hb : backB ops = true) (hl : listed.size = ops.size) : ∀ (n i : Nat), i < n -> i < ops.size -> listed.getD i true = false -> ∃ j, j ∈ Region.ready .any ops listed
 | 0, i, hi, _, _ => absurd hi (Nat.not_lt_zero _)
 | n + 1, i, hi, his, hun => by
  by_cases hr : i ∈ Region.ready .any ops listed
  ·exact ⟨i, hr⟩
  ·obtain ⟨o, ho⟩ : ∃ o, ops[i]? = some o := ⟨_, Array.getElem?_eq_getElem his⟩
   have hback : ∀ e ∈ o.after, Region.binds .any e = true -> e.on < i := by
    have h1 := List.all_eq_true.1 hb i (List.mem_range.2 his); rw [ho] at h1; simp only [Option.map_some, Option.getD_some] at h1; intro e he hbi
    have := Array.all_eq_true_iff_forall_mem.1 h1 e he
    simpa [hbi] using this
   have hex : ∃ e ∈ o.after, Region.binds .any e = true /\ listed.getD e.on false = false := by
    apply Classical.byContradiction
    intro hno; refine hr (mem_ready.2 ⟨hun, o, ho, fun e he hbi => ?_⟩)
    cases hl2 : listed.getD e.on false with
    | true => rfl
    | false => exact absurd ⟨e, he, hbi, hl2⟩ hno
   obtain ⟨e, he, hbi, hl2⟩ := hex; have hlt := hback e he hbi; exact yeh hb hl n e.on (by omega) (by omega) (getD_in (by omega) hl2)
def anyOk (ops : Array Oper) (m : Nat) (ds : List Nat) : Bool :=
 backB ops && Region.sinkB .any ops m && Region.chainB .any ops m && decide (m < ops.size) && decide ds.Nodup && decide (ds.length = m) && Region.seqB .any ops (ops.toList.drop m).length m (Array.replicate m true ++ Array.replicate (ops.size - m) false)
def OpIs (P : Program) (ops : Array Oper) (Q : Exit -> Act -> World -> Prop) (ts : Array Value) (df : List Deferred) (ds : List Nat) (Vs : List SV) (w : World) (i : Nat) : Prop :=
 ∀ o, ops[i]? = some o -> ∀ (vs : Nat -> Value) (w1 : World), Below w.heap.size w w1 -> (∀ j, Region.waitsFor .any ops i j = true -> (Vs.getD j SV.any).p (vs j) w1) →
  ∀ K : Act -> World -> Prop, (∀ v w2, (Vs.getD i SV.any).p v w2 -> Below w1.heap.size w1 w2 -> K ⟨(frameV ts ds vs 0).setIfInBounds (ds.getD i 0) v, df⟩ w2) →
   if Region.wanted o (yielded ops (frameV ts ds vs 0)) = true then Oper.wp P o ⟨frameV ts ds vs 0, df⟩ w1 K Q else K (Act.put ⟨frameV ts ds vs 0, df⟩ o.dst undef) w1
theorem OpIs.mk {ts : Array Value} {df : List Deferred} {ds : List Nat} {Vs : List SV} {w : World} {i : Nat} {o : Oper} (ho : ops[i]? = some o)
  (h : ∀ (vs : Nat -> Value) (w1 : World), Below w.heap.size w w1 -> (∀ j, Region.waitsFor .any ops i j = true -> (Vs.getD j SV.any).p (vs j) w1) →
  ∀ K : Act -> World -> Prop, (∀ v w2, (Vs.getD i SV.any).p v w2 -> Below w1.heap.size w1 w2 -> K ⟨(frameV ts ds vs 0).setIfInBounds (ds.getD i 0) v, df⟩ w2) →
   if Region.wanted o (yielded ops (frameV ts ds vs 0)) = true then Oper.wp P o ⟨frameV ts ds vs 0, df⟩ w1 K Q else K (Act.put ⟨frameV ts ds vs 0, df⟩ o.dst undef) w1) : OpIs P ops Q ts df ds Vs w i := fun o' ho' => by
 have : o = o' := Option.some.inj (ho.symm.trans ho')
 subst this; exact h
theorem any_go {ts : Array Value} {df : List Deferred} {ds : List Nat} {Vs : List SV} {w : World} (hbk : backB ops = true) (hs : Region.sinkB .any ops m = true) (hc : Region.chainB .any ops m = true) (hlt : m < ops.size) (hn : ds.Nodup) (hdl : ds.length = m)
  (hq : Region.seqB .any ops (ops.toList.drop m).length m (Array.replicate m true ++ Array.replicate (ops.size - m) false) = true)
  (hop : ∀ i, i < m -> OpIs P ops Q ts df ds Vs w i)
  (hend : ∀ (vs : Nat -> Value) (w1 : World), Below w.heap.size w w1 -> (∀ j, j < m -> (Vs.getD j SV.any).p (vs j) w1) -> wpList P ops Q (ops.toList.drop m) ⟨frameV ts ds vs 0, df⟩ w1) :
  ∀ (u fuel : Nat) (listed : Array Bool) (vs : Nat -> Value) (w1 : World), unl listed m = u -> u + (ops.size - m) <= fuel -> HeadInv .any ops m listed -> Below w.heap.size w w1 →
   (∀ j, j < m -> listed.getD j false = true -> (Vs.getD j SV.any).p (vs j) w1) -> wpAny P .any ops Q fuel listed ⟨frameV ts ds vs 0, df⟩ w1 := by
 intro u
 induction u with
 | zero =>
  intro fuel listed vs w1 hu hf inv hb hv; have hall := yhd listed m hu
  have hlisted : listed = Array.replicate m true ++ Array.replicate (ops.size - m) false := by
   apply Array.ext
   ·rw [inv.size]; simp; omega
   ·intro i h1 h2; rw [inv.size] at h1
    rcases Nat.lt_or_ge i m with hi | hi
    ·rw [Array.getElem_append_left (by simpa using hi)]
     have := hall i hi
     simp [Array.getD, inv.size, h1] at this
     simpa using this
    ·rw [Array.getElem_append_right (by simpa using hi)]
     have := inv.tail i hi h1
     simp [Array.getD, inv.size, h1] at this
     simpa using this
  refine ykh (ops.toList.drop m) m fuel listed _ w1 (fun j => by simp [List.getElem?_drop]) (by simp; omega) (by rw [hlisted]; exact hq) ?_
  refine hend vs w1 hb fun j hj => hv j hj ?_
  have := hall j hj
  simp [Array.getD, inv.size, show j < ops.size by omega] at this |-
  exact this
 | succ u ih =>
  intro fuel listed vs w1 hu hf inv hb hv; obtain ⟨i0, hi0, hun0⟩ := yjj listed m (by omega)
  obtain ⟨f, rfl⟩ : ∃ f, fuel = f + 1 := ⟨fuel - 1, by omega⟩
  have hlow : ∀ t ∈ Region.ready .any ops listed, t < m := fun t ht => by
   rcases Nat.lt_or_ge t m with h | h
   ·exact h
   ·exact absurd ht (tail_waits hs hc hlt inv _ i0 rfl hi0 hun0 t h)
  have hne : Region.ready .any ops listed ≠ [] := by
   intro hr; obtain ⟨j, hj⟩ := yeh hbk inv.size (i0 + 1) i0 (by omega) (by omega) hun0
   rw [hr] at hj
   cases hj
  refine ⟨fun h => absurd h hne, fun i hi => ?_⟩
  have him := hlow i hi; obtain ⟨hun, o, ho, hall⟩ := mem_ready.1 hi; refine wpOp_step ho fun K hK => ?_
  have hwait : ∀ j, Region.waitsFor .any ops i j = true -> listed.getD j false = true := fun j hj => by
   obtain ⟨oj, hoj, e, he, hb2, hon⟩ := Region.waitsFor_spec hj
   have : oj = o := Option.some.inj (hoj.symm.trans ho)
   subst this; rw [<- hon]; exact hall e he hb2
  refine hop i him o ho vs w1 hb (fun j hj => ?_) K fun v w2 hv2 hb2 => hK _ _ ?_
  ·have hjl := hwait j hj
   rcases Nat.lt_or_ge j m with h | h
   ·exact hv j h hjl
   ·exfalso
    rcases Nat.lt_or_ge j ops.size with h' | h'
    ·have := inv.tail j h h'
     rw [getD_both this] at hjl
     cases hjl
    ·simp [Array.getD, inv.size, show ¬ j < ops.size by omega] at hjl
  ·have hdi : ds[i]? = some (ds.getD i 0) := by
    rw [List.getD_eq_getElem?_getD, List.getElem?_eq_getElem (by omega)]; rfl
   have := yen (ts := ts) (v := v) (i := i) ds (vs := vs) 0 i hn hdi (by omega)
   rw [<- this]; refine ih f _ (upd vs i v) w2 (by have := yji listed i hun m him; omega) (by omega) (inv.set hi him) (hb.trans (hb2.mono hb.size)) fun j hj hl => ?_
   unfold upd
   by_cases e : j = i
   ·subst e; rw [if_pos rfl]; exact hv2
   ·rw [if_neg e]; rw [getD_set_ne false (Ne.symm e)] at hl; exact (Vs.getD j SV.any).st _ _ _ (hv j hj hl) hb2
theorem ybb {id : Nat} {ts : Array Value} {df : List Deferred} {w : World} (ds : List Nat) (Vs : List SV) (hm : P.follows .mixedOrders = true) (hok : anyOk ops m ds = true)
  (hop : AllB (OpIs P ops Q ts df ds Vs w) m)
  (hend : ∀ (vs : Nat -> Value) (w1 : World), Below w.heap.size w w1 -> (∀ j, j < m -> (Vs.getD j SV.any).p (vs j) w1) -> wpList P ops Q (ops.toList.drop m) ⟨frameV ts ds vs 0, df⟩ w1) :
  (Code.region id ops true).wp P Q ⟨ts, df⟩ w := by
 simp only [anyOk, Bool.and_eq_true, decide_eq_true_eq] at hok; obtain ⟨⟨⟨⟨⟨⟨h0, h1⟩, h2⟩, h3⟩, h4⟩, h5⟩, h6⟩ := hok; refine wp_region_any hm ?_
 have hstart := ycq (ts := ts) ds (fun i => ts.getD (ds.getD i 0) undef) 0 fun j d hd => by
  rw [Nat.zero_add, List.getD_eq_getElem?_getD, hd]; rfl
 have hgo := any_go h0 h1 h2 h3 h4 h5 h6 hop.all hend (unl (Array.replicate ops.size false) m) ops.size (Array.replicate ops.size false) (fun i => ts.getD (ds.getD i 0) undef) w.drew rfl ?_ ?_ ((zR _ w).drew) ?_
 ·rw [hstart] at hgo; exact hgo
 ·have hle : ∀ n, unl (Array.replicate ops.size false) n <= n := by
   intro n
   induction n with
   | zero => exact zN _
   | succ n ih => rw [unl]; split <;> omega
  have := hle m
  omega
 ·exact ⟨by simp, (fun j oj _ hl => absurd hl (by rw [getD_replicate_false]; exact Bool.false_ne_true)), (fun t _ ht' => by simp [ht'])⟩
 ·intro j _ hl; exact absurd hl (by rw [getD_replicate_false]; exact Bool.false_ne_true)
end
end Go.Proofs.YtichfdjjbafeiaaGreat
