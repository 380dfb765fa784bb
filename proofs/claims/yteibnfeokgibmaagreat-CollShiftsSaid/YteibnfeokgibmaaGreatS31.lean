/-
  PACKED for a claim.
-/
import Derived.Test.YteibnfeokgibmaaGreatS29
set_option linter.unusedVariables false
set_option linter.unusedSimpArgs false
set_option maxRecDepth 100000
namespace Go.Proofs.YteibnfeokgibmaaGreat
open Go.RowKit
theorem yac {w w' : World} {p : Addr} {u : Value} (hb : Below w.heap.size w w') (h : w.cell? p = some u) : w'.cell? p = some u := (hb.cell (yaq h)).trans h
theorem yfq : (Tryz.prog.info? 3).map (fun i => (i.zero, i.size, i.bytes)) = some (some (.int .i64 0), 1, 8) := by kernel_rfl
theorem yos (n c : Nat) (w : World) : Calls Tryz.prog 127 #[.slice none n c] w fun e w' => e = .returned (.slice none 0 0) /\ w = w' := by
 have q22 : ∀ (w : World) (a : Option Addr) (n c n' c' : Nat), (binOp .eql 83 (.slice a n c) (.slice none n' c')).run Tryz.prog w = .ok (.bool a.isNone) w := fun w a n c n' c' => Lib.run_eql_slice_nil w _ _ a n c n' c' Tryz.underlying83
 go_enter Tryz.func127, Tryz.ntmps127
 go_wp2
 go_ret
 exact ⟨rfl, rfl⟩
theorem ylt (ad : Addr) (n : Nat) (xs : List Value) (c : Nat) (w : World) (hn : n <= 1000000) (hl : xs.length = n * 2) (h1 : ∀ u ∈ xs, u.oneCell' = true) (hc : ∀ j u, xs[j]? = some u -> w.cell? (ad.add j) = some u) :
  Calls Tryz.prog 127 #[.slice (some ad) n c] w fun e w' => (∃ v, e = .returned v /\ w'.ownsRow w.heap.size 88 2 v n xs) /\ Below w.heap.size w w' := by
 have q22 : ∀ (w : World) (a : Option Addr) (n c n' c' : Nat), (binOp .eql 83 (.slice a n c) (.slice none n' c')).run Tryz.prog w = .ok (.bool a.isNone) w := fun w a n c n' c' => Lib.run_eql_slice_nil w _ _ a n c n' c' Tryz.underlying83
 obtain ⟨i0, hi0, hz0, hz1, hz2⟩ := info_parts ycn
 have HC : Hid (∀ j u, xs[j]? = some u -> (w.alloc (.cells #[] 88)).cell? (ad.add j) = some u) := fun j u hu => (World.grownBy_alloc w (.cells #[] 88) none).cell (hc j u hu) (by simp)
 have HI := zH hi0; have HZ0 := zH hz0; have HZ1 := zH hz1; have HZ2 := zH hz2
 have HL : Hid (0 + n <= maxLen) := by show _ <= _; simp only [maxLen]; omega
 have HL2 : Hid ((0 + n) * 48 <= 140737488355328) := by show _ <= _; omega
 have HP := zH hl; have HP1 := zH h1; clear hc hi0 hz0 hz1 hz2 hl h1
 go_enter Tryz.func127, Tryz.ntmps127
 go_wp2_with (at_builtin; refine wpList_append_own_at _ rfl _ _ 83 rfl w.heap.size 88 i0 _ 2 48 Tryz.underlying83 HI.out HZ0.out HZ1.out HZ2.out rfl (by omega) _ _ _ rfl (World.ownsRow_made w #[] 0 (zN _) (Nat.zero_le _) (by simp)) ad n c xs rfl HP.out HC.out HP1.out HL.out HL2.out (by simp) ?_; intro v' w1 hown hgrow hnil hat)
 go_ret
 refine ⟨⟨v', rfl, ?_⟩, ?_⟩
 ·have := hown
  rw [Nat.zero_add, List.nil_append] at this; exact this
 ·exact ((zR _ w).alloc (zN _) _).grown hgrow (by simp) (by intro k hk; cases hk; exact zN _)
theorem yot {F : Nat -> Prop} {w : World} {v : Value} {n : Nat} {xs : List Value} (h : RdF F w v n xs) (hn : n <= 1000000) (hl : xs.length = n * 2) (h1 : ∀ u ∈ xs, u.oneCell' = true) :
  Calls Tryz.prog 127 #[v] w fun e w' => (∃ v', e = .returned v' /\ w'.ownsRow w.heap.size 88 2 v' n xs) /\ Below w.heap.size w w' := by
 obtain ⟨A, c, rfl, hc, hr⟩ := h
 cases A with
 | none =>
  have h0 : n = 0 := by
   rcases Nat.eq_zero_or_pos n with h0 | h0
   ·exact h0
   ·obtain ⟨g, o, e, _⟩ := hr h0; cases e
  subst h0; obtain rfl : xs = [] := List.eq_nil_of_length_eq_zero (by omega)
  exact (yos 0 c w).mono fun e w' ⟨he, hw⟩ => ⟨⟨_, he, by subst hw; exact World.ownsRow_nil w _ _ _⟩, by subst hw; exact zR _ _⟩
 | some ad =>
  refine ylt ad n xs c w hn hl h1 fun j u hu => ?_
  have h0 : 0 < n := by
   have := (List.getElem?_eq_some_iff.1 hu).1
   rcases Nat.eq_zero_or_pos n with h0 | h0
   ·subst h0; omega
   ·exact h0
  obtain ⟨g, o, e, -, hcell⟩ := hr h0
  cases e
  rw [Addr.add_lit]; exact hcell j u hu
theorem yss {F : Nat -> Prop} {w : World} {v : Value} {M : List ME} (h : RdM F w v M) (hn : M.length <= 1000000) :
  Calls Tryz.prog 127 #[v] w fun e w' => (∃ v', e = .returned v' /\ OwnM w.heap.size w' v' M) /\ Below w.heap.size w w' :=
 yot h.1 hn (yax M) (ydl h.2)
end Go.Proofs.YteibnfeokgibmaaGreat
section
namespace Go.Proofs.YteibnfeokgibmaaGreat
open Go.RowKit
structure SV where
 p : Value -> World -> Prop
 st : ∀ v w w', p v w -> Below w.heap.size w w' -> p v w'
def SV.any : SV := ⟨fun _ _ => True, fun _ _ _ _ _ => trivial⟩
def SV.eq (x : Value) : SV := ⟨fun v _ => v = x, fun _ _ _ h _ => h⟩
def SV.ints (l : List Int) : SV := ⟨fun v w => RdI anyB w v l, fun _ _ _ h hb => h.below hb (zN _)⟩
def upd (vs : Nat -> Value) (i : Nat) (v : Value) : Nat -> Value := fun j => if j = i then v else vs j
def frameV (ts : Array Value) : List Nat -> (Nat -> Value) -> Nat -> Array Value
 | [], _, _ => ts
 | d :: l, vs, k => (frameV ts l vs (k + 1)).setIfInBounds d (vs k)
theorem yfh {ts : Array Value} : ∀ (ds : List Nat) {vs vs' : Nat -> Value} (k : Nat), (∀ j, k <= j -> vs j = vs' j) -> frameV ts ds vs k = frameV ts ds vs' k
 | [], _, _, _, _ => rfl
 | d :: l, vs, vs', k, h => by
  rw [frameV, frameV, h k (zN _), yfh l (k + 1) fun j hj => h j (by omega)]
theorem yfb {ts : Array Value} {i d : Nat} {v : Value} : ∀ (ds : List Nat) {vs : Nat -> Value} (k j : Nat), ds.Nodup -> ds[j]? = some d -> k + j = i →
  frameV ts ds (upd vs i v) k = (frameV ts ds vs k).setIfInBounds d v
 | [], _, _, _, _, hd, _ => by simp at hd
 | e :: l, vs, k, j, hn, hd, hk => by
  rw [frameV, frameV]
  cases j with
  | zero =>
   simp at hd
   subst hd; obtain rfl : k = i := by omega
   rw [yfh l (vs' := vs) (k + 1) fun j hj => by unfold upd; rw [if_neg (by omega)], Array.setIfInBounds_setIfInBounds]
   unfold upd; rw [if_pos rfl]
  | succ j =>
   simp at hd
   have hne : e ≠ d := by
    rintro rfl; exact (List.nodup_cons.1 hn).1 (List.mem_of_getElem? hd)
   rw [yfb l (vs := vs) (k + 1) j (List.nodup_cons.1 hn).2 hd (by omega)]
   have hu : upd vs i v k = vs k := by unfold upd; rw [if_neg (by omega)]
   rw [hu, Array.setIfInBounds_comm _ _ (Ne.symm hne)]
theorem yde {ts : Array Value} : ∀ (ds : List Nat) (vs : Nat -> Value) (k : Nat), (∀ j d, ds[j]? = some d -> vs (k + j) = ts.getD d undef) -> frameV ts ds vs k = ts
 | [], _, _, _ => rfl
 | d :: l, vs, k, h => by
  rw [frameV, yde l vs (k + 1) fun j e he => by rw [show k + 1 + j = k + (j + 1) by omega]; exact h (j + 1) e (by simpa using he)]
  have h0 := h 0 d rfl; rw [Nat.add_zero] at h0; rw [h0]
  rcases Nat.lt_or_ge d ts.size with hd | hd
  ·apply Array.ext
   ·simp
   ·intro i h1 h2; rw [Array.getElem_setIfInBounds]
    split
    ·rename_i e; subst e; simp [Array.getD, hd]
    ·rfl
  ·rw [Array.setIfInBounds, dif_neg (by omega)]
def AllB (C : Nat -> Prop) : Nat -> Prop
 | 0 => True
 | n + 1 => AllB C n /\ C n
theorem AllB.all {C : Nat -> Prop} : ∀ {n : Nat}, AllB C n -> ∀ i, i < n -> C i
 | 0, _, i, hi => absurd hi (Nat.not_lt_zero _)
 | n + 1, h, i, hi => by
  by_cases e : i = n
  ·subst e; exact h.2
  ·exact h.1.all i (by omega)
def unl (listed : Array Bool) : Nat -> Nat
 | 0 => 0
 | n + 1 => unl listed n + if listed.getD n true = false then 1 else 0
theorem ypo (listed : Array Bool) (i : Nat) : ∀ n, n <= i -> unl (listed.setIfInBounds i true) n = unl listed n
 | 0, _ => rfl
 | n + 1, h => by rw [unl, unl, ypo listed i n (by omega), getD_set_ne true (by omega)]
theorem ykq (listed : Array Bool) (i : Nat) (h : listed.getD i true = false) : ∀ n, i < n -> unl (listed.setIfInBounds i true) n + 1 = unl listed n
 | 0, hi => absurd hi (Nat.not_lt_zero _)
 | n + 1, hi => by
  rw [unl, unl]
  by_cases e : i = n
  ·subst e
   have h1 : (listed.setIfInBounds i true).getD i true = true := by
    rcases Nat.lt_or_ge i listed.size with h' | h'
    ·simp [h']
    ·simp [Array.getElem?_eq_none h'] at h
   rw [ypo listed i i (zN _), if_neg (by rw [h1]; simp), if_pos h]
  ·have := ykq listed i h n (by omega)
   rw [getD_set_ne true e]
   omega
theorem yif (listed : Array Bool) : ∀ n, unl listed n = 0 -> ∀ i, i < n -> listed.getD i true = true
 | 0, _, i, hi => absurd hi (Nat.not_lt_zero _)
 | n + 1, h, i, hi => by
  rw [unl] at h
  by_cases e : i = n
  ·subst e
   cases hl : listed.getD i true with
   | true => rfl
   | false => rw [if_pos hl] at h; omega
  ·exact yif listed n (by omega) i (by omega)
theorem ykr (listed : Array Bool) : ∀ n, 0 < unl listed n -> ∃ i, i < n /\ listed.getD i true = false
 | 0, h => absurd h (Nat.lt_irrefl _)
 | n + 1, h => by
  rw [unl] at h
  by_cases hl : listed.getD n true = false
  ·exact ⟨n, by omega, hl⟩
  ·rw [if_neg hl] at h; obtain ⟨i, hi, hi2⟩ := ykr listed n h; exact ⟨i, by omega, hi2⟩
section
variable {P : Program} {ops : Array Oper} {Q : Exit -> Act -> World -> Prop} {m : Nat}
theorem ylv : ∀ (l : List Oper) (k fuel : Nat) (listed : Array Bool) (a : Act) (w : World), (∀ j, l[j]? = ops[k + j]?) -> l.length <= fuel →
  Region.seqB .any ops l.length k listed = true -> wpList P ops Q l a w -> wpAny P .any ops Q fuel listed a w
 | [], k, fuel, listed, a, w, hl, hf, hB, h => by
  have hr : Region.ready .any ops listed = [] := by simpa [Region.seqB] using hB
  cases fuel with
  | zero => exact ⟨hr, h⟩
  | succ f => exact ⟨fun _ => h, fun i hi => by rw [hr] at hi; cases hi⟩
 | o :: l, k, fuel, listed, a, w, hl, hf, hB, h => by
  have h0 : ops[k]? = some o := by simpa using (hl 0).symm
  simp only [List.length_cons, Region.seqB, Bool.and_eq_true, decide_eq_true_eq] at hB hf; obtain ⟨f, rfl⟩ : ∃ f, fuel = f + 1 := ⟨fuel - 1, by omega⟩
  refine ⟨fun h1 => (by rw [hB.1] at h1; cases h1), fun i hi => ?_⟩
  rw [hB.1] at hi
  have hik : i = k := by simpa using hi
  subst hik
  have hw : wpOp P ops Q i (wpList P ops Q l) a w := by unfold wpOp; simp only [h0]; exact h
  refine wpOp_mono (fun a' w' h' => ylv l (i + 1) f _ a' w' (fun j => ?_) (by omega) hB.2 h') hw
  have := hl (j + 1)
  simpa [Nat.add_assoc, Nat.add_comm 1 j] using this
def backB (ops : Array Oper) : Bool := (List.range ops.size).all fun i => ((ops[i]?).map (·.after.all fun e => !Region.binds .any e || decide (e.on < i))).getD true
theorem yet {listed : Array Bool} (hb : backB ops = true) (hl : listed.size = ops.size) : ∀ (n i : Nat), i < n -> i < ops.size -> listed.getD i true = false -> ∃ j, j ∈ Region.ready .any ops listed
 | 0, i, hi, _, _ => absurd hi (Nat.not_lt_zero _)
 | n + 1, i, hi, his, hun => by
  by_cases hr : i ∈ Region.ready .any ops listed
  ·exact ⟨i, hr⟩
  ·obtain ⟨o, ho⟩ : ∃ o, ops[i]? = some o := ⟨_, Array.getElem?_eq_getElem his⟩
   have hback : ∀ e ∈ o.after, Region.binds .any e = true -> e.on < i := by
    have h1 := List.all_eq_true.1 hb i (List.mem_range.2 his); rw [ho] at h1; simp only [Option.map_some, Option.getD_some] at h1; intro e he hbi
    have := Array.all_eq_true_iff_forall_mem.1 h1 e he
    simpa [hbi] using this
   have hex : ∃ e ∈ o.after, Region.binds .any e = true /\ listed.getD e.on false = false := by
    apply Classical.byContradiction
    intro hno; refine hr (mem_ready.2 ⟨hun, o, ho, fun e he hbi => ?_⟩)
    cases hl2 : listed.getD e.on false with
    | true => rfl
    | false => exact absurd ⟨e, he, hbi, hl2⟩ hno
   obtain ⟨e, he, hbi, hl2⟩ := hex; have hlt := hback e he hbi; exact yet hb hl n e.on (by omega) (by omega) (getD_in (by omega) hl2)
def anyOk (ops : Array Oper) (m : Nat) (ds : List Nat) : Bool :=
 backB ops && Region.sinkB .any ops m && Region.chainB .any ops m && decide (m < ops.size) && decide ds.Nodup && decide (ds.length = m) && Region.seqB .any ops (ops.toList.drop m).length m (Array.replicate m true ++ Array.replicate (ops.size - m) false)
def OpIs (P : Program) (ops : Array Oper) (Q : Exit -> Act -> World -> Prop) (ts : Array Value) (df : List Deferred) (ds : List Nat) (Vs : List SV) (w : World) (i : Nat) : Prop :=
 ∀ o, ops[i]? = some o -> ∀ (vs : Nat -> Value) (w1 : World), Below w.heap.size w w1 -> (∀ j, Region.waitsFor .any ops i j = true -> (Vs.getD j SV.any).p (vs j) w1) →
  ∀ K : Act -> World -> Prop, (∀ v w2, (Vs.getD i SV.any).p v w2 -> Below w1.heap.size w1 w2 -> K ⟨(frameV ts ds vs 0).setIfInBounds (ds.getD i 0) v, df⟩ w2) →
   if Region.wanted o (yielded ops (frameV ts ds vs 0)) = true then Oper.wp P o ⟨frameV ts ds vs 0, df⟩ w1 K Q else K (Act.put ⟨frameV ts ds vs 0, df⟩ o.dst undef) w1
theorem OpIs.mk {ts : Array Value} {df : List Deferred} {ds : List Nat} {Vs : List SV} {w : World} {i : Nat} {o : Oper} (ho : ops[i]? = some o)
  (h : ∀ (vs : Nat -> Value) (w1 : World), Below w.heap.size w w1 -> (∀ j, Region.waitsFor .any ops i j = true -> (Vs.getD j SV.any).p (vs j) w1) →
  ∀ K : Act -> World -> Prop, (∀ v w2, (Vs.getD i SV.any).p v w2 -> Below w1.heap.size w1 w2 -> K ⟨(frameV ts ds vs 0).setIfInBounds (ds.getD i 0) v, df⟩ w2) →
   if Region.wanted o (yielded ops (frameV ts ds vs 0)) = true then Oper.wp P o ⟨frameV ts ds vs 0, df⟩ w1 K Q else K (Act.put ⟨frameV ts ds vs 0, df⟩ o.dst undef) w1) : OpIs P ops Q ts df ds Vs w i := fun o' ho' => by
 have : o = o' := Option.some.inj (ho.symm.trans ho')
 subst this; exact h
theorem any_go {ts : Array Value} {df : List Deferred} {ds : List Nat} {Vs : List SV} {w : World} (hbk : backB ops = true) (hs : Region.sinkB .any ops m = true) (hc : Region.chainB .any ops m = true) (hlt : m < ops.size) (hn : ds.Nodup) (hdl : ds.length = m)
  (hq : Region.seqB .any ops (ops.toList.drop m).length m (Array.replicate m true ++ Array.replicate (ops.size - m) false) = true)
  (hop : ∀ i, i < m -> OpIs P ops Q ts df ds Vs w i)
  (hend : ∀ (vs : Nat -> Value) (w1 : World), Below w.heap.size w w1 -> (∀ j, j < m -> (Vs.getD j SV.any).p (vs j) w1) -> wpList P ops Q (ops.toList.drop m) ⟨frameV ts ds vs 0, df⟩ w1) :
  ∀ (u fuel : Nat) (listed : Array Bool) (vs : Nat -> Value) (w1 : World), unl listed m = u -> u + (ops.size - m) <= fuel -> HeadInv .any ops m listed -> Below w.heap.size w w1 →
   (∀ j, j < m -> listed.getD j false = true -> (Vs.getD j SV.any).p (vs j) w1) -> wpAny P .any ops Q fuel listed ⟨frameV ts ds vs 0, df⟩ w1 := by
 intro u
 induction u with
 | zero =>
  intro fuel listed vs w1 hu hf inv hb hv; have hall := yif listed m hu
  have hlisted : listed = Array.replicate m true ++ Array.replicate (ops.size - m) false := by
   apply Array.ext
   ·rw [inv.size]; simp; omega
   ·intro i h1 h2; rw [inv.size] at h1
    rcases Nat.lt_or_ge i m with hi | hi
    ·rw [Array.getElem_append_left (by simpa using hi)]
     have := hall i hi
     simp [Array.getD, inv.size, h1] at this
     simpa using this
    ·rw [Array.getElem_append_right (by simpa using hi)]
     have := inv.tail i hi h1
     simp [Array.getD, inv.size, h1] at this
     simpa using this
  refine ylv (ops.toList.drop m) m fuel listed _ w1 (fun j => by simp [List.getElem?_drop]) (by simp; omega) (by rw [hlisted]; exact hq) ?_
  refine hend vs w1 hb fun j hj => hv j hj ?_
  have := hall j hj
  simp [Array.getD, inv.size, show j < ops.size by omega] at this |-
  exact this
 | succ u ih =>
  intro fuel listed vs w1 hu hf inv hb hv; obtain ⟨i0, hi0, hun0⟩ := ykr listed m (by omega)
  obtain ⟨f, rfl⟩ : ∃ f, fuel = f + 1 := ⟨fuel - 1, by omega⟩
  have hlow : ∀ t ∈ Region.ready .any ops listed, t < m := fun t ht => by
   rcases Nat.lt_or_ge t m with h | h
   ·exact h
   ·exact absurd ht (tail_waits hs hc hlt inv _ i0 rfl hi0 hun0 t h)
  have hne : Region.ready .any ops listed ≠ [] := by
   intro hr; obtain ⟨j, hj⟩ := yet hbk inv.size (i0 + 1) i0 (by omega) (by omega) hun0
   rw [hr] at hj
   cases hj
  refine ⟨fun h => absurd h hne, fun i hi => ?_⟩
  have him := hlow i hi; obtain ⟨hun, o, ho, hall⟩ := mem_ready.1 hi; refine wpOp_step ho fun K hK => ?_
  have hwait : ∀ j, Region.waitsFor .any ops i j = true -> listed.getD j false = true := fun j hj => by
   obtain ⟨oj, hoj, e, he, hb2, hon⟩ := Region.waitsFor_spec hj
   have : oj = o := Option.some.inj (hoj.symm.trans ho)
   subst this; rw [<- hon]; exact hall e he hb2
  refine hop i him o ho vs w1 hb (fun j hj => ?_) K fun v w2 hv2 hb2 => hK _ _ ?_
  ·have hjl := hwait j hj
   rcases Nat.lt_or_ge j m with h | h
   ·exact hv j h hjl
   ·exfalso
    rcases Nat.lt_or_ge j ops.size with h' | h'
    ·have := inv.tail j h h'
     rw [getD_both this] at hjl
     cases hjl
    ·simp [Array.getD, inv.size, show ¬ j < ops.size by omega] at hjl
  ·have hdi : ds[i]? = some (ds.getD i 0) := by
    rw [List.getD_eq_getElem?_getD, List.getElem?_eq_getElem (by omega)]; rfl
   have := yfb (ts := ts) (v := v) (i := i) ds (vs := vs) 0 i hn hdi (by omega)
   rw [<- this]; refine ih f _ (upd vs i v) w2 (by have := ykq listed i hun m him; omega) (by omega) (inv.set hi him) (hb.trans (hb2.mono hb.size)) fun j hj hl => ?_
   unfold upd
   by_cases e : j = i
   ·subst e; rw [if_pos rfl]; exact hv2
   ·rw [if_neg e]; rw [getD_set_ne false (Ne.symm e)] at hl; exact (Vs.getD j SV.any).st _ _ _ (hv j hj hl) hb2
theorem yaj {id : Nat} {ts : Array Value} {df : List Deferred} {w : World} (ds : List Nat) (Vs : List SV) (hm : P.follows .mixedOrders = true) (hok : anyOk ops m ds = true)
  (hop : AllB (OpIs P ops Q ts df ds Vs w) m)
  (hend : ∀ (vs : Nat -> Value) (w1 : World), Below w.heap.size w w1 -> (∀ j, j < m -> (Vs.getD j SV.any).p (vs j) w1) -> wpList P ops Q (ops.toList.drop m) ⟨frameV ts ds vs 0, df⟩ w1) :
  (Code.region id ops true).wp P Q ⟨ts, df⟩ w := by
 simp only [anyOk, Bool.and_eq_true, decide_eq_true_eq] at hok; obtain ⟨⟨⟨⟨⟨⟨h0, h1⟩, h2⟩, h3⟩, h4⟩, h5⟩, h6⟩ := hok; refine wp_region_any hm ?_
 have hstart := yde (ts := ts) ds (fun i => ts.getD (ds.getD i 0) undef) 0 fun j d hd => by
  rw [Nat.zero_add, List.getD_eq_getElem?_getD, hd]; rfl
 have hgo := any_go h0 h1 h2 h3 h4 h5 h6 hop.all hend (unl (Array.replicate ops.size false) m) ops.size (Array.replicate ops.size false) (fun i => ts.getD (ds.getD i 0) undef) w.drew rfl ?_ ?_ ((zR _ w).drew) ?_
 ·rw [hstart] at hgo; exact hgo
 ·have hle : ∀ n, unl (Array.replicate ops.size false) n <= n := by
   intro n
   induction n with
   | zero => exact zN _
   | succ n ih => rw [unl]; split <;> omega
  have := hle m
  omega
 ·exact ⟨by simp, (fun j oj _ hl => absurd hl (by rw [getD_replicate_false]; exact Bool.false_ne_true)), (fun t _ ht' => by simp [ht'])⟩
 ·intro j _ hl; exact absurd hl (by rw [getD_replicate_false]; exact Bool.false_ne_true)
end
end Go.Proofs.YteibnfeokgibmaaGreat
end
namespace Go.Proofs.YteibnfeokgibmaaGreat
open Go.RowKit
def q4 (x : Nat) : List Value := [.int .i64 ((x / 65536 : Nat) : Int), .int .i64 ((x / 256 % 256 : Nat) : Int), .int .i64 ((x / 2 % 128 : Nat) : Int), .bool (decide (x % 2 = 1))]
def qcells (l : List Nat) : List Value := l.flatMap q4
theorem yht (a b : List Nat) : qcells (a ++ b) = qcells a ++ qcells b := by simp [qcells]
theorem yak (x : Nat) (t : List Nat) : qcells (x :: t) = q4 x ++ qcells t := rfl
theorem yck (l : List Nat) : (qcells l).length = l.length * 4 := by
 induction l with
 | nil => rfl
 | cons p t ih => rw [yak, List.length_append, ih]; simp [q4]; omega
theorem yoc (l : List Nat) : ∀ u ∈ qcells l, u.oneCell' = true := by
 intro u hu; obtain ⟨x, _, hx⟩ := List.mem_flatMap.1 hu
 simp [q4] at hx
 rcases hx with rfl | rfl | rfl | rfl <;> rfl
theorem yqp {l : List Nat} {k x : Nat} (h : l[k]? = some x) : (qcells l)[k * 4]? = some (.int .i64 ((x / 65536 : Nat) : Int)) /\ (qcells l)[k * 4 + 1]? = some (.int .i64 ((x / 256 % 256 : Nat) : Int)) /\ (qcells l)[k * 4 + 2]? = some (.int .i64 ((x / 2 % 128 : Nat) : Int)) /\ (qcells l)[k * 4 + 3]? = some (.bool (decide (x % 2 = 1))) := by
 induction l generalizing k with
 | nil => simp at h
 | cons y t ih =>
  cases k with
  | zero => simp at h; subst h; exact ⟨rfl, rfl, rfl, rfl⟩
  | succ k =>
   obtain ⟨h1, h2, h3, h4⟩ := ih (k := k) (by simpa using h)
   rw [yak]
   have hl : (q4 y).length = 4 := rfl
   refine ⟨?_, ?_, ?_, ?_⟩
   all_goals rw [List.getElem?_append_right (by rw [hl]; omega), hl]
   ·rw [show (k + 1) * 4 - 4 = k * 4 by omega]; exact h1
   ·rw [show (k + 1) * 4 + 1 - 4 = k * 4 + 1 by omega]; exact h2
   ·rw [show (k + 1) * 4 + 2 - 4 = k * 4 + 2 by omega]; exact h3
   ·rw [show (k + 1) * 4 + 3 - 4 = k * 4 + 3 by omega]; exact h4
def RdQ (F : Nat -> Prop) (w : World) (v : Value) (l : List Nat) : Prop := RdF F w v l.length (qcells l)
def OwnQ (B : Nat) (w : World) (v : Value) (l : List Nat) : Prop := w.ownsRow B 77 4 v l.length (qcells l)
theorem RdQ.below {F : Nat -> Prop} {B : Nat} {w w' : World} {v : Value} {l : List Nat} (h : RdQ F w v l) (hb : Below B w w') (hB : w.heap.size <= B) : RdQ F w' v l := RdF.below h hb hB
theorem RdQ.form {F : Nat -> Prop} {w : World} {v : Value} {l : List Nat} (h : RdQ F w v l) : ∃ A c, v = .slice A l.length c := RdF.form h
theorem OwnQ.rd {B : Nat} {F : Nat -> Prop} {w : World} {v : Value} {l : List Nat} (h : OwnQ B w v l) (hF : ∀ g, B <= g -> F g) : RdQ F w v l := RdF.of_own h hF
theorem OwnQ.form {B : Nat} {w : World} {v : Value} {l : List Nat} (h : OwnQ B w v l) : ∃ A c, v = .slice A l.length c := by
 obtain ⟨A, c, e, _⟩ := R4.yah h; exact ⟨A, c, e⟩
theorem RdQ.at {F : Nat -> Prop} {w : World} {A : Option Addr} {n c : Nat} {l : List Nat} (h : RdQ F w (.slice A n c) l) {k : Nat} {x : Nat} (hk : l[k]? = some x) : ∃ g o : Nat, A = some ⟨g, o, none⟩ /\ w.cell? ⟨g, o + k * 4, none⟩ = some (.int .i64 ((x / 65536 : Nat) : Int)) ∧
  w.cell? ⟨g, o + k * 4 + 1, none⟩ = some (.int .i64 ((x / 256 % 256 : Nat) : Int)) /\ w.cell? ⟨g, o + k * 4 + 2, none⟩ = some (.int .i64 ((x / 2 % 128 : Nat) : Int)) /\ w.cell? ⟨g, o + k * 4 + 3, none⟩ = some (.bool (decide (x % 2 = 1))) := by
 have := (List.getElem?_eq_some_iff.1 hk).1
 obtain ⟨g, o, e, _, hx⟩ := RdF.base h (by omega)
 obtain ⟨h1, h2, h3, h4⟩ := yqp hk; exact ⟨g, o, e, hx _ _ h1, by rw [Nat.add_assoc]; exact hx _ _ h2, by rw [Nat.add_assoc]; exact hx _ _ h3, by rw [Nat.add_assoc]; exact hx _ _ h4⟩
theorem q4_mk {p s t : Nat} (hp : p < 65536) (hs : s < 256) (ht : t < 128) : q4 (E3.mk p s t 0) = [.int .i64 (p : Int), .int .i64 (s : Int), .int .i64 (t : Int), .bool false] := by
 unfold q4 E3.mk; rw [show (p * 65536 + s * 256 + t * 2 + 0) / 65536 = p by omega, show (p * 65536 + s * 256 + t * 2 + 0) / 256 % 256 = s by omega, show (p * 65536 + s * 256 + t * 2 + 0) / 2 % 128 = t by omega, show decide ((p * 65536 + s * 256 + t * 2 + 0) % 2 = 1) = false by simp; omega]
def SamS (g1 o1 g2 o2 : Nat) (x p s t : Int) (v : Bool) (wr w' : World) : Prop :=
 w'.cell? ⟨g1, o1, none⟩ = some (.int .u32 x) /\ w'.cell? ⟨g2, o2, none⟩ = some (.int .i64 p) /\ w'.cell? ⟨g2, o2 + 1, none⟩ = some (.int .i64 s) /\ w'.cell? ⟨g2, o2 + 2, none⟩ = some (.int .i64 t) /\ w'.cell? ⟨g2, o2 + 3, none⟩ = some (.bool v) /\ Below wr.heap.size wr w'
theorem SamS.call {g1 o1 g2 o2 : Nat} {x p s t : Int} {v : Bool} {wr w1 w2 : World} (hb : Below w1.heap.size w1 w2) (h : SamS g1 o1 g2 o2 x p s t v wr w1) : SamS g1 o1 g2 o2 x p s t v wr w2 :=
 ⟨yac hb h.1, yac hb h.2.1, yac hb h.2.2.1, yac hb h.2.2.2.1, yac hb h.2.2.2.2.1, h.2.2.2.2.2.trans (hb.mono h.2.2.2.2.2.size)⟩
attribute [local go_sem ↓] Go.wp_at_zero Go.wp_at_succ
end Go.Proofs.YteibnfeokgibmaaGreat
