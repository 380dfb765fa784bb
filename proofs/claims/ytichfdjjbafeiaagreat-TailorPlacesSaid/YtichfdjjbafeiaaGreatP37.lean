/-
  PACKED for a claim.
-/
import Derived.Test.YtichfdjjbafeiaaGreatP35
set_option linter.unusedVariables false
set_option linter.unusedSimpArgs false
set_option maxRecDepth 100000
section
namespace Go.Proofs.YtichfdjjbafeiaaGreat
open Go.RowKit
section
variable {P : Program} {ops : Array Oper} {Q : Exit -> Act -> World -> Prop} {m : Nat}
def seqLB (ops : Array Oper) : List Nat -> Array Bool -> Bool
 | [], listed => (Region.ready .any ops listed).isEmpty
 | k :: l, listed => decide (Region.ready .any ops listed = [k]) && seqLB ops l (listed.setIfInBounds k true)
theorem ynb : ∀ (l : List Nat) (fuel : Nat) (listed : Array Bool) (a : Act) (w : World), (∀ k ∈ l, k < ops.size) -> l.length <= fuel →
  seqLB ops l listed = true -> wpList P ops Q (l.filterMap fun k => ops[k]?) a w -> wpAny P .any ops Q fuel listed a w
 | [], fuel, listed, a, w, hl, hf, hB, h => by
  have hr : Region.ready .any ops listed = [] := by simpa [seqLB] using hB
  cases fuel with
  | zero => exact ⟨hr, h⟩
  | succ f => exact ⟨fun _ => h, fun i hi => by rw [hr] at hi; cases hi⟩
 | k :: l, fuel, listed, a, w, hl, hf, hB, h => by
  have hk := hl k (by simp)
  have h0 : ops[k]? = some ops[k] := Array.getElem?_eq_getElem hk
  simp only [List.length_cons, seqLB, Bool.and_eq_true, decide_eq_true_eq] at hB hf; obtain ⟨f, rfl⟩ : ∃ f, fuel = f + 1 := ⟨fuel - 1, by omega⟩
  refine ⟨fun h1 => (by rw [hB.1] at h1; cases h1), fun i hi => ?_⟩
  rw [hB.1] at hi
  have hik : i = k := by simpa using hi
  subst hik; rw [List.filterMap_cons, h0] at h
  have hw : wpOp P ops Q i (wpList P ops Q (l.filterMap fun k => ops[k]?)) a w := by unfold wpOp; simp only [h0]; exact h
  exact wpOp_mono (fun a' w' h' => ynb l f _ a' w' (fun j hj => hl j (by simp [hj])) (by omega) hB.2 h') hw
def restL (m n x : Nat) : List Nat := x :: (List.range n).map fun j => m + 1 + j
def anyxOk (ops : Array Oper) (m x : Nat) (ds : List Nat) : Bool :=
 backB ops && ((List.range m).all fun i => i == x || Region.waitsFor .any ops m i) && Region.chainB .any ops m && decide (m < ops.size) && decide ds.Nodup && decide (ds.length = m) && Region.seqB .any ops (ops.toList.drop m).length m (Array.replicate m true ++ Array.replicate (ops.size - m) false) && decide (x < m) &&
  seqLB ops (restL m (ops.size - (m + 1)) x) (((Array.replicate m true ++ Array.replicate (ops.size - m) false).setIfInBounds x false).setIfInBounds m true)
theorem yoo (hc : Region.chainB .any ops m = true) {listed : Array Bool} (inv : HeadInv .any ops m listed) {t : Nat} (ht : t ∈ Region.ready .any ops listed) (hm : m <= t) : t = m := by
 obtain ⟨hun, o, ho, hall⟩ := mem_ready.1 ht
 have hts : t < ops.size := (Array.getElem?_eq_some_iff.1 ho).1
 rcases Nat.lt_or_ge m t with h | h
 ·exfalso
  have h1 := List.all_eq_true.1 hc t (List.mem_range.2 hts); simp only [Bool.or_eq_true, decide_eq_true_eq] at h1
  rcases h1 with h1 | h1
  ·omega
  ·obtain ⟨o', ho', e, he, hb, hon⟩ := Region.waitsFor_spec h1
   have : o' = o := Option.some.inj (ho'.symm.trans ho)
   subst this; have h2 := hall e he hb; rw [hon] at h2; have h3 := inv.tail (t - 1) (by omega) (by omega)
   rw [getD_both h3] at h2
   cases h2
 ·omega
theorem yyh {ts : Array Value} {df : List Deferred} {ds : List Nat} {Vs : List SV} {w : World} {x : Nat} (hx : x < m) (hbk : backB ops = true) (hw : ∀ i, i < m -> i ≠ x -> Region.waitsFor .any ops m i = true) (hc : Region.chainB .any ops m = true) (hlt : m < ops.size) (hn : ds.Nodup) (hdl : ds.length = m)
  (hq : Region.seqB .any ops (ops.toList.drop m).length m (Array.replicate m true ++ Array.replicate (ops.size - m) false) = true)
  (hqx : seqLB ops (restL m (ops.size - (m + 1)) x) (((Array.replicate m true ++ Array.replicate (ops.size - m) false).setIfInBounds x false).setIfInBounds m true) = true)
  (hop : ∀ i, i < m -> OpIs P ops Q ts df ds Vs w i)
  (hend : ∀ (vs : Nat -> Value) (w1 : World), Below w.heap.size w w1 -> (∀ j, j < m -> (Vs.getD j SV.any).p (vs j) w1) -> wpList P ops Q (ops.toList.drop m) ⟨frameV ts ds vs 0, df⟩ w1)
  (hexc : ∀ (vs : Nat -> Value) (w1 : World), Below w.heap.size w w1 -> (∀ j, j < m -> j ≠ x -> (Vs.getD j SV.any).p (vs j) w1) -> wpList P ops Q ((m :: restL m (ops.size - (m + 1)) x).filterMap fun k => ops[k]?) ⟨frameV ts ds vs 0, df⟩ w1) :
  ∀ (u fuel : Nat) (listed : Array Bool) (vs : Nat -> Value) (w1 : World), unl listed m = u -> u + (ops.size - m) <= fuel -> HeadInv .any ops m listed -> Below w.heap.size w w1 →
   (∀ j, j < m -> listed.getD j false = true -> (Vs.getD j SV.any).p (vs j) w1) -> wpAny P .any ops Q fuel listed ⟨frameV ts ds vs 0, df⟩ w1 := by
 intro u
 induction u with
 | zero =>
  intro fuel listed vs w1 hu hf inv hb hv; have hall := yhz listed m hu
  have hlisted : listed = Array.replicate m true ++ Array.replicate (ops.size - m) false := by
   apply Array.ext
   ·rw [inv.size]; simp; omega
   ·intro i h1 h2; rw [inv.size] at h1
    rcases Nat.lt_or_ge i m with hi | hi
    ·rw [Array.getElem_append_left (by simpa using hi)]
     have := hall i hi
     simp [Array.getD, inv.size, h1] at this
     simpa using this
    ·rw [Array.getElem_append_right (by simpa using hi)]
     have := inv.tail i hi h1
     simp [Array.getD, inv.size, h1] at this
     simpa using this
  refine yll (ops.toList.drop m) m fuel listed _ w1 (fun j => by simp [List.getElem?_drop]) (by simp; omega) (by rw [hlisted]; exact hq) ?_
  refine hend vs w1 hb fun j hj => hv j hj ?_
  have := hall j hj
  simp [Array.getD, inv.size, show j < ops.size by omega] at this |-
  exact this
 | succ u ih =>
  intro fuel listed vs w1 hu hf inv hb hv; obtain ⟨i0, hi0, hun0⟩ := ykf listed m (by omega)
  obtain ⟨f, rfl⟩ : ∃ f, fuel = f + 1 := ⟨fuel - 1, by omega⟩
  have hne : Region.ready .any ops listed ≠ [] := by
   intro hr; obtain ⟨j, hj⟩ := yew hbk inv.size (i0 + 1) i0 (by omega) (by omega) hun0
   rw [hr] at hj
   cases hj
  refine ⟨fun h => absurd h hne, fun i hi => ?_⟩
  obtain ⟨hun, o, ho, hall⟩ := mem_ready.1 hi
  have hwait : ∀ j, Region.waitsFor .any ops i j = true -> listed.getD j false = true := fun j hj => by
   obtain ⟨oj, hoj, e, he, hb2, hon⟩ := Region.waitsFor_spec hj
   have : oj = o := Option.some.inj (hoj.symm.trans ho)
   subst this; rw [<- hon]; exact hall e he hb2
  rcases Nat.lt_or_ge i m with him | him
  ·refine wpOp_step ho fun K hK => ?_
   refine hop i him o ho vs w1 hb (fun j hj => ?_) K fun v w2 hv2 hb2 => hK _ _ ?_
   ·have hjl := hwait j hj
    rcases Nat.lt_or_ge j m with h | h
    ·exact hv j h hjl
    ·exfalso
     rcases Nat.lt_or_ge j ops.size with h' | h'
     ·have := inv.tail j h h'
      rw [getD_both this] at hjl
      cases hjl
     ·simp [Array.getD, inv.size, show ¬ j < ops.size by omega] at hjl
   ·have hdi : ds[i]? = some (ds.getD i 0) := by
     rw [List.getD_eq_getElem?_getD, List.getElem?_eq_getElem (by omega)]; rfl
    have := yfd (ts := ts) (v := v) (i := i) ds (vs := vs) 0 i hn hdi (by omega)
    rw [<- this]; refine ih f _ (upd vs i v) w2 (by have := yke listed i hun m him; omega) (by omega) (inv.set hi him) (hb.trans (hb2.mono hb.size)) fun j hj hl => ?_
    unfold upd
    by_cases e : j = i
    ·subst e; rw [if_pos rfl]; exact hv2
    ·rw [if_neg e]; rw [getD_set_ne false (Ne.symm e)] at hl; exact (Vs.getD j SV.any).st _ _ _ (hv j hj hl) hb2
  ·obtain rfl := yoo hc inv hi him
   have hlst : ∀ j, j < i -> j ≠ x -> listed.getD j false = true := fun j hj hjx => hwait j (hw j hj hjx)
   have hxun : listed.getD x true = false := by
    by_cases e : i0 = x
    ·subst e; exact hun0
    ·have := hlst i0 hi0 e
     rw [getD_both hun0] at this
     cases this
   have hlisted : listed = (Array.replicate i true ++ Array.replicate (ops.size - i) false).setIfInBounds x false := by
    apply Array.ext
    ·rw [inv.size]; simp; omega
    ·intro j h1 h2; rw [inv.size] at h1; rw [Array.getElem_setIfInBounds (by simp; omega)]
     by_cases e : x = j
     ·subst e; rw [if_pos rfl]
      simpa [Array.getD, inv.size, h1] using hxun
     ·rw [if_neg e]
      rcases Nat.lt_or_ge j i with hi | hi
      ·rw [Array.getElem_append_left (by simpa using hi)]
       have := hlst j hi (Ne.symm e)
       simp [Array.getD, inv.size, h1] at this
       simpa using this
      ·rw [Array.getElem_append_right (by simpa using hi)]
       have := inv.tail j hi h1
       simp [Array.getD, inv.size, h1] at this
       simpa using this
   have hx2 := hexc vs w1 hb fun j hj hjx => hv j hj (hlst j hj hjx)
   rw [List.filterMap_cons, ho] at hx2
   have hw2 : wpOp P ops Q i (wpList P ops Q ((restL i (ops.size - (i + 1)) x).filterMap fun k => ops[k]?)) ⟨frameV ts ds vs 0, df⟩ w1 := by unfold wpOp; simp only [ho]; exact hx2
   refine wpOp_mono (fun a' w' h' => ynb _ f _ a' w' (fun k hk => ?_) ?_ (by rw [hlisted]; exact hqx) h') hw2
   ·unfold restL at hk
    rcases List.mem_cons.1 hk with hk | hk
    ·omega
    ·obtain ⟨j, hj, rfl⟩ := List.mem_map.1 hk
     have := List.mem_range.1 hj
     omega
   ·simp [restL]; omega
theorem yhi (ops : Array Oper) : ∀ n k, n = ops.size - k -> ((List.range n).map fun j => k + j).filterMap (fun j => ops[j]?) = ops.toList.drop k
 | 0, k, h => by rw [List.drop_eq_nil_of_le (by simp; omega)]; rfl
 | n + 1, k, h => by
  have hk : k < ops.size := by omega
  rw [List.range_succ_eq_map, List.map_cons, List.map_map, List.filterMap_cons, Nat.add_zero, Array.getElem?_eq_getElem hk]; have h2 := yhi ops n (k + 1) (by omega)
  rw [List.drop_eq_getElem_cons (by simpa using hk), <- h2]
  simp only [Array.getElem_toList]
  congr 2
  apply List.map_congr_left
  intro j _
  simp; omega
theorem ytk {ops : Array Oper} {m x : Nat} (hm : m < ops.size) (hx : x < m) : (m :: restL m (ops.size - (m + 1)) x).filterMap (fun k => ops[k]?) = (ops.toList.drop m).take 1 ++ (ops.toList.drop x).take 1 ++ ops.toList.drop (m + 1) := by
 have hxs : x < ops.size := by omega
 unfold restL
 rw [List.filterMap_cons, List.filterMap_cons, Array.getElem?_eq_getElem hm, Array.getElem?_eq_getElem hxs, yhi ops _ (m + 1) rfl,
  List.drop_eq_getElem_cons (l := ops.toList) (i := m) (by simpa using hm), List.drop_eq_getElem_cons (l := ops.toList) (i := x) (by simpa using hxs)]
 rfl
theorem yds {id : Nat} {ts : Array Value} {df : List Deferred} {w : World} (x : Nat) (ds : List Nat) (Vs : List SV) (hm : P.follows .mixedOrders = true) (hok : anyxOk ops m x ds = true)
  (hop : AllB (OpIs P ops Q ts df ds Vs w) m)
  (hend : ∀ (vs : Nat -> Value) (w1 : World), Below w.heap.size w w1 -> (∀ j, j < m -> (Vs.getD j SV.any).p (vs j) w1) -> wpList P ops Q (ops.toList.drop m) ⟨frameV ts ds vs 0, df⟩ w1)
  (hexc : ∀ (vs : Nat -> Value) (w1 : World), Below w.heap.size w w1 -> (∀ j, j < m -> j ≠ x -> (Vs.getD j SV.any).p (vs j) w1) -> wpList P ops Q ((ops.toList.drop m).take 1 ++ (ops.toList.drop x).take 1 ++ ops.toList.drop (m + 1)) ⟨frameV ts ds vs 0, df⟩ w1) :
  (Code.region id ops true).wp P Q ⟨ts, df⟩ w := by
 simp only [anyxOk, Bool.and_eq_true, decide_eq_true_eq] at hok; obtain ⟨⟨⟨⟨⟨⟨⟨⟨h0, h1⟩, h2⟩, h3⟩, h4⟩, h5⟩, h6⟩, h7⟩, h8⟩ := hok; refine wp_region_any hm ?_
 have hw : ∀ i, i < m -> i ≠ x -> Region.waitsFor .any ops m i = true := fun i hi hix => by
  have := List.all_eq_true.1 h1 i (List.mem_range.2 hi)
  simpa [hix] using this
 have hstart := ycy (ts := ts) ds (fun i => ts.getD (ds.getD i 0) undef) 0 fun j d hd => by
  rw [Nat.zero_add, List.getD_eq_getElem?_getD, hd]; rfl
 have hgo := yyh h7 h0 hw h2 h3 h4 h5 h6 h8 hop.all hend (fun vs w1 hb hv => by rw [ytk h3 h7]; exact hexc vs w1 hb hv) (unl (Array.replicate ops.size false) m) ops.size (Array.replicate ops.size false) (fun i => ts.getD (ds.getD i 0) undef) w.drew rfl ?_ ?_ ((zR _ w).drew) ?_
 ·rw [hstart] at hgo; exact hgo
 ·have hle : ∀ n, unl (Array.replicate ops.size false) n <= n := by
   intro n
   induction n with
   | zero => exact zN _
   | succ n ih => rw [unl]; split <;> omega
  have := hle m
  omega
 ·exact ⟨by simp, (fun j oj _ hl => absurd hl (by rw [getD_replicate_false]; exact Bool.false_ne_true)), (fun t _ ht' => by simp [ht'])⟩
 ·intro j _ hl; exact absurd hl (by rw [getD_replicate_false]; exact Bool.false_ne_true)
end
end Go.Proofs.YtichfdjjbafeiaaGreat
namespace Go.Proofs.YtichfdjjbafeiaaGreat
open Go.RowKit
set_option maxHeartbeats 1000000 in
theorem at_in {F : Nat -> Prop} {w : World} {p : Nat} {L : List PE} {sv : Value} {ss : List Int} {k : Nat} {l : List Nat} {u : Nat} (h : TabAt F w p L) (hs : RdI anyB w sv ss) (hsg : I64 ss) (hl : ss.length <= 1000000) (hk : k < ss.length) (hR : atP L (ss.drop k) = (l, u)) :
  Calls Tryz.prog 152 #[.pointer (some ⟨p, 0, none⟩), sv, .int .i64 (k : Nat)] w fun r w' => (∃ A n c, r = .returned (.tuple #[.slice A n c, .int .i64 (u : Nat)]) /\ RdE anyB w' (.slice A n c) l) /\ Below w.heap.size w w' := by
 obtain ⟨A, c, rfl⟩ := hs.form; have hcap := (RdF.cap hs).1; obtain ⟨g, o, rfl, -⟩ := RdF.base hs (by omega)
 have HR2 : Hid (RdI anyB w (.slice (some ⟨g, o + k, none⟩) (ss.length - k) (c - k)) (ss.drop k)) := RdI.drop hs (by omega) (fun ad e => by cases e; rw [Addr.add_lit, if_neg (by omega)])
 have HC := zH (ymm hR h HR2.out (by rw [List.length_drop]; omega) (I64.drop hsg k) (by rw [List.length_drop]; omega))
 have hg := yel h.good (ss.drop k); rw [hR] at hg
 have hl8 : l.length <= 8 := hg.1
 have HL8 := zH hl8
 have HLD : Hid ((ss.drop k).length = ss.length - k) := List.length_drop
 have u1 : ¬ (k : Int) < 0 := by omega
 have u2 : ¬ (ss.length : Int) <= (k : Int) := by omega
 have u5 : (k : Int) <= (ss.length : Int) := by omega
 have u3 : (ss.length : Int) <= (c : Int) := by omega
 have u6 : (ss.length : Int) <= 1000000 := by omega
 have u4 : k <= ss.length := by omega
 have u7 : (0 : Int) <= (k : Int) := by omega
 have ub : decide ((k : Int) < 0) = false := decide_eq_false u1
 have ub2 : decide ((ss.length : Int) <= (k : Int)) = false := decide_eq_false u2
 obtain ⟨n, hn⟩ : ∃ n, ss.length = n := ⟨_, rfl⟩; rw [hn] at u2 u5 u3 u6 u4 ub2 HLD HR2 HC; have HLN := zH hn; rw [hn]; clear h hs hsg hR hg hcap hk hn hl hl8
 go_enter Tryz.func152, Tryz.ntmps152
 go_wp2_with (first
  | (go_at_call 53; refine (HC.out).mono ?_; rintro e w2 ⟨⟨A3, c3, rfl, hr⟩, hb⟩; have HRL := zH hr; have HB2 := zH hb; clear hr hb)
  | (go_at_call 35; refine (ydc HRL.out (by have := HL8.out; omega)).mono ?_; rintro q w3 ⟨⟨v3, rfl, ho⟩, hb⟩; have h3 := ho.rd (F := anyB) (fun _ _ => trivial); obtain ⟨A4, c4, rfl⟩ := h3.form; have HR4 := zH h3; have HB4 := zH (HB2.out.trans (hb.mono HB2.out.size)); clear hb ho h3))
 go_ret2
 exact ⟨⟨_, _, _, rfl, HR4.out⟩, HB4.out⟩
end Go.Proofs.YtichfdjjbafeiaaGreat
namespace Go.Proofs.YtichfdjjbafeiaaGreat
open Go.RowKit
theorem yrv {L : List PE} (h : GoodT L) : ∀ (n : Nat) (ss : List Int), ss.length <= n -> ∀ x ∈ elsP L ss, x < 4294967296
 | 0, ss, hn => by
  have : ss = [] := List.eq_nil_of_length_eq_zero (by omega)
  subst this; intro x hx; simp [ycb] at hx
 | n + 1, ss, hn => by
  rcases Nat.eq_zero_or_pos ss.length with h0 | h0
  ·have : ss = [] := List.eq_nil_of_length_eq_zero h0
   subst this; intro x hx; simp [ycb] at hx
  ·intro x hx; have hu := ydj L h0; rw [ycz L h0] at hx
   rcases List.mem_append.1 hx with hx | hx
   ·exact (yel h ss).2 x hx
   ·exact yrv h n (ss.drop (atP L ss).2) (by rw [List.length_drop]; omega) x hx
theorem yss {w : World} {G H : Nat -> Prop} {p : Value} {sv lv : Value} {s : List Int} {l : List Nat} (hs : RdI G w sv s) (hl : RdE H w lv l) (hb : s.length < 1 \/ 3 < s.length \/ 8 < l.length) :
  Calls Tryz.prog 123 #[p, sv, lv] w fun r w' => r = .returned (.tuple #[.pointer none, .int .i64 1]) /\ Below w.heap.size w w' := by
 obtain ⟨A, c, rfl⟩ := hs.form; obtain ⟨A', c', rfl⟩ := hl.form
 by_cases h1 : s.length < 1
 ·have k1 : (s.length : Int) < 1 := by omega
  clear hs hl hb
  go_enter Tryz.func123, Tryz.ntmps123
  go_wp2
  go_ret2
  exact ⟨rfl, zR _ _⟩
 ·have k1 : ¬ (s.length : Int) < 1 := by omega
  have kb : decide ((s.length : Int) < 1) = false := decide_eq_false k1
  by_cases h3 : 3 < s.length
  ·have k3 : (3 : Int) < (s.length : Int) := by omega
   clear hs hl hb
   go_enter Tryz.func123, Tryz.ntmps123
   go_wp2
   go_ret2
   exact ⟨rfl, zR _ _⟩
  ·have k3 : ¬ (3 : Int) < (s.length : Int) := by omega
   have k8 : (8 : Int) < (l.length : Int) := by omega
   clear hs hl hb
   go_enter Tryz.func123, Tryz.ntmps123
   go_wp2
   go_ret2
   exact ⟨rfl, zR _ _⟩
theorem yiz {L : List PE} {s : List Int} {l : List Nat} (hb : s.length < 1 \/ 3 < s.length \/ 8 < l.length) : withE L s l = 1 := by
 unfold withE badA; rw [if_pos]; simp only [Bool.or_eq_true, decide_eq_true_eq]
 rcases hb with hb | hb | hb
 ·exact .inl (.inl (.inl hb))
 ·exact .inl (.inl (.inr hb))
 ·exact .inl (.inr hb)
theorem ylm {F G H : Nat -> Prop} {w : World} {p : Nat} {L : List PE} {sv lv : Value} {s : List Int} {l : List Nat} (hF : ∀ k, w.heap.size <= k -> F k) (h : TabAt F w p L) (hs : RdI G w sv s) (hl : RdE H w lv l) (hlw : ∀ x ∈ l, x < 4294967296) :
  Calls Tryz.prog 123 #[.pointer (some ⟨p, 0, none⟩), sv, lv] w (WithIs F L s l w) := by
 by_cases hb : s.length < 1 \/ 3 < s.length \/ 8 < l.length
 ·refine (yss hs hl hb).mono fun r w' hh => ⟨fun e => ?_, fun _ => ?_, hh.2⟩
  ·rw [yiz hb] at e; cases e
  ·rw [yiz hb]; exact hh.1
 ·exact ysu hF h hs hl hlw (by omega) (by omega)
end Go.Proofs.YtichfdjjbafeiaaGreat
end
namespace Go.Proofs.YtichfdjjbafeiaaGreat
open Go.RowKit
def NW (lv x : Nat) : Prop := lv = 1 \/ wgt lv x < topW lv
end Go.Proofs.YtichfdjjbafeiaaGreat
