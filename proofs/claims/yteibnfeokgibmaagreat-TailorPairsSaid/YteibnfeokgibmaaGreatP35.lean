/-
  PACKED for a claim.
-/
import Derived.Test.YteibnfeokgibmaaGreatP33
set_option linter.unusedVariables false
set_option linter.unusedSimpArgs false
set_option maxRecDepth 100000
namespace Go.Proofs.YteibnfeokgibmaaGreat
open Go.RowKit
theorem ynj {L : List PE} {s : List Int} {k : Nat} {e : PE} (hk : L[k]? = some e) (he : e.1 = s) (h : ∀ j f, j < k -> L[j]? = some f -> f.1 ≠ s) : place L s = some k := by
 induction L generalizing k with
 | nil => simp at hk
 | cons f t ih =>
  rw [yaz]
  cases k with
  | zero => simp at hk; subst hk; rw [if_pos he]
  | succ k =>
   rw [if_neg (h 0 f (Nat.succ_pos _) rfl), ih (by simpa using hk) fun j g hj hg => h (j + 1) g (by omega) (by simpa using hg)]
   rfl
theorem look_at {L : List PE} {s : List Int} {k : Nat} {e : PE} (hk : L[k]? = some e) (he : e.1 = s) (h : ∀ j f, j < k -> L[j]? = some f -> f.1 ≠ s) : look L s = some e.2 := by
 refine ydd (k := k) ?_ hk
 induction L generalizing k with
 | nil => simp at hk
 | cons f t ih =>
  rw [yaz]
  cases k with
  | zero => simp at hk; subst hk; rw [if_pos he]
  | succ k =>
   rw [if_neg (h 0 f (Nat.succ_pos _) rfl), ih (by simpa using hk) fun j g hj hg => h (j + 1) g (by omega) (by simpa using hg)]
   rfl
theorem yzs {L : List PE} {s : List Int} (h : ∀ j f, j < L.length -> L[j]? = some f -> f.1 ≠ s) : look L s = none :=
 ydx (yda.2 fun e he => by
  obtain ⟨j, hj⟩ := List.mem_iff_getElem?.1 he; exact h j e (List.getElem?_eq_some_iff.1 hj).1 hj)
def FoundQ (M : List ME) (L : List PE) (s : List Int) (w : World) (r : Ending) (w' : World) : Prop :=
 (∃ A n c b, r = .returned (.tuple #[.slice A n c, .bool b]) /\ (∀ l, look L s = some l -> b = true /\ RdQ anyB w' (.slice A n c) l /\ ∃ k m, place L s = some k /\ M[k]? = some m /\ m.vl = .slice A n c) /\ (look L s = none -> b = false /\ A = none /\ n = 0 /\ c = 0)) /\ Below w.heap.size w w'
set_option maxHeartbeats 4000000 in
theorem ylk {U G : Nat -> Prop} {w : World} {v sv : Value} {M : List ME} {L : List PE} {s : List Int} (hML : pls M = L) (hM : RdN U w v M) (h : RefU U w v L) (hs : RdI G w sv s) (hL : L.length <= 1000) (hq : ∀ e ∈ L, e.1.length <= 1000) :
  Calls Tryz.prog 141 #[.agg #[v], sv] w (FoundQ M L s w) := by
 obtain ⟨Au, cu, rfl⟩ := h.form; obtain ⟨As, cs, rfl⟩ := hs.form; have hA := yaa w (.cells #[.slice Au L.length cu] 40); have HR := zH (h.below hA (zN _)); have HS := zH (hs.below hA (zN _))
 have hx0 : (w.alloc (.cells #[.slice Au L.length cu] 40)).cell? ⟨w.heap.size, 0, none⟩ = some (.slice Au L.length cu) := by rw [cell_of_row _ _ 0 _ _ _ (heap_alloc_new w _)]; rfl
 have HX := zH hx0; have HB0 := zH hA; have HQ := zH hq; have HM := zH (hM.below hA (zN _)); have HML := zH hML; obtain ⟨n, hn⟩ : ∃ n, L.length = n := ⟨_, rfl⟩; have HN := zH hn; rw [hn] at HR HX HB0 HS HM hL |-
 have hnI : (n : Int) <= 1000 := by omega
 clear h hs hx0 hn hA hq hM hML
 go_enter Tryz.func141, Tryz.ntmps141
 go_wp2
 generalize (w.alloc (.cells #[.slice Au n cu] 40)) = w0 at HR HS HX HB0 HM |-; obtain ⟨bx, hbx⟩ : ∃ b, w.heap.size = b := ⟨_, rfl⟩; rw [hbx] at HX; rw [show (({ block := w.heap.size, off := 0 } : Addr)) = ⟨bx, 0, none⟩ by rw [hbx]]
 clear hbx
 go_loopw [6] (fun i wr => ∃ k : Nat, k <= n /\ i = .int .i64 (k : Nat) /\ Hid (∀ j f, j < k -> L[j]? = some f -> f.1 ≠ s) /\ Hid (Below w0.heap.size w0 wr)) (fun i _ => n - (intOf i).toNat)
 case atStart => exact ⟨0, Nat.zero_le _, rfl, fun j f hj => absurd hj (Nat.not_lt_zero _), zR _ _⟩
 case round =>
  obtain ⟨k, hk, rfl, HA, HB⟩ := hrel; have cx := (HB.out.cell (p := ⟨bx, 0, none⟩) (yaj HX.out)).trans HX.out
  by_cases hlt : k < n
  ·obtain ⟨e, he⟩ : ∃ e, L[k]? = some e := ⟨_, List.getElem?_eq_getElem (by rw [HN.out]; exact hlt)⟩
   obtain ⟨m, hm, hme⟩ : ∃ m, M[k]? = some m /\ m.pl = e := pls_of (by rw [HML.out]; exact he)
   obtain ⟨g, o, rfl, e0, e1, hmq⟩ := (HM.out.below HB.out (zN _)).at hm
   have hqi : RdI anyB wr m.vs e.1 := by rw [<- hme]; exact hmq.ints
   have hqe : RdQ anyB wr m.vl e.2 := by rw [<- hme]; exact hmq.els
   obtain ⟨A4, k4, e4⟩ := hqi.form; obtain ⟨A5, k5, e5⟩ := hqe.form; have HE5 := zH e5; have HMM := zH hm; rw [e4] at e0 hqi; rw [e5] at e1 hqe; clear hm hme hmq e4 e5; have HEE := zH he; have HQI := zH hqi; have HQE := zH hqe; have HSR := zH (HS.out.below HB.out (zN _))
   have HEL : Hid (e.1.length <= 10000000) := by have := HQ.out e (List.mem_of_getElem? he); show _ <= _; omega
   have hkI : (k : Int) < (n : Int) := by omega
   obtain ⟨q, hqq⟩ : ∃ q, (e.1 == s) = q := ⟨_, rfl⟩; have HQQ := zH hqq; clear hqi hqe he hlt hqq
   cases q with
   | true =>
    go_wp2_with (go_at_call 21; refine (yfc HQI.out HSR.out HEL.out HQQ.out).mono ?_; rintro r w3 ⟨rfl, hb3⟩; have cx3 := yab hb3 cx; have e13 := yab hb3 e1; have HE3 := zH (HQE.out.below hb3 (zN _)); have HB3 := zH (HB.out.trans (hb3.mono HB.out.size)); clear hb3 cx e0 e1)
    go_ret2
    have hes : e.1 = s := by have := HQQ.out; simpa using this
    have hlk : look L s = some e.2 := look_at HEE.out hes HA.out
    have hpk : place L s = some k := ynj HEE.out hes HA.out
    exact ⟨⟨_, _, _, _, rfl, fun l hl => (by rw [hlk] at hl; cases hl; exact ⟨rfl, HE3.out, k, m, hpk, HMM.out, HE5.out⟩), fun hl => (by rw [hlk] at hl; cases hl)⟩, HB0.out.trans (HB3.out.mono HB0.out.size)⟩
   | false =>
    go_wp2_with (go_at_call 21; refine (yfc HQI.out HSR.out HEL.out HQQ.out).mono ?_; rintro r w3 ⟨rfl, hb3⟩; have HB3 := zH (HB.out.trans (hb3.mono HB.out.size)); clear hb3 cx e0 e1)
    go_roundw
    case rel => exact ⟨k + 1, by omega, by go_num, fun j f hj hf => (by
     rcases Nat.lt_or_ge j k with hjk | hjk
     ·exact HA.out j f hjk hf
     ·obtain rfl : j = k := by omega
      rw [HEE.out] at hf; cases hf
      have := HQQ.out; simpa using this), HB3.out⟩
    case measure => simp [intOf]; omega
  ·obtain rfl : k = n := by omega
   clear hlt
   go_wp2
   go_ret2
   have hlk : look L s = none := yzs (by rw [HN.out]; exact HA.out)
   exact ⟨⟨_, _, _, _, rfl, fun l hl => (by rw [hlk] at hl; cases hl), fun _ => ⟨rfl, rfl, rfl, rfl⟩⟩, HB0.out.trans (HB.out.mono HB0.out.size)⟩
theorem ytm {U : Nat -> Prop} {w : World} {v : Value} {L : List PE} (s : List Int) (h : RefU U w v L) (hL : L.length <= 1000) (hq : ∀ e ∈ L, e.1.length <= 1000) {b : Bool} (hb : (place L s).isSome = b) :
  ∃ A n c, ∀ (G : Nat -> Prop) (w1 : World) (sv : Value), Below w.heap.size w w1 -> RdI G w1 sv s -> Calls Tryz.prog 141 #[.agg #[v], sv] w1 fun r w' => r = .returned (.tuple #[.slice A n c, .bool b]) /\ Below w1.heap.size w1 w' := by
 have hR := h; obtain ⟨M, hML, hM⟩ := h
 cases hp : place L s with
 | none =>
  rw [hp] at hb; subst hb; refine ⟨none, 0, 0, fun G w1 sv hb1 hs => ?_⟩
  refine (ylk hML (hM.below hb1 (zN _)) (hR.below hb1 (zN _)) hs hL hq).mono fun r w' hh => ?_
  obtain ⟨⟨A, n, c, b', rfl, h1, h2⟩, h3⟩ := hh; obtain ⟨rfl, rfl, rfl, rfl⟩ := h2 (ydx hp); exact ⟨rfl, h3⟩
 | some k =>
  rw [hp] at hb; subst hb; obtain ⟨e, he, hes⟩ := ybr hp; obtain ⟨m, hm, hme⟩ : ∃ m, M[k]? = some m /\ m.pl = e := pls_of (by rw [hML]; exact he)
  obtain ⟨A, c, e5⟩ := (hM.2 m (List.mem_of_getElem? hm)).els.form; refine ⟨A, m.l.length, c, fun G w1 sv hb1 hs => ?_⟩
  refine (ylk hML (hM.below hb1 (zN _)) (hR.below hb1 (zN _)) hs hL hq).mono fun r w' hh => ?_
  obtain ⟨⟨A', n', c', b', rfl, h1, h2⟩, h3⟩ := hh; obtain ⟨rfl, -, k', m', hk', hm', e6⟩ := h1 e.2 (ydd hp he); rw [hp] at hk'; cases hk'
  rw [hm] at hm'; cases hm'
  rw [<- e6, e5]; exact ⟨rfl, h3⟩
end Go.Proofs.YteibnfeokgibmaaGreat
namespace Go.Proofs.YteibnfeokgibmaaGreat
open Go.RowKit
section
variable {P : Program} {ops : Array Oper} {Q : Exit -> Act -> World -> Prop} {m : Nat}
def seqLB (ops : Array Oper) : List Nat -> Array Bool -> Bool
 | [], listed => (Region.ready .any ops listed).isEmpty
 | k :: l, listed => decide (Region.ready .any ops listed = [k]) && seqLB ops l (listed.setIfInBounds k true)
theorem ypv : ∀ (l : List Nat) (fuel : Nat) (listed : Array Bool) (a : Act) (w : World), (∀ k ∈ l, k < ops.size) -> l.length <= fuel →
  seqLB ops l listed = true -> wpList P ops Q (l.filterMap fun k => ops[k]?) a w -> wpAny P .any ops Q fuel listed a w
 | [], fuel, listed, a, w, hl, hf, hB, h => by
  have hr : Region.ready .any ops listed = [] := by simpa [seqLB] using hB
  cases fuel with
  | zero => exact ⟨hr, h⟩
  | succ f => exact ⟨fun _ => h, fun i hi => by rw [hr] at hi; cases hi⟩
 | k :: l, fuel, listed, a, w, hl, hf, hB, h => by
  have hk := hl k (by simp)
  have h0 : ops[k]? = some ops[k] := Array.getElem?_eq_getElem hk
  simp only [List.length_cons, seqLB, Bool.and_eq_true, decide_eq_true_eq] at hB hf; obtain ⟨f, rfl⟩ : ∃ f, fuel = f + 1 := ⟨fuel - 1, by omega⟩
  refine ⟨fun h1 => (by rw [hB.1] at h1; cases h1), fun i hi => ?_⟩
  rw [hB.1] at hi
  have hik : i = k := by simpa using hi
  subst hik; rw [List.filterMap_cons, h0] at h
  have hw : wpOp P ops Q i (wpList P ops Q (l.filterMap fun k => ops[k]?)) a w := by unfold wpOp; simp only [h0]; exact h
  exact wpOp_mono (fun a' w' h' => ypv l f _ a' w' (fun j hj => hl j (by simp [hj])) (by omega) hB.2 h') hw
def restL (m n x : Nat) : List Nat := x :: (List.range n).map fun j => m + 1 + j
def anyxOk (ops : Array Oper) (m x : Nat) (ds : List Nat) : Bool :=
 backB ops && ((List.range m).all fun i => i == x || Region.waitsFor .any ops m i) && Region.chainB .any ops m && decide (m < ops.size) && decide ds.Nodup && decide (ds.length = m) && Region.seqB .any ops (ops.toList.drop m).length m (Array.replicate m true ++ Array.replicate (ops.size - m) false) && decide (x < m) &&
  seqLB ops (restL m (ops.size - (m + 1)) x) (((Array.replicate m true ++ Array.replicate (ops.size - m) false).setIfInBounds x false).setIfInBounds m true)
theorem yrs (hc : Region.chainB .any ops m = true) {listed : Array Bool} (inv : HeadInv .any ops m listed) {t : Nat} (ht : t ∈ Region.ready .any ops listed) (hm : m <= t) : t = m := by
 obtain ⟨hun, o, ho, hall⟩ := mem_ready.1 ht
 have hts : t < ops.size := (Array.getElem?_eq_some_iff.1 ho).1
 rcases Nat.lt_or_ge m t with h | h
 ·exfalso
  have h1 := List.all_eq_true.1 hc t (List.mem_range.2 hts); simp only [Bool.or_eq_true, decide_eq_true_eq] at h1
  rcases h1 with h1 | h1
  ·omega
  ·obtain ⟨o', ho', e, he, hb, hon⟩ := Region.waitsFor_spec h1
   have : o' = o := Option.some.inj (ho'.symm.trans ho)
   subst this; have h2 := hall e he hb; rw [hon] at h2; have h3 := inv.tail (t - 1) (by omega) (by omega)
   rw [getD_both h3] at h2
   cases h2
 ·omega
theorem anyx_go {ts : Array Value} {df : List Deferred} {ds : List Nat} {Vs : List SV} {w : World} {x : Nat} (hx : x < m) (hbk : backB ops = true) (hw : ∀ i, i < m -> i ≠ x -> Region.waitsFor .any ops m i = true) (hc : Region.chainB .any ops m = true) (hlt : m < ops.size) (hn : ds.Nodup) (hdl : ds.length = m)
  (hq : Region.seqB .any ops (ops.toList.drop m).length m (Array.replicate m true ++ Array.replicate (ops.size - m) false) = true)
  (hqx : seqLB ops (restL m (ops.size - (m + 1)) x) (((Array.replicate m true ++ Array.replicate (ops.size - m) false).setIfInBounds x false).setIfInBounds m true) = true)
  (hop : ∀ i, i < m -> OpIs P ops Q ts df ds Vs w i)
  (hend : ∀ (vs : Nat -> Value) (w1 : World), Below w.heap.size w w1 -> (∀ j, j < m -> (Vs.getD j SV.any).p (vs j) w1) -> wpList P ops Q (ops.toList.drop m) ⟨frameV ts ds vs 0, df⟩ w1)
  (hexc : ∀ (vs : Nat -> Value) (w1 : World), Below w.heap.size w w1 -> (∀ j, j < m -> j ≠ x -> (Vs.getD j SV.any).p (vs j) w1) -> wpList P ops Q ((m :: restL m (ops.size - (m + 1)) x).filterMap fun k => ops[k]?) ⟨frameV ts ds vs 0, df⟩ w1) :
  ∀ (u fuel : Nat) (listed : Array Bool) (vs : Nat -> Value) (w1 : World), unl listed m = u -> u + (ops.size - m) <= fuel -> HeadInv .any ops m listed -> Below w.heap.size w w1 →
   (∀ j, j < m -> listed.getD j false = true -> (Vs.getD j SV.any).p (vs j) w1) -> wpAny P .any ops Q fuel listed ⟨frameV ts ds vs 0, df⟩ w1 := by
 intro u
 induction u with
 | zero =>
  intro fuel listed vs w1 hu hf inv hb hv; have hall := yjt listed m hu
  have hlisted : listed = Array.replicate m true ++ Array.replicate (ops.size - m) false := by
   apply Array.ext
   ·rw [inv.size]; simp; omega
   ·intro i h1 h2; rw [inv.size] at h1
    rcases Nat.lt_or_ge i m with hi | hi
    ·rw [Array.getElem_append_left (by simpa using hi)]
     have := hall i hi
     simp [Array.getD, inv.size, h1] at this
     simpa using this
    ·rw [Array.getElem_append_right (by simpa using hi)]
     have := inv.tail i hi h1
     simp [Array.getD, inv.size, h1] at this
     simpa using this
  refine yoa (ops.toList.drop m) m fuel listed _ w1 (fun j => by simp [List.getElem?_drop]) (by simp; omega) (by rw [hlisted]; exact hq) ?_
  refine hend vs w1 hb fun j hj => hv j hj ?_
  have := hall j hj
  simp [Array.getD, inv.size, show j < ops.size by omega] at this |-
  exact this
 | succ u ih =>
  intro fuel listed vs w1 hu hf inv hb hv; obtain ⟨i0, hi0, hun0⟩ := ymr listed m (by omega)
  obtain ⟨f, rfl⟩ : ∃ f, fuel = f + 1 := ⟨fuel - 1, by omega⟩
  have hne : Region.ready .any ops listed ≠ [] := by
   intro hr; obtain ⟨j, hj⟩ := yfz hbk inv.size (i0 + 1) i0 (by omega) (by omega) hun0
   rw [hr] at hj
   cases hj
  refine ⟨fun h => absurd h hne, fun i hi => ?_⟩
  obtain ⟨hun, o, ho, hall⟩ := mem_ready.1 hi
  have hwait : ∀ j, Region.waitsFor .any ops i j = true -> listed.getD j false = true := fun j hj => by
   obtain ⟨oj, hoj, e, he, hb2, hon⟩ := Region.waitsFor_spec hj
   have : oj = o := Option.some.inj (hoj.symm.trans ho)
   subst this; rw [<- hon]; exact hall e he hb2
  rcases Nat.lt_or_ge i m with him | him
  ·refine wpOp_step ho fun K hK => ?_
   refine hop i him o ho vs w1 hb (fun j hj => ?_) K fun v w2 hv2 hb2 => hK _ _ ?_
   ·have hjl := hwait j hj
    rcases Nat.lt_or_ge j m with h | h
    ·exact hv j h hjl
    ·exfalso
     rcases Nat.lt_or_ge j ops.size with h' | h'
     ·have := inv.tail j h h'
      rw [getD_both this] at hjl
      cases hjl
     ·simp [Array.getD, inv.size, show ¬ j < ops.size by omega] at hjl
   ·have hdi : ds[i]? = some (ds.getD i 0) := by
     rw [List.getD_eq_getElem?_getD, List.getElem?_eq_getElem (by omega)]; rfl
    have := ygi (ts := ts) (v := v) (i := i) ds (vs := vs) 0 i hn hdi (by omega)
    rw [<- this]; refine ih f _ (upd vs i v) w2 (by have := ymq listed i hun m him; omega) (by omega) (inv.set hi him) (hb.trans (hb2.mono hb.size)) fun j hj hl => ?_
    unfold upd
    by_cases e : j = i
    ·subst e; rw [if_pos rfl]; exact hv2
    ·rw [if_neg e]; rw [getD_set_ne false (Ne.symm e)] at hl; exact (Vs.getD j SV.any).st _ _ _ (hv j hj hl) hb2
  ·obtain rfl := yrs hc inv hi him
   have hlst : ∀ j, j < i -> j ≠ x -> listed.getD j false = true := fun j hj hjx => hwait j (hw j hj hjx)
   have hxun : listed.getD x true = false := by
    by_cases e : i0 = x
    ·subst e; exact hun0
    ·have := hlst i0 hi0 e
     rw [getD_both hun0] at this
     cases this
   have hlisted : listed = (Array.replicate i true ++ Array.replicate (ops.size - i) false).setIfInBounds x false := by
    apply Array.ext
    ·rw [inv.size]; simp; omega
    ·intro j h1 h2; rw [inv.size] at h1; rw [Array.getElem_setIfInBounds (by simp; omega)]
     by_cases e : x = j
     ·subst e; rw [if_pos rfl]
      simpa [Array.getD, inv.size, h1] using hxun
     ·rw [if_neg e]
      rcases Nat.lt_or_ge j i with hi | hi
      ·rw [Array.getElem_append_left (by simpa using hi)]
       have := hlst j hi (Ne.symm e)
       simp [Array.getD, inv.size, h1] at this
       simpa using this
      ·rw [Array.getElem_append_right (by simpa using hi)]
       have := inv.tail j hi h1
       simp [Array.getD, inv.size, h1] at this
       simpa using this
   have hx2 := hexc vs w1 hb fun j hj hjx => hv j hj (hlst j hj hjx)
   rw [List.filterMap_cons, ho] at hx2
   have hw2 : wpOp P ops Q i (wpList P ops Q ((restL i (ops.size - (i + 1)) x).filterMap fun k => ops[k]?)) ⟨frameV ts ds vs 0, df⟩ w1 := by unfold wpOp; simp only [ho]; exact hx2
   refine wpOp_mono (fun a' w' h' => ypv _ f _ a' w' (fun k hk => ?_) ?_ (by rw [hlisted]; exact hqx) h') hw2
   ·unfold restL at hk
    rcases List.mem_cons.1 hk with hk | hk
    ·omega
    ·obtain ⟨j, hj, rfl⟩ := List.mem_map.1 hk
     have := List.mem_range.1 hj
     omega
   ·simp [restL]; omega
theorem yja (ops : Array Oper) : ∀ n k, n = ops.size - k -> ((List.range n).map fun j => k + j).filterMap (fun j => ops[j]?) = ops.toList.drop k
 | 0, k, h => by rw [List.drop_eq_nil_of_le (by simp; omega)]; rfl
 | n + 1, k, h => by
  have hk : k < ops.size := by omega
  rw [List.range_succ_eq_map, List.map_cons, List.map_map, List.filterMap_cons, Nat.add_zero, Array.getElem?_eq_getElem hk]; have h2 := yja ops n (k + 1) (by omega)
  rw [List.drop_eq_getElem_cons (by simpa using hk), <- h2]
  simp only [Array.getElem_toList]
  congr 2
  apply List.map_congr_left
  intro j _
  simp; omega
theorem yyj {ops : Array Oper} {m x : Nat} (hm : m < ops.size) (hx : x < m) : (m :: restL m (ops.size - (m + 1)) x).filterMap (fun k => ops[k]?) = (ops.toList.drop m).take 1 ++ (ops.toList.drop x).take 1 ++ ops.toList.drop (m + 1) := by
 have hxs : x < ops.size := by omega
 unfold restL
 rw [List.filterMap_cons, List.filterMap_cons, Array.getElem?_eq_getElem hm, Array.getElem?_eq_getElem hxs, yja ops _ (m + 1) rfl,
  List.drop_eq_getElem_cons (l := ops.toList) (i := m) (by simpa using hm), List.drop_eq_getElem_cons (l := ops.toList) (i := x) (by simpa using hxs)]
 rfl
theorem ydq {id : Nat} {ts : Array Value} {df : List Deferred} {w : World} (x : Nat) (ds : List Nat) (Vs : List SV) (hm : P.follows .mixedOrders = true) (hok : anyxOk ops m x ds = true)
  (hop : AllB (OpIs P ops Q ts df ds Vs w) m)
  (hend : ∀ (vs : Nat -> Value) (w1 : World), Below w.heap.size w w1 -> (∀ j, j < m -> (Vs.getD j SV.any).p (vs j) w1) -> wpList P ops Q (ops.toList.drop m) ⟨frameV ts ds vs 0, df⟩ w1)
  (hexc : ∀ (vs : Nat -> Value) (w1 : World), Below w.heap.size w w1 -> (∀ j, j < m -> j ≠ x -> (Vs.getD j SV.any).p (vs j) w1) -> wpList P ops Q ((ops.toList.drop m).take 1 ++ (ops.toList.drop x).take 1 ++ ops.toList.drop (m + 1)) ⟨frameV ts ds vs 0, df⟩ w1) :
  (Code.region id ops true).wp P Q ⟨ts, df⟩ w := by
 simp only [anyxOk, Bool.and_eq_true, decide_eq_true_eq] at hok; obtain ⟨⟨⟨⟨⟨⟨⟨⟨h0, h1⟩, h2⟩, h3⟩, h4⟩, h5⟩, h6⟩, h7⟩, h8⟩ := hok; refine wp_region_any hm ?_
 have hw : ∀ i, i < m -> i ≠ x -> Region.waitsFor .any ops m i = true := fun i hi hix => by
  have := List.all_eq_true.1 h1 i (List.mem_range.2 hi)
  simpa [hix] using this
 have hstart := yeb (ts := ts) ds (fun i => ts.getD (ds.getD i 0) undef) 0 fun j d hd => by
  rw [Nat.zero_add, List.getD_eq_getElem?_getD, hd]; rfl
 have hgo := anyx_go h7 h0 hw h2 h3 h4 h5 h6 h8 hop.all hend (fun vs w1 hb hv => by rw [yyj h3 h7]; exact hexc vs w1 hb hv) (unl (Array.replicate ops.size false) m) ops.size (Array.replicate ops.size false) (fun i => ts.getD (ds.getD i 0) undef) w.drew rfl ?_ ?_ ((zR _ w).drew) ?_
 ·rw [hstart] at hgo; exact hgo
 ·have hle : ∀ n, unl (Array.replicate ops.size false) n <= n := by
   intro n
   induction n with
   | zero => exact zN _
   | succ n ih => rw [unl]; split <;> omega
  have := hle m
  omega
 ·exact ⟨by simp, (fun j oj _ hl => absurd hl (by rw [getD_replicate_false]; exact Bool.false_ne_true)), (fun t _ ht' => by simp [ht'])⟩
 ·intro j _ hl; exact absurd hl (by rw [getD_replicate_false]; exact Bool.false_ne_true)
end
end Go.Proofs.YteibnfeokgibmaaGreat
namespace Go.Proofs.YteibnfeokgibmaaGreat
open Go.RowKit
set_option maxHeartbeats 1000000 in
theorem at_in {F : Nat -> Prop} {w : World} {p : Nat} {L : List PE} {sv : Value} {ss : List Int} {k : Nat} {l : List Nat} {u : Nat} (h : TabAt F w p L) (hs : RdI anyB w sv ss) (hsg : I64 ss) (hl : ss.length <= 1000000) (hk : k < ss.length) (hR : atP L (ss.drop k) = (l, u)) :
  Calls Tryz.prog 204 #[.pointer (some ⟨p, 0, none⟩), sv, .int .i64 (k : Nat)] w fun r w' => (∃ A n c, r = .returned (.tuple #[.slice A n c, .int .i64 (u : Nat)]) /\ RdE anyB w' (.slice A n c) l) /\ Below w.heap.size w w' := by
 obtain ⟨A, c, rfl⟩ := hs.form; have hcap := (RdF.cap hs).1; obtain ⟨g, o, rfl, -⟩ := RdF.base hs (by omega)
 have HR2 : Hid (RdI anyB w (.slice (some ⟨g, o + k, none⟩) (ss.length - k) (c - k)) (ss.drop k)) := RdI.drop hs (by omega) (fun ad e => by cases e; rw [Addr.add_lit, if_neg (by omega)])
 have HC := zH (ypg hR h HR2.out (by rw [List.length_drop]; omega) (I64.drop hsg k) (by rw [List.length_drop]; omega))
 have hg := yfq h.good (ss.drop k); rw [hR] at hg
 have hl8 : l.length <= 8 := hg.1
 have HL8 := zH hl8
 have HLD : Hid ((ss.drop k).length = ss.length - k) := List.length_drop
 have u1 : ¬ (k : Int) < 0 := by omega
 have u2 : ¬ (ss.length : Int) <= (k : Int) := by omega
 have u5 : (k : Int) <= (ss.length : Int) := by omega
 have u3 : (ss.length : Int) <= (c : Int) := by omega
 have u6 : (ss.length : Int) <= 1000000 := by omega
 have u4 : k <= ss.length := by omega
 have u7 : (0 : Int) <= (k : Int) := by omega
 have ub : decide ((k : Int) < 0) = false := decide_eq_false u1
 have ub2 : decide ((ss.length : Int) <= (k : Int)) = false := decide_eq_false u2
 obtain ⟨n, hn⟩ : ∃ n, ss.length = n := ⟨_, rfl⟩; rw [hn] at u2 u5 u3 u6 u4 ub2 HLD HR2 HC; have HLN := zH hn; rw [hn]; clear h hs hsg hR hg hcap hk hn hl hl8
 go_enter Tryz.func204, Tryz.ntmps204
 go_wp2_with (first
  | (go_at_call 189; refine (HC.out).mono ?_; rintro e w2 ⟨⟨A3, c3, rfl, hr⟩, hb⟩; have HRL := zH hr; have HB2 := zH hb; clear hr hb)
  | (go_at_call 212; refine (yed HRL.out (by have := HL8.out; omega)).mono ?_; rintro q w3 ⟨⟨v3, rfl, ho⟩, hb⟩; have h3 := ho.rd (F := anyB) (fun _ _ => trivial); obtain ⟨A4, c4, rfl⟩ := h3.form; have HR4 := zH h3; have HB4 := zH (HB2.out.trans (hb.mono HB2.out.size)); clear hb ho h3))
 go_ret2
 exact ⟨⟨_, _, _, rfl, HR4.out⟩, HB4.out⟩
end Go.Proofs.YteibnfeokgibmaaGreat
namespace Go.Proofs.YteibnfeokgibmaaGreat
open Go.RowKit
theorem okP_okE (x : Nat) : E3.okP (x / 65536) (x / 256 % 256) (x / 2 % 128) (decide (x % 2 = 1)) = E3.okE x := by
 unfold E3.okP E3.okE
 rcases Nat.mod_two_eq_zero_or_one x with h | h <;> simp [h]
theorem rok_is {x : Nat} {b : Bool} (h : E3.okE x = b) (w : World) : Calls Tryz.prog 142 #[.agg #[.int .i64 ((x / 65536 : Nat) : Int), .int .i64 ((x / 256 % 256 : Nat) : Int), .int .i64 ((x / 2 % 128 : Nat) : Int), .bool (decide (x % 2 = 1))]] w fun r w' => r = .returned (.bool b) /\ Below w.heap.size w w' := by
 rw [<- h, <- okP_okE]; exact E3.rok_any _ _ _ _ w
theorem all_take {l : List Nat} {k : Nat} {x : Nat} (hx : l[k]? = some x) (h : (l.take k).all okW = true) (hk : okW x = true) : (l.take (k + 1)).all okW = true := by
 rw [List.take_add_one, hx, List.all_append, h]; simp [hk]
theorem yvs {L : List PE} {e : PE} {k : Nat} {x : Nat} (hx : e.2[k]? = some x) (h : okW x = false) : goodE L e = false := by
 unfold goodE; rw [Bool.and_eq_false_iff]
 left
 rw [List.all_eq_false]; exact ⟨x, List.mem_of_getElem? hx, by rw [h]; simp⟩
set_option maxHeartbeats 4000000 in
theorem yqk {U : Nat -> Prop} {w : World} {v : Value} {L : List PE} (h : RefU U w v L) (hL : L.length <= 1000) (hq : ∀ e ∈ L, e.1.length <= 1000 /\ 1 <= e.1.length /\ e.2.length <= 1000) {r : Int} (hr : checkP L = r) :
  Calls Tryz.prog 92 #[.agg #[v]] w fun e w' => e = .returned (.int .i64 r) /\ Below w.heap.size w w' := by
 obtain ⟨Au, cu, rfl⟩ := h.form; have hA := yaa w (.cells #[.slice Au L.length cu] 40); have HR := zH (h.below hA (zN _))
 have hx0 : (w.alloc (.cells #[.slice Au L.length cu] 40)).cell? ⟨w.heap.size, 0, none⟩ = some (.slice Au L.length cu) := by rw [cell_of_row _ _ 0 _ _ _ (heap_alloc_new w _)]; rfl
 have HX := zH hx0; have HB0 := zH hA; have HQ := zH hq; have HRR := zH hr; obtain ⟨n, hn⟩ : ∃ n, L.length = n := ⟨_, rfl⟩; have HN := zH hn; rw [hn] at HR HX HB0 hL |-
 have hnI : (n : Int) <= 1000 := by omega
 clear h hx0 hn hA hq hr
 go_enter Tryz.func92, Tryz.ntmps92
 go_wp2
 generalize (w.alloc (.cells #[.slice Au n cu] 40)) = w0 at HR HX HB0 |-; obtain ⟨bx, hbx⟩ : ∃ b, w.heap.size = b := ⟨_, rfl⟩; rw [hbx] at HX; rw [show (({ block := w.heap.size, off := 0 } : Addr)) = ⟨bx, 0, none⟩ by rw [hbx]]
 clear hbx
 go_loopw [3] (fun i wr => ∃ k : Nat, k <= n /\ i = .int .i64 (k : Nat) /\ Hid (∀ j f, j < k -> L[j]? = some f -> goodE L f = true) /\ Hid (Below w0.heap.size w0 wr)) (fun i _ => n - (intOf i).toNat)
 case atStart => exact ⟨0, Nat.zero_le _, rfl, fun j f hj => absurd hj (Nat.not_lt_zero _), zR _ _⟩
 case round =>
  obtain ⟨k, hk, rfl, HA, HB⟩ := hrel; obtain ⟨wo, rfl⟩ : ∃ wo, wo = wr := ⟨_, rfl⟩; have cx := (HB.out.cell (p := ⟨bx, 0, none⟩) (yaj HX.out)).trans HX.out
  by_cases hlt : k < n
  ·obtain ⟨e, he⟩ : ∃ e, L[k]? = some e := ⟨_, List.getElem?_eq_getElem (by rw [HN.out]; exact hlt)⟩
   obtain ⟨g, o, us, ul, rfl, e0, e1, hqi, hqe⟩ := (HR.out.below HB.out (zN _)).at he; obtain ⟨A4, k4, rfl⟩ := hqi.form; obtain ⟨A5, k5, rfl⟩ := hqe.form; have hcap := (RdF.cap hqi).1; have HEE := zH he; have HQI := zH hqi; have HQE := zH hqe; have HC0 := zH e0; have HC1 := zH e1; have HCX := zH cx; have hlen := HQ.out e (List.mem_of_getElem? he)
   have hkI : (k : Int) < (n : Int) := by omega
   have hl2 : (e.2.length : Int) <= 1000 := by omega
   have hl1 : (e.1.length : Int) <= 1000 := by omega
   clear hqi hqe he hlt
   go_wp2
   go_loopw [4] (fun i wq => ∃ j : Nat, j <= e.2.length /\ i = .int .i64 (j : Nat) /\ Hid ((e.2.take j).all okW = true) /\ Hid (Below wo.heap.size wo wq)) (fun i _ => e.2.length - (intOf i).toNat)
   case atStart => exact ⟨0, Nat.zero_le _, rfl, rfl, zR _ _⟩
   case round =>
    obtain ⟨j, hj, rfl, HJ, HW⟩ := hrel; have cx1 := yab HW.out HCX.out; have e01 := yab HW.out HC0.out; have e11 := yab HW.out HC1.out
    by_cases hjl : j < e.2.length
    ·obtain ⟨x, hx⟩ : ∃ x, e.2[j]? = some x := ⟨_, List.getElem?_eq_getElem hjl⟩; obtain ⟨g5, o5, rfl, f0, f1, f2, f3⟩ := (HQE.out.below HW.out (zN _)).at hx; have HXX := zH hx
     have hjI : (j : Int) < (e.2.length : Int) := by omega
     obtain ⟨ok, hok⟩ : ∃ b, E3.okE x = b := ⟨_, rfl⟩; have CO := zH (fun w => rok_is hok w)
     have HOK := zH hok; obtain ⟨pp, hpp⟩ : ∃ p, x / 65536 = p := ⟨_, rfl⟩; have HPP := zH hpp; rw [hpp] at f0 CO; obtain ⟨ps, hps⟩ : ∃ p, x / 256 % 256 = p := ⟨_, rfl⟩; rw [hps] at f1 CO; obtain ⟨pt, hpt⟩ : ∃ p, x / 2 % 128 = p := ⟨_, rfl⟩; rw [hpt] at f2 CO; obtain ⟨pv, hpv⟩ : ∃ p, decide (x % 2 = 1) = p := ⟨_, rfl⟩; rw [hpv] at f3 CO; clear hx hjl hok hpp hps hpt hpv
     cases ok with
     | false =>
      have HF : Hid (r = 3) := by show _ = _; rw [<- HRR.out]; exact yfo HEE.out (yvs HXX.out (by unfold okW; rw [HOK.out]; rfl))
      go_wp2_with (go_at_call 142; refine (CO.out _).mono ?_; rintro q w3 ⟨rfl, hb3⟩; have HB3 := zH (HW.out.trans (hb3.mono HW.out.size)); clear hb3 f0 f1 f2 f3 e01 e11 cx1)
      go_ret
      have h1 := HB0.out.trans (HB.out.mono HB0.out.size); exact ⟨by rw [HF.out]; rfl, h1.trans (HB3.out.mono h1.size)⟩
     | true =>
      by_cases hpl : pp < 64256
      ·have hpD : decide ((64256 : Int) <= (pp : Int)) = false := decide_eq_false (by omega)
       have HNX := zH (all_take HXX.out HJ.out (by unfold okW; rw [HOK.out, HPP.out]; simp [hpl]))
       clear hpl
       go_wp2_with (go_at_call 142; refine (CO.out _).mono ?_; rintro q w3 ⟨rfl, hb3⟩; have HB3 := zH (HW.out.trans (hb3.mono HW.out.size)); have cx2 := yab hb3 cx1; have e12 := yab hb3 e11; have f02 := yab hb3 f0; clear hb3 f0 f1 f2 f3 e01 e11 cx1)
       go_roundw
       case rel => exact ⟨j + 1, by omega, by go_num, HNX.out, HB3.out⟩
       case measure => simp [intOf]; omega
      ·have hpI : (64256 : Int) <= (pp : Int) := by omega
       have HF : Hid (r = 3) := by show _ = _; rw [<- HRR.out]; exact yfo HEE.out (yvs HXX.out (by unfold okW; rw [HOK.out, HPP.out]; simp; omega))
       go_wp2_with (go_at_call 142; refine (CO.out _).mono ?_; rintro q w3 ⟨rfl, hb3⟩; have HB3 := zH (HW.out.trans (hb3.mono HW.out.size)); have cx2 := yab hb3 cx1; have e12 := yab hb3 e11; have f02 := yab hb3 f0; clear hb3 f0 f1 f2 f3 e01 e11 cx1)
       go_ret
       have h1 := HB0.out.trans (HB.out.mono HB0.out.size); exact ⟨by rw [HF.out]; rfl, h1.trans (HB3.out.mono h1.size)⟩
    ·obtain rfl : j = e.2.length := by omega
     have HALL : Hid (e.2.all okW = true) := by have := HJ.out; rw [List.take_length] at this; exact this
     clear hjl; have HBW := zH (HB.out.trans (HW.out.mono HB.out.size))
     go_wp2
     go_loopw [5] (fun i wq => ∃ m : Nat, 1 <= m /\ m <= e.1.length /\ i = .int .i64 (m : Nat) /\ Hid (begTo L e.1 m = true) /\ Hid (Below wo.heap.size wo wq)) (fun i _ => e.1.length - (intOf i).toNat)
     case atStart => exact ⟨1, zN _, hlen.2.1, rfl, rfl, HW.out⟩
     case round =>
      clear cx1 e01 e11; obtain ⟨m, hm1, hm, rfl, HG, HV⟩ := hrel; have cx1 := yab HV.out HCX.out; have e01 := yab HV.out HC0.out; have e11 := yab HV.out HC1.out
      by_cases hml : m < e.1.length
      ·have hmI : (m : Int) < (e.1.length : Int) := by omega
       have hmJ : (m : Int) <= (k4 : Int) := by omega
       have hm0 : (0 : Int) <= (m : Int) := by omega
       obtain ⟨b, hb⟩ : ∃ b, (place L (e.1.take m)).isSome = b := ⟨_, rfl⟩; have HBB := zH hb; have HSM := zH ((HQI.out.below HV.out (zN _)).take (Nat.le_of_lt hml)); have HRV := zH (HR.out.below (HB.out.trans (HV.out.mono HB.out.size)) (zN _)); have HCX1 := zH cx1; have HC01 := zH e01
       have hml2 : (e.1.take m).length = m := by rw [List.length_take]; omega
       obtain ⟨Af, nf, cf, hf⟩ := ytm (e.1.take m) HRV.out (by rw [HN.out]; omega) (fun f hf => (HQ.out f hf).1) hb
       have HFI := zH hf; clear hb hml hf
       go_wp2
       clear cx1 e01 e11; refine yag (m := 14) [62, 63, 64, 65, 66, 67, 68, 69, 70, 71, 61, 72, 73, 6] [SV.eq (.agg #[.slice (some ⟨g, o, none⟩) n cu]), SV.eq (.pointer (some ⟨bx, 0, none⟩)), SV.eq (.slice (some ⟨g, o, none⟩) n cu), SV.eq (.int .i64 (k : Int)), SV.eq (.pointer (some ⟨g, o + k * 2, none⟩)), SV.eq (.pointer (some ⟨g, o + k * 2, none⟩)), SV.eq (.slice A4 e.1.length k4), SV.eq (.int .i64 (m : Int)), SV.eq (.slice A4 m k4), SV.eq (.tuple #[.slice Af nf cf, .bool b]), SV.eq (.tuple #[.slice Af nf cf, .bool b]), SV.eq (.slice Af nf cf), SV.eq (.bool b), SV.eq (.slice Af nf cf)] (by kernel_rfl) (by kernel_rfl) ?_ ?_
       ·refine ⟨⟨⟨⟨⟨⟨⟨⟨⟨⟨⟨⟨⟨⟨trivial, ?_⟩, ?_⟩, ?_⟩, ?_⟩, ?_⟩, ?_⟩, ?_⟩, ?_⟩, ?_⟩, ?_⟩, ?_⟩, ?_⟩, ?_⟩, ?_⟩
        all_goals (refine OpIs.mk rfl ?_; intro vs w1 hb hd K hK; simp only [frameV, zS, zA, zB, zC, zD] at hK |-)
        ·have c0 := yab hb HCX1.out; have HK := zH hK; clear hK; go_simp; exact HK.out _ _ rfl (zR _ _)
        ·have HK := zH hK; clear hK; go_simp; exact HK.out _ _ rfl (zR _ _)
        ·have d1 : vs 1 = .pointer (some ⟨bx, 0, none⟩) := hd 1 (by kernel_rfl)
         have c0 := yab hb HCX1.out; simp only [d1] at hK |-; have HK := zH hK; clear hK; go_simp; exact HK.out _ _ rfl (zR _ _)
        ·have HK := zH hK; clear hK; go_simp; exact HK.out _ _ rfl (zR _ _)
        ·have d2 : vs 2 = .slice (some ⟨g, o, none⟩) n cu := hd 2 (by kernel_rfl)
         have d3 : vs 3 = .int .i64 (k : Int) := hd 3 (by kernel_rfl)
         simp only [d2, d3] at hK |-; have HK := zH hK; clear hK; go_simp; exact HK.out _ _ rfl (zR _ _)
        ·have d4 : vs 4 = .pointer (some ⟨g, o + k * 2, none⟩) := hd 4 (by kernel_rfl)
         simp only [d4] at hK |-; have HK := zH hK; clear hK; go_simp; exact HK.out _ _ rfl (zR _ _)
        ·have d5 : vs 5 = .pointer (some ⟨g, o + k * 2, none⟩) := hd 5 (by kernel_rfl)
         have c0 := yab hb HC01.out; simp only [d5] at hK |-; have HK := zH hK; clear hK; go_simp; exact HK.out _ _ rfl (zR _ _)
        ·have HK := zH hK; clear hK; go_simp; exact HK.out _ _ rfl (zR _ _)
        ·have d6 : vs 6 = .slice A4 e.1.length k4 := hd 6 (by kernel_rfl)
         have d7 : vs 7 = .int .i64 (m : Int) := hd 7 (by kernel_rfl)
         simp only [d6, d7] at hK |-; have HK := zH hK; clear hK; go_simp; exact HK.out _ _ rfl (zR _ _)
        ·have d0 : vs 0 = .agg #[.slice (some ⟨g, o, none⟩) n cu] := hd 0 (by kernel_rfl)
         have d8 : vs 8 = .slice A4 m k4 := hd 8 (by kernel_rfl)
         simp only [d0, d8] at hK |-; have HK := zH hK; clear hK; go_simp
         go_at_call 141
         refine (HFI.out anyB w1 _ hb (HSM.out.below hb (zN _))).mono ?_; rintro q w3 ⟨rfl, hb3⟩; exact HK.out _ _ rfl hb3
        ·have d9 : vs 9 = .tuple #[.slice Af nf cf, .bool b] := hd 9 (by kernel_rfl)
         simp only [d9] at hK |-; have HK := zH hK; clear hK; go_simp; exact HK.out _ _ rfl (zR _ _)
        ·have d10 : vs 10 = .tuple #[.slice Af nf cf, .bool b] := hd 10 (by kernel_rfl)
         simp only [d10] at hK |-; have HK := zH hK; clear hK; go_simp; exact HK.out _ _ rfl (zR _ _)
        ·have d10 : vs 10 = .tuple #[.slice Af nf cf, .bool b] := hd 10 (by kernel_rfl)
         simp only [d10] at hK |-; have HK := zH hK; clear hK; go_simp; exact HK.out _ _ rfl (zR _ _)
        ·have d11 : vs 11 = .slice Af nf cf := hd 11 (by kernel_rfl)
         simp only [d11] at hK |-; have HK := zH hK; clear hK; go_simp; exact HK.out _ _ rfl (zR _ _)
       ·intro vs w3 hb hd
        have d12 : vs 12 = .bool b := hd 12 (by omega)
        have HB3 := zH (HV.out.trans (hb.mono HV.out.size)); simp only [frameV, zS, zA, zB, List.drop_succ_cons, List.drop_zero, d12]; clear hb hd
        cases b with
        | true =>
         have HN2 : Hid (begTo L e.1 (m + 1) = true) := by show _ = _; rw [yjp, HG.out, HBB.out]; simp
         go_wp2
         go_roundw
         case rel => exact ⟨m + 1, by omega, by omega, by go_num, HN2.out, HB3.out⟩
         case measure => simp [intOf]; omega
        | false =>
         have HF : Hid (r = 3) := by show _ = _; rw [<- HRR.out]; exact yfo HEE.out (by unfold goodE; rw [ywt hm1 (by omega) (Option.not_isSome_iff_eq_none.1 (by rw [HBB.out]; simp))]; simp)
         go_wp2
         go_ret
         have h1 := HB0.out.trans (HB.out.mono HB0.out.size); exact ⟨by rw [HF.out]; rfl, h1.trans (HB3.out.mono h1.size)⟩
      ·obtain rfl : m = e.1.length := by omega
       have HGE : Hid (goodE L e = true) := by show _ = _; unfold goodE; rw [HALL.out, ynz, HG.out]; rfl
       clear hml
       go_wp2
       go_roundw
       case rel => exact ⟨k + 1, by omega, by go_num, fun j f hj hf => (by
        rcases Nat.lt_or_ge j k with hjk | hjk
        ·exact HA.out j f hjk hf
        ·obtain rfl : j = k := by omega
         rw [HEE.out] at hf; cases hf; exact HGE.out), HB.out.trans (HV.out.mono HB.out.size)⟩
       case measure => simp [intOf]; omega
  ·obtain rfl : k = n := by omega
   have HF : Hid (r = 0) := by show _ = _; rw [<- HRR.out]; unfold checkP; rw [if_pos (List.all_eq_true.2 fun f hf => by obtain ⟨j, hj⟩ := List.mem_iff_getElem?.1 hf; exact HA.out j f (by rw [<- HN.out]; exact (List.getElem?_eq_some_iff.1 hj).1) hj)]
   clear hlt
   go_wp2
   go_ret
   exact ⟨by rw [HF.out]; rfl, HB0.out.trans (HB.out.mono HB0.out.size)⟩
end Go.Proofs.YteibnfeokgibmaaGreat
namespace Go.Proofs.YteibnfeokgibmaaGreat
open Go.RowKit
theorem ywf {L : List PE} (h : GoodT L) : ∀ (n : Nat) (ss : List Int), ss.length <= n -> ∀ x ∈ elsP L ss, x < 4294967296
 | 0, ss, hn => by
  have : ss = [] := List.eq_nil_of_length_eq_zero (by omega)
  subst this; intro x hx; simp [ycu] at hx
 | n + 1, ss, hn => by
  rcases Nat.eq_zero_or_pos ss.length with h0 | h0
  ·have : ss = [] := List.eq_nil_of_length_eq_zero h0
   subst this; intro x hx; simp [ycu] at hx
  ·intro x hx; have hu := yel L h0; rw [ycc L h0] at hx
   rcases List.mem_append.1 hx with hx | hx
   ·exact (yfq h ss).2 x hx
   ·exact ywf h n (ss.drop (atP L ss).2) (by rw [List.length_drop]; omega) x hx
theorem yxh {w : World} {G H : Nat -> Prop} {p : Value} {sv lv : Value} {s : List Int} {l : List Nat} (hs : RdI G w sv s) (hl : RdE H w lv l) (hb : s.length < 1 \/ 3 < s.length \/ 8 < l.length) :
  Calls Tryz.prog 177 #[p, sv, lv] w fun r w' => r = .returned (.tuple #[.pointer none, .int .i64 1]) /\ Below w.heap.size w w' := by
 obtain ⟨A, c, rfl⟩ := hs.form; obtain ⟨A', c', rfl⟩ := hl.form
 by_cases h1 : s.length < 1
 ·have k1 : (s.length : Int) < 1 := by omega
  clear hs hl hb
  go_enter Tryz.func177, Tryz.ntmps177
  go_wp2
  go_ret2
  exact ⟨rfl, zR _ _⟩
 ·have k1 : ¬ (s.length : Int) < 1 := by omega
  have kb : decide ((s.length : Int) < 1) = false := decide_eq_false k1
  by_cases h3 : 3 < s.length
  ·have k3 : (3 : Int) < (s.length : Int) := by omega
   clear hs hl hb
   go_enter Tryz.func177, Tryz.ntmps177
   go_wp2
   go_ret2
   exact ⟨rfl, zR _ _⟩
  ·have k3 : ¬ (3 : Int) < (s.length : Int) := by omega
   have k8 : (8 : Int) < (l.length : Int) := by omega
   clear hs hl hb
   go_enter Tryz.func177, Tryz.ntmps177
   go_wp2
   go_ret2
   exact ⟨rfl, zR _ _⟩
theorem ylc {L : List PE} {s : List Int} {l : List Nat} (hb : s.length < 1 \/ 3 < s.length \/ 8 < l.length) : withE L s l = 1 := by
 unfold withE badA; rw [if_pos]; simp only [Bool.or_eq_true, decide_eq_true_eq]
 rcases hb with hb | hb | hb
 ·exact .inl (.inl (.inl hb))
 ·exact .inl (.inl (.inr hb))
 ·exact .inl (.inr hb)
theorem yoc {F G H : Nat -> Prop} {w : World} {p : Nat} {L : List PE} {sv lv : Value} {s : List Int} {l : List Nat} (hF : ∀ k, w.heap.size <= k -> F k) (h : TabAt F w p L) (hs : RdI G w sv s) (hl : RdE H w lv l) (hlw : ∀ x ∈ l, x < 4294967296) :
  Calls Tryz.prog 177 #[.pointer (some ⟨p, 0, none⟩), sv, lv] w (WithIs F L s l w) := by
 by_cases hb : s.length < 1 \/ 3 < s.length \/ 8 < l.length
 ·refine (yxh hs hl hb).mono fun r w' hh => ⟨fun e => ?_, fun _ => ?_, hh.2⟩
  ·rw [ylc hb] at e; cases e
  ·rw [ylc hb]; exact hh.1
 ·exact yxj hF h hs hl hlw (by omega) (by omega)
end Go.Proofs.YteibnfeokgibmaaGreat
