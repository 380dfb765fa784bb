/-
  PACKED for a claim.
-/
import Derived.Deep.RegionLaw
import Derived.Laws.Tables
import Derived.Great.BuildSlice
import Derived.OrdersHeld
import Derived.StillTail
import Derived.RegionTactic
import Derived.Test.YteibnfeokgibmaaGreatP09
set_option linter.unusedVariables false
set_option linter.unusedSimpArgs false
set_option maxRecDepth 100000
namespace Go.Proofs.YteibnfeokgibmaaGreat.R4
open Go.RowKit
theorem yax (w : World) (xs : List Value) (t : TypeId) : ∀ j u, xs[j]? = some u -> (w.alloc (.cells xs.toArray t)).cell? ((⟨w.heap.size, 0, none⟩ : Addr).add j) = some u := by
 intro j u hu; rw [Addr.add_lit, Nat.zero_add, World.cell?_alloc_mark, List.getElem?_toArray]; exact hu
theorem yix {ops : Array Oper} {o : Oper} {a : Act} {K : Act -> World -> Prop} {Q : Exit -> Act -> World -> Prop} {E : Prop} (hgd : o.guard = none) (s x : Operand)
  (ho : o.op = .call { callee := .builtin .append, args := #[s, x], argTypes := #[249, 249] })
  (w0 : World) (B : Nat) (v : Value) (ix : List Nat) (k C : Nat) (hs : a.eval s = v) (hown : OwnU B w0 v ix) (hx : a.eval x = .slice (some ⟨w0.heap.size, 0, none⟩) 1 C)
  (hB : B <= w0.heap.size) (hl : ix.length + 1 <= 10000000)
  (h : ∀ A' C' w', OwnU B w' (.slice A' (ix.length + 1) C') (ix ++ [k]) -> w0.grownBy w' v.ownBlock -> K (a.put o.dst (.slice A' (ix.length + 1) C')) w') :
  if Region.wanted o (yielded ops a.tmps) = true then Oper.wp Tryz.prog o a (w0.alloc (.cells #[.int .u16 (k : Int)] 253)) K Q else E := by
 have hw : Region.wanted o (yielded ops a.tmps) = true := by simp [Region.wanted, hgd]
 rw [if_pos hw]; obtain ⟨i0, hi0, hz0, hz1, hz2⟩ := info_parts yog; have hb1 := World.grownBy_alloc w0 (.cells #[.int .u16 (k : Int)] 253) v.ownBlock
 have hb2 : B <= (w0.alloc (.cells #[.int .u16 (k : Int)] 253)).heap.size := Nat.le_trans hB hb1.size
 obtain ⟨v', w', hrun, h2, h3, -, -⟩ := run_append_own_at (P := Tryz.prog) (w := w0.alloc (.cells #[.int .u16 (k : Int)] 253)) B 249 o.type 253 i0 _ 1 2 Tryz.underlying249 hi0 hz0 hz1 hz2 rfl (by omega) v ix.length (uvals ix) (World.ownsRow.alloc hown _)
  ⟨w0.heap.size, 0, none⟩ 1 C [.int .u16 (k : Int)] rfl (yax w0 [.int .u16 (k : Int)] _) (by simp [Value.oneCell']) (by simp only [maxLen]; omega) (by omega) hb2
 obtain ⟨A', C', rfl, -, -⟩ := yai h2; unfold Oper.wp
 simp [execOp, ho, resolve, invoke, builtin, hs, hx, hrun, Result.andThen]
 refine h A' C' w' ?_ (hb1.trans h3); unfold OwnU; rw [ysl, List.length_append]; exact h2
theorem yqd {ops : Array Oper} {o : Oper} {a : Act} {K : Act -> World -> Prop} {Q : Exit -> Act -> World -> Prop} {E : Prop} (hgd : o.guard = none) (s x : Operand)
  (ho : o.op = .call { callee := .builtin .append, args := #[s, x], argTypes := #[250, 250] })
  (w0 : World) (B : Nat) (v : Value) (bs : List (List Int)) (y : List Int) (cs : List Value) (hcs : cs = cellsB y) (hy : y.length = 64) (C : Nat) (hs : a.eval s = v) (hown : OwnK B w0 v bs) (hx : a.eval x = .slice (some ⟨w0.heap.size, 0, none⟩) 1 C)
  (hB : B <= w0.heap.size) (hl : bs.length + 1 <= 10000000)
  (h : ∀ A' C' w', OwnK B w' (.slice A' (bs.length + 1) C') (bs ++ [y]) -> w0.grownBy w' v.ownBlock -> K (a.put o.dst (.slice A' (bs.length + 1) C')) w') :
  if Region.wanted o (yielded ops a.tmps) = true then Oper.wp Tryz.prog o a (w0.alloc (.cells cs.toArray 225)) K Q else E := by
 have hw : Region.wanted o (yielded ops a.tmps) = true := by simp [Region.wanted, hgd]
 rw [if_pos hw]; subst hcs; obtain ⟨i0, hi0, hz0, hz1, hz2⟩ := info_parts yps; have hb1 := World.grownBy_alloc w0 (.cells (cellsB y).toArray 225) v.ownBlock
 have hb2 : B <= (w0.alloc (.cells (cellsB y).toArray 225)).heap.size := Nat.le_trans hB hb1.size
 obtain ⟨v', w', hrun, h2, h3, -, -⟩ := run_append_own_at (P := Tryz.prog) (w := w0.alloc (.cells (cellsB y).toArray 225)) B 250 o.type 225 i0 _ 64 256 Tryz.underlying250 hi0 hz0 hz1 hz2 rfl (by omega) v bs.length (bcells bs) (World.ownsRow.alloc hown _)
  ⟨w0.heap.size, 0, none⟩ 1 C (cellsB y) (by rw [ybh, hy]) (yax w0 (cellsB y) _) (yru y) (by simp only [maxLen]; omega) (by omega) hb2
 obtain ⟨A', C', rfl, -, -⟩ := yai h2; unfold Oper.wp
 simp [execOp, ho, resolve, invoke, builtin, hs, hx, hrun, Result.andThen]
 refine h A' C' w' ?_ (hb1.trans h3); unfold OwnK; rw [yrx, List.length_append, show bcells [y] = cellsB y by simp [bcells]]
 exact h2
theorem yhn (cs : List Value) (h : cs.length = 64) (w : World) : (Instr.buildSlice 250 1 #[(0, .agg cs.toArray)]).run Tryz.prog w = .ok (.slice (some ⟨w.heap.size, 0, none⟩) 1 1) (w.alloc (.cells cs.toArray 225)) := by
 obtain ⟨i0, hi0, hz0, hz1, hz2⟩ := info_parts yps; have hf := Great.fill_whole (s := 64) (by omega) [Value.agg cs.toArray] ((Array.range (1 * i0.size)).map ((bval zrow).cells[· % (bval zrow).cells.size]!)) (by intro v hv; simp at hv; subst hv; simp [Value.cells, h]) (by simp [hz1])
 refine run_buildSlice (P := Tryz.prog) w 250 225 1 #[(0, .agg cs.toArray)] cs.toArray i0 (bval zrow) Tryz.underlying250 hi0 hz0 (by rw [hz1]; omega) (by rw [hz1]; omega) ?_
 rw [hz1]; rw [hz1] at hf; exact hf.trans (by simp [Value.cells])
theorem ylf {ops : Array Oper} {o : Oper} {a : Act} {w : World} {K : Act -> World -> Prop} {Q : Exit -> Act -> World -> Prop} {E : Prop} (hgd : o.guard = none) (x : Operand)
  (ho : o.op = .buildSlice 250 1 #[(0, x)]) (cs : List Value) (hcs : cs.length = 64) (hx : a.eval x = .agg cs.toArray)
  (h : K (a.put o.dst (.slice (some ⟨w.heap.size, 0, none⟩) 1 1)) (w.alloc (.cells cs.toArray 225))) :
  if Region.wanted o (yielded ops a.tmps) = true then Oper.wp Tryz.prog o a w K Q else E := by
 have hw : Region.wanted o (yielded ops a.tmps) = true := by simp [Region.wanted, hgd]
 rw [if_pos hw]; have hrun := yhn cs hcs w; unfold Oper.wp execOp; simp only [ho, Sem.run_bind, Sem.run_pure, List.map_toArray, List.map_cons, List.map_nil, hx, hrun, Result.andThen_ok]; exact h
end Go.Proofs.YteibnfeokgibmaaGreat.R4
namespace Go.Proofs.YteibnfeokgibmaaGreat.R4
section
variable {P : Program} {ops : Array Oper} {Q : Exit -> Act -> World -> Prop} {md : Region.Mode} {S : World -> Prop} {m : Nat}
def wpTill (P : Program) (md : Region.Mode) (ops : Array Oper) (m : Nat) (Q : Exit -> Act -> World -> Prop) (S : World -> Prop) : Nat -> Array Bool -> Act -> World -> Prop
 | 0, listed, a, w => Region.ready md ops listed = [] /\ Q .normal a w
 | n + 1, listed, a, w => (Region.ready md ops listed = [] -> Q .normal a w) ∧
   ∀ i ∈ Region.ready md ops listed, wpOp P ops Q i (fun a' w' => (i < m -> S w') /\ wpTill P md ops m Q S n (listed.setIfInBounds i true) a' w') a w
theorem yis : ∀ (n : Nat) (listed : Array Bool) (a : Act) (w : World), wpTill P md ops m Q S n listed a w -> wpAny P md ops Q n listed a w
 | 0, _, _, _, h => h
 | n + 1, _, _, _, h => ⟨h.1, fun i hi => wpOp_mono (fun a' w' h' => yis n _ a' w' h'.2) (h.2 i hi)⟩
def Till (P : Program) (md : Region.Mode) (ops : Array Oper) (m : Nat) (Q : Exit -> Act -> World -> Prop) (S : World -> Prop) (n : Nat) (listed : Array Bool) (a : Act) (w : World) : Prop :=
 HeadInv md ops m listed -> wpTill P md ops m Q S n listed a w
theorem ypy {i : Nat} {oi : Oper} {v : Value} (hi : ops[i]? = some oi) (hsel : ∀ (j : Nat) (o : Oper) cs b, ops[j]? = some o -> o.op ≠ .select cs b)
  (hs : Region.sinkB md ops m = true) (hc : Region.chainB md ops m = true) (hm : m < ops.size) (him : i < m)
  (hQ : ∀ c a w, Q (.panic c) (a.put oi.dst v) w -> Q (.panic c) a w) : ∀ (n : Nat) (listed : Array Bool) (a : Act) (w : World), HeadInv md ops m listed →
   (∀ j oj, ops[j]? = some oj -> j ≠ i -> listed.getD j true = false -> (∀ e ∈ oj.after, Region.binds md e = true -> e.on ≠ i) -> oi.apart ops oj = true) →
   i ∈ Region.ready md ops listed -> YieldsIf P ops S oi v a -> S w -> wpTill P md ops m Q S n (listed.setIfInBounds i true) (a.put oi.dst v) w -> wpTill P md ops m Q S (n + 1) listed a w := by
 intro n
 induction n with
 | zero =>
  intro listed a w inv hfree hr hy hS H; refine ⟨fun h => (by rw [h] at hr; cases hr), fun j hj => ?_⟩
  by_cases hji : j = i
  ·subst hji; exact hy.wpOp hi hS ⟨fun _ => hS, H⟩
  ·have := ready_mono hj hji
   rw [H.1] at this
   cases this
 | succ n ih =>
  intro listed a w inv hfree hr hy hS H; refine ⟨fun h => (by rw [h] at hr; cases hr), fun j hj => ?_⟩
  have hun := (mem_ready.1 hr).1
  by_cases hji : j = i
  ·subst hji; exact hy.wpOp hi hS ⟨fun _ => hS, H⟩
  ·have hjm : j < m := by
    rcases Nat.lt_or_ge j m with h | h
    ·exact h
    ·exact absurd hj (tail_waits hs hc hm inv _ i rfl him hun j h)
   obtain ⟨hjun, oj, hoj, hall⟩ := mem_ready.1 hj
   have hnot : ∀ e ∈ oj.after, Region.binds md e = true -> e.on ≠ i := fun e he hb heq => by
    have q1 := hall e he hb; rw [heq, getD_both hun] at q1
    cases q1
   have h2 := wpOp_putIf hoj (hfree j oj hoj hji hjun hnot) (fun cs b => hsel i oi cs b hi) (fun cs b => hsel j oj cs b hoj) hQ hy (H.2 j (ready_mono hj hji))
   refine wpOp_mono (fun a' w' h3 => ⟨fun _ => h3.2.1 hjm, ih (listed.setIfInBounds j true) a' w' (inv.set hj hjm) ?_ (ready_mono hr (Ne.symm hji)) h3.1 (h3.2.1 hjm) ?_⟩) h2
   ·intro k ok hk hki hkun hno; refine hfree k ok hk hki ?_ hno
    by_cases hjk : j = k
    ·subst hjk; exact hjun
    ·rw [getD_set_ne true hjk] at hkun; exact hkun
   ·rw [Array.setIfInBounds_comm _ _ hji]; exact h3.2.2
def tillB (md : Region.Mode) (ops : Array Oper) (m : Nat) : Bool := Region.noSelect ops && Region.sinkB md ops m && Region.chainB md ops m && decide (m < ops.size)
theorem ysp {i : Nat} {oi : Oper} {v : Value} {n : Nat} {listed : Array Bool} {a : Act} {w : World} (hi : ops[i]? = some oi) (hB : tillB md ops m = true) (him : i < m)
  (hf : Region.free md ops listed i = true) (hr : (Region.ready md ops listed).contains i = true) (hQ : ∀ c a w, Q (.panic c) (a.put oi.dst v) w -> Q (.panic c) a w)
  (hy : YieldsIf P ops S oi v a) (hS : S w) (h : Till P md ops m Q S n (listed.setIfInBounds i true) (a.put oi.dst v) w) : Till P md ops m Q S (n + 1) listed a w := fun inv => by
 simp only [tillB, Bool.and_eq_true, decide_eq_true_eq] at hB; obtain ⟨⟨⟨h1, h2⟩, h3⟩, h4⟩ := hB
 have hr' : i ∈ Region.ready md ops listed := by simpa using hr
 exact ypy hi (Region.noSelect_spec h1) h2 h3 h4 him hQ n listed a w inv (Region.free_spec hi hf) hr' hy hS (h (inv.set hr' him))
theorem yaf {i d : Nat} {oi : Oper} {v : Value} {n : Nat} {listed : Array Bool} {ts : Array Value} {df : List Deferred} {w : World} (hi : ops[i]? = some oi) (hd : (ops[i]?).map (·.dst) = some (some d)) (hB : tillB md ops m = true) (him : i < m)
  (hf : Region.free md ops listed i = true) (hr : (Region.ready md ops listed).contains i = true) (hQ : ∀ c a w, Q (.panic c) (a.put oi.dst v) w -> Q (.panic c) a w)
  (hy : YieldsIf P ops S oi v ⟨ts, df⟩) (hS : S w) (h : Till P md ops m Q S n (listed.setIfInBounds i true) ⟨ts.setIfInBounds d v, df⟩ w) : Till P md ops m Q S (n + 1) listed ⟨ts, df⟩ w := by
 refine ysp hi hB him hf hr hQ hy hS ?_; rw [hi] at hd; simp only [Option.map_some, Option.some.injEq] at hd; rw [hd]; exact h
theorem yez {i d : Nat} {o : Oper} {v : Value} {n : Nat} {listed : Array Bool} {ts : Array Value} {df : List Deferred} {w : World} (hi : ops[i]? = some o) (hd : (ops[i]?).map (·.dst) = some (some d))
  (h : Till P md ops m Q S n listed ⟨ts.setIfInBounds d v, df⟩ w) : Till P md ops m Q S n listed (Act.put ⟨ts, df⟩ o.dst v) w := by
 rw [hi] at hd; simp only [Option.map_some, Option.some.injEq] at hd; rw [hd]; exact h
theorem ycg {i : Nat} {o : Oper} {n : Nat} {listed : Array Bool} {a : Act} {w : World} (ho : ops[i]? = some o) (hr : Region.ready md ops listed = [i]) (him : i < m)
  (h : ∀ K : Act -> World -> Prop, (∀ a' w', S w' -> Till P md ops m Q S n (listed.setIfInBounds i true) a' w' -> K a' w') -> if Region.wanted o (yielded ops a.tmps) = true then Oper.wp P o a w K Q else K (a.put o.dst undef) w) :
  Till P md ops m Q S (n + 1) listed a w := fun inv => by
 refine ⟨fun h0 => (by rw [h0] at hr; cases hr), fun j hj => ?_⟩
 have hji : j = i := by rw [hr] at hj; simpa using hj
 subst hji; refine wpOp_step ho fun K' hK => ?_
 exact h K' fun a' w' hS hT => hK a' w' ⟨fun _ => hS, hT (inv.set hj him)⟩
theorem yoi : ∀ (l : List Oper) (k : Nat) (listed : Array Bool) (a : Act) (w : World), (∀ j, l[j]? = ops[k + j]?) -> m <= k →
  Region.seqB md ops l.length k listed = true -> wpList P ops Q l a w -> wpTill P md ops m Q S l.length listed a w
 | [], _, _, _, _, _, _, hB, h => ⟨by simpa [Region.seqB] using hB, h⟩
 | o :: l, k, listed, a, w, hl, hk, hB, h => by
  have h0 : ops[k]? = some o := by simpa using (hl 0).symm
  simp only [List.length_cons, Region.seqB, Bool.and_eq_true, decide_eq_true_eq] at hB; refine ⟨fun h1 => (by rw [hB.1] at h1; cases h1), fun i hi => ?_⟩
  rw [hB.1] at hi
  have hik : i = k := by simpa using hi
  subst hik
  have hw : wpOp P ops Q i (wpList P ops Q l) a w := by unfold wpOp; simp only [h0]; exact h
  refine wpOp_mono (fun a' w' h' => ⟨fun h => absurd h (by omega), yoi l (i + 1) _ a' w' (fun j => ?_) (by omega) hB.2 h'⟩) hw
  have := hl (j + 1)
  simpa [Nat.add_assoc, Nat.add_comm 1 j] using this
theorem yey {k n : Nat} {listed : Array Bool} {a : Act} {w : World} (hk : m <= k) (hn : n = (ops.toList.drop k).length) (hB : Region.seqB md ops n k listed = true) (h : wpList P ops Q (ops.toList.drop k) a w) :
  Till P md ops m Q S n listed a w := fun _ => by
 subst hn; exact yoi _ k listed a w (fun j => by simp [List.getElem?_drop]) hk hB h
theorem ydh {id : Nat} {a : Act} {w : World} (hm : P.follows .mixedOrders = true) (h : Till P .any ops m Q S ops.size (Array.replicate ops.size false) a w.drew) : (Code.region id ops true).wp P Q a w :=
 wp_region_any hm (yis _ _ _ _ (h ⟨by simp, (fun j oj _ hl => absurd hl (by rw [getD_replicate_false]; exact Bool.false_ne_true)), (fun t _ ht' => by simp [ht'])⟩))
end
end Go.Proofs.YteibnfeokgibmaaGreat.R4
namespace Go.Proofs.YteibnfeokgibmaaGreat.R4
open Go.RowKit
theorem ypr {B : Nat} {w w' : World} {bp bt bm : Nat} {vi vb : Value} {ix : List Nat} {bs : List (List Int)} (h : BldAt B w bp bt bm vi vb ix bs) (hg : w.grownBy w' vi.ownBlock) : w'.cell? ⟨bp, 0, none⟩ = some (.pointer (some ⟨bt, 0, none⟩)) :=
 cell_of_row w' bp 0 _ _ _ ((hg.block _ (yad h.hp) (yao h.hi h.hp (by decide))).trans h.hp)
theorem ypq {B : Nat} {w w' : World} {bp bt bm : Nat} {vi vb : Value} {ix : List Nat} {bs : List (List Int)} (h : BldAt B w bp bt bm vi vb ix bs) (hg : w.grownBy w' vi.ownBlock) : w'.cell? ⟨bt, 0, none⟩ = some vi /\ w'.frozen? ⟨bt, 0, none⟩ = false :=
 have ht := (hg.block _ (yad h.ht) (yao h.hi h.ht (by decide))).trans h.ht
 ⟨cell_of_row w' bt 0 _ _ _ ht, frozen_of_row w' bt 0 _ _ ht⟩
theorem lay_old {B : Nat} {w : World} {bp bt bm : Nat} {vi vb : Value} {ix : List Nat} {bs : List (List Int)} (h : BldAt B w bp bt bm vi vb ix bs) {x : List Int} (hx : GoodR x) (hm : x ∈ bs) (n : Nat) (hn : 0 < n) (hl : ix.length + n <= 20000) :
  Calls Tryz.prog 166 #[.pointer (some ⟨bp, 0, none⟩), bval x, .int .i64 (n : Nat)] w fun e w' => e = .returned (.tuple #[]) /\ (∃ vi', BldAt B w' bp bt bm vi' vb (ix ++ List.replicate n (bs.idxOf x)) bs) /\ Below B w w' := by
 have hBs : B <= w.heap.size := Nat.le_of_lt (Nat.lt_of_le_of_lt h.hbp (yad h.hp))
 obtain ⟨k, hk⟩ : ∃ k, bs.idxOf x = k := ⟨_, rfl⟩; rw [hk]; obtain ⟨cs, hcs⟩ : ∃ cs, cs = cellsB x := ⟨_, rfl⟩
 have hcl : cs.length = 64 := by rw [hcs, ybh]; exact hx.1
 have hb0 : BldAt B (w.alloc (.cells cs.toArray 225)).drew bp bt bm vi vb ix bs := (h.kept (World.grownBy_alloc _ _ _)).kept (ybb _)
 have hlook : (Instr.lookup 226 (.map (some bm)) (.agg cs.toArray) true).run Tryz.prog (w.alloc (.cells cs.toArray 225)).drew = .ok (.tuple #[.int .u16 (k : Nat), .bool true]) (w.alloc (.cells cs.toArray 225)).drew := by
  have := hb0.hm.look_old hx hm
  rw [hk] at this; rw [hcs] at this |-; exact this
 have hr0 : (w.alloc (.cells cs.toArray 225)).drew.rangeAt w.heap.size 0 cs := fun j u hu => by
  have := yax w cs 225 j u hu
  rw [Addr.add_lit, Nat.zero_add] at this; rw [Nat.zero_add]; exact this
 have hc1 : (w.alloc (.cells cs.toArray 225)).drew.cell? ⟨bp, 1, none⟩ = some (.map (some bm)) := cell_of_row _ bp 1 _ _ _ hb0.hp
 have hu : Tryz.prog.underlying 225 = some (.array 64 21) := underBlk
 have hin : (Tryz.prog.info? 225).map (·.size) = some cs.length := by rw [hcl]; exact infoBlk
 have HW0 : Hid (Below B w (w.alloc (.cells cs.toArray 225)).drew) := ((zR _ _).alloc hBs _).drew
 have HB0 := zH hb0; have HL := zH hlook; have HR := zH hr0; have HC := zH hc1
 have hn1 : ((n : Int) == 0) = false := by rw [beq_eq_false_iff_ne]; omega
 have hn2 : (n : Int) <= 20000 := by omega
 have hbv : bval x = .agg cs.toArray := by rw [hcs]; rfl
 rw [hbv]; clear hlook hr0 hc1 hb0 h hk hx hm hcs hbv
 go_enter Tryz.func166, Tryz.ntmps166
 go_wp2
 go_region_held3 (fun w' => w'.cell? ⟨bp, 1, none⟩ = some (.map (some bm)) /\ w'.rangeAt w.heap.size 0 cs /\ (Instr.lookup 226 (.map (some bm)) (.agg cs.toArray) true).run Tryz.prog w' = .ok (.tuple #[.int .u16 (k : Nat), .bool true]) w')
  (first | exact ⟨HC.out, HR.out, HL.out⟩ | assumption)
  (fail)
 go_wp2
 go_loopw [53] (fun i wr => ∃ (j : Nat), j <= n /\ i = .int .i64 (j : Nat) /\ Hid (∃ A C, BldAt B wr bp bt bm (.slice A (ix ++ List.replicate j k).length C) vb (ix ++ List.replicate j k) bs) /\ Hid (Below B w wr)) (fun i _ => n - (intOf i).toNat)
 case atStart =>
  refine ⟨0, Nat.zero_le _, rfl, ?_, HW0.out⟩; obtain ⟨A, C, e, -, -⟩ := yai HB0.out.hi; refine ⟨A, C, ?_⟩; rw [List.replicate_zero, List.append_nil, <- e]; exact HB0.out
 case round =>
  obtain ⟨j, hj, rfl, HB, HW⟩ := hrel
  by_cases hlt : j < n
  ·obtain ⟨A, C, hb⟩ := HB.out
   have hlen : (ix ++ List.replicate j k).length = ix.length + j := by simp
   have hnext : ix ++ List.replicate (j + 1) k = (ix ++ List.replicate j k) ++ [k] := by rw [List.replicate_succ', List.append_assoc]
   obtain ⟨l, hl'⟩ : ∃ l, ix ++ List.replicate j k = l := ⟨_, rfl⟩; rw [hl'] at hb hlen hnext; have HN := zH hnext
   have hbd : BldAt B wr.drew bp bt bm (.slice A l.length C) vb l bs := hb.kept (ybb _)
   have hba : BldAt B (wr.alloc (.cells #[.int .u16 (k : Nat)] 253)).drew bp bt bm (.slice A l.length C) vb l bs := (hb.kept (World.grownBy_alloc _ _ _)).kept (ybb _)
   have HBD := zH hbd; have C0 := zH (cell_of_row _ bp 0 _ _ _ hbd.hp); have C1 := zH (cell_of_row _ bp 0 _ _ _ hba.hp)
   have c1 : wr.cell? ⟨bt, 0, none⟩ = some (.slice A l.length C) := cell_of_row _ bt 0 _ _ _ hb.ht
   have c2 : (wr.alloc (.cells #[.int .u16 (k : Nat)] 253)).cell? ⟨bt, 0, none⟩ = some (.slice A l.length C) := cell_of_row _ bt 0 _ _ _ hba.ht
   have hne : bt ≠ bp := fun e => hb.bp_ne e.symm
   have hBw : Hid (B <= wr.drew.heap.size) := Nat.le_trans hBs HW.out.size
   have hLL : Hid (l.length + 1 <= 10000000) := by show _ <= _; omega
   have hltI : (j : Int) < (n : Int) := by omega
   clear hb hbd hba hlen hnext hl'; obtain ⟨S, hS0⟩ : ∃ S : World -> Prop, S = fun w' => w'.cell? ⟨bp, 0, none⟩ = some (.pointer (some ⟨bt, 0, none⟩)) /\ w'.cell? ⟨bt, 0, none⟩ = some (.slice A l.length C) := ⟨_, rfl⟩
   have HS : Hid (S wr.drew) := by rw [hS0]; exact ⟨C0.out, c1⟩
   have HS2 : Hid (S (wr.alloc (.cells #[.int .u16 (k : Nat)] 253)).drew) := by rw [hS0]; exact ⟨C1.out, c2⟩
   have hS := zH hS0; clear hS0
   go_wp2
   refine ydh (m := 14) (S := S) (by kernel_rfl) ?_
   refine yaf (i := 0) (d := 55) (v := ?_) rfl (by kernel_rfl) (by kernel_rfl) (by omega) (by kernel_rfl) (by kernel_rfl) (fun _ _ _ h => h) (Or.inl ⟨by rfl, ?_⟩) HS.out ?_
   rotate_left
   ·intro w' hSw; rw [hS.out] at hSw; obtain ⟨s1, s2⟩ := hSw; go_simp <;> with_reducible rfl
   try simp only [zS, zA, zB]
   refine yaf (i := 1) (d := 56) (v := ?_) rfl (by kernel_rfl) (by kernel_rfl) (by omega) (by kernel_rfl) (by kernel_rfl) (fun _ _ _ h => h) (Or.inl ⟨by rfl, ?_⟩) HS.out ?_
   rotate_left
   ·intro w' hSw; rw [hS.out] at hSw; obtain ⟨s1, s2⟩ := hSw; go_simp <;> with_reducible rfl
   try simp only [zS, zA, zB]
   refine yaf (i := 2) (d := 57) (v := ?_) rfl (by kernel_rfl) (by kernel_rfl) (by omega) (by kernel_rfl) (by kernel_rfl) (fun _ _ _ h => h) (Or.inl ⟨by rfl, ?_⟩) HS.out ?_
   rotate_left
   ·intro w' hSw; rw [hS.out] at hSw; obtain ⟨s1, s2⟩ := hSw; go_simp <;> with_reducible rfl
   try simp only [zS, zA, zB]
   refine yaf (i := 3) (d := 58) (v := ?_) rfl (by kernel_rfl) (by kernel_rfl) (by omega) (by kernel_rfl) (by kernel_rfl) (fun _ _ _ h => h) (Or.inl ⟨by rfl, ?_⟩) HS.out ?_
   rotate_left
   ·intro w' hSw; rw [hS.out] at hSw; obtain ⟨s1, s2⟩ := hSw; go_simp <;> with_reducible rfl
   try simp only [zS, zA, zB]
   refine yaf (i := 4) (d := 59) (v := ?_) rfl (by kernel_rfl) (by kernel_rfl) (by omega) (by kernel_rfl) (by kernel_rfl) (fun _ _ _ h => h) (Or.inl ⟨by rfl, ?_⟩) HS.out ?_
   rotate_left
   ·intro w' hSw; rw [hS.out] at hSw; obtain ⟨s1, s2⟩ := hSw; go_simp <;> with_reducible rfl
   try simp only [zS, zA, zB]
   refine yaf (i := 5) (d := 60) (v := ?_) rfl (by kernel_rfl) (by kernel_rfl) (by omega) (by kernel_rfl) (by kernel_rfl) (fun _ _ _ h => h) (Or.inl ⟨by rfl, ?_⟩) HS.out ?_
   rotate_left
   ·intro w' hSw; rw [hS.out] at hSw; obtain ⟨s1, s2⟩ := hSw; go_simp <;> with_reducible rfl
   try simp only [zS, zA, zB]
   refine yaf (i := 6) (d := 61) (v := ?_) rfl (by kernel_rfl) (by kernel_rfl) (by omega) (by kernel_rfl) (by kernel_rfl) (fun _ _ _ h => h) (Or.inl ⟨by rfl, ?_⟩) HS.out ?_
   rotate_left
   ·intro w' hSw; rw [hS.out] at hSw; obtain ⟨s1, s2⟩ := hSw; go_simp <;> with_reducible rfl
   try simp only [zS, zA, zB]
   refine yaf (i := 7) (d := 62) (v := ?_) rfl (by kernel_rfl) (by kernel_rfl) (by omega) (by kernel_rfl) (by kernel_rfl) (fun _ _ _ h => h) (Or.inl ⟨by rfl, ?_⟩) HS.out ?_
   rotate_left
   ·intro w' hSw; rw [hS.out] at hSw; obtain ⟨s1, s2⟩ := hSw; go_simp <;> with_reducible rfl
   try simp only [zS, zA, zB]
   refine yaf (i := 8) (d := 63) (v := ?_) rfl (by kernel_rfl) (by kernel_rfl) (by omega) (by kernel_rfl) (by kernel_rfl) (fun _ _ _ h => h) (Or.inl ⟨by rfl, ?_⟩) HS.out ?_
   rotate_left
   ·intro w' hSw; rw [hS.out] at hSw; obtain ⟨s1, s2⟩ := hSw; go_simp <;> with_reducible rfl
   try simp only [zS, zA, zB]
   refine yaf (i := 9) (d := 64) (v := ?_) rfl (by kernel_rfl) (by kernel_rfl) (by omega) (by kernel_rfl) (by kernel_rfl) (fun _ _ _ h => h) (Or.inl ⟨by rfl, ?_⟩) HS.out ?_
   rotate_left
   ·intro w' hSw; rw [hS.out] at hSw; obtain ⟨s1, s2⟩ := hSw; go_simp <;> with_reducible rfl
   try simp only [zS, zA, zB]
   refine yaf (i := 10) (d := 65) (v := ?_) rfl (by kernel_rfl) (by kernel_rfl) (by omega) (by kernel_rfl) (by kernel_rfl) (fun _ _ _ h => h) (Or.inl ⟨by rfl, ?_⟩) HS.out ?_
   rotate_left
   ·intro w' hSw; rw [hS.out] at hSw; obtain ⟨s1, s2⟩ := hSw; go_simp <;> with_reducible rfl
   try simp only [zS, zA, zB]
   refine yaf (i := 11) (d := 66) (v := ?_) rfl (by kernel_rfl) (by kernel_rfl) (by omega) (by kernel_rfl) (by kernel_rfl) (fun _ _ _ h => h) (Or.inl ⟨by rfl, ?_⟩) HS.out ?_
   rotate_left
   ·intro w' hSw; rw [hS.out] at hSw; obtain ⟨s1, s2⟩ := hSw; go_simp <;> with_reducible rfl
   try simp only [zS, zA, zB]
   refine ycg (i := 12) rfl (by kernel_rfl) (by omega) (fun K hK => ?_)
   have HK := zH hK; clear hK; go_simp; refine HK.out _ _ HS2.out ?_; clear HK K
   try simp only [zS, zA, zB]
   refine ycg (i := 13) rfl (by kernel_rfl) (by omega) (fun K hK => ?_)
   refine yix (by rfl) (.tmp 65) (.tmp 67) (by rfl) wr.drew B _ _ k 1 (by rfl) HBD.out.hi (by rfl) hBw.out hLL.out ?_
   intro A2 C2 w2 ho2 hg2; have d0 := ypr HBD.out hg2; obtain ⟨d1, d2⟩ := ypq HBD.out hg2; refine hK _ _ (by rw [hS.out]; exact ⟨d0, d1⟩) ?_
   clear hK K; refine yez (i := 13) (d := 68) rfl (by kernel_rfl) ?_
   try simp only [zS, zA, zB]
   refine yey (k := 14) (by omega) (by kernel_rfl) (by kernel_rfl) ?_
   simp only [List.drop_succ_cons, List.drop_zero]
   go_wp2
   go_roundw
   case rel =>
    refine ⟨j + 1, by omega, by go_num, ?_, ?_⟩
    ·have hh := HBD.out.pushed hg2 ho2; rw [<- HN.out] at hh; refine ⟨A2, C2, ?_⟩
     have e : (ix ++ List.replicate (j + 1) k).length = l.length + 1 := by rw [HN.out]; simp
     rw [e]; exact hh
    ·exact (HW.out.drew.grown hg2 hBw.out (fun q hq => (own_lt HBD.out.hi q hq).1)).setCell HBD.out.hbt _
   case measure => simp [intOf]; omega
  ·have hjn : j = n := by omega
   subst hjn; have hb := HB.out; clear hlt
   go_wp2
   go_end0
   obtain ⟨A, C, hb⟩ := hb; exact ⟨rfl, ⟨_, hb⟩, HW.out⟩
end Go.Proofs.YteibnfeokgibmaaGreat.R4
