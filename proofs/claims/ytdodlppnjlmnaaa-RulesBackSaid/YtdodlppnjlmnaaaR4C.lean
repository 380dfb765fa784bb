/-
  CARRIED by carry.py out of the templates of an earlier stage: XRStep XRHeld XRLay.
-/
import Derived.Test.YtdodlppnjlmnaaaR4B
import Derived.Deep.RegionLaw
import Derived.Laws.Tables
import Derived.Great.BuildSlice
import Derived.OrdersHeld
import Derived.StillTail
import Derived.RegionTactic
namespace Go.Proofs.Ytdodlppnjlmnaaa.R4
open Go.RowKit
set_option linter.unusedVariables false
set_option linter.unusedSimpArgs false
theorem cells_new (w : World) (xs : List Value) (t : TypeId) : ∀ j u, xs[j]? = some u → (w.alloc (.cells xs.toArray t)).cell? ((⟨w.heap.size, 0, none⟩ : Addr).add j) = some u := by
  intro j u hu
  rw [Addr.add_lit, Nat.zero_add, World.cell?_alloc_mark, List.getElem?_toArray]
  exact hu
end Go.Proofs.Ytdodlppnjlmnaaa.R4
namespace Go.Proofs.Ytdodlppnjlmnaaa.R4
set_option linter.unusedVariables false
set_option linter.unusedSimpArgs false
section
variable {P : Program} {ops : Array Oper} {Q : Exit → Act → World → Prop} {md : Region.Mode} {S : World → Prop} {m : Nat}
/-- Whatever comes up next: behind it S holds, but behind number m. -/
def wpTill (P : Program) (md : Region.Mode) (ops : Array Oper) (m : Nat) (Q : Exit → Act → World → Prop) (S : World → Prop) : Nat → Array Bool → Act → World → Prop
  | 0, listed, a, w => Region.ready md ops listed = [] ∧ Q .normal a w
  | n + 1, listed, a, w => (Region.ready md ops listed = [] → Q .normal a w) ∧
      ∀ i ∈ Region.ready md ops listed, wpOp P ops Q i (fun a' w' => (i < m → S w') ∧ wpTill P md ops m Q S n (listed.setIfInBounds i true) a' w') a w
theorem any_of_till : ∀ (n : Nat) (listed : Array Bool) (a : Act) (w : World), wpTill P md ops m Q S n listed a w → wpAny P md ops Q n listed a w
  | 0, _, _, _, h => h
  | n + 1, _, _, _, h => ⟨h.1, fun i hi => wpOp_mono (fun a' w' h' => any_of_till n _ a' w' h'.2) (h.2 i hi)⟩
def Till (P : Program) (md : Region.Mode) (ops : Array Oper) (m : Nat) (Q : Exit → Act → World → Prop) (S : World → Prop) (n : Nat) (listed : Array Bool) (a : Act) (w : World) : Prop :=
  HeadInv md ops m listed → wpTill P md ops m Q S n listed a w
theorem till_first {i : Nat} {oi : Oper} {v : Value} (hi : ops[i]? = some oi) (hsel : ∀ (j : Nat) (o : Oper) cs b, ops[j]? = some o → o.op ≠ .select cs b)
    (hs : Region.sinkB md ops m = true) (hc : Region.chainB md ops m = true) (hm : m < ops.size) (him : i < m)
    (hQ : ∀ c a w, Q (.panic c) (a.put oi.dst v) w → Q (.panic c) a w) : ∀ (n : Nat) (listed : Array Bool) (a : Act) (w : World), HeadInv md ops m listed →
      (∀ j oj, ops[j]? = some oj → j ≠ i → listed.getD j true = false → (∀ e ∈ oj.after, Region.binds md e = true → e.on ≠ i) → oi.apart ops oj = true) →
      i ∈ Region.ready md ops listed → YieldsIf P ops S oi v a → S w → wpTill P md ops m Q S n (listed.setIfInBounds i true) (a.put oi.dst v) w → wpTill P md ops m Q S (n + 1) listed a w := by
  intro n
  induction n with
  | zero =>
    intro listed a w inv hfree hr hy hS H
    refine ⟨fun h => (by rw [h] at hr; cases hr), fun j hj => ?_⟩
    by_cases hji : j = i
    · subst hji; exact hy.wpOp hi hS ⟨fun _ => hS, H⟩
    · have := ready_mono hj hji
      rw [H.1] at this
      cases this
  | succ n ih =>
    intro listed a w inv hfree hr hy hS H
    refine ⟨fun h => (by rw [h] at hr; cases hr), fun j hj => ?_⟩
    have hun := (mem_ready.1 hr).1
    by_cases hji : j = i
    · subst hji; exact hy.wpOp hi hS ⟨fun _ => hS, H⟩
    · have hjm : j < m := by
        rcases Nat.lt_or_ge j m with h | h
        · exact h
        · exact absurd hj (tail_waits hs hc hm inv _ i rfl him hun j h)
      obtain ⟨hjun, oj, hoj, hall⟩ := mem_ready.1 hj
      have hnot : ∀ e ∈ oj.after, Region.binds md e = true → e.on ≠ i := fun e he hb heq => by
        have q1 := hall e he hb
        rw [heq, getD_both hun] at q1
        cases q1
      have h2 := wpOp_putIf hoj (hfree j oj hoj hji hjun hnot) (fun cs b => hsel i oi cs b hi) (fun cs b => hsel j oj cs b hoj) hQ hy (H.2 j (ready_mono hj hji))
      refine wpOp_mono (fun a' w' h3 => ⟨fun _ => h3.2.1 hjm, ih (listed.setIfInBounds j true) a' w' (inv.set hj hjm) ?_ (ready_mono hr (Ne.symm hji)) h3.1 (h3.2.1 hjm) ?_⟩) h2
      · intro k ok hk hki hkun hno
        refine hfree k ok hk hki ?_ hno
        by_cases hjk : j = k
        · subst hjk; exact hjun
        · rw [getD_set_ne true hjk] at hkun; exact hkun
      · rw [Array.setIfInBounds_comm _ _ hji]
        exact h3.2.2
/-- The region's parts that the kernel settles once. -/
def tillB (md : Region.Mode) (ops : Array Oper) (m : Nat) : Bool := Region.noSelect ops && Region.sinkB md ops m && Region.chainB md ops m && decide (m < ops.size)
theorem till_take {i : Nat} {oi : Oper} {v : Value} {n : Nat} {listed : Array Bool} {a : Act} {w : World} (hi : ops[i]? = some oi) (hB : tillB md ops m = true) (him : i < m)
    (hf : Region.free md ops listed i = true) (hr : (Region.ready md ops listed).contains i = true) (hQ : ∀ c a w, Q (.panic c) (a.put oi.dst v) w → Q (.panic c) a w)
    (hy : YieldsIf P ops S oi v a) (hS : S w) (h : Till P md ops m Q S n (listed.setIfInBounds i true) (a.put oi.dst v) w) : Till P md ops m Q S (n + 1) listed a w := fun inv => by
  simp only [tillB, Bool.and_eq_true, decide_eq_true_eq] at hB
  obtain ⟨⟨⟨h1, h2⟩, h3⟩, h4⟩ := hB
  have hr' : i ∈ Region.ready md ops listed := by simpa using hr
  exact till_first hi (Region.noSelect_spec h1) h2 h3 h4 him hQ n listed a w inv (Region.free_spec hi hf) hr' hy hS (h (inv.set hr' him))
/-- The same, the slot that is written said by its number. -/
theorem till_slot {i d : Nat} {oi : Oper} {v : Value} {n : Nat} {listed : Array Bool} {ts : Array Value} {df : List Deferred} {w : World} (hi : ops[i]? = some oi) (hd : (ops[i]?).map (·.dst) = some (some d)) (hB : tillB md ops m = true) (him : i < m)
    (hf : Region.free md ops listed i = true) (hr : (Region.ready md ops listed).contains i = true) (hQ : ∀ c a w, Q (.panic c) (a.put oi.dst v) w → Q (.panic c) a w)
    (hy : YieldsIf P ops S oi v ⟨ts, df⟩) (hS : S w) (h : Till P md ops m Q S n (listed.setIfInBounds i true) ⟨ts.setIfInBounds d v, df⟩ w) : Till P md ops m Q S (n + 1) listed ⟨ts, df⟩ w := by
  refine till_take hi hB him hf hr hQ hy hS ?_
  rw [hi] at hd
  simp only [Option.map_some, Option.some.injEq] at hd
  rw [hd]
  exact h
theorem till_put {i d : Nat} {o : Oper} {v : Value} {n : Nat} {listed : Array Bool} {ts : Array Value} {df : List Deferred} {w : World} (hi : ops[i]? = some o) (hd : (ops[i]?).map (·.dst) = some (some d))
    (h : Till P md ops m Q S n listed ⟨ts.setIfInBounds d v, df⟩ w) : Till P md ops m Q S n listed (Act.put ⟨ts, df⟩ o.dst v) w := by
  rw [hi] at hd
  simp only [Option.map_some, Option.some.injEq] at hd
  rw [hd]
  exact h
theorem till_one {i : Nat} {o : Oper} {n : Nat} {listed : Array Bool} {a : Act} {w : World} (ho : ops[i]? = some o) (hr : Region.ready md ops listed = [i]) (him : i < m)
    (h : ∀ K : Act → World → Prop, (∀ a' w', S w' → Till P md ops m Q S n (listed.setIfInBounds i true) a' w' → K a' w') → if Region.wanted o (yielded ops a.tmps) = true then Oper.wp P o a w K Q else K (a.put o.dst undef) w) :
    Till P md ops m Q S (n + 1) listed a w := fun inv => by
  refine ⟨fun h0 => (by rw [h0] at hr; cases hr), fun j hj => ?_⟩
  have hji : j = i := by rw [hr] at hj; simpa using hj
  subst hji
  refine wpOp_step ho fun K' hK => ?_
  exact h K' fun a' w' hS hT => hK a' w' ⟨fun _ => hS, hT (inv.set hj him)⟩
theorem till_seq : ∀ (l : List Oper) (k : Nat) (listed : Array Bool) (a : Act) (w : World), (∀ j, l[j]? = ops[k + j]?) → m ≤ k →
    Region.seqB md ops l.length k listed = true → wpList P ops Q l a w → wpTill P md ops m Q S l.length listed a w
  | [], _, _, _, _, _, _, hB, h => ⟨by simpa [Region.seqB] using hB, h⟩
  | o :: l, k, listed, a, w, hl, hk, hB, h => by
    have h0 : ops[k]? = some o := by simpa using (hl 0).symm
    simp only [List.length_cons, Region.seqB, Bool.and_eq_true, decide_eq_true_eq] at hB
    refine ⟨fun h1 => (by rw [hB.1] at h1; cases h1), fun i hi => ?_⟩
    rw [hB.1] at hi
    have hik : i = k := by simpa using hi
    subst hik
    have hw : wpOp P ops Q i (wpList P ops Q l) a w := by unfold wpOp; simp only [h0]; exact h
    refine wpOp_mono (fun a' w' h' => ⟨fun h => absurd h (by omega), till_seq l (i + 1) _ a' w' (fun j => ?_) (by omega) hB.2 h'⟩) hw
    have := hl (j + 1)
    simpa [Nat.add_assoc, Nat.add_comm 1 j] using this
/-- The tail, whose order is forced: as a plain list. -/
theorem till_tail {k n : Nat} {listed : Array Bool} {a : Act} {w : World} (hk : m ≤ k) (hn : n = (ops.toList.drop k).length) (hB : Region.seqB md ops n k listed = true) (h : wpList P ops Q (ops.toList.drop k) a w) :
    Till P md ops m Q S n listed a w := fun _ => by
  subst hn
  exact till_seq _ k listed a w (fun j => by simp [List.getElem?_drop]) hk hB h
theorem till_region {id : Nat} {a : Act} {w : World} (hm : P.follows .mixedOrders = true) (h : Till P .any ops m Q S ops.size (Array.replicate ops.size false) a w.drew) : (Code.region id ops true).wp P Q a w :=
  wp_region_any hm (any_of_till _ _ _ _ (h ⟨by simp, (fun j oj _ hl => absurd hl (by rw [getD_replicate_false]; exact Bool.false_ne_true)), (fun t _ ht' => by simp [ht'])⟩))
end
end Go.Proofs.Ytdodlppnjlmnaaa.R4
namespace Go.Proofs.Ytdodlppnjlmnaaa.R4
open Go.RowKit
set_option linter.unusedVariables false
set_option linter.unusedSimpArgs false

end Go.Proofs.Ytdodlppnjlmnaaa.R4
