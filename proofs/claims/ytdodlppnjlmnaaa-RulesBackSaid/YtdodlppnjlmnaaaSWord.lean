/-
  RULES IN MEMORY: a slice of rules, three cells each; read, owned, appended to.
-/
import Derived.Test.YtdodlppnjlmnaaaSRule
namespace Go.Proofs.Ytdodlppnjlmnaaa
open Go.RowKit
set_option linter.unusedVariables false
set_option linter.unusedSimpArgs false
structure MR where
  r : Int
  vs : Value
  ve : Value
  s : List Int
  e : List Int
instance : Inhabited MR := ⟨⟨0, .slice none 0 0, .slice none 0 0, [], []⟩⟩
def MR.pl (m : MR) : RV := ⟨m.r, m.s, m.e⟩
def pls (M : List MR) : List RV := M.map MR.pl
def rcells (M : List MR) : List Value := M.flatMap fun m => [.int .i64 m.r, m.vs, m.ve]
theorem pls_app (a b : List MR) : pls (a ++ b) = pls a ++ pls b := by simp [pls]
theorem pls_len (M : List MR) : (pls M).length = M.length := by simp [pls]
theorem rcells_app (a b : List MR) : rcells (a ++ b) = rcells a ++ rcells b := by simp [rcells]
theorem rcells_cons (m : MR) (t : List MR) : rcells (m :: t) = [.int .i64 m.r, m.vs, m.ve] ++ rcells t := rfl
theorem rcells_len (l : List MR) : (rcells l).length = l.length * 3 := by
  induction l with
  | nil => rfl
  | cons p t ih => rw [rcells_cons, List.length_append, ih]; simp; omega
theorem rcells_at {l : List MR} {k : Nat} {p : MR} (h : l[k]? = some p) : (rcells l)[k * 3]? = some (.int .i64 p.r) ∧ (rcells l)[k * 3 + 1]? = some p.vs ∧ (rcells l)[k * 3 + 2]? = some p.ve := by
  induction l generalizing k with
  | nil => simp at h
  | cons q t ih =>
    rw [show rcells (q :: t) = .int .i64 q.r :: q.vs :: q.ve :: rcells t from rfl]
    cases k with
    | zero => simp at h; subst h; exact ⟨rfl, rfl, rfl⟩
    | succ k =>
      simp only [List.getElem?_cons_succ] at h
      obtain ⟨h1, h2, h3⟩ := ih h
      refine ⟨?_, ?_, ?_⟩
      · rw [show (k + 1) * 3 = k * 3 + 1 + 1 + 1 by omega]; simpa using h1
      · rw [show (k + 1) * 3 + 1 = k * 3 + 1 + 1 + 1 + 1 by omega]; simpa using h2
      · rw [show (k + 1) * 3 + 2 = k * 3 + 2 + 1 + 1 + 1 by omega]; simpa using h3
/-- A slice of rules, read. -/
def RdM (w : World) (v : Value) (M : List MR) : Prop := RdF anyB w v M.length (rcells M) ∧ ∀ m ∈ M, RdI anyB w m.vs m.s ∧ RdI anyB w m.ve m.e
def RdRs (w : World) (v : Value) (L : List RV) : Prop := ∃ M, pls M = L ∧ RdM w v M
theorem RdM.below {B : Nat} {w w' : World} {v : Value} {M : List MR} (h : RdM w v M) (hb : Below B w w') (hB : w.heap.size ≤ B) : RdM w' v M :=
  ⟨h.1.below hb hB, fun m hm => ⟨(h.2 m hm).1.below hb hB, (h.2 m hm).2.below hb hB⟩⟩
theorem RdRs.below {B : Nat} {w w' : World} {v : Value} {L : List RV} (h : RdRs w v L) (hb : Below B w w') (hB : w.heap.size ≤ B) : RdRs w' v L := by
  obtain ⟨M, e, h⟩ := h
  exact ⟨M, e, h.below hb hB⟩
theorem RdRs.nil (w : World) : RdRs w (.slice none 0 0) [] := ⟨[], rfl, RdF.nil _ _, fun m hm => by cases hm⟩
theorem RdRs.form {w : World} {v : Value} {L : List RV} (h : RdRs w v L) : ∃ A c, v = .slice A L.length c := by
  obtain ⟨M, rfl, h⟩ := h
  rw [pls_len]; exact h.1.form
/-- The k-th rule of a slice of rules. -/
theorem RdRs.at {w : World} {A : Option Addr} {n c : Nat} {L : List RV} (h : RdRs w (.slice A n c) L) {k : Nat} {x : RV} (hk : L[k]? = some x) :
    ∃ (g o : Nat) (vs ve : Value), A = some ⟨g, o, none⟩ ∧ w.cell? ⟨g, o + k * 3, none⟩ = some (.int .i64 x.rel) ∧ w.cell? ⟨g, o + k * 3 + 1, none⟩ = some vs ∧ w.cell? ⟨g, o + k * 3 + 2, none⟩ = some ve ∧ RdI anyB w vs x.seq ∧ RdI anyB w ve x.exp := by
  obtain ⟨M, rfl, h⟩ := h
  unfold pls at hk
  rw [List.getElem?_map] at hk
  cases hm : M[k]? with
  | none => rw [hm] at hk; cases hk
  | some m =>
    rw [hm] at hk
    simp at hk
    subst hk
    have hl := (List.getElem?_eq_some_iff.1 hm).1
    obtain ⟨g, o, e, _, hx⟩ := RdF.base h.1 (by omega)
    obtain ⟨h1, h2, h3⟩ := rcells_at hm
    have h4 := h.2 m (List.mem_of_getElem? hm)
    exact ⟨g, o, m.vs, m.ve, e, hx _ _ h1, by rw [Nat.add_assoc]; exact hx _ _ h2, by rw [Nat.add_assoc]; exact hx _ _ h3, h4.1, h4.2⟩
/-- A slice of rules that the call made, and what the rules hold. -/
structure OwnR (E : TypeId) (B : Nat) (w : World) (v : Value) (M : List MR) : Prop where
  row : w.ownsRow B E 3 v M.length (rcells M)
  els : ∀ m ∈ M, T2.OwnI B w m.vs m.s ∧ T2.OwnI B w m.ve m.e
theorem OwnR.nil (E : TypeId) (B : Nat) (w : World) : OwnR E B w (.slice none 0 0) [] := ⟨World.ownsRow_nil w B _ 3, fun m hm => by cases hm⟩
theorem OwnR.below {E : TypeId} {B B' : Nat} {w w' : World} {v : Value} {M : List MR} (h : OwnR E B w v M) (hb : Below B' w w') (hB : w.heap.size ≤ B') : OwnR E B w' v M :=
  ⟨R4.own_below h.row hb hB, fun m hm => ⟨(h.els m hm).1.below hb hB, (h.els m hm).2.below hb hB⟩⟩
theorem OwnR.mv {E : TypeId} {B g : Nat} {w w' : World} {v : Value} {M : List MR} (h : OwnR E B w v M) (hm : Mv g w w') (hg : g < B) : OwnR E B w' v M :=
  ⟨own_off h.row hm hg, fun m hx => ⟨own_off (h.els m hx).1 hm hg, own_off (h.els m hx).2 hm hg⟩⟩
theorem OwnR.rd {E : TypeId} {B : Nat} {w : World} {v : Value} {M : List MR} (h : OwnR E B w v M) : RdRs w v (pls M) :=
  ⟨M, rfl, RdF.of_own h.row fun _ _ => trivial, fun m hm => ⟨ownI_rd (h.els m hm).1 fun _ _ => trivial, ownI_rd (h.els m hm).2 fun _ _ => trivial⟩⟩
theorem OwnR.form {E : TypeId} {B : Nat} {w : World} {v : Value} {M : List MR} (h : OwnR E B w v M) : ∃ A c, v = .slice A M.length c := by
  obtain ⟨A, c, e, _⟩ := R4.own_parts h.row
  exact ⟨A, c, e⟩
theorem own_one {B : Nat} {w : World} {v : Value} {l : List Int} (h : T2.OwnI B w v l) : v.oneCell' = true := by
  obtain ⟨A, c, e, _⟩ := R4.own_parts h
  rw [e]; rfl
theorem own_keep {B B' : Nat} {E : TypeId} {w w' : World} {v u : Value} {n m : Nat} {l : List Int} {xs : List Value} (h : T2.OwnI B w u l) (ho : w.ownsRow B' E 3 v n xs) (hne : 3 ≠ E) (hg : w.grownBy w' v.ownBlock) : T2.OwnI B w' u l :=
  World.ownsRow.kept h hg (R4.own_apart_own ho h hne)
theorem run_alloc_own {B : Nat} {w : World} {u : Value} {l : List Int} (h : T2.OwnI B w u l) (o : Obj) : T2.OwnI B (w.alloc o) u l := World.ownsRow.alloc h o
/-- append of one rule. -/
theorem pushR {T E : TypeId} {i : TypeInfo} (hT : Try.prog.underlying T = some (.slice E)) (hi : Try.prog.info? E = some i) (hz0 : i.zero = some (.agg #[.int .i64 0, .slice none 0 0, .slice none 0 0])) (hz1 : i.size = 3) (hz2 : i.bytes = 56) (hne : 3 ≠ E)
    {ops : Array Oper} {rest : List Oper} {o : Oper} {a : Act} {Q : Exit → Act → World → Prop} (hgd : o.guard = none) (s x : Operand)
    (ho : o.op = .call { callee := .builtin .append, args := #[s, x], argTypes := #[T, T] })
    (w0 : World) (B : Nat) (v : Value) (M : List MR) (m : MR) (C : Nat) (hs : a.eval s = v) (hown : OwnR E B w0 v M) (hm : T2.OwnI B w0 m.vs m.s ∧ T2.OwnI B w0 m.ve m.e) {N : Nat} (hN : w0.heap.size = N) (hx : a.eval x = .slice (some ⟨N, 0, none⟩) 1 C) (hC : 1 ≤ C)
    (hB : B ≤ w0.heap.size) (hl : M.length + 1 ≤ 1000000)
    (h : ∀ v' w', OwnR E B w' v' (M ++ [m]) → Below B w0 w' → wpList Try.prog ops Q rest (a.put o.dst v') w') : wpList Try.prog ops Q (o :: rest) a (w0.alloc (.cells #[.int .i64 m.r, m.vs, m.ve] E)) := by
  subst hN
  have hb1 : Below B w0 (w0.alloc (.cells #[.int .i64 m.r, m.vs, m.ve] E)) := (Below.refl B w0).alloc hB _
  have hb2 : B ≤ (w0.alloc (.cells #[.int .i64 m.r, m.vs, m.ve] E)).heap.size := Nat.le_trans hB hb1.size
  have hrow := World.ownsRow.alloc hown.row (.cells #[.int .i64 m.r, m.vs, m.ve] E)
  refine appendG hT hi hz0 hz1 hz2 rfl (by omega) (by omega) hgd s x ho _ B v M.length (rcells M) hs hrow hx (RdF.new (n := 1) w0 (rcells [m]) E hC) (by rw [rcells_len]; rfl) ?_ hb2 hl ?_
  · intro u hu
    rw [show rcells [m] = [.int .i64 m.r, m.vs, m.ve] from rfl] at hu
    simp only [List.mem_cons, List.not_mem_nil, or_false] at hu
    rcases hu with rfl | rfl | rfl
    · rfl
    · exact own_one hm.1
    · exact own_one hm.2
  · intro v' w' h1 h2 h3
    refine h v' w' ⟨?_, fun p hp => ?_⟩ (hb1.trans h3)
    · rw [rcells_app, List.length_append]; exact h1
    · rcases List.mem_append.1 hp with hp | hp
      · exact ⟨own_keep (m := 0) (run_alloc_own (hown.els p hp).1 _) hrow hne h2, own_keep (m := 0) (run_alloc_own (hown.els p hp).2 _) hrow hne h2⟩
      · simp only [List.mem_cons, List.not_mem_nil, or_false] at hp
        subst hp
        exact ⟨own_keep (m := 0) (run_alloc_own hm.1 _) hrow hne h2, own_keep (m := 0) (run_alloc_own hm.2 _) hrow hne h2⟩
theorem rule_info : (Try.prog.info? 43).map (fun i => (i.zero, i.size, i.bytes)) = some (some (.agg #[.int .i64 0, .slice none 0 0, .slice none 0 0]), 3, 56) := by kernel_rfl
theorem rrule_info : (Try.prog.info? 35).map (fun i => (i.zero, i.size, i.bytes)) = some (some (.agg #[.int .i64 0, .slice none 0 0, .slice none 0 0]), 3, 56) := by kernel_rfl
end Go.Proofs.Ytdodlppnjlmnaaa
