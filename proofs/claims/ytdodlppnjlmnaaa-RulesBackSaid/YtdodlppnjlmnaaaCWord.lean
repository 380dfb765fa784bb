/-
  WORDS FOR MEMORY THAT SERVE EVERY STAGE (mkcommon.py out of stage 5's texts).
-/
import Derived.Test.YtdodlppnjlmnaaaT2C
import Derived.Test.YtdodlppnjlmnaaaR4B
import Derived.Test.YtdodlppnjlmnaaaR4D
import Derived.Maps.AppendAt
import Derived.Deep.SlicePairs
import Derived.ChangeArms
import Derived.ChangeAt
import Derived.ProofKit
import Derived.OpenShut
import Derived.BigQuiet
import Derived.Deep.QuietTactic
namespace Go.Proofs.Ytdodlppnjlmnaaa
open Go.RowKit
set_option linter.unusedVariables false
set_option linter.unusedSimpArgs false
open Go.ChangeShapes Go.WideShapes Go.ChangeAt
theorem cell_lt {w : World} {p : Addr} {u : Value} (h : w.cell? p = some u) : p.block < w.heap.size := by
  unfold World.cell? at h
  cases hb : w.heap[p.block]? with
  | none => rw [hb] at h; cases h
  | some o => exact (Array.getElem?_eq_some_iff.1 hb).1
theorem cell_lit {w : World} {p : Addr} {u : Value} (h : w.cell? p = some u) : p = ⟨p.block, p.off, none⟩ := by
  unfold World.cell? at h
  obtain ⟨b, o, sp⟩ := p
  cases sp with
  | none => rfl
  | some k => cases hb : w.heap[b]? with
    | none => simp [hb] at h
    | some ob => cases ob <;> simp [hb] at h
/-- A slice of n elements, its cells xs: they lie in blocks of the kind F. -/
def RdF (F : Nat → Prop) (w : World) (v : Value) (n : Nat) (xs : List Value) : Prop :=
  ∃ A c, v = .slice A n c ∧ n ≤ c ∧ (0 < n → ∃ g o : Nat, A = some ⟨g, o, none⟩ ∧ F g ∧ ∀ j u, xs[j]? = some u → w.cell? ⟨g, o + j, none⟩ = some u)
theorem RdF.mono {F G : Nat → Prop} {w : World} {v : Value} {n : Nat} {xs : List Value} (h : RdF F w v n xs) (hG : ∀ g, F g → G g) : RdF G w v n xs := by
  obtain ⟨A, c, rfl, hc, h⟩ := h
  refine ⟨A, c, rfl, hc, fun hn => ?_⟩
  obtain ⟨g, o, e, hg, hx⟩ := h hn
  exact ⟨g, o, e, hG g hg, hx⟩
theorem RdF.frame {F : Nat → Prop} {w w' : World} {v : Value} {n : Nat} {xs : List Value} (h : RdF F w v n xs) (hf : ∀ g, F g → g < w.heap.size → w'.heap[g]? = w.heap[g]?) : RdF F w' v n xs := by
  obtain ⟨A, c, rfl, hc, h⟩ := h
  refine ⟨A, c, rfl, hc, fun hn => ?_⟩
  obtain ⟨g, o, e, hg, hx⟩ := h hn
  refine ⟨g, o, e, hg, fun j u hu => ?_⟩
  have h1 := hx j u hu
  rw [World.cell?_of_block (w := w) (a := ⟨g, o + j, none⟩) (hf g hg (cell_lt h1))]
  exact h1
theorem RdF.below {F : Nat → Prop} {B : Nat} {w w' : World} {v : Value} {n : Nat} {xs : List Value} (h : RdF F w v n xs) (hb : Below B w w') (hB : w.heap.size ≤ B) : RdF F w' v n xs :=
  h.frame fun g _ hg => hb.block g (by omega)
theorem RdF.form {F : Nat → Prop} {w : World} {v : Value} {n : Nat} {xs : List Value} (h : RdF F w v n xs) : ∃ A c, v = .slice A n c := by
  obtain ⟨A, c, e, _⟩ := h; exact ⟨A, c, e⟩
theorem RdF.cap {F : Nat → Prop} {w : World} {A : Option Addr} {n m c : Nat} {xs : List Value} (h : RdF F w (.slice A m c) n xs) : n ≤ c ∧ m = n := by
  obtain ⟨A', c', e, hc, _⟩ := h
  cases e
  exact ⟨hc, rfl⟩
theorem RdF.base {F : Nat → Prop} {w : World} {A : Option Addr} {n m c : Nat} {xs : List Value} (h : RdF F w (.slice A m c) n xs) (h0 : 0 < n) : ∃ g o : Nat, A = some ⟨g, o, none⟩ ∧ F g ∧ ∀ j u, xs[j]? = some u → w.cell? ⟨g, o + j, none⟩ = some u := by
  obtain ⟨A', c', e, hc, h⟩ := h
  cases e
  exact h h0
theorem RdF.nil (F : Nat → Prop) (w : World) : RdF F w (.slice none 0 0) 0 [] := ⟨none, 0, rfl, Nat.le_refl _, fun h => absurd h (by omega)⟩
theorem RdF.of_own {F : Nat → Prop} {w : World} {B : Nat} {e : TypeId} {s : Nat} {v : Value} {n : Nat} {xs : List Value} (h : w.ownsRow B e s v n xs) (hF : ∀ g, B ≤ g → F g) : RdF F w v n xs := by
  obtain ⟨A, c, rfl, hc, hr⟩ := R4.own_parts h
  refine ⟨A, c, rfl, hc, fun hn => ?_⟩
  obtain ⟨g, e, h1, h2, h3⟩ := hr hn
  exact ⟨g, 0, e, hF g h1, fun j u hu => by rw [Nat.zero_add]; exact h3 j u hu⟩
theorem RdF.take {F : Nat → Prop} {w : World} {A : Option Addr} {n c : Nat} {xs : List Value} (h : RdF F w (.slice A n c) n xs) {m : Nat} (hm : m ≤ n) (k : Nat) : RdF F w (.slice A m c) m (xs.take k) := by
  obtain ⟨A', c', e, hc, h⟩ := h
  cases e
  refine ⟨A, c, rfl, by omega, fun h0 => ?_⟩
  obtain ⟨g, o, e, hg, hx⟩ := h (by omega)
  refine ⟨g, o, e, hg, fun j u hu => hx j u ?_⟩
  rw [List.getElem?_take] at hu
  split at hu
  · exact hu
  · cases hu
theorem RdF.drop {F : Nat → Prop} {w : World} {A A2 : Option Addr} {n c u : Nat} {xs : List Value} (h : RdF F w (.slice A n c) n xs) (hu : u ≤ n) (hA : ∀ ad : Addr, A = some ad → (if c = u then some ad else some (ad.add u)) = A2) : RdF F w (.slice A2 (n - u) (c - u)) (n - u) (xs.drop u) := by
  obtain ⟨A', c', e, hc, h⟩ := h
  cases e
  refine ⟨A2, c - u, rfl, by omega, fun h0 => ?_⟩
  obtain ⟨g, o, e, hg, hx⟩ := h (by omega)
  have h1 := hA _ e
  rw [if_neg (by omega), Addr.add_lit] at h1
  refine ⟨g, o + u, h1.symm, hg, fun j x hx' => ?_⟩
  rw [Nat.add_assoc]
  refine hx _ _ ?_
  rwa [List.getElem?_drop] at hx'
theorem RdF.rd {F : Nat → Prop} {w : World} {v : Value} {xs : List Value} {n : Nat} (h : RdF F w v n xs) (hn : n = xs.length) : T2.Rd w.heap.size w v xs := by
  subst hn
  obtain ⟨A, c, rfl, hc, h⟩ := h
  refine ⟨A, c, rfl, fun h0 => ?_⟩
  obtain ⟨g, o, e, _, hx⟩ := h h0
  refine ⟨_, e, ?_, fun j u hu => by rw [Addr.add_lit]; exact hx j u hu⟩
  obtain ⟨x, t, rfl⟩ : ∃ x t, xs = x :: t := by cases xs with | nil => simp at h0 | cons x t => exact ⟨x, t, rfl⟩
  exact cell_lt (hx 0 x rfl)
def anyB : Nat → Prop := fun _ => True
theorem RdF.any {F : Nat → Prop} {w : World} {v : Value} {n : Nat} {xs : List Value} (h : RdF F w v n xs) : RdF anyB w v n xs := h.mono fun _ _ => trivial
abbrev iv := T2.iv
def ev (l : List Nat) : List Value := l.map fun x : Nat => Value.int .u32 (x : Int)
theorem ev_len (l : List Nat) : (ev l).length = l.length := by simp [ev]
theorem iv_len (l : List Int) : (iv l).length = l.length := T2.iv_len l
theorem iv_at {l : List Int} {k : Nat} {x : Int} (h : l[k]? = some x) : (iv l)[k]? = some (.int .i64 x) := by simp [iv, T2.iv, h]
theorem ev_at {l : List Nat} {k x : Nat} (h : l[k]? = some x) : (ev l)[k]? = some (.int .u32 (x : Int)) := by simp [ev, h]
theorem ev_app (a b : List Nat) : ev (a ++ b) = ev a ++ ev b := by simp [ev]
theorem ev_one (l : List Nat) : ∀ u ∈ ev l, u.oneCell' = true := by
  intro u hu
  obtain ⟨k, _, rfl⟩ := List.mem_map.1 hu
  rfl
def RdI (F : Nat → Prop) (w : World) (v : Value) (l : List Int) : Prop := RdF F w v l.length (iv l)
def RdE (F : Nat → Prop) (w : World) (v : Value) (l : List Nat) : Prop := RdF F w v l.length (ev l)
theorem RdI.below {F : Nat → Prop} {B : Nat} {w w' : World} {v : Value} {l : List Int} (h : RdI F w v l) (hb : Below B w w') (hB : w.heap.size ≤ B) : RdI F w' v l := RdF.below h hb hB
theorem RdE.below {F : Nat → Prop} {B : Nat} {w w' : World} {v : Value} {l : List Nat} (h : RdE F w v l) (hb : Below B w w') (hB : w.heap.size ≤ B) : RdE F w' v l := RdF.below h hb hB
theorem RdI.rd {F : Nat → Prop} {w : World} {v : Value} {l : List Int} (h : RdI F w v l) : T2.Rd w.heap.size w v (iv l) := RdF.rd h (iv_len l).symm
theorem RdI.form {F : Nat → Prop} {w : World} {v : Value} {l : List Int} (h : RdI F w v l) : ∃ A c, v = .slice A l.length c := RdF.form h
theorem RdE.form {F : Nat → Prop} {w : World} {v : Value} {l : List Nat} (h : RdE F w v l) : ∃ A c, v = .slice A l.length c := RdF.form h
theorem RdI.at {F : Nat → Prop} {w : World} {A : Option Addr} {n c : Nat} {l : List Int} (h : RdI F w (.slice A n c) l) {k : Nat} {x : Int} (hk : l[k]? = some x) : ∃ g o : Nat, A = some ⟨g, o, none⟩ ∧ w.cell? ⟨g, o + k, none⟩ = some (.int .i64 x) := by
  have := (List.getElem?_eq_some_iff.1 hk).1
  obtain ⟨g, o, e, _, hx⟩ := RdF.base h (by omega)
  exact ⟨g, o, e, hx k _ (iv_at hk)⟩
theorem RdE.at {F : Nat → Prop} {w : World} {A : Option Addr} {n c : Nat} {l : List Nat} (h : RdE F w (.slice A n c) l) {k : Nat} {x : Nat} (hk : l[k]? = some x) : ∃ g o : Nat, A = some ⟨g, o, none⟩ ∧ w.cell? ⟨g, o + k, none⟩ = some (.int .u32 (x : Int)) := by
  have := (List.getElem?_eq_some_iff.1 hk).1
  obtain ⟨g, o, e, _, hx⟩ := RdF.base h (by omega)
  exact ⟨g, o, e, hx k _ (ev_at hk)⟩
theorem ownI_rd {B : Nat} {F : Nat → Prop} {w : World} {v : Value} {l : List Int} (h : T2.OwnI B w v l) (hF : ∀ g, B ≤ g → F g) : RdI F w v l := RdF.of_own h hF
theorem cell_call {w w' : World} {p : Addr} {u : Value} (hb : Below w.heap.size w w') (h : w.cell? p = some u) : w'.cell? p = some u := (hb.cell (cell_lt h)).trans h
theorem below_drewN (w : World) (n : Nat) : Below w.heap.size w (w.drewN n) := ⟨rfl, rfl, rfl, Nat.le_refl _, fun _ _ => rfl⟩
def I64 (s : List Int) : Prop := ∀ x ∈ s, -9223372036854775808 ≤ x ∧ x ≤ 9223372036854775807
theorem alloc_below (w : World) (o : Obj) : Below w.heap.size w (w.alloc o) := (Below.refl _ w).alloc (Nat.le_refl _) o
theorem OwnI.below {B B' : Nat} {w w' : World} {v : Value} {l : List Int} (h : T2.OwnI B w v l) (hb : Below B' w w') (hB : w.heap.size ≤ B') : T2.OwnI B w' v l := R4.own_below h hb hB
theorem own_empty {B : Nat} (w : World) (e : TypeId) (s : Nat) (hB : B ≤ w.heap.size) : (w.alloc (.cells #[] e)).ownsRow B e s (.slice (some ⟨w.heap.size, 0, none⟩) 0 0) 0 [] := World.ownsRow_made w #[] 0 hB (Nat.zero_le _) (by simp)
theorem RdF.lt {F : Nat → Prop} {w : World} {v : Value} {n : Nat} {xs : List Value} (h : RdF F w v n xs) (hx : xs.length = n) : RdF (fun g => F g ∧ g < w.heap.size) w v n xs := by
  obtain ⟨A, c, rfl, hc, h⟩ := h
  refine ⟨A, c, rfl, hc, fun h0 => ?_⟩
  obtain ⟨g, o, e, hg, hxx⟩ := h h0
  refine ⟨g, o, e, ⟨hg, ?_⟩, hxx⟩
  obtain ⟨y, t, rfl⟩ : ∃ y t, xs = y :: t := by cases xs with | nil => simp at hx; omega | cons y t => exact ⟨y, t, rfl⟩
  exact cell_lt (hxx 0 y rfl)
theorem run_append_none {w : World} (base : Nat) (t ty e : TypeId) (i : TypeInfo) (size c : Nat) (ht : Try.prog.underlying t = some (.slice e)) (hi : Try.prog.info? e = some i)
    (v : Value) (n : Nat) (xs : List Value) (hown : w.ownsRow base e size v n xs) :
    (Builtin.append_ #[t, t] ty #[v, .slice none 0 c]).run Try.prog w = .ok v w := by
  rcases hown.2 with ⟨rfl, rfl⟩ | ⟨g, cap, cur, rfl, _, _, hnc, _⟩
  · simp [Builtin.append_, run_underlying ht, sizeOf, typeInfo, hi, Builtin.lenOf, Builtin.firstCells]
  · simp [Builtin.append_, run_underlying ht, sizeOf, typeInfo, hi, Builtin.lenOf, Builtin.firstCells, hnc, storeCells]
/-- append of what is read to what is owned: any kind of element. -/
theorem appendG {T e : TypeId} {i : TypeInfo} {z : Value} {size bytes : Nat} (hT : Try.prog.underlying T = some (.slice e)) (hi : Try.prog.info? e = some i) (hz0 : i.zero = some z) (hz1 : i.size = size) (hz2 : i.bytes = bytes) (hzs : z.cells.size = size) (h0 : 0 < size) (hby : bytes ≤ 1000)
    {ops : Array Oper} {rest : List Oper} {o : Oper} {a : Act} {Q : Exit → Act → World → Prop} (hgd : o.guard = none) (s x : Operand) (ho : o.op = .call { callee := .builtin .append, args := #[s, x], argTypes := #[T, T] })
    (w : World) (B : Nat) (v : Value) (n : Nat) (xs : List Value) {A : Option Addr} {m C : Nat} {ys : List Value} {F : Nat → Prop} (hs : a.eval s = v) (hown : w.ownsRow B e size v n xs) (hx : a.eval x = .slice A m C)
    (hsrc : RdF F w (.slice A m C) m ys) (hys : ys.length = m * size) (hone : ∀ u ∈ ys, u.oneCell' = true) (hB : B ≤ w.heap.size) (hl : n + m ≤ 1000000)
    (h : ∀ v' w', w'.ownsRow B e size v' (n + m) (xs ++ ys) → w.grownBy w' v.ownBlock → Below B w w' → wpList Try.prog ops Q rest (a.put o.dst v') w') : wpList Try.prog ops Q (o :: rest) a w := by
  cases A with
  | none =>
    have hm : m = 0 := by
      rcases Nat.eq_zero_or_pos m with h0 | h0
      · exact h0
      · obtain ⟨g, o, e, _⟩ := RdF.base hsrc h0
        cases e
    subst hm
    obtain rfl : ys = [] := List.eq_nil_of_length_eq_zero (by omega)
    refine wpList_plain hgd fun K hK => ?_
    have hrun := run_append_none (w := w) B T o.type e i size C hT hi v n xs hown
    unfold Oper.wp
    simp [execOp, ho, resolve, invoke, builtin, hs, hx, hrun, Result.andThen]
    exact hK _ _ (h v w (by rw [List.append_nil]; exact hown) (World.grownBy.refl _ _) (Below.refl _ _))
  | some ad =>
    refine wpList_append_own_at _ hgd s x _ ho B e i z size bytes hT hi hz0 hz1 hz2 hzs h0 v n xs hs hown ad m C ys hx hys
      ?_ hone (by simp only [maxLen]; omega) (Nat.le_trans (Nat.mul_le_mul hl hby) (by omega)) hB ?_
    · intro j u hu
      have h0' : 0 < m := by
        have := (List.getElem?_eq_some_iff.1 hu).1
        rcases Nat.eq_zero_or_pos m with h1 | h1
        · subst h1; omega
        · exact h1
      obtain ⟨g, o, e, _, hc⟩ := RdF.base hsrc h0'
      cases e
      rw [Addr.add_lit]
      exact hc j u hu
    · intro v' w' h2 h3 _ _
      exact h v' w' h2 h3 ((Below.refl B w).grown h3 hB (fun k hk => (World.ownsRow.lt hown k hk).1))
theorem RdF.new (w : World) (ys : List Value) (T : TypeId) {n C : Nat} (hn : n ≤ C) : RdF anyB (w.alloc (.cells ys.toArray T)) (.slice (some ⟨w.heap.size, 0, none⟩) n C) n ys :=
  ⟨_, C, rfl, hn, fun _ => ⟨w.heap.size, 0, rfl, trivial, fun j u hu => by have := R4.cells_new w ys T j u hu; rw [Addr.add_lit] at this; exact this⟩⟩
theorem int_info : (Try.prog.info? 3).map (fun i => (i.zero, i.size, i.bytes)) = some (some (.int .i64 0), 1, 8) := by kernel_rfl
theorem appendI {ops : Array Oper} {rest : List Oper} {o : Oper} {a : Act} {Q : Exit → Act → World → Prop} (hgd : o.guard = none) (s x : Operand)
    (ho : o.op = .call { callee := .builtin .append, args := #[s, x], argTypes := #[33, 33] })
    (w : World) (B : Nat) (v : Value) (l m : List Int) {A : Option Addr} {C : Nat} {F : Nat → Prop} (hs : a.eval s = v) (hown : T2.OwnI B w v l) (hx : a.eval x = .slice A m.length C) (hsrc : RdI F w (.slice A m.length C) m) (hB : B ≤ w.heap.size) (hl : l.length + m.length ≤ 1000000)
    (h : ∀ v' w', T2.OwnI B w' v' (l ++ m) → w.grownBy w' v.ownBlock → Below B w w' → wpList Try.prog ops Q rest (a.put o.dst v') w') : wpList Try.prog ops Q (o :: rest) a w := by
  obtain ⟨i0, hi0, hz0, hz1, hz2⟩ := info_parts int_info
  refine appendG Try.underlying33 hi0 hz0 hz1 hz2 rfl (by omega) (by omega) hgd s x ho w B v l.length (iv l) hs hown hx hsrc (by rw [iv_len]; omega) (fun u hu => by obtain ⟨k, _, rfl⟩ := List.mem_map.1 hu; rfl) hB hl fun v' w' h1 h2 h3 => h v' w' ?_ h2 h3
  unfold T2.OwnI; rw [show T2.iv (l ++ m) = T2.iv l ++ T2.iv m from by simp [T2.iv], List.length_append]; exact h1
theorem own_off {w w' : World} {B : Nat} {e : TypeId} {s : Nat} {v : Value} {n : Nat} {xs : List Value} (h : w.ownsRow B e s v n xs) {b : Nat} (hg : w.grownBy w' (some b)) (hb : b < B) : w'.ownsRow B e s v n xs := by
  refine World.ownsRow.kept h hg ?_
  cases q : v.ownBlock with
  | none => exact .inl rfl
  | some g =>
    right
    intro e'
    injection e' with e'
    have := (World.ownsRow.lt h g q).1
    omega
theorem RdF.pstep {P Q : Nat → Prop} {w w' : World} {v : Value} {n : Nat} {xs : List Value} (hr : RdF P w v n xs) (hf : ∀ k, P k → w'.heap[k]? = w.heap[k]? ∧ Q k) : RdF Q w' v n xs := by
  obtain ⟨A, c, rfl, hc, hr⟩ := hr
  refine ⟨A, c, rfl, hc, fun h0 => ?_⟩
  obtain ⟨g, o, e, hg, hx⟩ := hr h0
  obtain ⟨e2, hq⟩ := hf g hg
  refine ⟨g, o, e, hq, fun j u hu => ?_⟩
  rw [World.cell?_of_block (w := w) (a := ⟨g, o + j, none⟩) e2]
  exact hx j u hu
theorem wf_i64 {a : Int} (h : (Lit.int .i64 a).wf = true) : -9223372036854775808 ≤ a ∧ a ≤ 9223372036854775807 := by
  simpa [Lit.wf, IntKind.min, IntKind.max, IntKind.signed, IntKind.bits] using h
theorem wf_u8 {a : Int} (h : (Lit.int .u8 a).wf = true) : 0 ≤ a ∧ a ≤ 255 := by
  simpa [Lit.wf, IntKind.min, IntKind.max, IntKind.signed, IntKind.bits] using h
theorem wf_u32 {a : Int} (h : (Lit.int .u32 a).wf = true) : 0 ≤ a ∧ a ≤ 4294967295 := by
  simpa [Lit.wf, IntKind.min, IntKind.max, IntKind.signed, IntKind.bits] using h
theorem spot_none {w : World} {a : Addr} {u : Value} (h : w.cell? a = some u) : a.spot = none ∧ a.block < w.heap.size := by
  unfold World.cell? at h
  split at h
  · rename_i hb
    split at h
    · cases h
    · rename_i hs
      refine ⟨by cases e : a.spot <;> simp_all, (Array.getElem?_eq_some_iff.1 hb).1⟩
  · cases h
theorem open_nums {H : Type} {enc : TypeId × Value → H} {W : World} {v : Value} {t e : TypeId} {k : IntKind} {fuel : Nat} {x : DataW H × List MemPlace} (ht : Try.prog.underlying t = some (.slice e)) (he : Try.prog.underlying e = some (.int k)) (hc : Try.prog.cellsOf e = 1)
    (h : DataW.trod enc Try.prog W 0 (fun _ => true) true fuel t [v] = some x) : ∃ l : List Int, RdF anyB W v l.length (l.map fun z => .int k z) ∧ l.length ≤ maxLen ∧ ∀ z ∈ l, (Lit.int k z).wf = true := by
  rcases Deep.open_slice1 ht hc h with ⟨ev, _⟩ | ⟨ad, len, cap, m, n, V, D, P, ev, -, hl, hm, hmm, -, hi⟩
  · simp at ev
    subst ev
    exact ⟨[], RdF.nil _ _, Nat.zero_le _, fun z hz => by simp at hz⟩
  · simp at ev
    subst ev
    have hmc : m = cap := by simpa using hmm
    have h0 : ∀ i, i < len → V i = .int k (intOf (V i)) ∧ (Lit.int k (intOf (V i))).wf = true := by
      intro i hil
      obtain ⟨_, t0⟩ := hi i (by omega)
      obtain ⟨n0, e0, _, w0⟩ := DataW.trod_int he t0
      simp at e0
      rw [e0]
      exact ⟨rfl, w0⟩
    obtain ⟨l, hl'⟩ : ∃ l : List Int, l = (List.range len).map fun i => intOf (V i) := ⟨_, rfl⟩
    have hll : l.length = len := by rw [hl']; simp
    have hget : ∀ i, i < len → l[i]? = some (intOf (V i)) := fun i h => by rw [hl', List.getElem?_map, List.getElem?_range h]; rfl
    refine ⟨l, ⟨some ad, cap, by rw [hll], by omega, fun hn => ?_⟩, by omega, ?_⟩
    · rw [hll] at hn
      obtain ⟨c0, _⟩ := hi 0 (by omega)
      obtain ⟨hs, hb⟩ := spot_none c0
      have ea : ad.add 0 = ad := by simp [Addr.add]
      rw [ea] at hs hb
      obtain ⟨g, o, sp⟩ := ad
      simp only at hs hb
      subst hs
      refine ⟨g, o, rfl, trivial, fun j u hu => ?_⟩
      rw [List.getElem?_map] at hu
      have hj : j < len := by
        rcases Nat.lt_or_ge j len with h | h
        · exact h
        · rw [List.getElem?_eq_none (by omega)] at hu; cases hu
      rw [hget j hj] at hu
      obtain ⟨c1, _⟩ := hi j (by omega)
      rw [Addr.add_lit] at c1
      rw [c1, (h0 j hj).1]
      simpa using hu
    · intro z hz
      rw [hl'] at hz
      obtain ⟨i, hi', rfl⟩ := List.mem_map.1 hz
      exact (h0 i (by simpa using hi')).2
theorem open_rdi {H : Type} {enc : TypeId × Value → H} {W : World} {v : Value} {fuel : Nat} {x : DataW H × List MemPlace} (h : DataW.trod enc Try.prog W 0 (fun _ => true) true fuel 33 [v] = some x) : ∃ l : List Int, RdI anyB W v l ∧ l.length ≤ maxLen ∧ I64 l := by
  obtain ⟨l, h1, h2, h3⟩ := open_nums Try.underlying33 Try.underlying3 (by kernel_rfl) h
  exact ⟨l, h1, h2, fun z hz => wf_i64 (h3 z hz)⟩
set_option maxRecDepth 100000 in
theorem open_ris {H : Type} {enc : TypeId × Value → H} {W : World} {v : Value} {base : Nat} {d : DataW H} {ps : List MemPlace} (hval : Value.okWide Try.prog W .any base 33 v)
    (h : DataW.Trod enc Try.prog W 0 (fun _ => true) true 33 v d ps) : ∃ l : List Int, RdI anyB W v l ∧ l.length ≤ maxLen ∧ I64 l := by
  obtain ⟨a, len, cap, rfl⟩ := okWide_slice Try.underlying33 hval
  obtain ⟨fuel, hf⟩ := h
  exact open_rdi hf
end Go.Proofs.Ytdodlppnjlmnaaa
