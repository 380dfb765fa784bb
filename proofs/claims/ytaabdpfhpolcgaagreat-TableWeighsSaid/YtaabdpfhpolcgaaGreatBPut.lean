/-
  THE CONTRACTS of the document's letter, mark and put.
-/
import Derived.Test.YtaabdpfhpolcgaaGreatBRef
import Derived.Maps.AppendAt
namespace Go.Proofs.YtaabdpfhpolcgaaGreat
open Go.RowKit
set_option linter.unusedVariables false
set_option linter.unusedSimpArgs false
theorem q_parts {p s t : Nat} {P S T : Int} {V : Bool} (hp : p < 65536) (hs : s < 256) (ht : t < 128) (hq : q4 (E3.mk p s t 0) = [.int .i64 P, .int .i64 S, .int .i64 T, .bool V]) : P = (p : Int) ∧ S = (s : Int) ∧ T = (t : Int) ∧ V = false := by
  rw [q4_mk hp hs ht] at hq
  simp only [List.cons.injEq, Value.int.injEq, Value.bool.injEq, true_and, and_true] at hq
  exact ⟨hq.1.symm, hq.2.1.symm, hq.2.2.1.symm, hq.2.2.2.symm⟩
theorem rletter_any {c : Nat} {x : Int} (h : 65 ≤ c ∧ c ≤ 90 ∨ 97 ≤ c ∧ c ≤ 122) (hx : (c : Int) = x) {P S T : Int} {V : Bool} (hq : q4 (letW c) = [.int .i64 P, .int .i64 S, .int .i64 T, .bool V]) (w : World) :
    Calls Tryz.prog 60 #[.int .i64 x] w fun e w' => e = .returned (.agg #[.int .i64 P, .int .i64 S, .int .i64 T, .bool V]) ∧ Below w.heap.size w w' := by
  subst hx
  rcases h with h | h
  · have e1 : letW c = E3.mk (256 + 8 * (c - 65)) 32 8 0 := by unfold letW; rw [if_pos (by omega)]
    rw [e1] at hq
    obtain ⟨hP, rfl, rfl, rfl⟩ := q_parts (by omega) (by omega) (by omega) hq
    have hP2 : P = 256 + 8 * ((c : Int) - 65) := by omega
    subst hP2
    have r1 : ¬ (97 : Int) ≤ (c : Int) := by omega
    have r2 : (0 : Int) ≤ (c : Int) - 65 := by omega
    have r3 : (c : Int) ≤ 90 := by omega
    clear hq e1 h hP
    go_enter Tryz.func60, Tryz.ntmps60
    go_wp2
    exact bodyPost_ret (v := .agg #[.int .i64 (256 + 8 * ((c : Int) - 65)), .int .i64 32, .int .i64 8, .bool false]) (by simp [results, Tryz.results60, go_sem]) rfl ⟨rfl, (Below.refl _ _).alloc (Nat.le_refl _) _⟩
  · have e1 : letW c = E3.mk (256 + 8 * (c - 97)) 32 2 0 := by unfold letW; rw [if_neg (by omega)]
    rw [e1] at hq
    obtain ⟨hP, rfl, rfl, rfl⟩ := q_parts (by omega) (by omega) (by omega) hq
    have hP2 : P = 256 + 8 * ((c : Int) - 97) := by omega
    subst hP2
    have r1 : (97 : Int) ≤ (c : Int) := by omega
    have r2 : (0 : Int) ≤ (c : Int) - 97 := by omega
    have r3 : (c : Int) ≤ 122 := by omega
    clear hq e1 h hP
    go_enter Tryz.func60, Tryz.ntmps60
    go_wp2
    exact bodyPost_ret (v := .agg #[.int .i64 (256 + 8 * ((c : Int) - 97)), .int .i64 32, .int .i64 2, .bool false]) (by simp [results, Tryz.results60, go_sem]) rfl ⟨rfl, (Below.refl _ _).alloc (Nat.le_refl _) _⟩
theorem rmark_any {c : Int} (h : c ∈ mkC) {P S T : Int} {V : Bool} (hq : q4 (mkW c) = [.int .i64 P, .int .i64 S, .int .i64 T, .bool V]) (w : World) :
    Calls Tryz.prog 61 #[.int .i64 c] w fun e w' => e = .returned (.agg #[.int .i64 P, .int .i64 S, .int .i64 T, .bool V]) ∧ Below w.heap.size w w' := by
  have hS : mkS c < 256 := by unfold mkS; repeat' split
                              all_goals omega
  obtain ⟨rfl, hS2, rfl, rfl⟩ := q_parts (by omega) hS (by omega) hq
  subst hS2
  simp only [mkC, List.mem_cons, List.not_mem_nil, or_false] at h
  clear hq hS
  rcases h with rfl | rfl | rfl | rfl | rfl | rfl | rfl | rfl
  all_goals
    go_enter Tryz.func61, Tryz.ntmps61
    go_wp2
    refine bodyPost_ret (v := .agg #[.int .i64 0, .int .i64 _, .int .i64 2, .bool false]) (by simp [results, Tryz.results61, go_sem]; rfl) rfl ⟨rfl, (Below.refl _ _).alloc (Nat.le_refl _) _⟩
/-- append of what is read to what is owned: any kind of element. -/
theorem appendG {T e : TypeId} {i : TypeInfo} {z : Value} {size bytes : Nat} (hT : Tryz.prog.underlying T = some (.slice e)) (hi : Tryz.prog.info? e = some i) (hz0 : i.zero = some z) (hz1 : i.size = size) (hz2 : i.bytes = bytes) (hzs : z.cells.size = size) (h0 : 0 < size) (hby : bytes ≤ 1000)
    {ops : Array Oper} {rest : List Oper} {o : Oper} {a : Act} {Q : Exit → Act → World → Prop} (hgd : o.guard = none) (s x : Operand) (ho : o.op = .call { callee := .builtin .append, args := #[s, x], argTypes := #[T, T] })
    (w : World) (B : Nat) (v : Value) (n : Nat) (xs : List Value) {A : Option Addr} {m C : Nat} {ys : List Value} {F : Nat → Prop} (hs : a.eval s = v) (hown : w.ownsRow B e size v n xs) (hx : a.eval x = .slice A m C)
    (hsrc : RdF F w (.slice A m C) m ys) (hys : ys.length = m * size) (hone : ∀ u ∈ ys, u.oneCell' = true) (hB : B ≤ w.heap.size) (hl : n + m ≤ 1000000)
    (h : ∀ v' w', w'.ownsRow B e size v' (n + m) (xs ++ ys) → w.grownBy w' v.ownBlock → Below B w w' → wpList Tryz.prog ops Q rest (a.put o.dst v') w') : wpList Tryz.prog ops Q (o :: rest) a w := by
  cases A with
  | none =>
    have hm : m = 0 := by
      rcases Nat.eq_zero_or_pos m with h0 | h0
      · exact h0
      · obtain ⟨g, o, e, _⟩ := RdF.base hsrc h0
        cases e
    subst hm
    obtain rfl : ys = [] := List.eq_nil_of_length_eq_zero (by omega)
    refine wpList_plain hgd fun K hK => ?_
    have hrun := run_append_none (w := w) B T o.type e i size C hT hi v n xs hown
    unfold Oper.wp
    simp [execOp, ho, resolve, invoke, builtin, hs, hx, hrun, Result.andThen]
    exact hK _ _ (h v w (by rw [List.append_nil]; exact hown) (World.grownBy.refl _ _) (Below.refl _ _))
  | some ad =>
    refine wpList_append_own_at _ hgd s x _ ho B e i z size bytes hT hi hz0 hz1 hz2 hzs h0 v n xs hs hown ad m C ys hx hys
      ?_ hone (by simp only [maxLen]; omega) (Nat.le_trans (Nat.mul_le_mul hl hby) (by omega)) hB ?_
    · intro j u hu
      have h0' : 0 < m := by
        have := (List.getElem?_eq_some_iff.1 hu).1
        rcases Nat.eq_zero_or_pos m with h1 | h1
        · subst h1; omega
        · exact h1
      obtain ⟨g, o, e, _, hc⟩ := RdF.base hsrc h0'
      cases e
      rw [Addr.add_lit]
      exact hc j u hu
    · intro v' w' h2 h3 _ _
      exact h v' w' h2 h3 ((Below.refl B w).grown h3 hB (fun k hk => (World.ownsRow.lt hown k hk).1))
theorem RdF.new (w : World) (ys : List Value) (T : TypeId) {n C : Nat} (hn : n ≤ C) : RdF anyB (w.alloc (.cells ys.toArray T)) (.slice (some ⟨w.heap.size, 0, none⟩) n C) n ys :=
  ⟨_, C, rfl, hn, fun _ => ⟨w.heap.size, 0, rfl, trivial, fun j u hu => by have := R4.cells_new w ys T j u hu; rw [Addr.add_lit] at this; exact this⟩⟩
theorem rentry_info : (Tryz.prog.info? 70).map (fun i => (i.zero, i.size, i.bytes)) = some (some (.agg #[.slice none 0 0, .slice none 0 0]), 2, 48) := by kernel_rfl
theorem relem_info : (Tryz.prog.info? 72).map (fun i => (i.zero, i.size, i.bytes)) = some (some (.agg #[.int .i64 0, .int .i64 0, .int .i64 0, .bool false]), 4, 32) := by kernel_rfl
def OwnN (B : Nat) (w : World) (v : Value) (M : List ME) : Prop := w.ownsRow B 70 2 v M.length (mcells M)
theorem OwnN.below {B B' : Nat} {w w' : World} {v : Value} {M : List ME} (h : OwnN B w v M) (hb : Below B' w w') (hB : w.heap.size ≤ B') : OwnN B w' v M := R4.own_below h hb hB
theorem OwnN.form {B : Nat} {w : World} {v : Value} {M : List ME} (h : OwnN B w v M) : ∃ A c, v = .slice A M.length c := by
  obtain ⟨A, c, e, _⟩ := R4.own_parts h
  exact ⟨A, c, e⟩
theorem appendN {ops : Array Oper} {rest : List Oper} {o : Oper} {a : Act} {Q : Exit → Act → World → Prop} (hgd : o.guard = none) (s x : Operand)
    (ho : o.op = .call { callee := .builtin .append, args := #[s, x], argTypes := #[40, 40] })
    (w : World) (B : Nat) (v : Value) (M N : List ME) {A : Option Addr} {C : Nat} {F : Nat → Prop} (hs : a.eval s = v) (hown : OwnN B w v M) (hx : a.eval x = .slice A N.length C) (hsrc : RdF F w (.slice A N.length C) N.length (mcells N)) (hone : ∀ u ∈ mcells N, u.oneCell' = true) (hB : B ≤ w.heap.size) (hl : M.length + N.length ≤ 1000000)
    (h : ∀ v' w', OwnN B w' v' (M ++ N) → w.grownBy w' v.ownBlock → Below B w w' → wpList Tryz.prog ops Q rest (a.put o.dst v') w') : wpList Tryz.prog ops Q (o :: rest) a w := by
  obtain ⟨i0, hi0, hz0, hz1, hz2⟩ := info_parts rentry_info
  refine appendG Tryz.underlying40 hi0 hz0 hz1 hz2 rfl (by omega) (by omega) hgd s x ho w B v M.length (mcells M) hs hown hx hsrc (by rw [mcells_len]) hone hB hl fun v' w' h1 h2 h3 => h v' w' ?_ h2 h3
  unfold OwnN; rw [mcells_app, List.length_append]; exact h1
theorem appendQ {ops : Array Oper} {rest : List Oper} {o : Oper} {a : Act} {Q : Exit → Act → World → Prop} (hgd : o.guard = none) (s x : Operand)
    (ho : o.op = .call { callee := .builtin .append, args := #[s, x], argTypes := #[45, 45] })
    (w : World) (B : Nat) (v : Value) (l m : List Nat) {A : Option Addr} {C : Nat} {F : Nat → Prop} (hs : a.eval s = v) (hown : OwnQ B w v l) (hx : a.eval x = .slice A m.length C) (hsrc : RdQ F w (.slice A m.length C) m) (hB : B ≤ w.heap.size) (hl : l.length + m.length ≤ 1000000)
    (h : ∀ v' w', OwnQ B w' v' (l ++ m) → w.grownBy w' v.ownBlock → Below B w w' → wpList Tryz.prog ops Q rest (a.put o.dst v') w') : wpList Tryz.prog ops Q (o :: rest) a w := by
  obtain ⟨i0, hi0, hz0, hz1, hz2⟩ := info_parts relem_info
  refine appendG Tryz.underlying45 hi0 hz0 hz1 hz2 rfl (by omega) (by omega) hgd s x ho w B v l.length (qcells l) hs hown hx hsrc (qcells_len m) (qcells_one m) hB hl fun v' w' h1 h2 h3 => h v' w' ?_ h2 h3
  unfold OwnQ; rw [qcells_app, List.length_append]; exact h1
theorem appendI {ops : Array Oper} {rest : List Oper} {o : Oper} {a : Act} {Q : Exit → Act → World → Prop} (hgd : o.guard = none) (s x : Operand)
    (ho : o.op = .call { callee := .builtin .append, args := #[s, x], argTypes := #[33, 33] })
    (w : World) (B : Nat) (v : Value) (l m : List Int) {A : Option Addr} {C : Nat} {F : Nat → Prop} (hs : a.eval s = v) (hown : T2.OwnI B w v l) (hx : a.eval x = .slice A m.length C) (hsrc : RdI F w (.slice A m.length C) m) (hB : B ≤ w.heap.size) (hl : l.length + m.length ≤ 1000000)
    (h : ∀ v' w', T2.OwnI B w' v' (l ++ m) → w.grownBy w' v.ownBlock → Below B w w' → wpList Tryz.prog ops Q rest (a.put o.dst v') w') : wpList Tryz.prog ops Q (o :: rest) a w := by
  obtain ⟨i0, hi0, hz0, hz1, hz2⟩ := info_parts int_info
  refine appendG Tryz.underlying33 hi0 hz0 hz1 hz2 rfl (by omega) (by omega) hgd s x ho w B v l.length (iv l) hs hown hx hsrc (by rw [iv_len]; omega) (fun u hu => by obtain ⟨k, _, rfl⟩ := List.mem_map.1 hu; rfl) hB hl fun v' w' h1 h2 h3 => h v' w' ?_ h2 h3
  unfold T2.OwnI; rw [show T2.iv (l ++ m) = T2.iv l ++ T2.iv m from by simp [T2.iv], List.length_append]; exact h1
end Go.Proofs.YtaabdpfhpolcgaaGreat
