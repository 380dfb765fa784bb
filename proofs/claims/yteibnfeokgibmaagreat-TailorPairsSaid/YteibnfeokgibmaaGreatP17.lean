/-
  PACKED for a claim.
-/
import Derived.WalkLawsBesides
import Derived.Maps.AppendAt
import Derived.Deep.AppendLies
import Derived.Deep.DeepAppendRoom
import Derived.OwnWalk
import Derived.Laws.IdiomStrings
import Derived.Laws.OwnMore
import Derived.Test.YteibnfeokgibmaaGreatP14
set_option linter.unusedVariables false
set_option linter.unusedSimpArgs false
set_option maxRecDepth 100000
namespace Go.Proofs.YteibnfeokgibmaaGreat.E3
open Go.RowKit
def bv (l : List UInt8) : List Value := l.map fun x => Value.int .u8 (x.toNat : Int)
def OwnB (B : Nat) (w : World) (v : Value) (l : List UInt8) : Prop := w.ownsRow B 5 1 v l.length (bv l)
def Rd (B : Nat) (w : World) (v : Value) (xs : List Value) : Prop :=
 ∃ A c, v = .slice A xs.length c /\ (0 < xs.length -> ∃ ad : Addr, A = some ad /\ ad.block < B /\ ∀ j u, xs[j]? = some u -> w.cell? (ad.add j) = some u)
theorem bv_len (l : List UInt8) : (bv l).length = l.length := by simp [bv]
theorem bv_app (a b : List UInt8) : bv (a ++ b) = bv a ++ bv b := by simp [bv]
theorem bv_one (l : List UInt8) : ∀ u ∈ bv l, u.oneCell' = true := by
 intro u hu
 have := ints_oneCell .u8 (l.map fun x => (x.toNat : Int)) u
 rw [List.map_map] at this; exact this hu
theorem yfs (a : Addr) (n : Nat) : (a.add n).block = a.block := by unfold Addr.add; split <;> rfl
theorem OwnB.below {B B' : Nat} {w w' : World} {v : Value} {l : List UInt8} (h : OwnB B w v l) (hb : Below B' w w') (hB : w.heap.size <= B') : OwnB B w' v l := by
 refine ⟨h.1, ?_⟩
 rcases h.2 with hn | ⟨g, cap, cur, rfl, hg, hgg, rest⟩
 ·exact .inl hn
 ·exact .inr ⟨g, cap, cur, rfl, hg, by rw [hb.block g (Nat.lt_of_lt_of_le (Array.getElem?_eq_some_iff.1 hgg).1 hB)]; exact hgg, rest⟩
theorem OwnB.nil (B : Nat) (w : World) : OwnB B w (.slice none 0 0) [] := World.ownsRow_nil w B _ 1
theorem rd_of {B : Nat} {e : TypeId} {w : World} {v : Value} {n : Nat} {xs : List Value} (h : w.ownsRow B e 1 v n xs) : Rd w.heap.size w v xs := by
 have hl : xs.length = n := by have := h.1; omega
 rcases Nat.eq_zero_or_pos n with h0 | h0
 ·rcases h.2 with ⟨rfl, _⟩ | ⟨g, cap, cur, rfl, _⟩
  ·exact ⟨none, 0, by rw [hl, h0], fun hx => by omega⟩
  ·exact ⟨_, cap, by rw [hl], fun hx => by omega⟩
 ·obtain ⟨g, cap, hv, _, hlt⟩ := h.form h0; exact ⟨_, cap, by rw [hl, hv], fun _ => ⟨_, rfl, hlt, h.cells (g := g) (by rw [hv]; rfl)⟩⟩
theorem OwnB.rd {B : Nat} {w : World} {v : Value} {l : List UInt8} (h : OwnB B w v l) : Rd w.heap.size w v (bv l) := rd_of h
theorem Rd.below {B : Nat} {w w' : World} {v : Value} {xs : List Value} (h : Rd B w v xs) (hb : Below B w w') : Rd B w' v xs := by
 obtain ⟨A, c, rfl, h⟩ := h; refine ⟨A, c, rfl, fun hn => ?_⟩
 obtain ⟨ad, e, hlt, hc⟩ := h hn; exact ⟨ad, e, hlt, fun j u hu => (hb.cell (by rw [yfs]; exact hlt)).trans (hc j u hu)⟩
theorem Rd.more {B B' : Nat} {w : World} {v : Value} {xs : List Value} (h : Rd B w v xs) (hB : B <= B') : Rd B' w v xs := by
 obtain ⟨A, c, rfl, h⟩ := h; refine ⟨A, c, rfl, fun hn => ?_⟩
 obtain ⟨ad, e, hlt, hc⟩ := h hn; exact ⟨ad, e, by omega, hc⟩
theorem yax (w : World) (xs : List Value) (t : TypeId) : ∀ j u, xs[j]? = some u -> (w.alloc (.cells xs.toArray t)).cell? ((⟨w.heap.size, 0, none⟩ : Addr).add j) = some u := by
 intro j u hu; rw [Addr.add_lit, Nat.zero_add, World.cell?_alloc_mark, List.getElem?_toArray]; exact hu
theorem yju : (Tryz.prog.info? 5).map (fun i => (i.zero, i.size, i.bytes)) = some (some (.int .u8 0), 1, 1) := by kernel_rfl
theorem pushB {ops : Array Oper} {rest : List Oper} {o : Oper} {a : Act} {Q : Exit -> Act -> World -> Prop} (hgd : o.guard = none) (s x : Operand)
  (ho : o.op = .call { callee := .builtin .append, args := #[s, x], argTypes := #[32, 32] })
  (w0 : World) (B : Nat) (v : Value) (l m : List UInt8) (C : Nat) (hs : a.eval s = v) (hown : OwnB B w0 v l) (hx : a.eval x = .slice (some ⟨w0.heap.size, 0, none⟩) m.length C)
  (hB : B <= w0.heap.size) (hl : l.length + m.length <= 10000000)
  (h : ∀ v' w', OwnB B w' v' (l ++ m) -> Below B w0 w' -> wpList Tryz.prog ops Q rest (a.put o.dst v') w') : wpList Tryz.prog ops Q (o :: rest) a (w0.alloc (.cells (bv m).toArray 5)) := by
 obtain ⟨i0, hi0, hz0, hz1, hz2⟩ := info_parts yju
 have hb1 : Below B w0 (w0.alloc (.cells (bv m).toArray 5)) := (zR B w0).alloc hB _
 have hb2 : B <= (w0.alloc (.cells (bv m).toArray 5)).heap.size := Nat.le_trans hB hb1.size
 refine wpList_append_own_at _ hgd s x _ ho B 5 i0 _ 1 1 Tryz.underlying32 hi0 hz0 hz1 hz2 rfl (by omega) v l.length (bv l) hs (hown.alloc _) _ m.length C (bv m) hx (by rw [bv_len]; omega)
  (yax w0 (bv m) _) (bv_one m) (by simp only [maxLen]; omega) (by omega) hb2 ?_
 intro v' w' h2 h3 _ _; refine h v' w' ?_ ?_
 ·unfold OwnB; rw [bv_app, List.length_append]; exact h2
 ·exact hb1.grown h3 hb2 (fun k hk => (World.ownsRow.lt hown k hk).1)
theorem str_of {B : Nat} {w : World} {v : Value} {l : List UInt8} (h : Rd B w v (bv l)) : (convert 32 9 v).run Tryz.prog w = .ok (.string ⟨l.toArray⟩) w := by
 obtain ⟨A, c, rfl, h⟩ := h; rw [bv_len] at h |-
 rcases A with _ | ad
 ·have h0 : l = [] := by
   rcases Nat.eq_zero_or_pos l.length with h0 | h0
   ·exact List.eq_nil_of_length_eq_zero h0
   ·obtain ⟨_, e, _⟩ := h h0; cases e
  subst h0; exact run_convert_bytes_nil (P := Tryz.prog) (w := w) 32 5 Tryz.underlying32 Tryz.underlying5 0 c 9 Tryz.underlying9
 ·refine run_convert_bytes_back w _ _ _ ad c l Tryz.underlying32 Tryz.underlying5 Tryz.underlying9 ?_; intro j hj; obtain ⟨_, e, _, hc⟩ := h (by omega)
  cases e
  exact hc j _ (by simp [bv, List.getElem?_eq_getElem hj])
theorem OwnB.one (w : World) (B : Nat) (hB : B <= w.heap.size) (x : UInt8) : OwnB B (w.alloc (.cells #[.int .u8 (x.toNat : Int)] 5)) (.slice (some ⟨w.heap.size, 0, none⟩) 1 1) [x] :=
 World.ownsRow_lit w #[.int .u8 (x.toNat : Int)] 1 hB (by simp only [maxLen]; omega) rfl
def GotB (B : Nat) (w : World) (l : List UInt8) (e : Ending) (w' : World) : Prop := ∃ v, e = .returned v /\ OwnB B w' v l /\ Below B w w'
end Go.Proofs.YteibnfeokgibmaaGreat.E3
