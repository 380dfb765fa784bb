/-
  PACKED for a claim.
-/
import Derived.Maps.AppendAt
import Derived.Deep.AppendLies
import Derived.Deep.DeepAppendRoom
import Derived.OwnWalk
import Derived.Laws.IdiomStrings
import Derived.Test.YtichfdjjbafeiaaGreatP05
set_option linter.unusedVariables false
set_option linter.unusedSimpArgs false
set_option maxRecDepth 100000
namespace Go.Proofs.YtichfdjjbafeiaaGreat.T2
open Go.RowKit
theorem ymo (s : ByteArray) (a b : Nat) : (s.extract a b).data.toList = (s.data.toList.take b).drop a := by
 rw [ByteArray.data_extract, Array.toList_extract, List.extract_eq_take_drop, List.drop_take]
theorem yiv (s : ByteArray) (p : Nat) : (s.extract p s.size).data.toList = s.data.toList.drop p := by
 rw [ymo, <- ba_len, List.take_length]
theorem yvf (s : ByteArray) (p : Nat) : (s.extract 0 p).data.toList = s.data.toList.take p := by
 rw [ymo, List.drop_zero]
theorem yir {s : ByteArray} {p : Nat} {D : Nat × Nat} (hp : p < s.size) (hs : s.size <= maxLen) (hD : dec (s.data.toList.drop p) = D) (w : World) :
  Calls Tryz.prog 94 #[.string (s.extract p s.size)] w fun e w' => e = .returned (.tuple #[.int .i64 D.1, .int .i64 D.2]) /\ w = w' := by
 have h := ygq (s.extract p s.size) w (by rw [ByteArray.size_extract]; omega) (by rw [ByteArray.size_extract]; omega)
 rw [yiv, hD] at h; exact h
set_option maxRecDepth 200000 in
theorem yry (s : ByteArray) (w : World) (hs : s.size <= maxLen) :
  Calls Tryz.prog 93 #[.string s] w fun e w' => e = .returned (.int .i64 ((sgs s.data.toList).length : Nat)) /\ w = w' := by
 have PN := zH (fun k => yfm k s.data.toList)
 have PL := zH (fun k => ygb k s.data.toList)
 have PE := zH (fun k => pos_le k s.data.toList)
 have SL := zH (yer s.data.toList); obtain ⟨N, hN⟩ : ∃ N, (sgs s.data.toList).length = N := ⟨_, rfl⟩; rw [hN] at PL SL |-; simp only [ba_len] at PN PL PE SL; clear hN
 have hm : s.size <= 9223372036854775807 := by have : maxLen = 9223372036854775807 := by decide
                                               omega
 go_enter Tryz.func93, Tryz.ntmps93
 go_wp2
 go_loop [3, 4] (fun n i => ∃ k p : Nat, k <= N /\ n = .int .i64 k /\ i = .int .i64 p /\ Hid (pos k s.data.toList = p)) (fun _ i => s.size - (intOf i).toNat)
 case atStart => exact ⟨0, 0, by omega, rfl, rfl, rfl⟩
 case round =>
  obtain ⟨k, p, hk, rfl, rfl, hp⟩ := hrel; have h1 := PN.out k; have h2 := PL.out k; have h3 := PE.out (k + 1); have h4 := PE.out k; have h5 := SL.out; rw [hp.out] at h1 h2 h4
  by_cases hlt : p < s.size
  ·have h1' := h1 hlt; obtain ⟨D, hD⟩ : ∃ D, dec (s.data.toList.drop p) = D := ⟨_, rfl⟩; have hpos := ycq (s.data.toList.drop p); rw [hD] at h1' hpos; have HD := zH hD; have H1 := zH h1'; rw [h1'] at h3; have hkN := h2.1 hlt; clear h1 h1' h2 hD hp
   go_wp2_with (first
    | (go_at_call 94; refine (yir hlt hs HD.out _).mono ?_; rintro e w' ⟨rfl, rfl⟩))
   refine ⟨⟨k + 1, p + D.2, by omega, rfl, rfl, H1.out⟩, ?_⟩
   simp [intOf]; omega
  ·have hkN : k = N := by
    by_cases h : k < N
    ·exact absurd (h2.2 h) hlt
    ·omega
   clear h1 h2 h3 h4
   go_wp2
   go_ret
   exact ⟨rfl, rfl⟩
def vl (l : List UInt8) : Bool := (sgs l).all fun c => decide (c <= 1114111)
end Go.Proofs.YtichfdjjbafeiaaGreat.T2
namespace Go.Proofs.YtichfdjjbafeiaaGreat.T2
open Go.RowKit
def iv (l : List Int) : List Value := l.map (Value.int .i64)
def bv (l : List UInt8) : List Value := l.map fun x => Value.int .u8 (x.toNat : Int)
def OwnI (B : Nat) (w : World) (v : Value) (l : List Int) : Prop := w.ownsRow B 3 1 v l.length (iv l)
def OwnB (B : Nat) (w : World) (v : Value) (l : List UInt8) : Prop := w.ownsRow B 5 1 v l.length (bv l)
def Rd (B : Nat) (w : World) (v : Value) (xs : List Value) : Prop :=
 ∃ A c, v = .slice A xs.length c /\ (0 < xs.length -> ∃ ad : Addr, A = some ad /\ ad.block < B /\ ∀ j u, xs[j]? = some u -> w.cell? (ad.add j) = some u)
theorem iv_len (l : List Int) : (iv l).length = l.length := by simp [iv]
theorem bv_len (l : List UInt8) : (bv l).length = l.length := by simp [bv]
theorem iv_app (a b : List Int) : iv (a ++ b) = iv a ++ iv b := by simp [iv]
theorem bv_app (a b : List UInt8) : bv (a ++ b) = bv a ++ bv b := by simp [bv]
theorem iv_one (l : List Int) : ∀ u ∈ iv l, u.oneCell' = true := ints_oneCell .i64 l
theorem bv_one (l : List UInt8) : ∀ u ∈ bv l, u.oneCell' = true := by
 intro u hu
 have := ints_oneCell .u8 (l.map fun x => (x.toNat : Int)) u
 rw [List.map_map] at this; exact this hu
theorem yen (a : Addr) (n : Nat) : (a.add n).block = a.block := by unfold Addr.add; split <;> rfl
theorem OwnI.below {B B' : Nat} {w w' : World} {v : Value} {l : List Int} (h : OwnI B w v l) (hb : Below B' w w') (hB : w.heap.size <= B') : OwnI B w' v l := by
 refine ⟨h.1, ?_⟩
 rcases h.2 with hn | ⟨g, cap, cur, rfl, hg, hgg, rest⟩
 ·exact .inl hn
 ·exact .inr ⟨g, cap, cur, rfl, hg, by rw [hb.block g (Nat.lt_of_lt_of_le (Array.getElem?_eq_some_iff.1 hgg).1 hB)]; exact hgg, rest⟩
theorem OwnB.below {B B' : Nat} {w w' : World} {v : Value} {l : List UInt8} (h : OwnB B w v l) (hb : Below B' w w') (hB : w.heap.size <= B') : OwnB B w' v l := by
 refine ⟨h.1, ?_⟩
 rcases h.2 with hn | ⟨g, cap, cur, rfl, hg, hgg, rest⟩
 ·exact .inl hn
 ·exact .inr ⟨g, cap, cur, rfl, hg, by rw [hb.block g (Nat.lt_of_lt_of_le (Array.getElem?_eq_some_iff.1 hgg).1 hB)]; exact hgg, rest⟩
theorem OwnI.nil (B : Nat) (w : World) : OwnI B w (.slice none 0 0) [] := World.ownsRow_nil w B _ 1
theorem OwnB.nil (B : Nat) (w : World) : OwnB B w (.slice none 0 0) [] := World.ownsRow_nil w B _ 1
theorem rd_of {B : Nat} {e : TypeId} {w : World} {v : Value} {n : Nat} {xs : List Value} (h : w.ownsRow B e 1 v n xs) : Rd w.heap.size w v xs := by
 have hl : xs.length = n := by have := h.1; omega
 rcases Nat.eq_zero_or_pos n with h0 | h0
 ·rcases h.2 with ⟨rfl, _⟩ | ⟨g, cap, cur, rfl, _⟩
  ·exact ⟨none, 0, by rw [hl, h0], fun hx => by omega⟩
  ·exact ⟨_, cap, by rw [hl], fun hx => by omega⟩
 ·obtain ⟨g, cap, hv, _, hlt⟩ := h.form h0; exact ⟨_, cap, by rw [hl, hv], fun _ => ⟨_, rfl, hlt, h.cells (g := g) (by rw [hv]; rfl)⟩⟩
theorem OwnI.rd {B : Nat} {w : World} {v : Value} {l : List Int} (h : OwnI B w v l) : Rd w.heap.size w v (iv l) := rd_of h
theorem OwnB.rd {B : Nat} {w : World} {v : Value} {l : List UInt8} (h : OwnB B w v l) : Rd w.heap.size w v (bv l) := rd_of h
theorem Rd.below {B : Nat} {w w' : World} {v : Value} {xs : List Value} (h : Rd B w v xs) (hb : Below B w w') : Rd B w' v xs := by
 obtain ⟨A, c, rfl, h⟩ := h; refine ⟨A, c, rfl, fun hn => ?_⟩
 obtain ⟨ad, e, hlt, hc⟩ := h hn; exact ⟨ad, e, hlt, fun j u hu => (hb.cell (by rw [yen]; exact hlt)).trans (hc j u hu)⟩
theorem Rd.more {B B' : Nat} {w : World} {v : Value} {xs : List Value} (h : Rd B w v xs) (hB : B <= B') : Rd B' w v xs := by
 obtain ⟨A, c, rfl, h⟩ := h; refine ⟨A, c, rfl, fun hn => ?_⟩
 obtain ⟨ad, e, hlt, hc⟩ := h hn; exact ⟨ad, e, by omega, hc⟩
theorem yap (w : World) (xs : List Value) (t : TypeId) : ∀ j u, xs[j]? = some u -> (w.alloc (.cells xs.toArray t)).cell? ((⟨w.heap.size, 0, none⟩ : Addr).add j) = some u := by
 intro j u hu; rw [Addr.add_lit, Nat.zero_add, World.cell?_alloc_mark, List.getElem?_toArray]; exact hu
theorem yef : (Tryz.prog.info? 3).map (fun i => (i.zero, i.size, i.bytes)) = some (some (.int .i64 0), 1, 8) := by kernel_rfl
theorem ykg : (Tryz.prog.info? 5).map (fun i => (i.zero, i.size, i.bytes)) = some (some (.int .u8 0), 1, 1) := by kernel_rfl
theorem pushI {ops : Array Oper} {rest : List Oper} {o : Oper} {a : Act} {Q : Exit -> Act -> World -> Prop} (hgd : o.guard = none) (s x : Operand)
  (ho : o.op = .call { callee := .builtin .append, args := #[s, x], argTypes := #[22, 22] })
  (w0 : World) (B : Nat) (v : Value) (l m : List Int) (C : Nat) (hs : a.eval s = v) (hown : OwnI B w0 v l) (hx : a.eval x = .slice (some ⟨w0.heap.size, 0, none⟩) m.length C)
  (hB : B <= w0.heap.size) (hl : l.length + m.length <= 10000000)
  (h : ∀ v' w', OwnI B w' v' (l ++ m) -> Below B w0 w' -> wpList Tryz.prog ops Q rest (a.put o.dst v') w') : wpList Tryz.prog ops Q (o :: rest) a (w0.alloc (.cells (iv m).toArray 3)) := by
 obtain ⟨i0, hi0, hz0, hz1, hz2⟩ := info_parts yef
 have hb1 : Below B w0 (w0.alloc (.cells (iv m).toArray 3)) := (zR B w0).alloc hB _
 have hb2 : B <= (w0.alloc (.cells (iv m).toArray 3)).heap.size := Nat.le_trans hB hb1.size
 refine wpList_append_own_at _ hgd s x _ ho B 3 i0 _ 1 8 Tryz.underlying22 hi0 hz0 hz1 hz2 rfl (by omega) v l.length (iv l) hs (hown.alloc _) _ m.length C (iv m) hx (by rw [iv_len]; omega)
  (yap w0 (iv m) _) (iv_one m) (by simp only [maxLen]; omega) (by omega) hb2 ?_
 intro v' w' h2 h3 _ _; refine h v' w' ?_ ?_
 ·unfold OwnI; rw [iv_app, List.length_append]; exact h2
 ·exact hb1.grown h3 hb2 (fun k hk => (World.ownsRow.lt hown k hk).1)
theorem pushB {ops : Array Oper} {rest : List Oper} {o : Oper} {a : Act} {Q : Exit -> Act -> World -> Prop} (hgd : o.guard = none) (s x : Operand)
  (ho : o.op = .call { callee := .builtin .append, args := #[s, x], argTypes := #[24, 24] })
  (w0 : World) (B : Nat) (v : Value) (l m : List UInt8) (C : Nat) (hs : a.eval s = v) (hown : OwnB B w0 v l) (hx : a.eval x = .slice (some ⟨w0.heap.size, 0, none⟩) m.length C)
  (hB : B <= w0.heap.size) (hl : l.length + m.length <= 10000000)
  (h : ∀ v' w', OwnB B w' v' (l ++ m) -> Below B w0 w' -> wpList Tryz.prog ops Q rest (a.put o.dst v') w') : wpList Tryz.prog ops Q (o :: rest) a (w0.alloc (.cells (bv m).toArray 5)) := by
 obtain ⟨i0, hi0, hz0, hz1, hz2⟩ := info_parts ykg
 have hb1 : Below B w0 (w0.alloc (.cells (bv m).toArray 5)) := (zR B w0).alloc hB _
 have hb2 : B <= (w0.alloc (.cells (bv m).toArray 5)).heap.size := Nat.le_trans hB hb1.size
 refine wpList_append_own_at _ hgd s x _ ho B 5 i0 _ 1 1 Tryz.underlying24 hi0 hz0 hz1 hz2 rfl (by omega) v l.length (bv l) hs (hown.alloc _) _ m.length C (bv m) hx (by rw [bv_len]; omega)
  (yap w0 (bv m) _) (bv_one m) (by simp only [maxLen]; omega) (by omega) hb2 ?_
 intro v' w' h2 h3 _ _; refine h v' w' ?_ ?_
 ·unfold OwnB; rw [bv_app, List.length_append]; exact h2
 ·exact hb1.grown h3 hb2 (fun k hk => (World.ownsRow.lt hown k hk).1)
theorem makeI {ops : Array Oper} {rest : List Oper} {o : Oper} {a : Act} {Q : Exit -> Act -> World -> Prop} (hg : o.guard = none) (s c : Operand) (hop : o.op = Op.makeSlice 22 s c)
  (w : World) (B N : Nat) (hl : a.eval s = .int .i64 0) (hc : a.eval c = .int .i64 (N : Int)) (hN : N <= 10000000) (hB : B <= w.heap.size)
  (hK : ∀ v w', OwnI B w' v [] -> Below B w w' -> wpList Tryz.prog ops Q rest (a.put o.dst v) w') : wpList Tryz.prog ops Q (o :: rest) a w := by
 obtain ⟨i0, hi0, hz0, hz1, hz2⟩ := info_parts yef; refine wpList_make_own w hg s c _ hop B 3 i0 _ 1 Tryz.underlying22 hi0 hz0 hz1 .i64 .i64 N N hl hc rfl (by rw [hz2]; omega) (by simp only [maxLen]; omega) hB ?_
 intro w' h1 h2; exact hK _ w' h1 ((zR B w).grown h2 hB (by simp))
theorem str_of {B : Nat} {w : World} {v : Value} {l : List UInt8} (h : Rd B w v (bv l)) : (convert 24 9 v).run Tryz.prog w = .ok (.string ⟨l.toArray⟩) w := by
 obtain ⟨A, c, rfl, h⟩ := h; rw [bv_len] at h |-
 rcases A with _ | ad
 ·have h0 : l = [] := by
   rcases Nat.eq_zero_or_pos l.length with h0 | h0
   ·exact List.eq_nil_of_length_eq_zero h0
   ·obtain ⟨_, e, _⟩ := h h0; cases e
  subst h0; exact run_convert_bytes_nil (P := Tryz.prog) (w := w) 24 5 Tryz.underlying24 Tryz.underlying5 0 c 9 Tryz.underlying9
 ·refine run_convert_bytes_back w _ _ _ ad c l Tryz.underlying24 Tryz.underlying5 Tryz.underlying9 ?_; intro j hj; obtain ⟨_, e, _, hc⟩ := h (by omega)
  cases e
  exact hc j _ (by simp [bv, List.getElem?_eq_getElem hj])
end Go.Proofs.YtichfdjjbafeiaaGreat.T2
namespace Go.Proofs.YtichfdjjbafeiaaGreat.T2
open Go.RowKit
theorem yvi (w : World) (xs : List Value) (l : List UInt8) (n : Nat) (hx : xs = bv l) (hn : n = l.length) :
  (convert 24 9 (.slice (some ⟨w.heap.size, 0, none⟩) n n)).run Tryz.prog (w.alloc (.cells xs.toArray 5)) = .ok (.string ⟨l.toArray⟩) (w.alloc (.cells xs.toArray 5)) := by
 subst hx hn; refine str_of (B := w.heap.size + 1) ⟨_, _, by rw [bv_len], fun _ => ⟨_, rfl, ?_, yap w (bv l) _⟩⟩
 exact Nat.lt_succ_self _
theorem conv_1 (w : World) (a : Nat) (ha : a < 256) : (convert 24 9 (.slice (some ⟨w.heap.size, 0, none⟩) 1 1)).run Tryz.prog (w.alloc (.cells #[.int .u8 (a : Int)] 5)) = .ok (.string ⟨#[UInt8.ofNat a]⟩) (w.alloc (.cells #[.int .u8 (a : Int)] 5)) :=
 yvi w [.int .u8 (a : Int)] [UInt8.ofNat a] 1 (by simp [bv, yal ha]) rfl
end Go.Proofs.YtichfdjjbafeiaaGreat.T2
