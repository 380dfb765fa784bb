/-
  PACKED for a claim.
-/
import Derived.Maps.AppendAt
import Derived.Deep.AppendLies
import Derived.Deep.DeepAppendRoom
import Derived.OwnWalk
import Derived.Laws.IdiomStrings
import Derived.Test.YteibnfeokgibmaaGreatP04
set_option linter.unusedVariables false
set_option linter.unusedSimpArgs false
set_option maxRecDepth 100000
namespace Go.Proofs.YteibnfeokgibmaaGreat.T2
open Go.RowKit
theorem ypi (s : ByteArray) (a b : Nat) : (s.extract a b).data.toList = (s.data.toList.take b).drop a := by
 rw [ByteArray.data_extract, Array.toList_extract, List.extract_eq_take_drop, List.drop_take]
theorem yha (s : ByteArray) (p : Nat) : (s.extract p s.size).data.toList = s.data.toList.drop p := by
 rw [ypi, <- ba_len, List.take_length]
theorem zao (s : ByteArray) (p : Nat) : (s.extract 0 p).data.toList = s.data.toList.take p := by
 rw [ypi, List.drop_zero]
theorem ygz {s : ByteArray} {p : Nat} {D : Nat × Nat} (hp : p < s.size) (hs : s.size <= maxLen) (hD : dec (s.data.toList.drop p) = D) (w : World) :
  Calls Tryz.prog 144 #[.string (s.extract p s.size)] w fun e w' => e = .returned (.tuple #[.int .i64 D.1, .int .i64 D.2]) /\ w = w' := by
 have h := yij (s.extract p s.size) w (by rw [ByteArray.size_extract]; omega) (by rw [ByteArray.size_extract]; omega)
 rw [yha, hD] at h; exact h
set_option maxRecDepth 200000 in
theorem ywh (s : ByteArray) (w : World) (hs : s.size <= maxLen) :
  Calls Tryz.prog 217 #[.string s] w fun e w' => e = .returned (.int .i64 ((sgs s.data.toList).length : Nat)) /\ w = w' := by
 have PN := zH (fun k => yfe k s.data.toList)
 have PL := zH (fun k => ygb k s.data.toList)
 have PE := zH (fun k => pos_le k s.data.toList)
 have SL := zH (yeo s.data.toList); obtain ⟨N, hN⟩ : ∃ N, (sgs s.data.toList).length = N := ⟨_, rfl⟩; rw [hN] at PL SL |-; simp only [ba_len] at PN PL PE SL; clear hN
 have hm : s.size <= 9223372036854775807 := by have : maxLen = 9223372036854775807 := by decide
                                               omega
 go_enter Tryz.func217, Tryz.ntmps217
 go_wp2
 go_loop [3, 4] (fun n i => ∃ k p : Nat, k <= N /\ n = .int .i64 k /\ i = .int .i64 p /\ Hid (pos k s.data.toList = p)) (fun _ i => s.size - (intOf i).toNat)
 case atStart => exact ⟨0, 0, by omega, rfl, rfl, rfl⟩
 case round =>
  obtain ⟨k, p, hk, rfl, rfl, hp⟩ := hrel; have h1 := PN.out k; have h2 := PL.out k; have h3 := PE.out (k + 1); have h4 := PE.out k; have h5 := SL.out; rw [hp.out] at h1 h2 h4
  by_cases hlt : p < s.size
  ·have h1' := h1 hlt; obtain ⟨D, hD⟩ : ∃ D, dec (s.data.toList.drop p) = D := ⟨_, rfl⟩; have hpos := ycw (s.data.toList.drop p); rw [hD] at h1' hpos; have HD := zH hD; have H1 := zH h1'; rw [h1'] at h3; have hkN := h2.1 hlt; clear h1 h1' h2 hD hp
   go_wp2_with (first
    | (go_at_call 144; refine (ygz hlt hs HD.out _).mono ?_; rintro e w' ⟨rfl, rfl⟩))
   refine ⟨⟨k + 1, p + D.2, by omega, rfl, rfl, H1.out⟩, ?_⟩
   simp [intOf]; omega
  ·have hkN : k = N := by
    by_cases h : k < N
    ·exact absurd (h2.2 h) hlt
    ·omega
   clear h1 h2 h3 h4
   go_wp2
   go_ret
   exact ⟨rfl, rfl⟩
def vl (l : List UInt8) : Bool := (sgs l).all fun c => decide (c <= 1114111)
end Go.Proofs.YteibnfeokgibmaaGreat.T2
namespace Go.Proofs.YteibnfeokgibmaaGreat.T2
open Go.RowKit
def iv (l : List Int) : List Value := l.map (Value.int .i64)
def bv (l : List UInt8) : List Value := l.map fun x => Value.int .u8 (x.toNat : Int)
def OwnI (B : Nat) (w : World) (v : Value) (l : List Int) : Prop := w.ownsRow B 3 1 v l.length (iv l)
def OwnB (B : Nat) (w : World) (v : Value) (l : List UInt8) : Prop := w.ownsRow B 5 1 v l.length (bv l)
def Rd (B : Nat) (w : World) (v : Value) (xs : List Value) : Prop :=
 ∃ A c, v = .slice A xs.length c /\ (0 < xs.length -> ∃ ad : Addr, A = some ad /\ ad.block < B /\ ∀ j u, xs[j]? = some u -> w.cell? (ad.add j) = some u)
theorem iv_len (l : List Int) : (iv l).length = l.length := by simp [iv]
theorem bv_len (l : List UInt8) : (bv l).length = l.length := by simp [bv]
theorem iv_app (a b : List Int) : iv (a ++ b) = iv a ++ iv b := by simp [iv]
theorem bv_app (a b : List UInt8) : bv (a ++ b) = bv a ++ bv b := by simp [bv]
theorem iv_one (l : List Int) : ∀ u ∈ iv l, u.oneCell' = true := ints_oneCell .i64 l
theorem bv_one (l : List UInt8) : ∀ u ∈ bv l, u.oneCell' = true := by
 intro u hu
 have := ints_oneCell .u8 (l.map fun x => (x.toNat : Int)) u
 rw [List.map_map] at this; exact this hu
theorem yfs (a : Addr) (n : Nat) : (a.add n).block = a.block := by unfold Addr.add; split <;> rfl
theorem OwnI.below {B B' : Nat} {w w' : World} {v : Value} {l : List Int} (h : OwnI B w v l) (hb : Below B' w w') (hB : w.heap.size <= B') : OwnI B w' v l := by
 refine ⟨h.1, ?_⟩
 rcases h.2 with hn | ⟨g, cap, cur, rfl, hg, hgg, rest⟩
 ·exact .inl hn
 ·exact .inr ⟨g, cap, cur, rfl, hg, by rw [hb.block g (Nat.lt_of_lt_of_le (Array.getElem?_eq_some_iff.1 hgg).1 hB)]; exact hgg, rest⟩
theorem OwnB.below {B B' : Nat} {w w' : World} {v : Value} {l : List UInt8} (h : OwnB B w v l) (hb : Below B' w w') (hB : w.heap.size <= B') : OwnB B w' v l := by
 refine ⟨h.1, ?_⟩
 rcases h.2 with hn | ⟨g, cap, cur, rfl, hg, hgg, rest⟩
 ·exact .inl hn
 ·exact .inr ⟨g, cap, cur, rfl, hg, by rw [hb.block g (Nat.lt_of_lt_of_le (Array.getElem?_eq_some_iff.1 hgg).1 hB)]; exact hgg, rest⟩
theorem OwnI.nil (B : Nat) (w : World) : OwnI B w (.slice none 0 0) [] := World.ownsRow_nil w B _ 1
theorem OwnB.nil (B : Nat) (w : World) : OwnB B w (.slice none 0 0) [] := World.ownsRow_nil w B _ 1
theorem rd_of {B : Nat} {e : TypeId} {w : World} {v : Value} {n : Nat} {xs : List Value} (h : w.ownsRow B e 1 v n xs) : Rd w.heap.size w v xs := by
 have hl : xs.length = n := by have := h.1; omega
 rcases Nat.eq_zero_or_pos n with h0 | h0
 ·rcases h.2 with ⟨rfl, _⟩ | ⟨g, cap, cur, rfl, _⟩
  ·exact ⟨none, 0, by rw [hl, h0], fun hx => by omega⟩
  ·exact ⟨_, cap, by rw [hl], fun hx => by omega⟩
 ·obtain ⟨g, cap, hv, _, hlt⟩ := h.form h0; exact ⟨_, cap, by rw [hl, hv], fun _ => ⟨_, rfl, hlt, h.cells (g := g) (by rw [hv]; rfl)⟩⟩
theorem OwnI.rd {B : Nat} {w : World} {v : Value} {l : List Int} (h : OwnI B w v l) : Rd w.heap.size w v (iv l) := rd_of h
theorem OwnB.rd {B : Nat} {w : World} {v : Value} {l : List UInt8} (h : OwnB B w v l) : Rd w.heap.size w v (bv l) := rd_of h
theorem Rd.below {B : Nat} {w w' : World} {v : Value} {xs : List Value} (h : Rd B w v xs) (hb : Below B w w') : Rd B w' v xs := by
 obtain ⟨A, c, rfl, h⟩ := h; refine ⟨A, c, rfl, fun hn => ?_⟩
 obtain ⟨ad, e, hlt, hc⟩ := h hn; exact ⟨ad, e, hlt, fun j u hu => (hb.cell (by rw [yfs]; exact hlt)).trans (hc j u hu)⟩
theorem Rd.more {B B' : Nat} {w : World} {v : Value} {xs : List Value} (h : Rd B w v xs) (hB : B <= B') : Rd B' w v xs := by
 obtain ⟨A, c, rfl, h⟩ := h; refine ⟨A, c, rfl, fun hn => ?_⟩
 obtain ⟨ad, e, hlt, hc⟩ := h hn; exact ⟨ad, e, by omega, hc⟩
theorem yax (w : World) (xs : List Value) (t : TypeId) : ∀ j u, xs[j]? = some u -> (w.alloc (.cells xs.toArray t)).cell? ((⟨w.heap.size, 0, none⟩ : Addr).add j) = some u := by
 intro j u hu; rw [Addr.add_lit, Nat.zero_add, World.cell?_alloc_mark, List.getElem?_toArray]; exact hu
theorem yfj : (Tryz.prog.info? 3).map (fun i => (i.zero, i.size, i.bytes)) = some (some (.int .i64 0), 1, 8) := by kernel_rfl
theorem yju : (Tryz.prog.info? 5).map (fun i => (i.zero, i.size, i.bytes)) = some (some (.int .u8 0), 1, 1) := by kernel_rfl
theorem pushI {ops : Array Oper} {rest : List Oper} {o : Oper} {a : Act} {Q : Exit -> Act -> World -> Prop} (hgd : o.guard = none) (s x : Operand)
  (ho : o.op = .call { callee := .builtin .append, args := #[s, x], argTypes := #[29, 29] })
  (w0 : World) (B : Nat) (v : Value) (l m : List Int) (C : Nat) (hs : a.eval s = v) (hown : OwnI B w0 v l) (hx : a.eval x = .slice (some ⟨w0.heap.size, 0, none⟩) m.length C)
  (hB : B <= w0.heap.size) (hl : l.length + m.length <= 10000000)
  (h : ∀ v' w', OwnI B w' v' (l ++ m) -> Below B w0 w' -> wpList Tryz.prog ops Q rest (a.put o.dst v') w') : wpList Tryz.prog ops Q (o :: rest) a (w0.alloc (.cells (iv m).toArray 3)) := by
 obtain ⟨i0, hi0, hz0, hz1, hz2⟩ := info_parts yfj
 have hb1 : Below B w0 (w0.alloc (.cells (iv m).toArray 3)) := (zR B w0).alloc hB _
 have hb2 : B <= (w0.alloc (.cells (iv m).toArray 3)).heap.size := Nat.le_trans hB hb1.size
 refine wpList_append_own_at _ hgd s x _ ho B 3 i0 _ 1 8 Tryz.underlying29 hi0 hz0 hz1 hz2 rfl (by omega) v l.length (iv l) hs (hown.alloc _) _ m.length C (iv m) hx (by rw [iv_len]; omega)
  (yax w0 (iv m) _) (iv_one m) (by simp only [maxLen]; omega) (by omega) hb2 ?_
 intro v' w' h2 h3 _ _; refine h v' w' ?_ ?_
 ·unfold OwnI; rw [iv_app, List.length_append]; exact h2
 ·exact hb1.grown h3 hb2 (fun k hk => (World.ownsRow.lt hown k hk).1)
theorem pushB {ops : Array Oper} {rest : List Oper} {o : Oper} {a : Act} {Q : Exit -> Act -> World -> Prop} (hgd : o.guard = none) (s x : Operand)
  (ho : o.op = .call { callee := .builtin .append, args := #[s, x], argTypes := #[32, 32] })
  (w0 : World) (B : Nat) (v : Value) (l m : List UInt8) (C : Nat) (hs : a.eval s = v) (hown : OwnB B w0 v l) (hx : a.eval x = .slice (some ⟨w0.heap.size, 0, none⟩) m.length C)
  (hB : B <= w0.heap.size) (hl : l.length + m.length <= 10000000)
  (h : ∀ v' w', OwnB B w' v' (l ++ m) -> Below B w0 w' -> wpList Tryz.prog ops Q rest (a.put o.dst v') w') : wpList Tryz.prog ops Q (o :: rest) a (w0.alloc (.cells (bv m).toArray 5)) := by
 obtain ⟨i0, hi0, hz0, hz1, hz2⟩ := info_parts yju
 have hb1 : Below B w0 (w0.alloc (.cells (bv m).toArray 5)) := (zR B w0).alloc hB _
 have hb2 : B <= (w0.alloc (.cells (bv m).toArray 5)).heap.size := Nat.le_trans hB hb1.size
 refine wpList_append_own_at _ hgd s x _ ho B 5 i0 _ 1 1 Tryz.underlying32 hi0 hz0 hz1 hz2 rfl (by omega) v l.length (bv l) hs (hown.alloc _) _ m.length C (bv m) hx (by rw [bv_len]; omega)
  (yax w0 (bv m) _) (bv_one m) (by simp only [maxLen]; omega) (by omega) hb2 ?_
 intro v' w' h2 h3 _ _; refine h v' w' ?_ ?_
 ·unfold OwnB; rw [bv_app, List.length_append]; exact h2
 ·exact hb1.grown h3 hb2 (fun k hk => (World.ownsRow.lt hown k hk).1)
theorem makeI {ops : Array Oper} {rest : List Oper} {o : Oper} {a : Act} {Q : Exit -> Act -> World -> Prop} (hg : o.guard = none) (s c : Operand) (hop : o.op = Op.makeSlice 29 s c)
  (w : World) (B N : Nat) (hl : a.eval s = .int .i64 0) (hc : a.eval c = .int .i64 (N : Int)) (hN : N <= 10000000) (hB : B <= w.heap.size)
  (hK : ∀ v w', OwnI B w' v [] -> Below B w w' -> wpList Tryz.prog ops Q rest (a.put o.dst v) w') : wpList Tryz.prog ops Q (o :: rest) a w := by
 obtain ⟨i0, hi0, hz0, hz1, hz2⟩ := info_parts yfj; refine wpList_make_own w hg s c _ hop B 3 i0 _ 1 Tryz.underlying29 hi0 hz0 hz1 .i64 .i64 N N hl hc rfl (by rw [hz2]; omega) (by simp only [maxLen]; omega) hB ?_
 intro w' h1 h2; exact hK _ w' h1 ((zR B w).grown h2 hB (by simp))
theorem makeB {ops : Array Oper} {rest : List Oper} {o : Oper} {a : Act} {Q : Exit -> Act -> World -> Prop} (hg : o.guard = none) (s c : Operand) (hop : o.op = Op.makeSlice 32 s c)
  (w : World) (B N : Nat) (hl : a.eval s = .int .i64 0) (hc : a.eval c = .int .i64 (N : Int)) (hN : N <= 10000000) (hB : B <= w.heap.size)
  (hK : ∀ v w', OwnB B w' v [] -> Below B w w' -> wpList Tryz.prog ops Q rest (a.put o.dst v) w') : wpList Tryz.prog ops Q (o :: rest) a w := by
 obtain ⟨i0, hi0, hz0, hz1, hz2⟩ := info_parts yju; refine wpList_make_own w hg s c _ hop B 5 i0 _ 1 Tryz.underlying32 hi0 hz0 hz1 .i64 .i64 N N hl hc rfl (by rw [hz2]; omega) (by simp only [maxLen]; omega) hB ?_
 intro w' h1 h2; exact hK _ w' h1 ((zR B w).grown h2 hB (by simp))
theorem str_of {B : Nat} {w : World} {v : Value} {l : List UInt8} (h : Rd B w v (bv l)) : (convert 32 9 v).run Tryz.prog w = .ok (.string ⟨l.toArray⟩) w := by
 obtain ⟨A, c, rfl, h⟩ := h; rw [bv_len] at h |-
 rcases A with _ | ad
 ·have h0 : l = [] := by
   rcases Nat.eq_zero_or_pos l.length with h0 | h0
   ·exact List.eq_nil_of_length_eq_zero h0
   ·obtain ⟨_, e, _⟩ := h h0; cases e
  subst h0; exact run_convert_bytes_nil (P := Tryz.prog) (w := w) 32 5 Tryz.underlying32 Tryz.underlying5 0 c 9 Tryz.underlying9
 ·refine run_convert_bytes_back w _ _ _ ad c l Tryz.underlying32 Tryz.underlying5 Tryz.underlying9 ?_; intro j hj; obtain ⟨_, e, _, hc⟩ := h (by omega)
  cases e
  exact hc j _ (by simp [bv, List.getElem?_eq_getElem hj])
end Go.Proofs.YteibnfeokgibmaaGreat.T2
namespace Go.Proofs.YteibnfeokgibmaaGreat.T2
open Go.RowKit
theorem yhd (w : World) (xs : List Value) (l : List UInt8) (n : Nat) (hx : xs = bv l) (hn : n = l.length) :
  (convert 32 9 (.slice (some ⟨w.heap.size, 0, none⟩) n n)).run Tryz.prog (w.alloc (.cells xs.toArray 5)) = .ok (.string ⟨l.toArray⟩) (w.alloc (.cells xs.toArray 5)) := by
 subst hx hn; refine str_of (B := w.heap.size + 1) ⟨_, _, by rw [bv_len], fun _ => ⟨_, rfl, ?_, yax w (bv l) _⟩⟩
 exact Nat.lt_succ_self _
theorem conv_1 (w : World) (a : Nat) (ha : a < 256) : (convert 32 9 (.slice (some ⟨w.heap.size, 0, none⟩) 1 1)).run Tryz.prog (w.alloc (.cells #[.int .u8 (a : Int)] 5)) = .ok (.string ⟨#[UInt8.ofNat a]⟩) (w.alloc (.cells #[.int .u8 (a : Int)] 5)) :=
 yhd w [.int .u8 (a : Int)] [UInt8.ofNat a] 1 (by simp [bv, yak ha]) rfl
theorem conv_2 (w : World) (a b : Nat) (ha : a < 256) (hb : b < 256) : (convert 32 9 (.slice (some ⟨w.heap.size, 0, none⟩) 2 2)).run Tryz.prog (w.alloc (.cells #[.int .u8 (a : Int), .int .u8 (b : Int)] 5)) = .ok (.string ⟨#[UInt8.ofNat a, UInt8.ofNat b]⟩) (w.alloc (.cells #[.int .u8 (a : Int), .int .u8 (b : Int)] 5)) :=
 yhd w [.int .u8 (a : Int), .int .u8 (b : Int)] [UInt8.ofNat a, UInt8.ofNat b] 2 (by simp [bv, yak ha, yak hb]) rfl
theorem conv_3 (w : World) (a b c : Nat) (ha : a < 256) (hb : b < 256) (hc : c < 256) : (convert 32 9 (.slice (some ⟨w.heap.size, 0, none⟩) 3 3)).run Tryz.prog (w.alloc (.cells #[.int .u8 (a : Int), .int .u8 (b : Int), .int .u8 (c : Int)] 5)) = .ok (.string ⟨#[UInt8.ofNat a, UInt8.ofNat b, UInt8.ofNat c]⟩) (w.alloc (.cells #[.int .u8 (a : Int), .int .u8 (b : Int), .int .u8 (c : Int)] 5)) :=
 yhd w [.int .u8 (a : Int), .int .u8 (b : Int), .int .u8 (c : Int)] [UInt8.ofNat a, UInt8.ofNat b, UInt8.ofNat c] 3 (by simp [bv, yak ha, yak hb, yak hc]) rfl
theorem conv_4 (w : World) (a b c d : Nat) (ha : a < 256) (hb : b < 256) (hc : c < 256) (hd : d < 256) : (convert 32 9 (.slice (some ⟨w.heap.size, 0, none⟩) 4 4)).run Tryz.prog (w.alloc (.cells #[.int .u8 (a : Int), .int .u8 (b : Int), .int .u8 (c : Int), .int .u8 (d : Int)] 5)) = .ok (.string ⟨#[UInt8.ofNat a, UInt8.ofNat b, UInt8.ofNat c, UInt8.ofNat d]⟩) (w.alloc (.cells #[.int .u8 (a : Int), .int .u8 (b : Int), .int .u8 (c : Int), .int .u8 (d : Int)] 5)) :=
 yhd w [.int .u8 (a : Int), .int .u8 (b : Int), .int .u8 (c : Int), .int .u8 (d : Int)] [UInt8.ofNat a, UInt8.ofNat b, UInt8.ofNat c, UInt8.ofNat d] 4 (by simp [bv, yak ha, yak hb, yak hc, yak hd]) rfl
theorem yuo (n : Nat) : UInt8.ofNat (n % 256) = UInt8.ofNat n := by
 apply UInt8.toNat.inj; rw [UInt8.toNat_ofNat', UInt8.toNat_ofNat']; omega
theorem one_w1 (c : Int) (R : ByteArray) (w : World) (hz : 0 <= c) (hc : c <= 9223372036854775807) (h0 : 1114112 <= c)
  (k1 : ∀ w : World, (convert 32 9 (.slice (some ⟨w.heap.size, 0, none⟩) 1 1)).run Tryz.prog (w.alloc (.cells #[.int .u8 ((c - 1114112) % 256)] 5)) = .ok (.string R) (w.alloc (.cells #[.int .u8 ((c - 1114112) % 256)] 5))) :
  Calls Tryz.prog 55 #[.int .i64 c] w fun e w' => e = .returned (.string R) /\ Below w.heap.size w w' := by
 go_enter Tryz.func55, Tryz.ntmps55
 go_wp2
 go_ret
 exact ⟨rfl, (zR _ _).alloc (zN _) _⟩
theorem one_w2 (c : Int) (R : ByteArray) (w : World) (hz : 0 <= c) (hc : c <= 9223372036854775807) (h0 : ¬ 1114112 <= c) (h1 : c < 128)
  (k1 : ∀ w : World, (convert 32 9 (.slice (some ⟨w.heap.size, 0, none⟩) 1 1)).run Tryz.prog (w.alloc (.cells #[.int .u8 (c)] 5)) = .ok (.string R) (w.alloc (.cells #[.int .u8 (c)] 5))) :
  Calls Tryz.prog 55 #[.int .i64 c] w fun e w' => e = .returned (.string R) /\ Below w.heap.size w w' := by
 go_enter Tryz.func55, Tryz.ntmps55
 go_wp2
 go_ret
 exact ⟨rfl, (zR _ _).alloc (zN _) _⟩
theorem one_w3 (c : Int) (R : ByteArray) (w : World) (hz : 0 <= c) (hc : c <= 9223372036854775807) (h0 : ¬ 1114112 <= c) (h1 : ¬ c < 128) (h2 : c < 2048)
  (k1 : ∀ w : World, (convert 32 9 (.slice (some ⟨w.heap.size, 0, none⟩) 2 2)).run Tryz.prog (w.alloc (.cells #[.int .u8 (192 + c / 64), .int .u8 (128 + c % 64)] 5)) = .ok (.string R) (w.alloc (.cells #[.int .u8 (192 + c / 64), .int .u8 (128 + c % 64)] 5))) :
  Calls Tryz.prog 55 #[.int .i64 c] w fun e w' => e = .returned (.string R) /\ Below w.heap.size w w' := by
 go_enter Tryz.func55, Tryz.ntmps55
 go_wp2
 go_ret
 exact ⟨rfl, (zR _ _).alloc (zN _) _⟩
theorem one_w4 (c : Int) (R : ByteArray) (w : World) (hz : 0 <= c) (hc : c <= 9223372036854775807) (h0 : ¬ 1114112 <= c) (h1 : ¬ c < 128) (h2 : ¬ c < 2048) (h3 : c < 65536)
  (k1 : ∀ w : World, (convert 32 9 (.slice (some ⟨w.heap.size, 0, none⟩) 3 3)).run Tryz.prog (w.alloc (.cells #[.int .u8 (224 + c / 4096), .int .u8 (128 + c / 64 % 64), .int .u8 (128 + c % 64)] 5)) = .ok (.string R) (w.alloc (.cells #[.int .u8 (224 + c / 4096), .int .u8 (128 + c / 64 % 64), .int .u8 (128 + c % 64)] 5))) :
  Calls Tryz.prog 55 #[.int .i64 c] w fun e w' => e = .returned (.string R) /\ Below w.heap.size w w' := by
 go_enter Tryz.func55, Tryz.ntmps55
 go_wp2
 go_ret
 exact ⟨rfl, (zR _ _).alloc (zN _) _⟩
theorem one_w5 (c : Int) (R : ByteArray) (w : World) (hz : 0 <= c) (hc : c <= 9223372036854775807) (h0 : ¬ 1114112 <= c) (h1 : ¬ c < 128) (h2 : ¬ c < 2048) (h3 : ¬ c < 65536)
  (k1 : ∀ w : World, (convert 32 9 (.slice (some ⟨w.heap.size, 0, none⟩) 4 4)).run Tryz.prog (w.alloc (.cells #[.int .u8 (240 + c / 262144), .int .u8 (128 + c / 4096 % 64), .int .u8 (128 + c / 64 % 64), .int .u8 (128 + c % 64)] 5)) = .ok (.string R) (w.alloc (.cells #[.int .u8 (240 + c / 262144), .int .u8 (128 + c / 4096 % 64), .int .u8 (128 + c / 64 % 64), .int .u8 (128 + c % 64)] 5))) :
  Calls Tryz.prog 55 #[.int .i64 c] w fun e w' => e = .returned (.string R) /\ Below w.heap.size w w' := by
 go_enter Tryz.func55, Tryz.ntmps55
 go_wp2
 go_ret
 exact ⟨rfl, (zR _ _).alloc (zN _) _⟩
theorem yul (c : Nat) (w : World) (hc : (c : Int) <= 9223372036854775807) :
  Calls Tryz.prog 55 #[.int .i64 c] w fun e w' => e = .returned (.string ⟨(one c).toArray⟩) /\ Below w.heap.size w w' := by
 rcases ykk c with h | h | ⟨h, h'⟩ | ⟨h, h'⟩ | ⟨h, h'⟩
 ·rw [yhz h]; refine one_w1 c _ w (by omega) hc (by omega) (fun w => ?_)
  have k1 := conv_1 w ((c - 1114112) % 256) (by omega)
  have e0 : (((c - 1114112) % 256 : Nat) : Int) = ((c : Int) - 1114112) % 256 := by omega
  rw [e0, yuo] at k1; exact k1
 ·rw [one_1 h]; refine one_w2 c _ w (by omega) hc (by omega) (by omega) (fun w => ?_)
  have k1 := conv_1 w c (by omega)
  exact k1
 ·rw [one_2 h h']; refine one_w3 c _ w (by omega) hc (by omega) (by omega) (by omega) (fun w => ?_)
  have k1 := conv_2 w (192 + c / 64) (128 + c % 64) (by omega) (by omega)
  have e0 : ((192 + c / 64 : Nat) : Int) = 192 + (c : Int) / 64 := by omega
  have e1 : ((128 + c % 64 : Nat) : Int) = 128 + (c : Int) % 64 := by omega
  rw [e0, e1] at k1; exact k1
 ·rw [one_3 h h']; refine one_w4 c _ w (by omega) hc (by omega) (by omega) (by omega) (by omega) (fun w => ?_)
  have k1 := conv_3 w (224 + c / 4096) (128 + c / 64 % 64) (128 + c % 64) (by omega) (by omega) (by omega)
  have e0 : ((224 + c / 4096 : Nat) : Int) = 224 + (c : Int) / 4096 := by omega
  have e1 : ((128 + c / 64 % 64 : Nat) : Int) = 128 + (c : Int) / 64 % 64 := by omega
  have e2 : ((128 + c % 64 : Nat) : Int) = 128 + (c : Int) % 64 := by omega
  rw [e0, e1, e2] at k1; exact k1
 ·rw [one_4 h h']; refine one_w5 c _ w (by omega) hc (by omega) (by omega) (by omega) (by omega) (fun w => ?_)
  have k1 := conv_4 w (240 + c / 262144) (128 + c / 4096 % 64) (128 + c / 64 % 64) (128 + c % 64) (by omega) (by omega) (by omega) (by omega)
  have e0 : ((240 + c / 262144 : Nat) : Int) = 240 + (c : Int) / 262144 := by omega
  have e1 : ((128 + c / 4096 % 64 : Nat) : Int) = 128 + (c : Int) / 4096 % 64 := by omega
  have e2 : ((128 + c / 64 % 64 : Nat) : Int) = 128 + (c : Int) / 64 % 64 := by omega
  have e3 : ((128 + c % 64 : Nat) : Int) = 128 + (c : Int) % 64 := by omega
  rw [e0, e1, e2, e3] at k1; exact k1
end Go.Proofs.YteibnfeokgibmaaGreat.T2
