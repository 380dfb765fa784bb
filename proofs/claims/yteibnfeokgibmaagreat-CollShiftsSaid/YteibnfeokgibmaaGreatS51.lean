/-
  PACKED for a claim.
-/
import Derived.SizedLaws
import Derived.Test.YteibnfeokgibmaaGreatS38
import Derived.Test.YteibnfeokgibmaaGreatS48
import Derived.Test.YteibnfeokgibmaaGreatS50
set_option linter.unusedVariables false
set_option linter.unusedSimpArgs false
set_option maxRecDepth 100000
section
namespace Go.Proofs.YteibnfeokgibmaaGreat
open Go.RowKit
variable {U : Nat -> Prop}
end Go.Proofs.YteibnfeokgibmaaGreat
end
section
namespace Go.Proofs.YteibnfeokgibmaaGreat
open Go.RowKit
variable {U : Nat -> Prop}
end Go.Proofs.YteibnfeokgibmaaGreat
end
namespace Go.Proofs.YteibnfeokgibmaaGreat.S6
open T2 (gb dec one isSg isPt sgs)
def esc (c : Int) : Bool := spcB c || decide (c = 92)
def wr1 (c : Int) : List UInt8 := (if esc c = true then [92] else []) ++ T2.one c.toNat
def wrd (l : List Int) : List UInt8 := l.flatMap wr1
def ruleT (x : RV) : List UInt8 := mk x.rel.toNat ++ [32] ++ wrd x.seq ++ (if x.exp.length = 0 then [] else [32, 47, 32] ++ wrd x.exp)
def txt : List RV -> List UInt8
 | [] => []
 | [x] => ruleT x
 | x :: y :: t => ruleT x ++ [32] ++ txt (y :: t)
def okR (x : RV) : Bool := decide (1 <= x.rel) && decide (x.rel <= 5) && x.seq.all isSg && x.exp.all isSg
def good (l : List RV) : Bool := l.all okR && decide ((parse (txt l)).2.2 = 0) && decide ((parse (txt l)).1 = l)
end Go.Proofs.YteibnfeokgibmaaGreat.S6
namespace Go.Proofs.YteibnfeokgibmaaGreat
open Go.RowKit
theorem yut {s : ByteArray} (w : World) (hs : s.size <= 1000000) {l : List S6.RV} {at' E : Nat} (hR : S6.parse s.data.toList = (l, at', E)) :
  Calls Tryz.prog 50 #[.string s] w fun e w' => (∃ (A : Option Addr) (n c : Nat), e = .returned (.tuple #[.slice A n c, .int .i64 (at' : Nat), .int .i64 (E : Nat)]) /\ n = l.length /\ S6.RdRs w' (.slice A n c) l) /\ Below w.heap.size w w' := by
 refine (S6.yxn w hs hR).mono fun e w' hh => ?_
 obtain ⟨⟨v, rfl, hr⟩, hb⟩ := hh; obtain ⟨A, c, rfl⟩ := hr.form; exact ⟨⟨A, _, c, rfl, rfl, hr⟩, hb⟩
end Go.Proofs.YteibnfeokgibmaaGreat
namespace Go.Proofs.YteibnfeokgibmaaGreat.S6
open Go.RowKit
theorem RdRs.cap {w : World} {A : Option Addr} {n c : Nat} {L : List RV} (h : RdRs w (.slice A n c) L) : n <= c := by
 obtain ⟨M, -, h⟩ := h
 have := RdF.cap h.1
 omega
theorem RdRs.at' {w : World} {A : Option Addr} {n c : Nat} {L : List RV} (h : RdRs w (.slice A n c) L) {k : Nat} {x : RV} (hk : L[k]? = some x) :
  ∃ (g o : Nat) (A1 : Option Addr) (n1 c1 : Nat) (A2 : Option Addr) (n2 c2 : Nat), A = some ⟨g, o, none⟩ /\ w.cell? ⟨g, o + k * 3, none⟩ = some (.int .i64 x.rel) /\ w.cell? ⟨g, o + k * 3 + 1, none⟩ = some (.slice A1 n1 c1) /\ w.cell? ⟨g, o + k * 3 + 2, none⟩ = some (.slice A2 n2 c2) ∧
   RdI anyB w (.slice A1 n1 c1) x.seq /\ RdI anyB w (.slice A2 n2 c2) x.exp /\ n1 = x.seq.length /\ n2 = x.exp.length := by
 obtain ⟨g, o, vs, ve, e, h0, h1, h2, s1, s2⟩ := h.at hk; obtain ⟨A1, c1, rfl⟩ := s1.form; obtain ⟨A2, c2, rfl⟩ := s2.form; exact ⟨g, o, A1, _, c1, A2, _, c2, e, h0, h1, h2, s1, s2, rfl, rfl⟩
def SV.own (B : Nat) (l : List Int) : SV := ⟨fun v w => T2.OwnI B w v l, fun v w w' h hb => OwnI.below h hb (zN _)⟩
def RowV (B : Nat) (x : RV) (v : Value) (w : World) : Prop := ∃ (m : MR) (g1 : Nat), m.pl = x /\ v = .slice (some ⟨g1, 0, none⟩) 1 1 /\ RdF anyB w (.slice (some ⟨g1, 0, none⟩) 1 1) 1 (rcells [m]) /\ T2.OwnI B w m.vs m.s /\ T2.OwnI B w m.ve m.e
def SV.row (B : Nat) (x : RV) : SV := ⟨RowV B x, fun v w w' h hb => by
 obtain ⟨m, g1, h1, h2, h3, h4, h5⟩ := h; exact ⟨m, g1, h1, h2, h3.below hb (zN _), OwnI.below h4 hb (zN _), OwnI.below h5 hb (zN _)⟩⟩
end Go.Proofs.YteibnfeokgibmaaGreat.S6
namespace Go.Proofs.YteibnfeokgibmaaGreat
open Go.RowKit
theorem and16 (n : Int) : bits .and .i64 n 65535 = n % 65536 := T2.yem 16 (by omega) n
end Go.Proofs.YteibnfeokgibmaaGreat
namespace Go.Proofs.YteibnfeokgibmaaGreat
def Lx (n x : Nat) : Prop := wgt 2 x <= 150 + n /\ wgt 3 x <= 60 + n
theorem Lx.more {n m x : Nat} (h : Lx n x) (hm : n <= m) : Lx m x := ⟨by have := h.1; omega, by have := h.2; omega⟩
end Go.Proofs.YteibnfeokgibmaaGreat
namespace Go.Proofs.YteibnfeokgibmaaGreat
open Go.RowKit
def RAppIs (L : List PE) (E : Int) (w : World) (q : Ending) (w' : World) : Prop :=
 (E = 0 -> ∃ u : Value, q = .returned (.tuple #[.agg #[u], .int .i64 0]) /\ RefT w' u L) /\ (E ≠ 0 -> q = .returned (.tuple #[.agg #[.slice none 0 0], .int .i64 E])) /\ Below w.heap.size w w'
theorem yqe {s : ByteArray} (w : World) (hs : s.size <= 1000000) {l : List S6.RV} {at' E : Nat} (hR : S6.parse s.data.toList = (l, at', E)) :
  Calls Tryz.prog 52 #[.string s] w fun e w' => (∃ (A : Option Addr) (n c : Nat), e = .returned (.agg #[.slice A n c, .int .i64 (at' : Nat), .int .i64 (E : Nat)]) /\ n = l.length /\ S6.RdRs w' (.slice A n c) l) /\ Below w.heap.size w w' := by
 refine (S6.yud w hs hR).mono fun e w' hh => ?_
 obtain ⟨⟨v, rfl, hr⟩, hb⟩ := hh; obtain ⟨A, c, rfl⟩ := hr.form; exact ⟨⟨A, _, c, rfl, rfl, hr⟩, hb⟩
def RReadIs (L : List PE) (k : Nat) (E : Int) (w : World) (q : Ending) (w' : World) : Prop :=
 (E = 0 -> ∃ u : Value, q = .returned (.tuple #[.agg #[u], .int .i64 (k : Nat), .int .i64 0]) /\ RefT w' u L) /\ (E ≠ 0 -> q = .returned (.tuple #[.agg #[.slice none 0 0], .int .i64 (k : Nat), .int .i64 E])) /\ Below w.heap.size w w'
set_option maxHeartbeats 8000000 in
theorem yuc {s : ByteArray} (w : World) (hs : s.size <= 1000000) {l : List S6.RV} {at' : Nat} (hR : S6.parse s.data.toList = (l, at', 0)) {E : Int} {L : List PE} (hA : ∀ (w1 : World) (u rv : Value), RefT w1 u rootP -> S6.RdRs w1 rv l -> Calls Tryz.prog 53 #[.agg #[u], rv] w1 (RAppIs L E w1)) :
  Calls Tryz.prog 30 #[.string s] w (RReadIs L 0 E w) := by
 have CP : Hid (Calls Tryz.prog 52 #[.string s] (w.alloc (.cells #[.slice none 0 0] 40)) fun e w' => (∃ (A : Option Addr) (n c : Nat), e = .returned (.agg #[.slice A n c, .int .i64 (at' : Nat), .int .i64 0]) /\ n = l.length /\ S6.RdRs w' (.slice A n c) l) /\ Below (w.alloc (.cells #[.slice none 0 0] 40)).heap.size (w.alloc (.cells #[.slice none 0 0] 40)) w') := yqe _ hs hR
 have H0 := zH (heap_alloc_new w (.cells #[.slice none 0 0] 40)); have HB := zH (yaa w (.cells #[.slice none 0 0] 40)); have CA := zH hA; obtain ⟨k, hk⟩ : ∃ e : Int, (at' : Int) = e := ⟨_, rfl⟩; rw [hk] at CP; clear hs hR hA hk
 go_enter Tryz.func30, Tryz.ntmps30
 go_upto_region 4 with (go_at_call 52; refine (CP.out).mono ?_; rintro q w1 ⟨⟨A, n, c, rfl, -, hr⟩, hb⟩; have hal := yaa w1 (.cells #[.slice A n c, .int .i64 k, .int .i64 0] 103); have hx := heap_alloc_new w1 (.cells #[.slice A n c, .int .i64 k, .int .i64 0] 103); have HX := zH hx; have x0 := yan (i := 0) (v := .slice A n c) hx rfl; have x1 := yan (i := 1) (v := .int .i64 k) hx rfl; have x2 := yan (i := 2) (v := .int .i64 0) hx rfl; have r1 := (hb.block w.heap.size (R4.yad H0.out)).trans H0.out; have r2 := (hal.block w.heap.size (R4.yad r1)).trans r1; have R2 := zH r2; have y2 := yan (i := 0) (v := .slice none 0 0) r2 rfl; have y2f := frozen_of_row _ w.heap.size 0 _ _ r2; have HR := zH (hr.below hal (zN _)); have HB2 := zH (HB.out.trans ((hb.trans (hal.mono hb.size)).mono HB.out.size)); clear hal hx r1 r2 hr hb)
 clear x1 x2 y2 y2f; have X0 := zH x0; clear x0; obtain ⟨b2, hb2⟩ : ∃ b, w.heap.size = b := ⟨_, rfl⟩
 have HBL : Hid (w.heap.size <= b2) := by show _ <= _; omega
 obtain ⟨b5, hb5⟩ : ∃ b, w1.heap.size = b := ⟨_, rfl⟩; rw [hb5] at X0 |-; rw [hb2] at R2; rw [show (({ block := w.heap.size, off := 0 } : Addr)) = ⟨b2, 0, none⟩ by rw [hb2]]
 clear hb2 hb5 CP H0 HB HX; generalize (w1.alloc (.cells #[.slice A n c, .int .i64 k, .int .i64 0] 103)) = wc at X0 R2 HR HB2 |-
 by_cases hE0 : E = 0
 ·subst hE0; refine yhj (m := 8) 6 [19, 20, 21, 22, 18, 23, 24, 6] [SV.ref rootP, SV.eq (.pointer (some ⟨b5, 0, none⟩)), SV.eq (.slice A n c), SV.rw L, SV.rw L, SV.ref L, SV.eq (.int .i64 0), SV.newT wc.heap.size] (by kernel_rfl) (by kernel_rfl) ?_ ?_ ?_
  ·refine ⟨⟨⟨⟨⟨⟨⟨⟨trivial, ?_⟩, ?_⟩, ?_⟩, ?_⟩, ?_⟩, ?_⟩, ?_⟩, ?_⟩
   all_goals (refine OpIs.mk rfl ?_; intro vs w1 hb hd K hK; simp only [frameV, zS, zA, zB, zC, zD] at hK |-)
   ·have HK := zH hK; clear hK; go_simp
    go_at_call 26
    refine (yji w1).mono ?_; rintro r5 w5 ⟨⟨u5, rfl, hu5⟩, hb5⟩; exact HK.out _ _ ⟨u5, rfl, hu5⟩ hb5
   ·have HK := zH hK; clear hK; go_simp; exact HK.out _ _ rfl (zR _ _)
   ·have d1 : vs 1 = .pointer (some ⟨b5, 0, none⟩) := hd 1 (by kernel_rfl)
    have c0 := yac hb X0.out; simp only [d1] at hK |-; have HK := zH hK; clear hK; go_simp; exact HK.out _ _ rfl (zR _ _)
   ·have d0 : ∃ u, (vs 0) = .agg #[u] /\ RefT w1 u rootP := hd 0 (by kernel_rfl)
    have d2 : vs 2 = .slice A n c := hd 2 (by kernel_rfl)
    have h7 := Exists.choose_spec d0; generalize Exists.choose d0 = u7 at h7; have e7 := h7.1; have hu7 := zH h7.2; clear h7 d0; simp only [d2] at hK |-; simp only [e7] at hK |-; have HK := zH hK; clear hK; go_simp
    go_at_call 53
    refine (CA.out w1 _ _ hu7.out (HR.out.below hb (zN _))).mono ?_; rintro r5 w5 ⟨h1, -, hb5⟩; obtain ⟨u5, rfl, hu5⟩ := h1 rfl; exact HK.out _ _ ⟨u5, rfl, hu5⟩ hb5
   ·have d3 : (SV.rw L).p (vs 3) w1 := hd 3 (by kernel_rfl)
    have h7 := Exists.choose_spec (SV.rw_get d3); generalize Exists.choose (SV.rw_get d3) = u7 at h7; have e7 := h7.1; have hu7 := zH h7.2; clear h7 d3; simp only [e7] at hK |-; have HK := zH hK; clear hK; go_simp; exact HK.out _ _ ⟨_, rfl, hu7.out⟩ (zR _ _)
   ·have d4 : (SV.rw L).p (vs 4) w1 := hd 4 (by kernel_rfl)
    have h7 := Exists.choose_spec (SV.rw_get d4); generalize Exists.choose (SV.rw_get d4) = u7 at h7; have e7 := h7.1; have hu7 := zH h7.2; clear h7 d4; simp only [e7] at hK |-; have HK := zH hK; clear hK; go_simp; exact HK.out _ _ ⟨_, rfl, hu7.out⟩ (zR _ _)
   ·have d4 : (SV.rw L).p (vs 4) w1 := hd 4 (by kernel_rfl)
    have h7 := Exists.choose_spec (SV.rw_get d4); generalize Exists.choose (SV.rw_get d4) = u7 at h7; have e7 := h7.1; have hu7 := zH h7.2; clear h7 d4; simp only [e7] at hK |-; have HK := zH hK; clear hK; go_simp; exact HK.out _ _ rfl (zR _ _)
   ·have HK := zH hK; clear hK; go_simp; exact HK.out _ _ ⟨_, rfl, hb.size, heap_alloc_new w1 _⟩ (yaa w1 _)
  ·intro vs w5 hb hd; obtain ⟨u5, e13, hu5⟩ : ∃ u, vs 5 = .agg #[u] /\ RefT w5 u L := hd 5 (by omega)
   obtain ⟨A5, c5, f5⟩ := hu5.form; obtain ⟨n5, hn5⟩ : ∃ n5, L.length = n5 := ⟨_, rfl⟩; rw [hn5] at f5; subst f5
   have e14 : vs 6 = .int .i64 0 := hd 6 (by omega)
   obtain ⟨g13, e15, hg13, hr13⟩ : ∃ g, vs 7 = .pointer (some ⟨g, 0, none⟩) /\ wc.heap.size <= g /\ w5.heap[g]? = some (.cells #[.slice none 0 0] 40 (0, 0)) := hd 7 (by omega)
   have x1 := yan (i := 0) (v := .slice none 0 0) hr13 rfl
   have x2 : w5.frozen? ⟨g13, 0, none⟩ = false := frozen_of_row _ _ 0 _ _ hr13
   have r5 := (hb.block b2 (R4.yad R2.out)).trans R2.out
   have ne2 : b2 ≠ g13 := by have := R4.yad R2.out; omega
   have HB5 := zH (HB2.out.trans (hb.mono HB2.out.size)); have h13 := heap_setCell_same w5 g13 0 _ _ (.slice A5 n5 c5) hr13; have r6 := (Below.heap_setCell w5 ⟨g13, 0, none⟩ (.slice A5 n5 c5) b2 ne2).trans r5; have R6 := zH r6; have y13 := yan (i := 0) (v := .slice A5 n5 c5) h13 rfl; have y2 := yan (i := 0) (v := .slice none 0 0) r6 rfl; have y2f := frozen_of_row _ b2 0 _ _ r6
   have HB6 : Hid (Below w.heap.size w (w5.setCell ⟨g13, 0, none⟩ (.slice A5 n5 c5))) := HB5.out.setCell (by show _ <= g13; have := HB2.out.size; omega) _
   have HU6 : Hid (RefT (w5.setCell ⟨g13, 0, none⟩ (.slice A5 n5 c5)) (.slice A5 n5 c5) L) := hu5.off (R4.yae w5 ⟨g13, 0, none⟩ _) hr13 (by decide) (by decide) (by decide)
   simp only [frameV, zS, zA, zB, List.drop_succ_cons, List.drop_zero, List.take_succ_cons, List.take_zero, List.cons_append, List.nil_append, e13, e14, e15]; clear hb hd e13 e14 e15 hg13 hr13 r5 ne2 h13 r6 hu5 hn5
   go_wp2
   have h9 := heap_setCell_same (w5.setCell ⟨g13, 0, none⟩ (.slice A5 n5 c5)) b2 0 _ _ (.slice A5 n5 c5) R6.out; have x9 := yan (i := 0) (v := .slice A5 n5 c5) h9 rfl; refine bodyPost_ret (v := .tuple #[.agg #[.slice A5 n5 c5], .int .i64 0, .int .i64 0]) (by simp [results, Tryz.results30, go_sem, x9]) rfl ?_
   exact ⟨fun _ => ⟨_, rfl, HU6.out.off (R4.yae _ ⟨b2, 0, none⟩ _) R6.out (by decide) (by decide) (by decide)⟩, fun h => absurd rfl h, HB6.out.setCell (by show _ <= b2; exact HBL.out) _⟩
  ·intro vs w5 hb hd; obtain ⟨u5, e13, hu5⟩ : ∃ u, vs 5 = .agg #[u] /\ RefT w5 u L := hd 5 (by omega) (by omega)
   obtain ⟨A5, c5, f5⟩ := hu5.form; obtain ⟨n5, hn5⟩ : ∃ n5, L.length = n5 := ⟨_, rfl⟩; rw [hn5] at f5; subst f5; obtain ⟨u8, e14, -⟩ : ∃ u, vs 4 = .tuple #[.agg #[u], .int .i64 0] /\ RefT w5 u L := hd 4 (by omega) (by omega)
   obtain ⟨g13, e15, hg13, hr13⟩ : ∃ g, vs 7 = .pointer (some ⟨g, 0, none⟩) /\ wc.heap.size <= g /\ w5.heap[g]? = some (.cells #[.slice none 0 0] 40 (0, 0)) := hd 7 (by omega) (by omega)
   have x1 := yan (i := 0) (v := .slice none 0 0) hr13 rfl
   have x2 : w5.frozen? ⟨g13, 0, none⟩ = false := frozen_of_row _ _ 0 _ _ hr13
   have r5 := (hb.block b2 (R4.yad R2.out)).trans R2.out
   have ne2 : b2 ≠ g13 := by have := R4.yad R2.out; omega
   have HB5 := zH (HB2.out.trans (hb.mono HB2.out.size)); have h13 := heap_setCell_same w5 g13 0 _ _ (.slice A5 n5 c5) hr13; have r6 := (Below.heap_setCell w5 ⟨g13, 0, none⟩ (.slice A5 n5 c5) b2 ne2).trans r5; have R6 := zH r6; have y13 := yan (i := 0) (v := .slice A5 n5 c5) h13 rfl; have y2 := yan (i := 0) (v := .slice none 0 0) r6 rfl; have y2f := frozen_of_row _ b2 0 _ _ r6
   have HB6 : Hid (Below w.heap.size w (w5.setCell ⟨g13, 0, none⟩ (.slice A5 n5 c5))) := HB5.out.setCell (by show _ <= g13; have := HB2.out.size; omega) _
   have HU6 : Hid (RefT (w5.setCell ⟨g13, 0, none⟩ (.slice A5 n5 c5)) (.slice A5 n5 c5) L) := hu5.off (R4.yae w5 ⟨g13, 0, none⟩ _) hr13 (by decide) (by decide) (by decide)
   simp only [frameV, zS, zA, zB, List.drop_succ_cons, List.drop_zero, List.take_succ_cons, List.take_zero, List.cons_append, List.nil_append, e13, e14, e15]; clear hb hd e13 e14 e15 hg13 hr13 r5 ne2 h13 r6 hu5 hn5
   go_wp2
   have h9 := heap_setCell_same (w5.setCell ⟨g13, 0, none⟩ (.slice A5 n5 c5)) b2 0 _ _ (.slice A5 n5 c5) R6.out; have x9 := yan (i := 0) (v := .slice A5 n5 c5) h9 rfl; refine bodyPost_ret (v := .tuple #[.agg #[.slice A5 n5 c5], .int .i64 0, .int .i64 0]) (by simp [results, Tryz.results30, go_sem, x9]) rfl ?_
   exact ⟨fun _ => ⟨_, rfl, HU6.out.off (R4.yae _ ⟨b2, 0, none⟩ _) R6.out (by decide) (by decide) (by decide)⟩, fun h => absurd rfl h, HB6.out.setCell (by show _ <= b2; exact HBL.out) _⟩
 ·have HE0 := zH hE0
  have hen : (E != 0) = true := by simpa using hE0
  clear hE0; refine yhj (m := 8) 6 [19, 20, 21, 22, 18, 23, 24, 6] [SV.ref rootP, SV.eq (.pointer (some ⟨b5, 0, none⟩)), SV.eq (.slice A n c), SV.eq (.tuple #[.agg #[.slice none 0 0], .int .i64 E]), SV.eq (.tuple #[.agg #[.slice none 0 0], .int .i64 E]), SV.eq (.agg #[.slice none 0 0]), SV.eq (.int .i64 E), SV.newT wc.heap.size] (by kernel_rfl) (by kernel_rfl) ?_ ?_ ?_
  ·refine ⟨⟨⟨⟨⟨⟨⟨⟨trivial, ?_⟩, ?_⟩, ?_⟩, ?_⟩, ?_⟩, ?_⟩, ?_⟩, ?_⟩
   all_goals (refine OpIs.mk rfl ?_; intro vs w1 hb hd K hK; simp only [frameV, zS, zA, zB, zC, zD] at hK |-)
   ·have HK := zH hK; clear hK; go_simp
    go_at_call 26
    refine (yji w1).mono ?_; rintro r5 w5 ⟨⟨u5, rfl, hu5⟩, hb5⟩; exact HK.out _ _ ⟨u5, rfl, hu5⟩ hb5
   ·have HK := zH hK; clear hK; go_simp; exact HK.out _ _ rfl (zR _ _)
   ·have d1 : vs 1 = .pointer (some ⟨b5, 0, none⟩) := hd 1 (by kernel_rfl)
    have c0 := yac hb X0.out; simp only [d1] at hK |-; have HK := zH hK; clear hK; go_simp; exact HK.out _ _ rfl (zR _ _)
   ·have d0 : ∃ u, (vs 0) = .agg #[u] /\ RefT w1 u rootP := hd 0 (by kernel_rfl)
    have d2 : vs 2 = .slice A n c := hd 2 (by kernel_rfl)
    have h7 := Exists.choose_spec d0; generalize Exists.choose d0 = u7 at h7; have e7 := h7.1; have hu7 := zH h7.2; clear h7 d0; simp only [d2] at hK |-; simp only [e7] at hK |-; have HK := zH hK; clear hK; go_simp
    go_at_call 53
    refine (CA.out w1 _ _ hu7.out (HR.out.below hb (zN _))).mono ?_; rintro r5 w5 ⟨-, h1, hb5⟩; have h2 := h1 HE0.out; subst h2; exact HK.out _ _ rfl hb5
   ·have d3 : vs 3 = .tuple #[.agg #[.slice none 0 0], .int .i64 E] := hd 3 (by kernel_rfl)
    simp only [d3] at hK |-; have HK := zH hK; clear hK; go_simp; exact HK.out _ _ rfl (zR _ _)
   ·have d4 : vs 4 = .tuple #[.agg #[.slice none 0 0], .int .i64 E] := hd 4 (by kernel_rfl)
    simp only [d4] at hK |-; have HK := zH hK; clear hK; go_simp; exact HK.out _ _ rfl (zR _ _)
   ·have d4 : vs 4 = .tuple #[.agg #[.slice none 0 0], .int .i64 E] := hd 4 (by kernel_rfl)
    simp only [d4] at hK |-; have HK := zH hK; clear hK; go_simp; exact HK.out _ _ rfl (zR _ _)
   ·have HK := zH hK; clear hK; go_simp; exact HK.out _ _ ⟨_, rfl, hb.size, heap_alloc_new w1 _⟩ (yaa w1 _)
  ·intro vs w5 hb hd
   have e13 : vs 5 = .agg #[.slice none 0 0] := hd 5 (by omega)
   have e14 : vs 6 = .int .i64 E := hd 6 (by omega)
   obtain ⟨g13, e15, hg13, hr13⟩ : ∃ g, vs 7 = .pointer (some ⟨g, 0, none⟩) /\ wc.heap.size <= g /\ w5.heap[g]? = some (.cells #[.slice none 0 0] 40 (0, 0)) := hd 7 (by omega)
   have x1 := yan (i := 0) (v := .slice none 0 0) hr13 rfl
   have x2 : w5.frozen? ⟨g13, 0, none⟩ = false := frozen_of_row _ _ 0 _ _ hr13
   have r5 := (hb.block b2 (R4.yad R2.out)).trans R2.out
   have ne2 : b2 ≠ g13 := by have := R4.yad R2.out; omega
   have HB5 := zH (HB2.out.trans (hb.mono HB2.out.size)); have h13 := heap_setCell_same w5 g13 0 _ _ (.slice none 0 0) hr13; have r6 := (Below.heap_setCell w5 ⟨g13, 0, none⟩ (.slice none 0 0) b2 ne2).trans r5; have R6 := zH r6; have y13 := yan (i := 0) (v := .slice none 0 0) h13 rfl; have y2 := yan (i := 0) (v := .slice none 0 0) r6 rfl; have y2f := frozen_of_row _ b2 0 _ _ r6
   have HB6 : Hid (Below w.heap.size w (w5.setCell ⟨g13, 0, none⟩ (.slice none 0 0))) := HB5.out.setCell (by show _ <= g13; have := HB2.out.size; omega) _
   simp only [frameV, zS, zA, zB, List.drop_succ_cons, List.drop_zero, List.take_succ_cons, List.take_zero, List.cons_append, List.nil_append, e13, e14, e15]; clear hb hd e13 e14 e15 hg13 hr13 r5 ne2 h13 r6
   go_wp2
   have h9 := heap_setCell_same (w5.setCell ⟨g13, 0, none⟩ (.slice none 0 0)) b2 0 _ _ (.slice none 0 0) R6.out; have x9 := yan (i := 0) (v := .slice none 0 0) h9 rfl; refine bodyPost_ret (v := .tuple #[.agg #[.slice none 0 0], .int .i64 0, .int .i64 E]) (by simp [results, Tryz.results30, go_sem, x9]) rfl ?_
   exact ⟨fun h => absurd h HE0.out, fun _ => rfl, HB6.out.setCell (by show _ <= b2; exact HBL.out) _⟩
  ·intro vs w5 hb hd
   have e13 : vs 5 = .agg #[.slice none 0 0] := hd 5 (by omega) (by omega)
   have e14 : vs 4 = .tuple #[.agg #[.slice none 0 0], .int .i64 E] := hd 4 (by omega) (by omega)
   obtain ⟨g13, e15, hg13, hr13⟩ : ∃ g, vs 7 = .pointer (some ⟨g, 0, none⟩) /\ wc.heap.size <= g /\ w5.heap[g]? = some (.cells #[.slice none 0 0] 40 (0, 0)) := hd 7 (by omega) (by omega)
   have x1 := yan (i := 0) (v := .slice none 0 0) hr13 rfl
   have x2 : w5.frozen? ⟨g13, 0, none⟩ = false := frozen_of_row _ _ 0 _ _ hr13
   have r5 := (hb.block b2 (R4.yad R2.out)).trans R2.out
   have ne2 : b2 ≠ g13 := by have := R4.yad R2.out; omega
   have HB5 := zH (HB2.out.trans (hb.mono HB2.out.size)); have h13 := heap_setCell_same w5 g13 0 _ _ (.slice none 0 0) hr13; have r6 := (Below.heap_setCell w5 ⟨g13, 0, none⟩ (.slice none 0 0) b2 ne2).trans r5; have R6 := zH r6; have y13 := yan (i := 0) (v := .slice none 0 0) h13 rfl; have y2 := yan (i := 0) (v := .slice none 0 0) r6 rfl; have y2f := frozen_of_row _ b2 0 _ _ r6
   have HB6 : Hid (Below w.heap.size w (w5.setCell ⟨g13, 0, none⟩ (.slice none 0 0))) := HB5.out.setCell (by show _ <= g13; have := HB2.out.size; omega) _
   simp only [frameV, zS, zA, zB, List.drop_succ_cons, List.drop_zero, List.take_succ_cons, List.take_zero, List.cons_append, List.nil_append, e13, e14, e15]; clear hb hd e13 e14 e15 hg13 hr13 r5 ne2 h13 r6
   go_wp2
   have h9 := heap_setCell_same (w5.setCell ⟨g13, 0, none⟩ (.slice none 0 0)) b2 0 _ _ (.slice none 0 0) R6.out; have x9 := yan (i := 0) (v := .slice none 0 0) h9 rfl; refine bodyPost_ret (v := .tuple #[.agg #[.slice none 0 0], .int .i64 0, .int .i64 E]) (by simp [results, Tryz.results30, go_sem, x9]) rfl ?_
   exact ⟨fun h => absurd h HE0.out, fun _ => rfl, HB6.out.setCell (by show _ <= b2; exact HBL.out) _⟩
end Go.Proofs.YteibnfeokgibmaaGreat
namespace Go.Proofs.YteibnfeokgibmaaGreat
theorem ybr (e : PE) (t : List PE) (s : List Int) : look (e :: t) s = if e.1 = s then some e.2 else look t s := by
 unfold look; rw [List.find?_cons]
 by_cases h : e.1 = s
 ·rw [if_pos h, beq_iff_eq.2 h]; rfl
 ·rw [if_neg h, beq_eq_false_iff_ne.2 h]
theorem yro {L : List PE} {x : PE} {s : List Int} (h : x.1 ≠ s) : look (putR L x) s = look L s := by
 induction L with
 | nil =>
  show look [x] s = none
  rw [ybr, if_neg h]; rfl
 | cons e t ih =>
  by_cases hb : befB e.1 x.1 = true
  ·rw [ygi hb, ybr, ybr, ih]
  ·rw [ygj (by simpa using hb), ybr, if_neg h, yci]
   split
   ·rename_i h2
    rw [ybr, if_neg (by rw [h2]; exact h)]
   ·rfl
theorem yhn {L : List PE} {x : PE} : look (putR L x) x.1 = some x.2 := by
 induction L with
 | nil =>
  show look [x] x.1 = _
  rw [ybr, if_pos rfl]
 | cons e t ih =>
  by_cases hb : befB e.1 x.1 = true
  ·rw [ygi hb, ybr, ih]
   split
   ·rename_i h2
    have : ord e.1 x.1 < 0 := by unfold befB at hb; exact of_decide_eq_true hb
    exact absurd h2 (ord_ne this)
   ·rfl
  ·rw [ygj (by simpa using hb), ybr, if_pos rfl]
theorem yfp {L : List PE} (hs : Srt L) {x : PE} {s : List Int} (h : x.1 ≠ s) : look (putP L x) s = look L s := by
 rw [put_eq hs, yro h]
theorem yef {L : List PE} (hs : Srt L) (x : PE) : look (putP L x) x.1 = some x.2 := by
 rw [put_eq hs, yhn]
theorem ynm (L : List PE) (ss : List Int) (n : Nat) : atF L ss (n + 1) = match look L (ss.take (n + 1)) with | some l => (l, n + 1) | none => atF L ss n := rfl
def trP : Nat -> List Int
 | 0 => [109]
 | n + 1 => [((49 + n : Nat) : Int)]
def trD (i : Nat) : List Int := [((49 + i : Nat) : Int)]
theorem trP_ne {i n : Nat} (hi : i <= n) (hn : n < 8) : trP i ≠ trD n := by
 cases i with
 | zero =>
  intro h
  have h : ((109 : Int)) = ((49 + n : Nat) : Int) := by injection h
  omega
 | succ i =>
  intro h
  have h : ((49 + i : Nat) : Int) = ((49 + n : Nat) : Int) := by injection h
  omega
theorem trD_ne {i n : Nat} (hi : i < n) : trD i ≠ trD n := by
 intro h
 have h : ((49 + i : Nat) : Int) = ((49 + n : Nat) : Int) := by injection h
 omega
def TRel (L : List PE) (k : Nat) (p q : List Int) : Prop := ∃ a b, look L p = some [a] /\ look L q = some [b] /\ (∀ lv, Lv lv -> lv < k -> wgt lv a = wgt lv b) /\ (∀ lv, Lv lv -> lv = k -> wgt lv a < wgt lv b)
def Lo (n x : Nat) : Prop := wgt 1 x <= 1000 + n /\ wgt 2 x <= 150 + n /\ wgt 3 x <= 60 + n /\ E3.okE x = true
structure TR (K : Nat -> Nat) (n : Nat) (t : ST) (e : Nat) : Prop where
 good : GoodT t.L
 lim : ∀ f ∈ t.L, ∀ x ∈ f.2, Lo n x
 len : t.L.length <= 200 + n
 one : ∀ f ∈ t.L, f.1.length = 1
 anc : t.A = some [e]
 at' : look t.L (trP n) = some [e]
 nz : wgt 1 e ≠ 0 /\ wgt 2 e ≠ 0 /\ wgt 3 e ≠ 0
 rel : ∀ j, j < n -> TRel t.L (K j) (trP j) (trD j)
 nn : ∃ z, look t.L [110] = some [z] /\ wgt 1 e < wgt 1 z
 ll : TRel t.L 1 [108] [109]
theorem Lo.more {n m x : Nat} (h : Lo n x) (hm : n <= m) : Lo m x := ⟨by have := h.1; omega, by have := h.2.1; omega, by have := h.2.2.1; omega, h.2.2.2⟩
theorem yxu {x : Nat} : E3.okE x = true ↔ (wgt 1 x = 0 \/ wgt 2 x ≠ 0 /\ wgt 3 x ≠ 0) /\ (wgt 2 x = 0 \/ wgt 3 x ≠ 0) /\ (x % 2 = 0 \/ wgt 1 x ≠ 0) := by
 unfold E3.okE wgt
 simp
 exact and_assoc
theorem TRel.put {L : List PE} {k : Nat} {p q : List Int} (h : TRel L k p q) (hs : Srt L) {x : PE} (hp : x.1 ≠ p) (hq : x.1 ≠ q) : TRel (putP L x) k p q := by
 obtain ⟨a, b, ha, hb, h1, h2⟩ := h; exact ⟨a, b, by rw [yfp hs hp]; exact ha, by rw [yfp hs hq]; exact hb, h1, h2⟩
structure TM (K : Nat -> Nat) (n : Nat) (L : List PE) (e a : Nat) : Prop where
 good : GoodT L
 lim : ∀ f ∈ L, ∀ x ∈ f.2, Lo (n + 1) x
 len : L.length <= 200 + n
 one : ∀ f ∈ L, f.1.length = 1
 at' : look L (trP n) = some [e]
 new : Lo (n + 1) a /\ a < 4294967296
 nz : wgt 1 a ≠ 0 /\ wgt 2 a ≠ 0 /\ wgt 3 a ≠ 0
 rel : ∀ j, j < n -> TRel L (K j) (trP j) (trD j)
 here : (∀ lv, Lv lv -> lv < K n -> wgt lv e = wgt lv a) /\ (∀ lv, Lv lv -> lv = K n -> wgt lv e < wgt lv a)
 nn : ∃ z, look L [110] = some [z] /\ wgt 1 a < wgt 1 z
 ll : TRel L 1 [108] [109]
theorem TM.put {K : Nat -> Nat} {n : Nat} {L : List PE} {e a : Nat} (h : TM K n L e a) (hn : n < 8) : TR K (n + 1) ⟨putP L (trD n, [a]), some [a]⟩ a /\ withE L (trD n) [a] = 0 := by
 have hs := h.good.srt
 have hsg : (trD n).all T2.isSg = true := by
  unfold trD T2.isSg T2.isPt
  simp
  omega
 refine ⟨⟨?_, ?_, ?_, ?_, rfl, yef hs _, h.nz, ?_, ?_, ?_⟩, ?_⟩
 ·refine h.good.put (by simp [trD]) (by simp [trD]) hsg (by simp) (fun x hx => ?_) (.inr (by have := h.len; omega))
  simp only [List.mem_cons, List.not_mem_nil, or_false] at hx; subst hx; exact h.new.2
 ·intro f hf x hx
  have hf : f ∈ putP L (trD n, [a]) := hf
  rw [put_eq hs] at hf
  rcases ydk hf with rfl | hf
  ·simp only [List.mem_cons, List.not_mem_nil, or_false] at hx; subst hx; exact h.new.1
  ·exact h.lim f hf x hx
 ·show (putP L (trD n, [a])).length <= _
  rw [ymk]
  have := h.len
  split <;> omega
 ·intro f hf
  have hf : f ∈ putP L (trD n, [a]) := hf
  rw [put_eq hs] at hf
  rcases ydk hf with rfl | hf
  ·rfl
  ·exact h.one f hf
 ·intro j hj
  rcases Nat.lt_succ_iff_lt_or_eq.1 hj with hj | rfl
  ·exact (h.rel j hj).put hs (fun e => trP_ne (Nat.le_of_lt hj) hn e.symm) (fun e => trD_ne hj e.symm)
  ·exact ⟨e, a, by rw [yfp hs (fun e => trP_ne (zN _) hn e.symm)]; exact h.at', yef hs _, h.here.1, h.here.2⟩
 ·obtain ⟨z, hz, hw⟩ := h.nn; refine ⟨z, by rw [yfp hs]; exact hz; (intro e; have e : ((49 + n : Nat) : Int) = 110 := by injection e); omega, hw⟩
 ·refine h.ll.put hs ?_ ?_
  ·intro e; have e : ((49 + n : Nat) : Int) = 108 := by injection e
   omega
  ·intro e; have e : ((49 + n : Nat) : Int) = 109 := by injection e
   omega
 ·unfold withE
  have hb : badA (trD n) [a] = false := by
   unfold badA sgsB; rw [hsg]
   simp [trD]
  rw [if_neg (by rw [hb]; simp), if_neg (fun hh => by have := h.len; omega)]
theorem ykt : rootP.all (fun f => decide (f.1.length = 1)) = true := by decide +kernel
theorem lk_els {L : List PE} {c : Int} {a : Nat} (h : look L [c] = some [a]) : elsP L [c] = [a] := by
 have hp : 0 < [c].length := by simp
 have hat : atP L [c] = ([a], 1) := by
  unfold atP
  show atF L [c] 1 = _
  unfold atF
  show (match look L [c] with | some l => (l, 0 + 1) | none => atF L [c] 0) = _
  rw [h]
 rw [ydf L hp, hat]
 rfl
def oneT (L : List PE) : Prop := ∀ e ∈ L, e.1.length = 1
def at1 (L : List PE) (c : Int) : List Nat := match look L [c] with
 | some l => l
 | none => impl c
theorem yre {L : List PE} (h : oneT L) {s : List Int} (hs : 2 <= s.length) : look L s = none := by
 cases hl : look L s with
 | none => rfl
 | some l =>
  have := h _ (ymv hl)
  simp only at this
  omega
theorem yrb {L : List PE} (h : oneT L) (c : Int) (u : List Int) : ∀ n, n <= u.length -> atF L (c :: u) (n + 1) = (at1 L c, 1)
 | 0, hn => by
  rw [ynm]; unfold at1
  show (match look L [c] with | some l => (l, 0 + 1) | none => atF L (c :: u) 0) = _
  cases look L [c] <;> rfl
 | n + 1, hn => by
  rw [ynm, yre h (by rw [List.length_take, List.length_cons]; omega)]
  exact yrb h c u n (by omega)
theorem ygo {L : List PE} (h : oneT L) (c : Int) (u : List Int) : elsP L (c :: u) = at1 L c ++ elsP L u := by
 rw [ydf L (by simp)]
 have hat : atP L (c :: u) = (at1 L c, 1) := by
  unfold atP; obtain ⟨m, hm⟩ : ∃ m, min 3 (c :: u).length = m + 1 := ⟨min 3 (c :: u).length - 1, by simp only [List.length_cons]; omega⟩
  rw [hm]; exact yrb h c u m (by simp only [List.length_cons] at hm; omega)
 rw [hat]
 rfl
theorem yez {L : List PE} (h : oneT L) : ∀ a b : List Int, elsP L (a ++ b) = elsP L a ++ elsP L b
 | [], b => by rw [ycu]; rfl
 | c :: a, b => by rw [List.cons_append, ygo h, ygo h, yez h a b, List.append_assoc]
theorem ymq : oneT rootP := fun e he => of_decide_eq_true (List.all_eq_true.1 ykt e he)
theorem yrq : (List.range 26).all (fun k => decide (look rootP [((97 + k : Nat) : Int)] = some [E3.mk (256 + 8 * k) 32 2 0]) && decide (look rootP [((65 + k : Nat) : Int)] = some [E3.mk (256 + 8 * k) 32 8 0])) = true := by decide +kernel
theorem ymw {k : Nat} (h : k < 26) : look rootP [((97 + k : Nat) : Int)] = some [E3.mk (256 + 8 * k) 32 2 0] /\ look rootP [((65 + k : Nat) : Int)] = some [E3.mk (256 + 8 * k) 32 8 0] := by
 have := List.all_eq_true.1 yrq k (List.mem_range.2 h)
 simpa using this
theorem let_at {k : Nat} (h : k < 26) : at1 rootP ((97 + k : Nat) : Int) = [E3.mk (256 + 8 * k) 32 2 0] /\ at1 rootP ((65 + k : Nat) : Int) = [E3.mk (256 + 8 * k) 32 8 0] := by
 unfold at1; rw [(ymw h).1, (ymw h).2]; exact ⟨rfl, rfl⟩
theorem mk_wgt {p s t : Nat} (hp : p < 65536) (hs : s < 256) (ht : t < 128) : wgt 1 (E3.mk p s t 0) = p /\ wgt 2 (E3.mk p s t 0) = s /\ wgt 3 (E3.mk p s t 0) = t /\ E3.mk p s t 0 % 2 = 0 := by
 unfold wgt E3.mk
 simp
 omega
def lc (a : Nat) : Int := ((97 + a : Nat) : Int)
def le (a : Nat) : Nat := E3.mk (256 + 8 * a) 32 2 0
theorem le_w {a : Nat} (h : a < 26) : wgt 1 (le a) = 256 + 8 * a /\ wgt 2 (le a) = 32 /\ wgt 3 (le a) = 2 /\ le a % 2 = 0 /\ le a < 4294967296 /\ okW (le a) = true := by
 have h1 := mk_wgt (p := 256 + 8 * a) (s := 32) (t := 2) (by omega) (by omega) (by omega)
 refine ⟨h1.1, h1.2.1, h1.2.2.1, h1.2.2.2, by unfold le E3.mk; omega, ?_⟩
 unfold okW; rw [Bool.and_eq_true]; refine ⟨yxu.2 ?_, decide_eq_true ?_⟩
 ·unfold le; omega
 ·have : le a / 65536 = wgt 1 (le a) := by unfold wgt; rw [if_pos rfl]
  rw [this]; unfold le; omega
end Go.Proofs.YteibnfeokgibmaaGreat
namespace Go.Proofs.YteibnfeokgibmaaGreat
open S6 (parse parD relD seqD expD af blk endd wrd wr1 mk)
theorem ypf {a w : Nat} (h : wgt 1 a = w) (hw : w ≠ 0) (l : List Nat) : wsP 1 false false (a :: l) = ((w : Nat) : Int) :: wsP 1 false false l := by
 show wsF 1 false (a :: l) = _ :: wsF 1 false l
 rw [wsF, h, if_neg (by simp [hw])]
end Go.Proofs.YteibnfeokgibmaaGreat
namespace Go.Proofs.YteibnfeokgibmaaGreat
def vaS : List Int := [32, 95, 45, 44, 46, 39]
def vaE (i : Nat) : Nat := E3.mk (16 + 4 * i) 32 2 1
theorem yfy : ∀ i, i < 6 -> look rootP [vaS.getD i 0] = some [vaE i] /\ wgt 1 (vaE i) = 16 + 4 * i /\ vaE i % 2 = 1 := by decide +kernel
theorem va_at {i : Nat} (h : i < 6) : at1 rootP (vaS.getD i 0) = [vaE i] := by unfold at1; rw [(yfy i h).1]
theorem ytj {i : Nat} (h : i < 6) (p q : List Int) (lv : Nat) : wsP lv true false (elsP rootP (p ++ [vaS.getD i 0] ++ q)) = wsP lv true false (elsP rootP (p ++ q)) := by
 have h1 := ymq
 have e : wsF lv true [vaE i] = [] := by rw [wsF, if_pos (.inr ⟨rfl, (yfy i h).2.2⟩)]; rfl
 unfold wsP; rw [if_neg (by simp), if_neg (by simp), yez h1, yez h1, yez h1, ygo h1, ycu, va_at h, List.append_nil, ycw, ycw, e, List.append_nil, ycw]
theorem ywy {i : Nat} (h : i < 6) (p q : List Int) (n : Nat) : colC n true false (elsP rootP (p ++ q)) (elsP rootP (p ++ [vaS.getD i 0] ++ q)) = 0 := ykd fun j _ _ => (ytj h p q j).symm
theorem yyc {c : Int} (h : letS c = true) : ∃ k, k < 26 /\ c = lc k /\ at1 rootP c = [le k] := by
 obtain ⟨k, hk, rfl⟩ := yvi h; exact ⟨k, hk, rfl, (let_at hk).1⟩
theorem ytl {i : Nat} (h : i < 6) {n : Nat} (hn : 1 <= n) (p q : List Int) (hq : q.all letS = true) : colC n false false (elsP rootP (p ++ [vaS.getD i 0] ++ q)) (elsP rootP (p ++ q)) = if q = [] then 1 else -1 := by
 have h1 := ymq; have hv := yfy i h
 have key : cmpW (wsP 1 false false (elsP rootP (p ++ [vaS.getD i 0] ++ q))) (wsP 1 false false (elsP rootP (p ++ q))) = if q = [] then 1 else -1 := by
  show cmpW (wsF 1 false _) (wsF 1 false _) = _
  rw [List.append_assoc, yez h1, yez h1 p q, ycw, ycw, ynh, List.singleton_append, ygo h1, va_at h, ycw]; rw [show wsF 1 false [vaE i] = [((16 + 4 * i : Nat) : Int)] by rw [wsF, hv.2.1, if_neg (by simp)]; rfl]
  cases q with
  | nil => rw [if_pos rfl]; rfl
  | cons c q =>
   rw [if_neg (by simp)]
   simp only [List.all_cons, Bool.and_eq_true] at hq; obtain ⟨k, hk, -, ha⟩ := yyc hq.1; rw [ygo h1, ha, ycw]; rw [show wsF 1 false [le k] = [((256 + 8 * k : Nat) : Int)] by rw [wsF, (le_w hk).1, if_neg (by simp)]; rfl]
   show (if ((16 + 4 * i : Nat) : Int) = ((256 + 8 * k : Nat) : Int) then _ else if ((16 + 4 * i : Nat) : Int) < ((256 + 8 * k : Nat) : Int) then (-1 : Int) else 1) = -1
   rw [if_neg (by omega), if_pos (by omega)]
 exact yib hn key (by split <;> omega)
theorem ytk {i : Nat} (h : i < 6) {n : Nat} (hn : 1 <= n) : colC n false false (elsP rootP [vaS.getD i 0]) (elsP rootP [48]) = -1 := by
 have hd : look rootP [48] = some [8396804] := by decide +kernel
 refine yib hn ?_ (by omega)
 rw [lk_els (yfy i h).1, lk_els hd, ypf (a := vaE i) (yfy i h).2.1 (by omega), ypf (a := 8396804) (w := 128) rfl (by omega), cmpW, if_neg (by omega), if_pos (by omega)]
theorem yik : ∀ {l : List UInt8}, l.all (fun x => decide (x.toNat < 128)) = true -> T2.sgs l = l.map fun x => ((x.toNat : Nat) : Int)
 | [], h => rfl
 | x :: t, h => by
  simp only [List.all_cons, Bool.and_eq_true, decide_eq_true_eq] at h
  have hd : T2.dec (x :: t) = (x.toNat, 1) := by
   unfold T2.dec; rw [T2.yam, if_pos h.1]
  rw [T2.ybv (by simp), hd, List.drop_one, List.tail_cons, yik (by simpa using h.2)]
  rfl
theorem ypy {c : Nat} (hc : T2.isPt (c : Int) = true) (r : List UInt8) : T2.sgs (T2.one c ++ r) = (c : Int) :: T2.sgs r := by
 have hl := T2.yxq c; rw [T2.ybv (fun h => by have := congrArg List.length h; rw [List.length_append] at this; simp only [List.length_nil] at this; omega), T2.ylq hc r]
 show (c : Int) :: T2.sgs ((T2.one c ++ r).drop (T2.one c).length) = _
 rw [List.drop_left]
end Go.Proofs.YteibnfeokgibmaaGreat
