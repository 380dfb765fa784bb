/-
  PACKED for a claim.
-/
import Derived.Test.YteibnfeokgibmaaGreatP44
set_option linter.unusedVariables false
set_option linter.unusedSimpArgs false
set_option maxRecDepth 100000
namespace Go.Proofs.YteibnfeokgibmaaGreat.S6
open Go.RowKit
open T2 (gb dec one isSg isPt sgs)
theorem own_mv {w w' : World} {B g : Nat} {v : Value} {l : List Int} (h : T2.OwnI B w v l) (hm : Mv g w w') (hg : g < B) : T2.OwnI B w' v l := yce h hm hg
theorem col_any {w : World} {g : Nat} {s : ByteArray} {k : Nat} (h : RD TP w g s k) (hk : k <= s.size) (hs : s.size <= 1000000) {b : Bool} {l : List Int} {k' : Nat} (hR : colA s.data.toList 3 [] k = (b, l, k')) :
  Calls Tryz.prog 170 #[.func (.func 171) #[.pointer (some ⟨g, 0, none⟩)] #[], .func (.func 172) #[.pointer (some ⟨g, 0, none⟩)] #[]] w
   fun e w' => (∃ A n c, e = .returned (.tuple #[.slice A n c, .bool b]) /\ (b = true -> T2.OwnI w.heap.size w' (.slice A n c) l)) /\ RD TP w' g s k' /\ Mv g w w' := by
 have HR := zH h; have HF := zH hR; have HG := zH h.lt; have HZ := zH (Mv.refl g w); obtain ⟨B, hB⟩ : ∃ B, w.heap.size = B := ⟨_, rfl⟩; rw [hB] at HG |-; have HBE := zH hB
 have HBW : Hid (∀ wr, Mv g w wr -> B <= wr.heap.size) := fun wr hm => by have := hm.size; omega
 clear h hR hB
 go_enter Tryz.func170, Tryz.ntmps170
 go_wp2
 go_loopg [4] 3 (fun n v wr => ∃ (acc : List Int) (j : Nat), acc.length + n = 3 /\ j <= s.size /\ Hid (colA s.data.toList n acc j = (b, l, k')) /\ Hid (T2.OwnI B wr v acc) /\ Hid (RD TP wr g s j) /\ Hid (Mv g w wr))
 case atStart => exact ⟨[], k, rfl, hk, HF.out, T2.OwnI.nil _ _, HR.out, HZ.out⟩
 case round =>
  obtain ⟨acc, j, hn, hj, HJ, HO, HRJ, HM⟩ := hrel; clear HR HF HZ hk; obtain ⟨A, c, rfl, -⟩ := R4.yai HO.out; obtain ⟨na, hna⟩ : ∃ m, acc.length = m := ⟨_, rfl⟩; have HNA := zH hna; rw [hna] at hn HO |-
  cases gk with
  | zero =>
   have hn3 : ¬ (na : Int) < 3 := by omega
   have hn0 : (0 : Int) < (na : Int) := by omega
   have h9 := HJ.out; rw [colA, HNA.out] at h9; have HJ2 := zH h9; clear h9 HJ hna
   go_wp2
   go_ret2
   have h9 := HJ2.out
   injection h9 with h1 h2
   injection h2 with h2 h3
   subst h1 h2 h3; exact ⟨⟨_, _, _, rfl, fun _ => HO.out⟩, HRJ.out, HM.out⟩
  | succ n =>
   have hn3 : (na : Int) < 3 := by omega
   obtain ⟨be, hbe⟩ : ∃ b, endd (s.data.toList.drop j) = b := ⟨_, rfl⟩; have HE := zH (fun w' (hr : RD TP w' g s j) => ywd hr hbe hj)
   have h9 := HJ.out; rw [colA, hbe] at h9
   cases be with
   | true =>
    rw [if_pos rfl, HNA.out] at h9; have HJ2 := zH h9; clear h9 HJ hna hbe
    go_wp2_with (go_at_call 172; refine (HE.out _ HRJ.out).mono ?_; rintro e w1 ⟨rfl, m, rfl⟩)
    go_ret2
    have h9 := HJ2.out
    injection h9 with h1 h2
    injection h2 with h2 h3
    subst h1 h2 h3; exact ⟨⟨_, _, _, rfl, fun _ => HO.out.below (yac wr m) (zN _)⟩, HRJ.out.low (yac wr m) (HRJ.out.lt), HM.out.trans (Mv.of_below (yac wr m))⟩
   | false =>
    rw [if_neg (by simp)] at h9
    have hlt := (yik hbe).1; rw [T2.ba_len] at hlt; obtain ⟨⟨ok, x, q⟩, he⟩ : ∃ z, sg1 (s.data.toList.drop j) = z := ⟨_, rfl⟩; have hle := sg1_le (L := s.data.toList) hlt; rw [T2.ba_len, he] at hle; rw [he] at h9; have HS := zH (fun w' (hr : RD TP w' g s j) => yfa hr hlt hs he)
    cases ok with
    | false =>
     rw [if_neg (by simp)] at h9
     have HJ2 := zH h9; clear h9 HJ hna hbe he hle
     go_wp2_with (first
      | (go_at_call 172; refine (HE.out _ HRJ.out).mono ?_; rintro e w1 ⟨rfl, m, rfl⟩)
      | (go_at_call 171; refine (HS.out _ (HRJ.out.low (yac wr m) (HRJ.out.lt))).mono ?_; rintro e w2 ⟨rfl, hr, hm⟩; have HR2 := zH hr; have HM2 := zH hm; clear hr hm))
     go_ret2
     have h9 := HJ2.out
     injection h9 with h1 h2
     injection h2 with h2 h3
     subst h1 h2 h3; exact ⟨⟨_, _, _, rfl, fun h => by cases h⟩, HR2.out, (HM.out.trans (Mv.of_below (yac wr m))).trans HM2.out⟩
    | true =>
     rw [if_pos rfl] at h9; have HJ2 := zH h9
     have HL : Hid (acc.length + [x].length <= 10000000) := by show _ <= _; simp; omega
     clear h9 HJ hna hbe he
     go_wp2_with (first
      | (go_at_call 172; refine (HE.out _ HRJ.out).mono ?_; rintro e w1 ⟨rfl, m, rfl⟩)
      | (go_at_call 171; refine (HS.out _ (HRJ.out.low (yac wr m) (HRJ.out.lt))).mono ?_; rintro e w2 ⟨rfl, hr, hm⟩; have HR2 := zH hr; have HM2 := zH ((HM.out.trans (Mv.of_below (yac wr m))).trans hm); have HO2 := zH (own_mv (HO.out.below (yac wr m) (zN _)) hm HG.out); clear hr hm)
      | (at_builtin; refine T2.pushI rfl (.tmp 23) (.tmp 25) rfl _ B _ _ [x] 1 rfl HO2.out rfl (HBW.out _ HM2.out) HL.out ?_; intro v3 w3 ho3 hb3; have HO3 := zH ho3; have HB3 := zH hb3; clear ho3 hb3))
     go_roundg n
     case measure => omega
     case rel => exact ⟨acc ++ [x], j + q, by rw [List.length_append, HNA.out]; simp; omega, by simpa using hle, HJ2.out, HO3.out, HR2.out.low HB3.out HG.out, HM2.out.low HB3.out (Nat.le_of_eq HBE.out)⟩
theorem yep {w : World} {g : Nat} {s : ByteArray} {k : Nat} (h : RD TP w g s k) (hk : k <= s.size) (hs : s.size <= 1000000) {b : Bool} {l : List Int} {k' : Nat} (hR : seqP s.data.toList k = (b, l, k')) :
  Calls Tryz.prog 125 #[.pointer (some ⟨g, 0, none⟩)] w
   fun e w' => (∃ A n c, e = .returned (.tuple #[.slice A n c, .bool b]) /\ (b = true -> T2.OwnI w.heap.size w' (.slice A n c) l)) /\ RD TP w' g s k' /\ Mv g w w' := by
 have HT := zH (ycq h hk hs); have hle := (af_le (L := s.data.toList) hk).2; rw [T2.ba_len] at hle; have HC := zH (fun w' (hr : RD TP w' g s (af s.data.toList k)) => col_any hr hle hs hR)
 clear h hR
 go_enter Tryz.func125, Tryz.ntmps125
 go_wp2_with (first
  | (go_at_call 80; refine HT.out.mono ?_; rintro e w1 ⟨rfl, hr, hm⟩; have HR := zH hr; have HM := zH hm; clear hr hm)
  | (go_at_call 170; refine (HC.out _ HR.out).mono ?_; rintro e w2 ⟨⟨A9, n9, c9, rfl, ho⟩, hr, hm⟩; have HO := zH ho; have HR2 := zH hr; have HM2 := zH hm; clear ho hr hm))
 go_ret2
 exact ⟨⟨_, _, _, rfl, fun h => R4.yau (HO.out h) HM.out.size⟩, HR2.out, HM.out.trans HM2.out⟩
end Go.Proofs.YteibnfeokgibmaaGreat.S6
namespace Go.Proofs.YteibnfeokgibmaaGreat.S6
open Go.RowKit
open T2 (gb dec one isSg isPt sgs)
def mkS (r : Int) : ByteArray := if r = 1 then ⟨#[38]⟩ else if r = 2 then ⟨#[60]⟩ else if r = 3 then ⟨#[60, 60]⟩ else if r = 4 then ⟨#[60, 60, 60]⟩ else if r = 5 then ⟨#[61]⟩ else ⟨#[]⟩
theorem yoz (r : Int) : (mkS r).data.toList = mk r.toNat := by
 unfold mkS
 by_cases h1 : r = 1
 ·subst h1; rfl
 by_cases h2 : r = 2
 ·subst h2; rfl
 by_cases h3 : r = 3
 ·subst h3; rfl
 by_cases h4 : r = 4
 ·subst h4; rfl
 by_cases h5 : r = 5
 ·subst h5; rfl
 rw [if_neg h1, if_neg h2, if_neg h3, if_neg h4, if_neg h5]
 match hr : r.toNat with
 | 0 => rfl
 | 1 => omega
 | 2 => omega
 | 3 => omega
 | 4 => omega
 | 5 => omega
 | n + 6 => rfl
theorem ygw {r : Int} {t : ByteArray} (ht : mkS r = t) (w : World) : Calls Tryz.prog 169 #[.int .i64 r] w fun e w' => e = .returned (.string t) /\ w = w' := by
 subst ht; unfold mkS
 by_cases h1 : r = 1
 ·subst h1
  go_enter Tryz.func169, Tryz.ntmps169
  go_wp2
  go_ret
  exact ⟨rfl, rfl⟩
 by_cases h2 : r = 2
 ·subst h2
  go_enter Tryz.func169, Tryz.ntmps169
  go_wp2
  go_ret
  exact ⟨rfl, rfl⟩
 by_cases h3 : r = 3
 ·subst h3
  go_enter Tryz.func169, Tryz.ntmps169
  go_wp2
  go_ret
  exact ⟨rfl, rfl⟩
 by_cases h4 : r = 4
 ·subst h4
  go_enter Tryz.func169, Tryz.ntmps169
  go_wp2
  go_ret
  exact ⟨rfl, rfl⟩
 by_cases h5 : r = 5
 ·subst h5
  go_enter Tryz.func169, Tryz.ntmps169
  go_wp2
  go_ret
  exact ⟨rfl, rfl⟩
 rw [if_neg h1, if_neg h2, if_neg h3, if_neg h4, if_neg h5]
 go_enter Tryz.func169, Tryz.ntmps169
 go_wp2
 go_ret
 exact ⟨rfl, rfl⟩
theorem mkS_len {n : Nat} : (mkS (n : Int)).size = (mk n).length := by
 have := yoz (n : Int)
 rw [Int.toNat_natCast] at this; rw [<- this, T2.ba_len]
theorem yfy {w : World} {g : Nat} {s : ByteArray} {k : Nat} (h : RD TP w g s k) (hk : k <= s.size) (hs : s.size <= 1000000) {last r c : Nat} (hl : last <= 5) (hR : relL (s.data.toList.drop k) last = (r, c)) :
  Calls Tryz.prog 124 #[.pointer (some ⟨g, 0, none⟩), .int .i64 (last : Nat)] w
   fun e w' => e = .returned (.tuple #[.int .i64 (r : Nat), .bool (decide (r ≠ 0))]) /\ RD TP w' g s (k + c) /\ Mv g w w' := by
 have HR := zH h; have HF := zH hR; have HZ := zH (Mv.refl g w); clear h hR
 go_enter Tryz.func124, Tryz.ntmps124
 go_wp2
 go_loopg [4] last (fun n v wr => v = .int .i64 (n : Nat) /\ n <= 5 /\ Hid (relL (s.data.toList.drop k) n = (r, c)) /\ Hid (RD TP wr g s k) /\ Hid (Mv g w wr))
 case atStart => exact ⟨rfl, hl, HF.out, HR.out, HZ.out⟩
 case round =>
  obtain ⟨rfl, hn, HJ, HRJ, HM⟩ := hrel; clear HR HF HZ
  cases gk with
  | zero =>
   have h9 := HJ.out; rw [relL] at h9
   injection h9 with h1 h2
   subst h1 h2; clear HJ
   go_wp2
   go_ret2
   exact ⟨rfl, HRJ.out, HM.out⟩
  | succ n =>
   have hge : (1 : Int) <= ((n + 1 : Nat) : Int) := by omega
   obtain ⟨t, ht⟩ : ∃ t, mkS ((n + 1 : Nat) : Int) = t := ⟨_, rfl⟩; have htl := yoz ((n + 1 : Nat) : Int); have hts := mkS_len (n := n + 1); rw [ht, Int.toNat_natCast] at htl; rw [ht] at hts; have HT := zH (ygw ht); obtain ⟨b, hb⟩ : ∃ b, (mk (n + 1)).isPrefixOf (s.data.toList.drop k) = b := ⟨_, rfl⟩; have HK := zH (yeg HRJ.out (p := t) (b := b) (by rw [htl]; exact hb) hk hs)
   have h9 := HJ.out; rw [relL, hb] at h9; have HTS := zH hts; clear HJ ht htl hb hts; obtain ⟨i, hi⟩ : ∃ i : Int, ((n + 1 : Nat) : Int) = i := ⟨_, rfl⟩; rw [hi] at HT hge |-; have HI := zH hi
   have hi5 : i <= 5 := by omega
   clear hi
   cases b with
   | true =>
    rw [if_pos rfl] at h9
    injection h9 with h1 h2
    subst h1; have H2 := zH h2; clear h2
    go_wp2_with (first
     | (go_at_call 169; refine (HT.out _).mono ?_; rintro e w1 ⟨rfl, rfl⟩)
     | (go_at_call 126; refine HK.out.mono ?_; rintro e w2 ⟨rfl, hr, hm⟩; have HR2 := zH hr; have HM2 := zH hm; clear hr hm))
    go_ret2
    have hr : RD TP w2 g s (k + t.size) := by simpa using HR2.out
    rw [HTS.out, H2.out] at hr; exact ⟨by rw [<- HI.out]; rfl, hr, HM.out.trans HM2.out⟩
   | false =>
    rw [if_neg (by simp)] at h9
    have HJ2 := zH h9; clear h9
    go_wp2_with (first
     | (go_at_call 169; refine (HT.out _).mono ?_; rintro e w1 ⟨rfl, rfl⟩)
     | (go_at_call 126; refine HK.out.mono ?_; rintro e w2 ⟨rfl, hr, hm⟩; have HR2 := zH hr; have HM2 := zH hm; clear hr hm))
    go_roundg n
    case measure => omega
    case rel => exact ⟨by have := HI.out; congr 1; omega, by omega, HJ2.out, HR2.out, HM.out.trans HM2.out⟩
end Go.Proofs.YteibnfeokgibmaaGreat.S6
namespace Go.Proofs.YteibnfeokgibmaaGreat.S6
open Go.RowKit
open T2 (gb dec one isSg isPt sgs)
theorem ybp {w : World} {h o g : Nat} {u : Value} (hne : g ≠ h) : (w.setCell ⟨h, o, none⟩ u).heap[g]? = w.heap[g]? := Below.heap_setCell _ _ _ _ (by simpa using hne)
theorem RD.other {T : TypeId} {w : World} {g h o : Nat} {s : ByteArray} {k : Nat} {u : Value} (hr : RD T w g s k) (hne : g ≠ h) : RD T (w.setCell ⟨h, o, none⟩ u) g s k := (ybp hne).trans hr
def R3 (T : TypeId) (w : World) (h : Nat) (a b c : Value) : Prop := w.heap[h]? = some (.cells #[a, b, c] T (0, 0))
theorem R3.c0 {T : TypeId} {w : World} {h : Nat} {a b c : Value} (x : R3 T w h a b c) : w.cell? ⟨h, 0, none⟩ = some a := cell_of_row w h 0 _ _ _ x
theorem R3.c1 {T : TypeId} {w : World} {h : Nat} {a b c : Value} (x : R3 T w h a b c) : w.cell? ⟨h, 1, none⟩ = some b := cell_of_row w h 1 _ _ _ x
theorem R3.c2 {T : TypeId} {w : World} {h : Nat} {a b c : Value} (x : R3 T w h a b c) : w.cell? ⟨h, 2, none⟩ = some c := cell_of_row w h 2 _ _ _ x
theorem R3.f0 {T : TypeId} {w : World} {h : Nat} {a b c : Value} (x : R3 T w h a b c) : w.frozen? ⟨h, 0, none⟩ = false := frozen_of_row w h 0 _ _ x
theorem R3.f1 {T : TypeId} {w : World} {h : Nat} {a b c : Value} (x : R3 T w h a b c) : w.frozen? ⟨h, 1, none⟩ = false := frozen_of_row w h 1 _ _ x
theorem R3.f2 {T : TypeId} {w : World} {h : Nat} {a b c : Value} (x : R3 T w h a b c) : w.frozen? ⟨h, 2, none⟩ = false := frozen_of_row w h 2 _ _ x
theorem R3.lt {T : TypeId} {w : World} {h : Nat} {a b c : Value} (x : R3 T w h a b c) : h < w.heap.size := (Array.getElem?_eq_some_iff.1 x).1
theorem R3.set0 {T : TypeId} {w : World} {h : Nat} {a b c : Value} (x : R3 T w h a b c) (u : Value) : R3 T (w.setCell ⟨h, 0, none⟩ u) h u b c := heap_setCell_same w h 0 _ _ _ x
theorem R3.set1 {T : TypeId} {w : World} {h : Nat} {a b c : Value} (x : R3 T w h a b c) (u : Value) : R3 T (w.setCell ⟨h, 1, none⟩ u) h a u c := heap_setCell_same w h 1 _ _ _ x
theorem R3.set2 {T : TypeId} {w : World} {h : Nat} {a b c : Value} (x : R3 T w h a b c) (u : Value) : R3 T (w.setCell ⟨h, 2, none⟩ u) h a b u := heap_setCell_same w h 2 _ _ _ x
theorem R3.mv {T : TypeId} {w w' : World} {g h : Nat} {a b c : Value} (x : R3 T w h a b c) (hm : Mv g w w') (hne : h ≠ g) : R3 T w' h a b c := (hm.block h x.lt (by simpa using hne)).trans x
theorem R3.low {T : TypeId} {w w' : World} {B h : Nat} {a b c : Value} (x : R3 T w h a b c) (hb : Below B w w') (hh : h < B) : R3 T w' h a b c := (hb.block h hh).trans x
theorem R3.new (T : TypeId) (w : World) (a b c : Value) : R3 T (w.alloc (.cells #[a, b, c] T)) w.heap.size a b c := heap_alloc_new w _
theorem R3.other {T : TypeId} {w : World} {g h o : Nat} {a b c u : Value} (x : R3 T w g a b c) (hne : g ≠ h) : R3 T (w.setCell ⟨h, o, none⟩ u) g a b c := (ybp hne).trans x
theorem Mv.beyond {g : Nat} {a w : World} (hm : Mv g a w) {h o : Nat} (hB : a.heap.size <= h) (u : Value) : Mv g a (w.setCell ⟨h, o, none⟩ u) :=
 ⟨hm.os, hm.tape, hm.output, by simpa [World.setCell] using hm.size, fun i hi hn => (ybp (by omega)).trans (hm.block i hi hn)⟩
abbrev SLH : ByteArray := ⟨#[47]⟩
theorem slash_pre {s : ByteArray} {k : Nat} : SLH.data.toList.isPrefixOf (s.data.toList.drop k) = decide (gb s.data.toList k = 47) := by
 rcases Nat.lt_or_ge k s.data.toList.length with hk' | hk'
 ·rw [List.drop_eq_getElem_cons hk']
  show ([47] : List UInt8).isPrefixOf _ = _
  rw [yfd, T2.gb_at hk']
  simp [List.isPrefixOf]
 ·rw [List.drop_of_length_le hk', gb_out hk']; rfl
def RuleA (w : World) (g : Nat) (s : ByteArray) (b : Bool) (x : RV) (k' : Nat) (e : Ending) (w' : World) : Prop :=
 (∃ (r : Int) (A : Option Addr) (n c : Nat) (A' : Option Addr) (n' c' : Nat), e = .returned (.tuple #[.agg #[.int .i64 r, .slice A n c, .slice A' n' c'], .bool b]) /\ (b = true -> r = x.rel /\ T2.OwnI w.heap.size w' (.slice A n c) x.seq /\ T2.OwnI w.heap.size w' (.slice A' n' c') x.exp)) /\ RD TP w' g s k' /\ Mv g w w'
structure RS (w : World) (g : Nat) (s : ByteArray) (w1 : World) (k : Nat) (a b c : Value) (os : List (Value × List Int)) : Prop where
 lt : g < w.heap.size
 rd : RD TP w1 g s k
 x : R3 136 w1 w.heap.size a b c
 mv : Mv g w w1
 sz : w.heap.size + 1 <= w1.heap.size
 own : ∀ p ∈ os, T2.OwnI (w.heap.size + 1) w1 p.1 p.2
theorem RS.start {w : World} {g : Nat} {s : ByteArray} {k : Nat} (h : RD TP w g s k) : RS w g s (w.alloc (.cells #[.int .i64 0, .slice none 0 0, .slice none 0 0] 136)) k (.int .i64 0) (.slice none 0 0) (.slice none 0 0) [] :=
 ⟨h.lt, h.low (yaa w _) h.lt, R3.new _ _ _ _ _, Mv.of_below (yaa w _), by simp, fun p hp => by cases hp⟩
theorem RS.call {w : World} {g : Nat} {s : ByteArray} {w1 w2 : World} {k k' : Nat} {a b c : Value} {os : List (Value × List Int)} (h : RS w g s w1 k a b c os) (hr : RD TP w2 g s k') (hm : Mv g w1 w2) : RS w g s w2 k' a b c os :=
 ⟨h.lt, hr, h.x.mv hm (Nat.ne_of_gt h.lt), h.mv.trans hm, Nat.le_trans h.sz hm.size, fun p hp => yce (h.own p hp) hm (by have := h.lt; omega)⟩
theorem RS.add {w : World} {g : Nat} {s : ByteArray} {w1 : World} {k : Nat} {a b c : Value} {os : List (Value × List Int)} {B : Nat} {v : Value} {l : List Int} (h : RS w g s w1 k a b c os) (ho : T2.OwnI B w1 v l) (hB : w.heap.size + 1 <= B) : RS w g s w1 k a b c ((v, l) :: os) :=
 ⟨h.lt, h.rd, h.x, h.mv, h.sz, fun p hp => by
  rcases List.mem_cons.1 hp with rfl | hp
  ·exact R4.yau ho hB
  ·exact h.own p hp⟩
theorem RS.own_set {w : World} {g : Nat} {s : ByteArray} {w1 : World} {k : Nat} {a b c : Value} {os : List (Value × List Int)} (h : RS w g s w1 k a b c os) (o : Nat) (u : Value) : ∀ p ∈ os, T2.OwnI (w.heap.size + 1) (w1.setCell ⟨w.heap.size, o, none⟩ u) p.1 p.2 := fun p hp =>
 yce (h.own p hp) (R4.yae w1 ⟨w.heap.size, o, none⟩ u) (Nat.lt_succ_self _)
theorem RS.set0 {w : World} {g : Nat} {s : ByteArray} {w1 : World} {k : Nat} {a b c : Value} {os : List (Value × List Int)} (h : RS w g s w1 k a b c os) (u : Value) : RS w g s (w1.setCell ⟨w.heap.size, 0, none⟩ u) k u b c os :=
 ⟨h.lt, h.rd.other (Nat.ne_of_lt h.lt), h.x.set0 u, h.mv.beyond (zN _) u, by simpa [World.setCell] using h.sz, h.own_set 0 u⟩
theorem RS.set1 {w : World} {g : Nat} {s : ByteArray} {w1 : World} {k : Nat} {a b c : Value} {os : List (Value × List Int)} (h : RS w g s w1 k a b c os) (u : Value) : RS w g s (w1.setCell ⟨w.heap.size, 1, none⟩ u) k a u c os :=
 ⟨h.lt, h.rd.other (Nat.ne_of_lt h.lt), h.x.set1 u, h.mv.beyond (zN _) u, by simpa [World.setCell] using h.sz, h.own_set 1 u⟩
theorem RS.set2 {w : World} {g : Nat} {s : ByteArray} {w1 : World} {k : Nat} {a b c : Value} {os : List (Value × List Int)} (h : RS w g s w1 k a b c os) (u : Value) : RS w g s (w1.setCell ⟨w.heap.size, 2, none⟩ u) k a b u os :=
 ⟨h.lt, h.rd.other (Nat.ne_of_lt h.lt), h.x.set2 u, h.mv.beyond (zN _) u, by simpa [World.setCell] using h.sz, h.own_set 2 u⟩
theorem RS.full {w : World} {g : Nat} {s : ByteArray} {w1 : World} {k : Nat} {a b c : Value} {os : List (Value × List Int)} (h : RS w g s w1 k a b c os) : RS w g s (((w1.setCell ⟨w.heap.size, 0, none⟩ a).setCell ⟨w.heap.size, 1, none⟩ b).setCell ⟨w.heap.size, 2, none⟩ c) k a b c os :=
 ((h.set0 a).set1 b).set2 c
set_option maxHeartbeats 1000000 in
theorem rule_0 {w : World} {g : Nat} {s : ByteArray} {k : Nat} (h : RD TP w g s k) (hk : k <= s.size) (hs : s.size <= 1000000) {last : Nat} (hl : last <= 5) {c : Nat} (hR : relL (s.data.toList.drop k) last = (0, c)) (x : RV) :
  Calls Tryz.prog 82 #[.pointer (some ⟨g, 0, none⟩), .int .i64 (last : Nat)] w (RuleA w g s false x (k + c)) := by
 have HS := zH (RS.start h); have HL := zH (fun w' (hr : RD TP w' g s k) => yfy hr hk hs hl hR)
 clear h hR
 go_enter Tryz.func82, Tryz.ntmps82
 go_wp2_with (first
  | (go_at_call 124; refine (HL.out _ HS.out.rd).mono ?_; rintro e w1 ⟨rfl, hr, hm⟩; have HS1 := zH (HS.out.call hr hm); clear hr hm; have c0 := HS1.out.x.c0; have c1 := HS1.out.x.c1; have c2 := HS1.out.x.c2; have f0 := HS1.out.x.f0; have f1 := HS1.out.x.f1; have f2 := HS1.out.x.f2))
 have HF := zH ((HS1.out.set0 (.int .i64 ((0 : Nat) : Int))).full); generalize (((w1.setCell ⟨w.heap.size, 0, none⟩ (.int .i64 0)).setCell ⟨w.heap.size, 0, none⟩ (.int .i64 0)).setCell ⟨w.heap.size, 1, none⟩ (.slice none 0 0)).setCell ⟨w.heap.size, 2, none⟩ (.slice none 0 0) = wf at HF |-; have d0 := HF.out.x.c0; have d1 := HF.out.x.c1; have d2 := HF.out.x.c2; exact bodyPost_ret (v := .tuple #[.agg #[.int .i64 0, .slice none 0 0, .slice none 0 0], .bool false]) (by simp [results, Tryz.results82, go_sem, d0, d1, d2]) rfl ⟨⟨_, _, _, _, _, _, _, rfl, fun h => by cases h⟩, HF.out.rd, HF.out.mv⟩
set_option maxHeartbeats 1000000 in
theorem rule_1 {w : World} {g : Nat} {s : ByteArray} {k : Nat} (h : RD TP w g s k) (hk : k <= s.size) (hs : s.size <= 1000000) {last : Nat} (hl : last <= 5) {r c : Nat} (hR : relL (s.data.toList.drop k) last = (r, c)) (hr0 : r ≠ 0) (hkc : k + c <= s.size) {l : List Int} {k2 : Nat} (hQ : seqP s.data.toList (k + c) = (false, l, k2)) (x : RV) :
  Calls Tryz.prog 82 #[.pointer (some ⟨g, 0, none⟩), .int .i64 (last : Nat)] w (RuleA w g s false x k2) := by
 have HS := zH (RS.start h); have HL := zH (fun w' (hr : RD TP w' g s k) => yfy hr hk hs hl hR)
 have HQ := zH (fun w' (hr : RD TP w' g s (k + c)) => yep hr hkc hs hQ)
 have hr1 : decide (r ≠ 0) = true := decide_eq_true hr0
 have hr2 : ¬ r = 0 := hr0
 clear h hR hQ
 go_enter Tryz.func82, Tryz.ntmps82
 go_wp2_with (first
  | (go_at_call 124; refine (HL.out _ HS.out.rd).mono ?_; rintro e w1 ⟨rfl, hr, hm⟩; have HS1 := zH (HS.out.call hr hm); clear hr hm; have c0 := HS1.out.x.c0; have c1 := HS1.out.x.c1; have c2 := HS1.out.x.c2; have f0 := HS1.out.x.f0; have f1 := HS1.out.x.f1; have f2 := HS1.out.x.f2)
  | (go_at_call 125; refine (HQ.out _ (HS1.out.set0 _).rd).mono ?_; rintro e w2 ⟨⟨A1, n1, q1, rfl, ho⟩, hr, hm⟩; have HS2 := zH (((HS1.out.set0 _).call hr hm)); clear hr hm; have c0 := HS2.out.x.c0; have c1 := HS2.out.x.c1; have c2 := HS2.out.x.c2; have f0 := HS2.out.x.f0; have f1 := HS2.out.x.f1; have f2 := HS2.out.x.f2))
 have HF := zH ((HS2.out.set1 (.slice A1 n1 q1)).full); generalize (((w2.setCell ⟨w.heap.size, 1, none⟩ (.slice A1 n1 q1)).setCell ⟨w.heap.size, 0, none⟩ (.int .i64 (r : Nat))).setCell ⟨w.heap.size, 1, none⟩ (.slice A1 n1 q1)).setCell ⟨w.heap.size, 2, none⟩ (.slice none 0 0) = wf at HF |-; have d0 := HF.out.x.c0; have d1 := HF.out.x.c1; have d2 := HF.out.x.c2; exact bodyPost_ret (v := .tuple #[.agg #[.int .i64 (r : Nat), .slice A1 n1 q1, .slice none 0 0], .bool false]) (by simp [results, Tryz.results82, go_sem, d0, d1, d2]) rfl ⟨⟨_, _, _, _, _, _, _, rfl, fun h => by cases h⟩, HF.out.rd, HF.out.mv⟩
set_option maxHeartbeats 1000000 in
theorem rule_2 {w : World} {g : Nat} {s : ByteArray} {k : Nat} (h : RD TP w g s k) (hk : k <= s.size) (hs : s.size <= 1000000) {last : Nat} (hl : last <= 5) {r c : Nat} (hR : relL (s.data.toList.drop k) last = (r, c)) (hr0 : r ≠ 0) (hkc : k + c <= s.size) {l : List Int} {k2 : Nat} (hQ : seqP s.data.toList (k + c) = (true, l, k2)) (h1 : r = 1) :
  Calls Tryz.prog 82 #[.pointer (some ⟨g, 0, none⟩), .int .i64 (last : Nat)] w (RuleA w g s true ⟨(r : Int), l, []⟩ (af s.data.toList k2)) := by
 have HS := zH (RS.start h); subst h1; have HL := zH (fun w' (hr : RD TP w' g s k) => yfy hr hk hs hl hR)
 have HQ := zH (fun w' (hr : RD TP w' g s (k + c)) => yep hr hkc hs hQ)
 have hk2 : k2 <= s.size := by have := (yfu (L := s.data.toList) hkc).2; rw [hQ, T2.ba_len] at this; exact this
 have hk3 : af s.data.toList k2 <= s.size := (af_le (L := s.data.toList) hk2).2
 have HB := zH (fun w' (hr : RD TP w' g s k2) => ycq hr hk2 hs)
 clear h hR hQ hr0
 go_enter Tryz.func82, Tryz.ntmps82
 go_wp2_with (first
  | (go_at_call 124; refine (HL.out _ HS.out.rd).mono ?_; rintro e w1 ⟨rfl, hr, hm⟩; have HS1 := zH (HS.out.call hr hm); clear hr hm; have c0 := HS1.out.x.c0; have c1 := HS1.out.x.c1; have c2 := HS1.out.x.c2; have f0 := HS1.out.x.f0; have f1 := HS1.out.x.f1; have f2 := HS1.out.x.f2)
  | (go_at_call 125; refine (HQ.out _ (HS1.out.set0 _).rd).mono ?_; rintro e w2 ⟨⟨A1, n1, q1, rfl, ho⟩, hr, hm⟩; have HS2 := zH (((HS1.out.set0 _).call hr hm).add (ho (by trivial)) (HS1.out.set0 (.int .i64 ((1 : Nat) : Int))).sz); clear hr hm; have c0 := HS2.out.x.c0; have c1 := HS2.out.x.c1; have c2 := HS2.out.x.c2; have f0 := HS2.out.x.f0; have f1 := HS2.out.x.f1; have f2 := HS2.out.x.f2)
  | (go_at_call 80; refine (HB.out _ (HS2.out.set1 (.slice A1 n1 q1)).rd).mono ?_; rintro e w3 ⟨rfl, hr, hm⟩; have HS3 := zH ((HS2.out.set1 (.slice A1 n1 q1)).call hr hm); clear hr hm; have c0 := HS3.out.x.c0; have c1 := HS3.out.x.c1; have c2 := HS3.out.x.c2; have f0 := HS3.out.x.f0; have f1 := HS3.out.x.f1; have f2 := HS3.out.x.f2))
 have HF := zH (HS3.out.full); generalize (((w3).setCell ⟨w.heap.size, 0, none⟩ (.int .i64 1)).setCell ⟨w.heap.size, 1, none⟩ (.slice A1 n1 q1)).setCell ⟨w.heap.size, 2, none⟩ (.slice none 0 0) = wf at HF |-; have d0 := HF.out.x.c0; have d1 := HF.out.x.c1; have d2 := HF.out.x.c2; exact bodyPost_ret (v := .tuple #[.agg #[.int .i64 1, .slice A1 n1 q1, .slice none 0 0], .bool true]) (by simp [results, Tryz.results82, go_sem, d0, d1, d2]) rfl ⟨⟨_, _, _, _, _, _, _, rfl, fun _ => ⟨rfl, R4.yau (HF.out.own (.slice A1 n1 q1, l) (by simp)) (Nat.le_succ _), T2.OwnI.nil _ _⟩⟩, HF.out.rd, HF.out.mv⟩
set_option maxHeartbeats 1000000 in
theorem rule_3 {w : World} {g : Nat} {s : ByteArray} {k : Nat} (h : RD TP w g s k) (hk : k <= s.size) (hs : s.size <= 1000000) {last : Nat} (hl : last <= 5) {r c : Nat} (hR : relL (s.data.toList.drop k) last = (r, c)) (hr0 : r ≠ 0) (hkc : k + c <= s.size) {l : List Int} {k2 : Nat} (hQ : seqP s.data.toList (k + c) = (true, l, k2)) (h1 : r ≠ 1) (h47 : gb s.data.toList (af s.data.toList k2) ≠ 47) :
  Calls Tryz.prog 82 #[.pointer (some ⟨g, 0, none⟩), .int .i64 (last : Nat)] w (RuleA w g s true ⟨(r : Int), l, []⟩ (af s.data.toList k2)) := by
 have HS := zH (RS.start h); have HL := zH (fun w' (hr : RD TP w' g s k) => yfy hr hk hs hl hR)
 have HQ := zH (fun w' (hr : RD TP w' g s (k + c)) => yep hr hkc hs hQ)
 have hr1 : decide (r ≠ 0) = true := decide_eq_true hr0
 have hr2 : ¬ r = 0 := hr0
 have hk2 : k2 <= s.size := by have := (yfu (L := s.data.toList) hkc).2; rw [hQ, T2.ba_len] at this; exact this
 have hk3 : af s.data.toList k2 <= s.size := (af_le (L := s.data.toList) hk2).2
 have HB := zH (fun w' (hr : RD TP w' g s k2) => ycq hr hk2 hs)
 have HT : Hid (∀ w', RD TP w' g s (af s.data.toList k2) -> Calls Tryz.prog 126 #[.pointer (some ⟨g, 0, none⟩), .string SLH] w' fun e w'' => e = .returned (.bool false) /\ RD TP w'' g s (af s.data.toList k2) /\ Mv g w' w'') := fun w' hr => yeg (p := SLH) (b := false) hr (slash_pre.trans (decide_eq_false h47)) hk3 hs
 have h1I : ¬ (r : Int) = 1 := by omega
 have h1B : ((r : Int) == 1) = false := by simp; omega
 clear h hR hQ h47 h1
 go_enter Tryz.func82, Tryz.ntmps82
 go_wp2_with (first
  | (go_at_call 124; refine (HL.out _ HS.out.rd).mono ?_; rintro e w1 ⟨rfl, hr, hm⟩; have HS1 := zH (HS.out.call hr hm); clear hr hm; have c0 := HS1.out.x.c0; have c1 := HS1.out.x.c1; have c2 := HS1.out.x.c2; have f0 := HS1.out.x.f0; have f1 := HS1.out.x.f1; have f2 := HS1.out.x.f2)
  | (go_at_call 125; refine (HQ.out _ (HS1.out.set0 _).rd).mono ?_; rintro e w2 ⟨⟨A1, n1, q1, rfl, ho⟩, hr, hm⟩; have HS2 := zH (((HS1.out.set0 _).call hr hm).add (ho (by trivial)) (HS1.out.set0 (.int .i64 (r : Nat))).sz); clear hr hm; have c0 := HS2.out.x.c0; have c1 := HS2.out.x.c1; have c2 := HS2.out.x.c2; have f0 := HS2.out.x.f0; have f1 := HS2.out.x.f1; have f2 := HS2.out.x.f2)
  | (go_at_call 80; refine (HB.out _ (HS2.out.set1 (.slice A1 n1 q1)).rd).mono ?_; rintro e w3 ⟨rfl, hr, hm⟩; have HS3 := zH ((HS2.out.set1 (.slice A1 n1 q1)).call hr hm); clear hr hm; have c0 := HS3.out.x.c0; have c1 := HS3.out.x.c1; have c2 := HS3.out.x.c2; have f0 := HS3.out.x.f0; have f1 := HS3.out.x.f1; have f2 := HS3.out.x.f2)
  | (go_at_call 126; refine (HT.out _ HS3.out.rd).mono ?_; rintro e w4 ⟨rfl, hr, hm⟩; have HS4 := zH (HS3.out.call hr hm); clear hr hm; have c0 := HS4.out.x.c0; have c1 := HS4.out.x.c1; have c2 := HS4.out.x.c2; have f0 := HS4.out.x.f0; have f1 := HS4.out.x.f1; have f2 := HS4.out.x.f2))
 have HF := zH (HS4.out.full); generalize (((w4).setCell ⟨w.heap.size, 0, none⟩ (.int .i64 (r : Nat))).setCell ⟨w.heap.size, 1, none⟩ (.slice A1 n1 q1)).setCell ⟨w.heap.size, 2, none⟩ (.slice none 0 0) = wf at HF |-; have d0 := HF.out.x.c0; have d1 := HF.out.x.c1; have d2 := HF.out.x.c2; exact bodyPost_ret (v := .tuple #[.agg #[.int .i64 (r : Nat), .slice A1 n1 q1, .slice none 0 0], .bool true]) (by simp [results, Tryz.results82, go_sem, d0, d1, d2]) rfl ⟨⟨_, _, _, _, _, _, _, rfl, fun _ => ⟨rfl, R4.yau (HF.out.own (.slice A1 n1 q1, l) (by simp)) (Nat.le_succ _), T2.OwnI.nil _ _⟩⟩, HF.out.rd, HF.out.mv⟩
set_option maxHeartbeats 1000000 in
theorem rule_4 {w : World} {g : Nat} {s : ByteArray} {k : Nat} (h : RD TP w g s k) (hk : k <= s.size) (hs : s.size <= 1000000) {last : Nat} (hl : last <= 5) {r c : Nat} (hR : relL (s.data.toList.drop k) last = (r, c)) (hr0 : r ≠ 0) (hkc : k + c <= s.size) {l : List Int} {k2 : Nat} (hQ : seqP s.data.toList (k + c) = (true, l, k2)) (h1 : r ≠ 1) (h47 : gb s.data.toList (af s.data.toList k2) = 47) {l2 : List Int} {k5 : Nat} (hE : seqP s.data.toList (af s.data.toList k2 + 1) = (false, l2, k5)) (x : RV) :
  Calls Tryz.prog 82 #[.pointer (some ⟨g, 0, none⟩), .int .i64 (last : Nat)] w (RuleA w g s false x k5) := by
 have HS := zH (RS.start h); have HL := zH (fun w' (hr : RD TP w' g s k) => yfy hr hk hs hl hR)
 have HQ := zH (fun w' (hr : RD TP w' g s (k + c)) => yep hr hkc hs hQ)
 have hr1 : decide (r ≠ 0) = true := decide_eq_true hr0
 have hr2 : ¬ r = 0 := hr0
 have hk2 : k2 <= s.size := by have := (yfu (L := s.data.toList) hkc).2; rw [hQ, T2.ba_len] at this; exact this
 have hk3 : af s.data.toList k2 <= s.size := (af_le (L := s.data.toList) hk2).2
 have HB := zH (fun w' (hr : RD TP w' g s k2) => ycq hr hk2 hs)
 have HT : Hid (∀ w', RD TP w' g s (af s.data.toList k2) -> Calls Tryz.prog 126 #[.pointer (some ⟨g, 0, none⟩), .string SLH] w' fun e w'' => e = .returned (.bool true) /\ RD TP w'' g s (af s.data.toList k2 + 1) /\ Mv g w' w'') := fun w' hr => yeg (p := SLH) (b := true) hr (slash_pre.trans (decide_eq_true h47)) hk3 hs
 have h1I : ¬ (r : Int) = 1 := by omega
 have h1B : ((r : Int) == 1) = false := by simp; omega
 have hk4 : af s.data.toList k2 + 1 <= s.size := by
  rcases Nat.lt_or_ge (af s.data.toList k2) s.data.toList.length with h4 | h4
  ·exact h4
  ·rw [gb_out h4] at h47; omega
 have HE := zH (fun w' (hr : RD TP w' g s (af s.data.toList k2 + 1)) => yep hr hk4 hs hE)
 have tok : True := trivial
 clear h hR hQ h47 h1 hE
 go_enter Tryz.func82, Tryz.ntmps82
 go_wp2_with (first
  | (go_at_call 124; refine (HL.out _ HS.out.rd).mono ?_; rintro e w1 ⟨rfl, hr, hm⟩; have HS1 := zH (HS.out.call hr hm); clear hr hm; have c0 := HS1.out.x.c0; have c1 := HS1.out.x.c1; have c2 := HS1.out.x.c2; have f0 := HS1.out.x.f0; have f1 := HS1.out.x.f1; have f2 := HS1.out.x.f2)
  | (go_at_call 125; have _t := tok; refine (HQ.out _ (HS1.out.set0 _).rd).mono ?_; rintro e w2 ⟨⟨A1, n1, q1, rfl, ho⟩, hr, hm⟩; have HS2 := zH (((HS1.out.set0 _).call hr hm).add (ho (by trivial)) (HS1.out.set0 (.int .i64 (r : Nat))).sz); clear hr hm; have c0 := HS2.out.x.c0; have c1 := HS2.out.x.c1; have c2 := HS2.out.x.c2; have f0 := HS2.out.x.f0; have f1 := HS2.out.x.f1; have f2 := HS2.out.x.f2; clear _t tok)
  | (go_at_call 80; refine (HB.out _ (HS2.out.set1 (.slice A1 n1 q1)).rd).mono ?_; rintro e w3 ⟨rfl, hr, hm⟩; have HS3 := zH ((HS2.out.set1 (.slice A1 n1 q1)).call hr hm); clear hr hm; have c0 := HS3.out.x.c0; have c1 := HS3.out.x.c1; have c2 := HS3.out.x.c2; have f0 := HS3.out.x.f0; have f1 := HS3.out.x.f1; have f2 := HS3.out.x.f2)
  | (go_at_call 126; refine (HT.out _ HS3.out.rd).mono ?_; rintro e w4 ⟨rfl, hr, hm⟩; have HS4 := zH (HS3.out.call hr hm); clear hr hm; have c0 := HS4.out.x.c0; have c1 := HS4.out.x.c1; have c2 := HS4.out.x.c2; have f0 := HS4.out.x.f0; have f1 := HS4.out.x.f1; have f2 := HS4.out.x.f2)
  | (go_at_call 125; refine (HE.out _ HS4.out.rd).mono ?_; rintro e w5 ⟨⟨A2, n2, q2, rfl, ho2⟩, hr, hm⟩; have HS5 := zH (HS4.out.call hr hm); clear hr hm; have c0 := HS5.out.x.c0; have c1 := HS5.out.x.c1; have c2 := HS5.out.x.c2; have f0 := HS5.out.x.f0; have f1 := HS5.out.x.f1; have f2 := HS5.out.x.f2))
 have HF := zH ((HS5.out.set2 (.slice A2 n2 q2)).full); generalize (((w5.setCell ⟨w.heap.size, 2, none⟩ (.slice A2 n2 q2)).setCell ⟨w.heap.size, 0, none⟩ (.int .i64 (r : Nat))).setCell ⟨w.heap.size, 1, none⟩ (.slice A1 n1 q1)).setCell ⟨w.heap.size, 2, none⟩ (.slice A2 n2 q2) = wf at HF |-; have d0 := HF.out.x.c0; have d1 := HF.out.x.c1; have d2 := HF.out.x.c2; exact bodyPost_ret (v := .tuple #[.agg #[.int .i64 (r : Nat), .slice A1 n1 q1, .slice A2 n2 q2], .bool false]) (by simp [results, Tryz.results82, go_sem, d0, d1, d2]) rfl ⟨⟨_, _, _, _, _, _, _, rfl, fun h => by cases h⟩, HF.out.rd, HF.out.mv⟩
set_option maxHeartbeats 1000000 in
theorem rule_5 {w : World} {g : Nat} {s : ByteArray} {k : Nat} (h : RD TP w g s k) (hk : k <= s.size) (hs : s.size <= 1000000) {last : Nat} (hl : last <= 5) {r c : Nat} (hR : relL (s.data.toList.drop k) last = (r, c)) (hr0 : r ≠ 0) (hkc : k + c <= s.size) {l : List Int} {k2 : Nat} (hQ : seqP s.data.toList (k + c) = (true, l, k2)) (h1 : r ≠ 1) (h47 : gb s.data.toList (af s.data.toList k2) = 47) {l2 : List Int} {k5 : Nat} (hE : seqP s.data.toList (af s.data.toList k2 + 1) = (true, l2, k5)) :
  Calls Tryz.prog 82 #[.pointer (some ⟨g, 0, none⟩), .int .i64 (last : Nat)] w (RuleA w g s true ⟨(r : Int), l, l2⟩ k5) := by
 have HS := zH (RS.start h); have HL := zH (fun w' (hr : RD TP w' g s k) => yfy hr hk hs hl hR)
 have HQ := zH (fun w' (hr : RD TP w' g s (k + c)) => yep hr hkc hs hQ)
 have hr1 : decide (r ≠ 0) = true := decide_eq_true hr0
 have hr2 : ¬ r = 0 := hr0
 have hk2 : k2 <= s.size := by have := (yfu (L := s.data.toList) hkc).2; rw [hQ, T2.ba_len] at this; exact this
 have hk3 : af s.data.toList k2 <= s.size := (af_le (L := s.data.toList) hk2).2
 have HB := zH (fun w' (hr : RD TP w' g s k2) => ycq hr hk2 hs)
 have HT : Hid (∀ w', RD TP w' g s (af s.data.toList k2) -> Calls Tryz.prog 126 #[.pointer (some ⟨g, 0, none⟩), .string SLH] w' fun e w'' => e = .returned (.bool true) /\ RD TP w'' g s (af s.data.toList k2 + 1) /\ Mv g w' w'') := fun w' hr => yeg (p := SLH) (b := true) hr (slash_pre.trans (decide_eq_true h47)) hk3 hs
 have h1I : ¬ (r : Int) = 1 := by omega
 have h1B : ((r : Int) == 1) = false := by simp; omega
 have hk4 : af s.data.toList k2 + 1 <= s.size := by
  rcases Nat.lt_or_ge (af s.data.toList k2) s.data.toList.length with h4 | h4
  ·exact h4
  ·rw [gb_out h4] at h47; omega
 have HE := zH (fun w' (hr : RD TP w' g s (af s.data.toList k2 + 1)) => yep hr hk4 hs hE)
 have tok : True := trivial
 clear h hR hQ h47 h1 hE
 go_enter Tryz.func82, Tryz.ntmps82
 go_wp2_with (first
  | (go_at_call 124; refine (HL.out _ HS.out.rd).mono ?_; rintro e w1 ⟨rfl, hr, hm⟩; have HS1 := zH (HS.out.call hr hm); clear hr hm; have c0 := HS1.out.x.c0; have c1 := HS1.out.x.c1; have c2 := HS1.out.x.c2; have f0 := HS1.out.x.f0; have f1 := HS1.out.x.f1; have f2 := HS1.out.x.f2)
  | (go_at_call 125; have _t := tok; refine (HQ.out _ (HS1.out.set0 _).rd).mono ?_; rintro e w2 ⟨⟨A1, n1, q1, rfl, ho⟩, hr, hm⟩; have HS2 := zH (((HS1.out.set0 _).call hr hm).add (ho (by trivial)) (HS1.out.set0 (.int .i64 (r : Nat))).sz); clear hr hm; have c0 := HS2.out.x.c0; have c1 := HS2.out.x.c1; have c2 := HS2.out.x.c2; have f0 := HS2.out.x.f0; have f1 := HS2.out.x.f1; have f2 := HS2.out.x.f2; clear _t tok)
  | (go_at_call 80; refine (HB.out _ (HS2.out.set1 (.slice A1 n1 q1)).rd).mono ?_; rintro e w3 ⟨rfl, hr, hm⟩; have HS3 := zH ((HS2.out.set1 (.slice A1 n1 q1)).call hr hm); clear hr hm; have c0 := HS3.out.x.c0; have c1 := HS3.out.x.c1; have c2 := HS3.out.x.c2; have f0 := HS3.out.x.f0; have f1 := HS3.out.x.f1; have f2 := HS3.out.x.f2)
  | (go_at_call 126; refine (HT.out _ HS3.out.rd).mono ?_; rintro e w4 ⟨rfl, hr, hm⟩; have HS4 := zH (HS3.out.call hr hm); clear hr hm; have c0 := HS4.out.x.c0; have c1 := HS4.out.x.c1; have c2 := HS4.out.x.c2; have f0 := HS4.out.x.f0; have f1 := HS4.out.x.f1; have f2 := HS4.out.x.f2)
  | (go_at_call 125; refine (HE.out _ HS4.out.rd).mono ?_; rintro e w5 ⟨⟨A2, n2, q2, rfl, ho2⟩, hr, hm⟩; have HS5 := zH ((HS4.out.call hr hm).add (ho2 (by trivial)) HS4.out.sz); clear hr hm; have c0 := HS5.out.x.c0; have c1 := HS5.out.x.c1; have c2 := HS5.out.x.c2; have f0 := HS5.out.x.f0; have f1 := HS5.out.x.f1; have f2 := HS5.out.x.f2))
 have HF := zH ((HS5.out.set2 (.slice A2 n2 q2)).full); generalize (((w5.setCell ⟨w.heap.size, 2, none⟩ (.slice A2 n2 q2)).setCell ⟨w.heap.size, 0, none⟩ (.int .i64 (r : Nat))).setCell ⟨w.heap.size, 1, none⟩ (.slice A1 n1 q1)).setCell ⟨w.heap.size, 2, none⟩ (.slice A2 n2 q2) = wf at HF |-; have d0 := HF.out.x.c0; have d1 := HF.out.x.c1; have d2 := HF.out.x.c2; exact bodyPost_ret (v := .tuple #[.agg #[.int .i64 (r : Nat), .slice A1 n1 q1, .slice A2 n2 q2], .bool true]) (by simp [results, Tryz.results82, go_sem, d0, d1, d2]) rfl ⟨⟨_, _, _, _, _, _, _, rfl, fun _ => ⟨rfl, R4.yau (HF.out.own (.slice A1 n1 q1, l) (by simp)) (Nat.le_succ _), R4.yau (HF.out.own (.slice A2 n2 q2, l2) (by simp)) (Nat.le_succ _)⟩⟩, HF.out.rd, HF.out.mv⟩
theorem yxx {w : World} {g : Nat} {s : ByteArray} {k : Nat} (h : RD TP w g s k) (hk : k <= s.size) (hs : s.size <= 1000000) {last : Nat} (hl : last <= 5) (hll : last = 1 \/ last = 5) {b : Bool} {x : RV} {k' : Nat} (hR : ruleP s.data.toList last k = (b, x, k')) :
  Calls Tryz.prog 82 #[.pointer (some ⟨g, 0, none⟩), .int .i64 (last : Nat)] w (RuleA w g s b x k') := by
 obtain ⟨⟨r, c⟩, hrc⟩ : ∃ z, relL (s.data.toList.drop k) last = z := ⟨_, rfl⟩
 have hway : (r = 0 /\ c = 0) \/ (r ≠ 0 /\ k + c <= s.size) := by
  have hld : (s.data.toList.drop k).length = s.size - k := by rw [List.length_drop, T2.ba_len]
  have h5 := yby (s.data.toList.drop k)
  rcases hll with rfl | rfl
  ·rw [rel1] at hrc
   split at hrc
   ·rename_i h38
    cases hrc
    right
    rcases Nat.lt_or_ge 0 (s.data.toList.drop k).length with h9 | h9
    ·exact ⟨by omega, by omega⟩
    ·rw [gb_out h9] at h38; omega
   ·cases hrc; exact .inl ⟨rfl, rfl⟩
  ·rw [rel5] at hrc; rw [hrc] at h5
   rcases h5 with h5 | h5
   ·cases h5; exact .inl ⟨rfl, rfl⟩
   ·simp only at h5; right; exact ⟨by omega, by omega⟩
 unfold ruleP at hR; rw [hrc] at hR
 simp only at hR
 rcases hway with ⟨rfl, rfl⟩ | ⟨hr0, hkc⟩
 ·rw [if_pos rfl] at hR
  cases hR
  exact rule_0 h hk hs hl hrc _
 ·rw [if_neg hr0] at hR; obtain ⟨⟨q, l, k2⟩, hq⟩ : ∃ z, seqP s.data.toList (k + c) = z := ⟨_, rfl⟩; rw [hq] at hR
  simp only at hR
  cases q with
  | false =>
   rw [if_pos rfl] at hR
   cases hR
   exact rule_1 h hk hs hl hrc hr0 hkc hq _
  | true =>
   rw [if_neg (by simp)] at hR
   by_cases h1 : r = 1
   ·rw [if_neg (by rintro ⟨h2, -⟩; exact h2 h1)] at hR
    cases hR
    exact rule_2 h hk hs hl hrc hr0 hkc hq h1
   ·by_cases h47 : gb s.data.toList (af s.data.toList k2) = 47
    ·rw [if_pos ⟨h1, h47⟩] at hR; obtain ⟨⟨q2, l2, k5⟩, hq2⟩ : ∃ z, seqP s.data.toList (af s.data.toList k2 + 1) = z := ⟨_, rfl⟩; rw [hq2] at hR
     simp only at hR
     cases q2 with
     | false => cases hR; exact rule_4 h hk hs hl hrc hr0 hkc hq h1 h47 hq2 _
     | true => cases hR; exact rule_5 h hk hs hl hrc hr0 hkc hq h1 h47 hq2
    ·rw [if_neg (by rintro ⟨-, h2⟩; exact h47 h2)] at hR
     cases hR
     exact rule_3 h hk hs hl hrc hr0 hkc hq h1 h47
end Go.Proofs.YteibnfeokgibmaaGreat.S6
