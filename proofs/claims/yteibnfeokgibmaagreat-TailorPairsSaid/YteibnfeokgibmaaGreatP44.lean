/-
  PACKED for a claim.
-/
import Derived.Deep.LoopGhost
import Derived.StillTailTactics
import Derived.Test.YteibnfeokgibmaaGreatP35
import Derived.Test.YteibnfeokgibmaaGreatP43
set_option linter.unusedVariables false
set_option linter.unusedSimpArgs false
set_option maxRecDepth 100000
namespace Go.Proofs.YteibnfeokgibmaaGreat.S6
open Go.RowKit
def RD (T : TypeId) (w : World) (g : Nat) (s : ByteArray) (k : Nat) : Prop := w.heap[g]? = some (.cells #[.string s, .int .i64 (k : Int)] T (0, 0))
theorem RD.c0 {T : TypeId} {w : World} {g : Nat} {s : ByteArray} {k : Nat} (h : RD T w g s k) : w.cell? ⟨g, 0, none⟩ = some (.string s) := cell_of_row w g 0 _ _ _ h
theorem RD.c1 {T : TypeId} {w : World} {g : Nat} {s : ByteArray} {k : Nat} (h : RD T w g s k) : w.cell? ⟨g, 1, none⟩ = some (.int .i64 (k : Int)) := cell_of_row w g 1 _ _ _ h
theorem RD.fz {T : TypeId} {w : World} {g : Nat} {s : ByteArray} {k : Nat} (h : RD T w g s k) : w.frozen? ⟨g, 1, none⟩ = false := frozen_of_row w g 1 _ _ h
theorem RD.lt {T : TypeId} {w : World} {g : Nat} {s : ByteArray} {k : Nat} (h : RD T w g s k) : g < w.heap.size := (Array.getElem?_eq_some_iff.1 h).1
theorem RD.set {T : TypeId} {w : World} {g : Nat} {s : ByteArray} {k m : Nat} (h : RD T w g s k) : RD T (w.setCell ⟨g, 1, none⟩ (.int .i64 (m : Int))) g s m :=
 heap_setCell_same w g 1 _ _ _ h
theorem RD.set' {T : TypeId} {w : World} {g : Nat} {s : ByteArray} {k m : Nat} {i : Int} (h : RD T w g s k) (e : i = (m : Int)) : RD T (w.setCell ⟨g, 1, none⟩ (.int .i64 i)) g s m := by subst e; exact h.set
theorem RD.below {T : TypeId} {w w' : World} {B g : Nat} {s : ByteArray} {k : Nat} (h : RD T w g s k) (hb : Below B w w') (hB : w.heap.size <= B) : RD T w' g s k := (hb.block g (Nat.lt_of_lt_of_le h.lt hB)).trans h
abbrev Mv (g : Nat) (w w' : World) : Prop := w.grownBy w' (some g)
theorem Mv.refl (g : Nat) (w : World) : Mv g w w := World.grownBy.refl _ _
theorem Mv.set {g : Nat} (w : World) (u : Value) : Mv g w (w.setCell ⟨g, 1, none⟩ u) := R4.yae w ⟨g, 1, none⟩ u
theorem Mv.of_below {g : Nat} {w w' : World} (h : Below w.heap.size w w') : Mv g w w' := ⟨h.os, h.tape, h.output, h.size, fun i hi _ => h.block i hi⟩
theorem Mv.trans {g : Nat} {a b c : World} (h : Mv g a b) (k : Mv g b c) : Mv g a c := World.grownBy.trans h k
theorem Mv.below {g B : Nat} {a w w' : World} (h : Below B a w) (k : Mv g w w') (hB : B <= w.heap.size) (hg : B <= g) : Below B a w' := h.grown k hB fun j e => by cases e; exact hg
theorem RD.low {T : TypeId} {w w' : World} {B g : Nat} {s : ByteArray} {k : Nat} (h : RD T w g s k) (hb : Below B w w') (hg : g < B) : RD T w' g s k := (hb.block g hg).trans h
theorem Mv.low {g B : Nat} {a w w' : World} (h : Mv g a w) (hb : Below B w w') (hB : a.heap.size <= B) : Mv g a w' :=
 ⟨hb.os.trans h.os, hb.tape.trans h.tape, hb.output.trans h.output, Nat.le_trans h.size hb.size, fun i hi hn => (hb.block i (Nat.lt_of_lt_of_le hi hB)).trans (h.block i hi hn)⟩
abbrev BLK : ByteArray := ⟨#[32, 10]⟩
abbrev END : ByteArray := ⟨#[32, 10, 38, 60, 61, 47]⟩
end Go.Proofs.YteibnfeokgibmaaGreat.S6
namespace Go.Proofs.YteibnfeokgibmaaGreat.S6
open Go.RowKit
open T2 (gb dec one isSg isPt sgs)
abbrev TP : TypeId := 134
theorem ycv {w : World} {g : Nat} {s : ByteArray} {k : Nat} (h : RD TP w g s k) {b : Bool} (hb : decide (s.size <= k) = b) (hk : k <= s.size) :
  Calls Tryz.prog 81 #[.pointer (some ⟨g, 0, none⟩)] w fun e w' => e = .returned (.bool b) /\ ∃ m, w' = w.drewN m := by
 have c0 := h.c0; have c1 := h.c1
 have hb2 : (((k : Int)) == (s.size : Int)) = b := by
  rw [<- hb]; apply Bool.eq_iff_iff.2; simp; omega
 clear h hb hk
 go_enter Tryz.func81, Tryz.ntmps81
 go_wp2
 go_quiet (fail)
 go_wp2
 go_ret
 exact ⟨rfl, _, rfl⟩
theorem ib_any {s : ByteArray} {x : Nat} {n : Int} (h : Lib.indexByte s.data.toList (UInt8.ofNat x) = n) (w : World) :
  Calls Tryz.prog 123 #[.string s, .int .u8 (x : Int)] w fun e w' => e = .returned (.int .i64 n) /\ w' = w := by
 subst h; exact Tryz.strings_IndexByte s (x : Int) w
theorem ydz (a : UInt8) (l : List UInt8) (c : UInt8) : decide (0 <= Lib.indexByte (a :: l) c) = ((a == c) || decide (0 <= Lib.indexByte l c)) := by
 have := Lib.indexByte_ge l c
 rw [Lib.indexByte]
 by_cases h : (a == c) = true
 ·rw [if_pos h, h]; rfl
 ·rw [if_neg h, Bool.eq_false_iff.2 h, Bool.false_or]
  split
  ·rename_i h2; have h2 : Lib.indexByte l c = -1 := by simpa using h2
   rw [h2]
  ·apply Bool.eq_iff_iff.2; rename_i h2; simp at h2 |-; omega
theorem ofn_eq {x : Nat} (hx : x < 256) (a : UInt8) : (a == UInt8.ofNat x) = decide (x = a.toNat) := by
 apply Bool.eq_iff_iff.2
 simp only [beq_iff_eq, decide_eq_true_eq]
 constructor
 ·rintro rfl; rw [T2.yak hx]
 ·intro h; rw [h]; simp
theorem ib_blk {x : Nat} (hx : x < 256) : decide (0 <= Lib.indexByte BLK.data.toList (UInt8.ofNat x)) = isBl x := by
 show decide (0 <= Lib.indexByte [32, 10] (UInt8.ofNat x)) = _
 rw [ydz, ydz, ofn_eq hx, ofn_eq hx]; simp only [isBl]; rw [show decide (0 <= Lib.indexByte [] (UInt8.ofNat x)) = false from rfl]
 simp only [Bool.or_false, Bool.or_assoc]; rfl
theorem ib_end {x : Nat} (hx : x < 256) : decide (0 <= Lib.indexByte END.data.toList (UInt8.ofNat x)) = isEn x := by
 show decide (0 <= Lib.indexByte [32, 10, 38, 60, 61, 47] (UInt8.ofNat x)) = _
 rw [ydz, ydz, ydz, ydz, ydz, ydz, ofn_eq hx, ofn_eq hx, ofn_eq hx, ofn_eq hx, ofn_eq hx, ofn_eq hx]; simp only [isEn]; rw [show decide (0 <= Lib.indexByte [] (UInt8.ofNat x)) = false from rfl]
 simp only [Bool.or_false, Bool.or_assoc]; rfl
theorem hp_any {s p : ByteArray} {b : Bool} (h : p.data.toList.isPrefixOf s.data.toList = b) (w : World) :
  Calls Tryz.prog 173 #[.string s, .string p] w fun e w' => e = .returned (.bool b) /\ w' = w := by
 subst h; exact Tryz.strings_HasPrefix s p w
theorem yeg {w : World} {g : Nat} {s p : ByteArray} {k : Nat} (h : RD TP w g s k) {b : Bool} (hb : p.data.toList.isPrefixOf (s.data.toList.drop k) = b) (hk : k <= s.size) (hs : s.size <= 1000000) :
  Calls Tryz.prog 126 #[.pointer (some ⟨g, 0, none⟩), .string p] w fun e w' => e = .returned (.bool b) /\ RD TP w' g s (if b = true then k + p.size else k) /\ Mv g w w' := by
 have c0 := h.c0; have c1 := h.c1; have c2 := h.fz; have HP := zH (fun w => hp_any (s := s.extract k s.size) (p := p) (b := b) (by rw [T2.yha]; exact hb) w)
 have hkI : (k : Int) <= (s.size : Int) := by omega
 have HR := zH h
 have hp : b = true -> p.size <= s.size - k := by
  rintro rfl
  have := List.isPrefixOf_iff_prefix.1 hb
  have := this.length_le
  rw [List.length_drop] at this; exact this
 clear hb h
 go_enter Tryz.func126, Tryz.ntmps126
 go_wp2
 go_quiet ((go_at_call 173; with_reducible exact Calls.quiet_of_same (HP.out _)))
 have HB := zH (yac w nq); generalize w.drewN nq = w1 at HB |-; have hr1 := HR.out.below HB.out (zN _); clear c0 c1 c2; have c1 := hr1.c1; have c2 := hr1.fz; have HR1 := zH hr1; clear hr1 HP
 cases b with
 | false =>
  go_wp2
  go_ret
  exact ⟨rfl, HR1.out, Mv.of_below HB.out⟩
 | true =>
  have hp1 := hp rfl
  go_wp2
  go_ret
  exact ⟨rfl, HR1.out.set' (by omega), (Mv.of_below HB.out).trans (Mv.set _ _)⟩
theorem gb_s {s : ByteArray} {k : Nat} (h : k < s.size) : s[k].toNat = gb s.data.toList k := (T2.gb_ba s h).symm
theorem ycq {w : World} {g : Nat} {s : ByteArray} {k : Nat} (h : RD TP w g s k) (hk : k <= s.size) (hs : s.size <= 1000000) :
  Calls Tryz.prog 80 #[.pointer (some ⟨g, 0, none⟩)] w fun e w' => e = .returned (.tuple #[]) /\ RD TP w' g s (af s.data.toList k) /\ Mv g w w' := by
 have HR := zH h; obtain ⟨K, hK⟩ : ∃ K, af s.data.toList k = K := ⟨_, rfl⟩; rw [hK]; have HK := zH hK; clear h hK
 go_enter Tryz.func80, Tryz.ntmps80
 go_wp2
 go_loopg [] (s.size - k) (fun n wr => ∃ j : Nat, j <= s.size /\ n = s.size - j /\ Hid (af s.data.toList j = K) /\ Hid (RD TP wr g s j) /\ Hid (Mv g w wr))
 case atStart => exact ⟨k, hk, rfl, HK.out, HR.out, Mv.refl _ _⟩
 case round =>
  obtain ⟨j, hj, rfl, HJ, HRJ, HM⟩ := hrel; clear HR HK hk; have c0 := HRJ.out.c0; have c1 := HRJ.out.c1
  by_cases hlt : j < s.size
  ·have HD := zH (fun w' (hr : RD TP w' g s j) => ycv hr (b := false) (decide_eq_false (by omega)) hj)
   have hbx := T2.gb_lt s.data.toList j; obtain ⟨x, hx⟩ : ∃ x, gb s.data.toList j = x := ⟨_, rfl⟩
   have hx2 : s[j].toNat = x := by rw [gb_s hlt, hx]
   rw [hx] at hbx; obtain ⟨n, hn⟩ : ∃ n, Lib.indexByte BLK.data.toList (UInt8.ofNat x) = n := ⟨_, rfl⟩; have HI := zH (fun w => ib_any hn w)
   have hib := ib_blk hbx; rw [hn] at hib; obtain ⟨b, hb⟩ : ∃ b, isBl x = b := ⟨_, rfl⟩; rw [hb] at hib
   have HB0 : Hid (isBl (gb s.data.toList j) = b) := by show _ = _; rw [hx, hb]
   clear hx hn hb
   go_wp2
   go_quiet ((first
    | (go_at_call 81; with_reducible exact Calls.quiet_of (HD.out _ (HRJ.out.below (yac _ _) (zN _))))
    | (go_at_call 123; with_reducible exact Calls.quiet_of_same (HI.out _))))
   have HW := zH (yac wr nq); generalize wr.drewN nq = w1 at HW |-; have hr1 := HRJ.out.below HW.out (zN _); clear c0 c1; have c1 := hr1.c1; have c2 := hr1.fz; have HR1 := zH hr1; have HM1 := zH (HM.out.trans (Mv.of_below HW.out)); clear hr1 HI HD HRJ HM HW
   cases b with
   | false =>
    have hn : ¬ (0 : Int) <= n := by simpa using hib
    clear hib
    go_wp2
    have := HJ.out
    rw [ylb HB0.out] at this; exact bodyPost_end (v := .tuple #[]) (by simp [results, Tryz.results80, go_sem]) rfl ⟨rfl, by rw [<- this]; exact HR1.out, HM1.out⟩
   | true =>
    have hn : (0 : Int) <= n := by simpa using hib
    clear hib
    go_wp2
    go_roundg (s.size - (j + 1))
    case measure => omega
    case rel => exact ⟨j + 1, by omega, rfl, (blk_in (by exact hlt) HB0.out).symm.trans HJ.out, HR1.out.set' (by omega), HM1.out.trans (Mv.set _ _)⟩
  ·have HD := zH (fun w' (hr : RD TP w' g s j) => ycv hr (b := true) (decide_eq_true (by omega)) hj)
   go_wp2
   go_quiet ((go_at_call 81; with_reducible exact Calls.quiet_of (HD.out _ (HRJ.out.below (yac _ _) (zN _)))))
   have HW := zH (yac wr nq); generalize wr.drewN nq = w1 at HW |-
   go_wp2
   have := HJ.out
   rw [yny (by show s.size <= j; omega)] at this
   exact bodyPost_end (v := .tuple #[]) (by simp [results, Tryz.results80, go_sem]) rfl ⟨rfl, by rw [<- this]; exact HRJ.out.below HW.out (zN _), HM.out.trans (Mv.of_below HW.out)⟩
theorem ywd {w : World} {g : Nat} {s : ByteArray} {k : Nat} (h : RD TP w g s k) {b : Bool} (hb : endd (s.data.toList.drop k) = b) (hk : k <= s.size) :
  Calls Tryz.prog 172 #[.pointer (some ⟨g, 0, none⟩)] w fun e w' => e = .returned (.bool b) /\ ∃ m, w' = w.drewN m := by
 have HR := zH h; have c0 := h.c0; have c1 := h.c1; rw [yhb] at hb; clear h
 go_enter Tryz.func172, Tryz.ntmps172
 go_wp2
 by_cases hlt : k < s.size
 ·have HD := zH (fun w' (hr : RD TP w' g s k) => ycv hr (b := false) (decide_eq_false (by omega)) hk)
  have hbx := T2.gb_lt s.data.toList k; obtain ⟨x, hx⟩ : ∃ x, gb s.data.toList k = x := ⟨_, rfl⟩
  have hx2 : s[k].toNat = x := by rw [gb_s hlt, hx]
  rw [hx] at hbx hb; rw [decide_eq_false (show ¬ s.data.toList.length <= k by rw [T2.ba_len]; omega), Bool.false_or] at hb
  obtain ⟨n, hn⟩ : ∃ n, Lib.indexByte END.data.toList (UInt8.ofNat x) = n := ⟨_, rfl⟩; have HI := zH (fun w => ib_any hn w)
  have hib := ib_end hbx; rw [hn, hb] at hib; clear hx hn hb
  go_quiet ((first
   | (go_at_call 81; with_reducible exact Calls.quiet_of (HD.out _ (HR.out.below (yac _ _) (zN _))))
   | (go_at_call 123; with_reducible exact Calls.quiet_of_same (HI.out _))))
  go_wp2
  go_ret
  exact ⟨rfl, _, rfl⟩
 ·have HD := zH (fun w' (hr : RD TP w' g s k) => ycv hr (b := true) (decide_eq_true (by omega)) hk)
  rw [decide_eq_true (show s.data.toList.length <= k by rw [T2.ba_len]; omega), Bool.true_or] at hb
  subst hb
  go_quiet ((go_at_call 81; with_reducible exact Calls.quiet_of (HD.out _ (HR.out.below (yac _ _) (zN _)))))
  go_wp2
  go_ret
  exact ⟨rfl, _, rfl⟩
theorem yni {l : List UInt8} (h : l ≠ []) : T2.pos 1 l = (dec l).2 := by
 rw [T2.yeh h]; rfl
theorem ysy {l : List UInt8} (h : l ≠ []) : sgs (l.take (dec l).2) = [((dec l).1 : Int)] := by
 rw [<- yni h, T2.yxr, T2.ych h]; rfl
theorem yil {s : ByteArray} {p : Nat} (hp : p < s.size) : s.data.toList.drop p ≠ [] := by
 intro e
 have := congrArg List.length e
 rw [List.length_drop, T2.ba_len] at this; simp only [List.length_nil] at this
 omega
theorem begin_at {s : ByteArray} {p : Nat} {D : Nat × Nat} (hp : p < s.size) (hs : s.size <= 1000000) (hD : dec (s.data.toList.drop p) = D) :
  ∃ t : ByteArray, t.size = D.2 /\ sgs t.data.toList = [(D.1 : Int)] /\ ∀ w, Calls Tryz.prog 202 #[.string (s.extract p s.size), .int .i64 1] w fun e w' => e = .returned (.string t) /\ Below w.heap.size w w' := by
 have hl := yil hp; have e1 := T2.yha s p; refine ⟨(s.extract p s.size).extract 0 (T2.pos 1 (s.extract p s.size).data.toList), ?_, ?_, fun w => ?_⟩
 ·rw [ByteArray.size_extract, ByteArray.size_extract, e1, yni hl, <- hD]
  have := T2.dec_le hl
  rw [List.length_drop, T2.ba_len] at this
  omega
 ·rw [T2.zao, e1, yni hl, ysy hl, hD]
 ·exact T2.ywu (s.extract p s.size) 1 w (by rw [ByteArray.size_extract]; omega) (by omega) (by omega)
theorem yxp {t : ByteArray} {x : Int} (hx : sgs t.data.toList = [x]) (hs : t.size <= 1000000) (w : World) :
  Calls Tryz.prog 188 #[.string t] w fun e w' => (∃ g0 c : Nat, e = .returned (.slice (some ⟨g0, 0, none⟩) 1 c) /\ 1 <= c /\ w'.cell? ⟨g0, 0, none⟩ = some (.int .i64 x)) /\ Below w.heap.size w w' := by
 refine (T2.yhm t w hs).mono fun e w' hh => ?_
 obtain ⟨v, rfl, ho, hb⟩ := hh; refine ⟨?_, hb⟩; rw [hx] at ho; obtain ⟨A, c, rfl, hc, hr⟩ := R4.yai ho; obtain ⟨g0, e, -, -, h3⟩ := hr (by simp)
 exact ⟨g0, c, by rw [e]; rfl, hc, h3 0 _ rfl⟩
end Go.Proofs.YteibnfeokgibmaaGreat.S6
namespace Go.Proofs.YteibnfeokgibmaaGreat.S6
open Go.RowKit
open T2 (gb dec one isSg isPt sgs)
abbrev ESC : ByteArray := ⟨#[92]⟩
theorem ywa {s : ByteArray} {k : Nat} (hk : k < s.size) : ESC.data.toList.isPrefixOf (s.data.toList.drop k) = decide (gb s.data.toList k = 92) := by
 have hk' : k < s.data.toList.length := hk
 rw [List.drop_eq_getElem_cons hk']
 show ([92] : List UInt8).isPrefixOf _ = _
 rw [yfd, T2.gb_at hk']
 simp [List.isPrefixOf]
theorem ysv {w : World} {g : Nat} {s : ByteArray} {k p : Nat} {b : Bool} {D : Nat × Nat} (h : RD TP w g s k) (hk : k < s.size) (hs : s.size <= 1000000) (hb : decide (gb s.data.toList k = 92) = b) (hp : (if b = true then k + 1 else k) = p) (hps : p < s.size) (hD : dec (s.data.toList.drop p) = D) :
  Calls Tryz.prog 171 #[.pointer (some ⟨g, 0, none⟩)] w fun e w' => e = .returned (.tuple #[.int .i64 (D.1 : Int), .bool true]) /\ RD TP w' g s (p + D.2) /\ Mv g w w' := by
 have HT := zH (yeg (p := ESC) h ((ywa hk).trans hb) (by omega) hs)
 have hne := yil hps; have hle := T2.dec_le hne; rw [hD, List.length_drop, T2.ba_len] at hle; obtain ⟨t, ht1, ht2, ht3⟩ := begin_at hps hs hD; have HD := zH (fun w' (hr : RD TP w' g s p) => ycv hr (b := false) (decide_eq_false (by omega)) (by omega))
 have HB := zH ht3; have HS := zH (yxp (x := (D.1 : Int)) ht2 (by omega))
 have HP : Hid ((if b = true then k + ESC.size else k) = p) := hp
 have hpI : (p : Int) <= (s.size : Int) := by omega
 have htI : (t.size : Int) = (D.2 : Int) := by omega
 clear h hb hp ht2 ht3 hne hD
 go_enter Tryz.func171, Tryz.ntmps171
 go_wp2_with (first
  | (go_at_call 126; refine HT.out.mono ?_; rintro e w1 ⟨rfl, hr, hm⟩; rw [HP.out] at hr; have HR := zH hr; have HM := zH hm; clear hr hm)
  | (go_at_call 81; refine (HD.out _ HR.out).mono ?_; rintro e w2 ⟨rfl, m, rfl⟩))
 have HR2 := zH (HR.out.below (yac w1 m) (zN _)); have HM2 := zH (HM.out.trans (Mv.of_below (yac w1 m))); generalize w1.drewN m = w2 at HR2 HM2 |-; clear HR HM HD HT; have c0 := HR2.out.c0; have c1 := HR2.out.c1
 go_still_tail 9, (by kernel_rfl)
 change wpList _ _ _ _ _ w2.drew
 have HR3 := zH (HR2.out.below (yac w2 1) (zN _)); have HM3 := zH (HM2.out.trans (Mv.of_below (yac w2 1)))
 change Hid (RD TP w2.drew g s p) at HR3
 change Hid (Mv g w w2.drew) at HM3
 generalize w2.drew = w3 at HR3 HM3 |-; clear c0 c1 HR2 HM2
 go_wp2_with (first
  | (go_at_call 202; refine (HB.out _).mono ?_; rintro e w4 ⟨rfl, hb⟩; have HR4 := zH (HR3.out.below hb (zN _)); have HM4 := zH (HM3.out.trans (Mv.of_below hb)); have c1 := HR4.out.c1; have c2 := HR4.out.fz; clear hb)
  | (go_at_call 188; refine (HS.out _).mono ?_; rintro e w5 ⟨⟨g0, c, rfl, hc, c5⟩, hb⟩; have HB5 := zH hb; have hcI : (1 : Int) <= (c : Int) := (by omega); clear hb))
 go_ret2
 have hr4 : RD TP (w4.setCell ⟨g, 1, none⟩ (.int .i64 ((p : Int) + (D.2 : Int)))) g s (p + D.2) := HR4.out.set' (by omega)
 exact ⟨rfl, hr4.below HB5.out (zN _), (HM4.out.trans (Mv.set _ _)).trans (Mv.of_below HB5.out)⟩
theorem yxq {w : World} {g : Nat} {s : ByteArray} {k : Nat} (h : RD TP w g s k) (hk : k + 1 = s.size) (hs : s.size <= 1000000) (hb : gb s.data.toList k = 92) :
  Calls Tryz.prog 171 #[.pointer (some ⟨g, 0, none⟩)] w fun e w' => e = .returned (.tuple #[.int .i64 0, .bool false]) /\ RD TP w' g s (k + 1) /\ Mv g w w' := by
 have HT := zH (yeg (p := ESC) (b := true) h ((ywa (by omega)).trans (decide_eq_true hb)) (by omega) hs)
 have HD := zH (fun w' (hr : RD TP w' g s (k + 1)) => ycv hr (b := true) (decide_eq_true (by omega)) (by omega))
 clear h hb
 go_enter Tryz.func171, Tryz.ntmps171
 go_wp2_with (first
  | (go_at_call 126; refine HT.out.mono ?_; rintro e w1 ⟨rfl, hr, hm⟩; have HR : Hid (RD TP w1 g s (k + 1)) := hr; have HM := zH hm; clear hr hm)
  | (go_at_call 81; refine (HD.out _ HR.out).mono ?_; rintro e w2 ⟨rfl, m, rfl⟩))
 go_ret2
 exact ⟨rfl, HR.out.below (yac w1 m) (zN _), HM.out.trans (Mv.of_below (yac w1 m))⟩
theorem yfa {w : World} {g : Nat} {s : ByteArray} {k : Nat} (h : RD TP w g s k) (hk : k < s.size) (hs : s.size <= 1000000) {b : Bool} {x : Int} {n : Nat} (he : sg1 (s.data.toList.drop k) = (b, x, n)) :
  Calls Tryz.prog 171 #[.pointer (some ⟨g, 0, none⟩)] w fun e w' => e = .returned (.tuple #[.int .i64 x, .bool b]) /\ RD TP w' g s (k + n) /\ Mv g w w' := by
 have hl : (s.data.toList.drop k).length = s.size - k := by rw [List.length_drop, T2.ba_len]
 unfold sg1 at he; rw [yea, Nat.add_zero, hl, List.drop_drop] at he
 by_cases h92 : gb s.data.toList k = 92
 ·rw [if_pos h92] at he
  by_cases h1 : s.size - k <= 1
  ·rw [if_pos h1] at he
   cases he
   exact yxq h (by omega) hs h92
  ·rw [if_neg h1] at he
   cases he
   refine (ysv h hk hs (decide_eq_true h92) rfl (by rw [if_pos rfl]; omega) rfl).mono fun e w' hh => ?_
   simp only [if_true, if_pos] at hh; rw [<- Nat.add_assoc]; exact hh
 ·rw [if_neg h92] at he
  cases he
  refine (ysv h hk hs (decide_eq_false h92) rfl (by rw [if_neg (by simp)]; exact hk) rfl).mono fun e w' hh => ?_
  simp only [Bool.false_eq_true, if_false] at hh; exact hh
end Go.Proofs.YteibnfeokgibmaaGreat.S6
