/-
  PACKED for a claim.
-/
import Derived.Test.YteibnfeokgibmaaGreatP46
set_option linter.unusedVariables false
set_option linter.unusedSimpArgs false
set_option maxRecDepth 100000
namespace Go.Proofs.YteibnfeokgibmaaGreat.S6
open Go.RowKit
open T2 (gb dec one isSg isPt sgs)
abbrev TD : TypeId := 148
set_option maxHeartbeats 1000000 in
theorem yir {w : World} {g : Nat} {s : ByteArray} {k : Nat} (h : RD TD w g s k) (hk : k <= s.size) (hs : s.size <= 1000000) :
  Calls Tryz.prog 87 #[.pointer (some ⟨g, 0, none⟩)] w fun e w' => e = .returned (.tuple #[]) /\ RD TD w' g s (af s.data.toList k) /\ Mv g w w' := by
 have HR := zH h; obtain ⟨K, hK⟩ : ∃ K, af s.data.toList k = K := ⟨_, rfl⟩; rw [hK]; have HK := zH hK; clear h hK
 go_enter Tryz.func87, Tryz.ntmps87
 go_wp2
 go_loopg [] (s.size - k) (fun n wr => ∃ j : Nat, j <= s.size /\ n = s.size - j /\ Hid (af s.data.toList j = K) /\ Hid (RD TD wr g s j) /\ Hid (Mv g w wr))
 case atStart => exact ⟨k, hk, rfl, HK.out, HR.out, Mv.refl _ _⟩
 case round =>
  obtain ⟨j, hj, rfl, HJ, HRJ, HM⟩ := hrel; clear HR HK hk; have c0 := HRJ.out.c0; have c1 := HRJ.out.c1
  by_cases hlt : j < s.size
  ·have hbx := T2.gb_lt s.data.toList j; obtain ⟨x, hx⟩ : ∃ x, gb s.data.toList j = x := ⟨_, rfl⟩
   have hx2 : s[j].toNat = x := by rw [gb_s hlt, hx]
   rw [hx] at hbx
   have hltI : (j : Int) < (s.size : Int) := by omega
   by_cases hb : isBl x = true
   ·have HB0 : Hid (isBl (gb s.data.toList j) = true) := by show _ = _; rw [hx, hb]
    have hor : x = 32 \/ x = 10 := by unfold isBl at hb; simpa using hb
    clear hx hb
    rcases hor with rfl | rfl
    ·go_wp2
     go_quiet (fail)
     have HW := zH (yac wr nq); generalize wr.drewN nq = w1 at HW |-; have hr1 := HRJ.out.below HW.out (zN _); clear c0 c1; have c1 := hr1.c1; have c2 := hr1.fz; have HR1 := zH hr1; have HM1 := zH (HM.out.trans (Mv.of_below HW.out)); clear hr1 HRJ HM HW
     go_wp2
     go_roundg (s.size - (j + 1))
     case measure => omega
     case rel => exact ⟨j + 1, by omega, rfl, (blk_in (by exact hlt) HB0.out).symm.trans HJ.out, HR1.out.set' (by omega), HM1.out.trans (Mv.set _ _)⟩
    ·go_wp2
     go_quiet (fail)
     have HW := zH (yac wr nq); generalize wr.drewN nq = w1 at HW |-; have hr1 := HRJ.out.below HW.out (zN _); clear c0 c1; have c1 := hr1.c1; have c2 := hr1.fz; have HR1 := zH hr1; have HM1 := zH (HM.out.trans (Mv.of_below HW.out)); clear hr1 HRJ HM HW
     go_wp2
     go_roundg (s.size - (j + 1))
     case measure => omega
     case rel => exact ⟨j + 1, by omega, rfl, (blk_in (by exact hlt) HB0.out).symm.trans HJ.out, HR1.out.set' (by omega), HM1.out.trans (Mv.set _ _)⟩
   ·have HB0 : Hid (isBl (gb s.data.toList j) = false) := by show _ = _; rw [hx]; simpa using hb
    have h32 : ((x : Int) == 32) = false := by unfold isBl at hb; simp at hb |-; omega
    have h10 : ((x : Int) == 10) = false := by unfold isBl at hb; simp at hb |-; omega
    clear hx hb
    go_wp2
    go_quiet (fail)
    have HW := zH (yac wr nq); generalize wr.drewN nq = w1 at HW |-
    go_wp2
    have := HJ.out
    rw [ylb HB0.out] at this; exact bodyPost_end (v := .tuple #[]) (by simp [results, Tryz.results87, go_sem]) rfl ⟨rfl, by rw [<- this]; exact HRJ.out.below HW.out (zN _), HM.out.trans (Mv.of_below HW.out)⟩
  ·have hltI : ¬ (j : Int) < (s.size : Int) := by omega
   go_wp2
   go_quiet (fail)
   have HW := zH (yac wr nq); generalize wr.drewN nq = w1 at HW |-
   go_wp2
   have := HJ.out
   rw [yny (by show s.size <= j; omega)] at this
   exact bodyPost_end (v := .tuple #[]) (by simp [results, Tryz.results87, go_sem]) rfl ⟨rfl, by rw [<- this]; exact HRJ.out.below HW.out (zN _), HM.out.trans (Mv.of_below HW.out)⟩
theorem yzr {l : List UInt8} {m : Nat} (h1 : 1 <= m) (h : m <= lts l) : (m < lts l ↔ m < 3 /\ gb l m = 60) := by
 unfold lts at *
 by_cases c1 : gb l 1 = 60
 ·rw [if_pos c1] at *
  by_cases c2 : gb l 2 = 60
  ·rw [if_pos c2] at *; obtain rfl | rfl | rfl : m = 1 \/ m = 2 \/ m = 3 := by omega
   ·simp [c1]
   ·simp [c2]
   ·simp
  ·rw [if_neg c2] at *; obtain rfl | rfl : m = 1 \/ m = 2 := by omega
   ·simp [c1]
   ·simp [c2]
 ·rw [if_neg c1] at *; obtain rfl : m = 1 := by omega
  simp [c1]
theorem yfw {w : World} {g : Nat} {s : ByteArray} {k : Nat} (h : RD TD w g s k) (hk : k < s.size) (hs : s.size <= 1000000) {r : Int} {c : Nat} (hR : (gb s.data.toList k = 38 /\ r = 1 /\ c = 1) \/ (gb s.data.toList k = 61 /\ r = 5 /\ c = 1) \/ (gb s.data.toList k ≠ 38 /\ gb s.data.toList k ≠ 61 /\ gb s.data.toList k ≠ 60 /\ r = 0 /\ c = 0)) :
  Calls Tryz.prog 88 #[.pointer (some ⟨g, 0, none⟩)] w fun e w' => e = .returned (.int .i64 r) /\ RD TD w' g s (k + c) /\ Mv g w w' := by
 have HR := zH h; have c0 := h.c0; have c1 := h.c1; have hbx := T2.gb_lt s.data.toList k; obtain ⟨x, hx⟩ : ∃ x, gb s.data.toList k = x := ⟨_, rfl⟩
 have hx2 : s[k].toNat = x := by rw [gb_s hk, hx]
 rw [hx] at hbx hR
 have hltI : (k : Int) < (s.size : Int) := by omega
 clear h hx
 rcases hR with ⟨rfl, rfl, rfl⟩ | ⟨rfl, rfl, rfl⟩ | ⟨h38, h61, h60, rfl, rfl⟩
 ·go_enter Tryz.func88, Tryz.ntmps88
  go_wp2
  go_quiet (fail)
  have HW := zH (yac w nq); generalize w.drewN nq = w1 at HW |-; have HR1 := zH (HR.out.below HW.out (zN _)); clear c0 c1; have c1 := HR1.out.c1; have c2 := HR1.out.fz
  go_wp2
  go_ret
  exact ⟨rfl, HR1.out.set' (by omega), (Mv.of_below HW.out).trans (Mv.set _ _)⟩
 ·go_enter Tryz.func88, Tryz.ntmps88
  go_wp2
  go_quiet (fail)
  have HW := zH (yac w nq); generalize w.drewN nq = w1 at HW |-; have HR1 := zH (HR.out.below HW.out (zN _)); clear c0 c1; have c1 := HR1.out.c1; have c2 := HR1.out.fz
  go_wp2
  go_ret
  exact ⟨rfl, HR1.out.set' (by omega), (Mv.of_below HW.out).trans (Mv.set _ _)⟩
 ·have i38 : ((x : Int) == 38) = false := by simp; omega
  have i61 : ((x : Int) == 61) = false := by simp; omega
  have i60 : ((x : Int) == 60) = false := by simp; omega
  clear h38 h61 h60
  go_enter Tryz.func88, Tryz.ntmps88
  go_wp2
  go_quiet (fail)
  have HW := zH (yac w nq); generalize w.drewN nq = w1 at HW |-; have HR1 := zH (HR.out.below HW.out (zN _))
  go_wp2
  go_ret
  exact ⟨rfl, HR1.out, Mv.of_below HW.out⟩
set_option maxHeartbeats 1000000 in
theorem yth {w : World} {g : Nat} {s : ByteArray} {k : Nat} (h : RD TD w g s k) (hk : k < s.size) (hs : s.size <= 1000000) (h60 : gb s.data.toList k = 60) {c : Nat} (hc : lts (s.data.toList.drop k) = c) :
  Calls Tryz.prog 88 #[.pointer (some ⟨g, 0, none⟩)] w fun e w' => e = .returned (.int .i64 (1 + (c : Int))) /\ RD TD w' g s (k + c) /\ Mv g w w' := by
 have HR := zH h; have c0 := h.c0; have c1 := h.c1
 have hx2 : s[k].toNat = 60 := by rw [gb_s hk, h60]
 have hltI : (k : Int) < (s.size : Int) := by omega
 have HN := zH (fun m (h1 : 1 <= m) (h2 : m <= c) => by have := yzr (l := s.data.toList.drop k) h1 (by rw [hc]; exact h2); rw [hc, yea] at this; exact this)
 have hc13 := lts_le (s.data.toList.drop k); rw [hc] at hc13; clear h h60 hc
 go_enter Tryz.func88, Tryz.ntmps88
 go_wp2
 go_quiet (fail)
 have HW := zH (yac w nq); generalize w.drewN nq = w1 at HW |-; have HR1 := zH (HR.out.below HW.out (zN _)); clear c0 c1
 go_wp2
 go_loopg [3] 2 (fun n v wr => ∃ m : Nat, v = .int .i64 (m : Nat) /\ 1 <= m /\ m <= c /\ n = 3 - m /\ Hid (RD TD wr g s k) /\ Hid (Below w.heap.size w wr))
 case atStart => exact ⟨1, rfl, zN _, hc13.1, rfl, HR1.out, HW.out⟩
 case round =>
  obtain ⟨m, rfl, hm1, hmc, rfl, HRW, HB⟩ := hrel; clear HR1 HW HR; have c0 := HRW.out.c0; have c1 := HRW.out.c1; have hn := HN.out m hm1 hmc
  by_cases hlt : m < c
  ·obtain ⟨hm3, h60⟩ := hn.1 hlt
   have hkm : k + m < s.size := by
    rcases Nat.lt_or_ge (k + m) s.data.toList.length with h4 | h4
    ·exact h4
    ·rw [gb_out h4] at h60; cases h60
   have hy : s[k + m].toNat = 60 := by rw [gb_s hkm, h60]
   have e1 : ((k : Int) + (m : Int)).toNat = k + m := by omega
   have i1 : (k : Int) + (m : Int) < (s.size : Int) := by omega
   have i3 : (m : Int) < 3 := by omega
   have i4 : (m : Int) <= 3 := by omega
   have ew : IntKind.i64.wrap ((k : Int) + (m : Int)) = (k : Int) + (m : Int) := IntWalk.i64_in _ (by omega)
   have i2 : (0 : Int) <= (k : Int) + (m : Int) := by omega
   clear hn h60
   go_wp2
   go_quiet (fail)
   have HW := zH (yac wr nq); generalize wr.drewN nq = w2 at HW |-
   go_wp2
   go_roundg (3 - (m + 1))
   case measure => omega
   case rel => exact ⟨m + 1, by first | rfl | (congr 1), by omega, by omega, rfl, HRW.out.below HW.out (zN _), HB.out.trans (HW.out.mono HB.out.size)⟩
  ·obtain rfl : m = c := by omega
   have hno : ¬ (m < 3 /\ gb s.data.toList (k + m) = 60) := fun h => hlt (hn.2 h)
   have ew : IntKind.i64.wrap ((k : Int) + (m : Int)) = (k : Int) + (m : Int) := IntWalk.i64_in _ (by omega)
   have i2 : (0 : Int) <= (k : Int) + (m : Int) := by omega
   have hend : ∀ w2 : World, Below wr.heap.size wr w2 -> (RD TD w2 g s k /\ Mv g w w2) := fun w2 hb => ⟨HRW.out.below hb (zN _), (Mv.of_below HB.out).trans (Mv.of_below hb)⟩
   have HE := zH hend; clear hend hn hlt
   by_cases h3 : m < 3
   ·have i3 : (m : Int) < 3 := by omega
    have i4 : (m : Int) <= 3 := by omega
    by_cases hkm : k + m < s.size
    ·have hy0 : gb s.data.toList (k + m) ≠ 60 := fun h => hno ⟨h3, h⟩
     obtain ⟨y, hy⟩ : ∃ y, gb s.data.toList (k + m) = y := ⟨_, rfl⟩
     have hy2 : s[k + m].toNat = y := by rw [gb_s hkm, hy]
     rw [hy] at hy0
     have i60 : ((y : Int) == 60) = false := by simp; omega
     have i1 : (k : Int) + (m : Int) < (s.size : Int) := by omega
     have e1 : ((k : Int) + (m : Int)).toNat = k + m := by omega
     clear hno hy hy0
     go_wp2
     go_quiet (fail)
     have HW := zH (yac wr nq); generalize wr.drewN nq = w2 at HW |-; have HE2 := zH (HE.out w2 HW.out); clear c0 c1; have c1 := HE2.out.1.c1; have c2 := HE2.out.1.fz
     go_wp2
     go_ret
     exact ⟨rfl, HE2.out.1.set' (by omega), HE2.out.2.trans (Mv.set _ _)⟩
    ·have i1 : ¬ (k : Int) + (m : Int) < (s.size : Int) := by omega
     have i1b : decide ((k : Int) + (m : Int) < (s.size : Int)) = false := decide_eq_false i1
     clear hno
     go_wp2
     go_quiet (fail)
     have HW := zH (yac wr nq); generalize wr.drewN nq = w2 at HW |-; have HE2 := zH (HE.out w2 HW.out); clear c0 c1; have c1 := HE2.out.1.c1; have c2 := HE2.out.1.fz
     go_wp2
     go_ret
     exact ⟨rfl, HE2.out.1.set' (by omega), HE2.out.2.trans (Mv.set _ _)⟩
   ·obtain rfl : m = 3 := by omega
    clear hno
    go_wp2
    go_quiet (fail)
    have HW := zH (yac wr nq); generalize wr.drewN nq = w2 at HW |-; have HE2 := zH (HE.out w2 HW.out); clear c0 c1; have c1 := HE2.out.1.c1; have c2 := HE2.out.1.fz
    go_wp2
    go_ret
    exact ⟨rfl, HE2.out.1.set' (by omega), HE2.out.2.trans (Mv.set _ _)⟩
theorem yyd {w : World} {g : Nat} {s : ByteArray} {k : Nat} (h : RD TD w g s k) (hk : k < s.size) (hs : s.size <= 1000000) {r c : Nat} (hR : relD (s.data.toList.drop k) = (r, c)) :
  Calls Tryz.prog 88 #[.pointer (some ⟨g, 0, none⟩)] w fun e w' => e = .returned (.int .i64 (r : Nat)) /\ RD TD w' g s (k + c) /\ Mv g w w' := by
 unfold relD at hR; rw [yea, Nat.add_zero] at hR
 by_cases h38 : gb s.data.toList k = 38
 ·rw [if_pos h38] at hR; cases hR
  exact yfw h hk hs (.inl ⟨h38, rfl, rfl⟩)
 ·rw [if_neg h38] at hR
  by_cases h61 : gb s.data.toList k = 61
  ·rw [if_pos h61] at hR; cases hR
   exact yfw h hk hs (.inr (.inl ⟨h61, rfl, rfl⟩))
  ·rw [if_neg h61] at hR
   by_cases h60 : gb s.data.toList k = 60
   ·rw [if_pos h60] at hR; cases hR
    refine (yth h hk hs h60 rfl).mono fun e w' hh => ?_
    rw [Int.natCast_add]; exact hh
   ·rw [if_neg h60] at hR; cases hR
    exact yfw h hk hs (.inr (.inr ⟨h38, h61, h60, rfl, rfl⟩))
def spcB (c : Int) : Bool := decide (c = 32) || decide (c = 10) || decide (c = 38) || decide (c = 60) || decide (c = 61) || decide (c = 47)
theorem ymw {c : Int} {b : Bool} (hb : spcB c = b) (w : World) : Calls Tryz.prog 136 #[.int .i64 c] w fun e w' => e = .returned (.bool b) /\ w = w' := by
 subst hb
 go_enter Tryz.func136, Tryz.ntmps136
 go_wp2
 all_goals go_ret
 all_goals refine ⟨T2.yee ?_, rfl⟩
 all_goals unfold spcB
 all_goals (apply Bool.eq_iff_iff.2; simp_all)
theorem dec_en {l : List UInt8} (hl : l ≠ []) : spcB ((dec l).1 : Int) = isEn (gb l 0) /\ (((dec l).1 : Int) = 92 ↔ gb l 0 = 92) /\ (gb l 0 = 92 -> dec l = (92, 1)) := by
 have hb := T2.gb_lt l 0; have hi := T2.dec_sg hl
 have key : ∀ (v : Nat), 128 <= v -> 128 <= gb l 0 -> (spcB (v : Int) = isEn (gb l 0) /\ ((v : Int) = 92 ↔ gb l 0 = 92)) := fun v h1 h2 => by
  constructor
  ·unfold spcB isEn; rw [decide_eq_false (by omega), decide_eq_false (by omega), decide_eq_false (by omega), decide_eq_false (by omega), decide_eq_false (by omega), decide_eq_false (by omega), decide_eq_false (by omega), decide_eq_false (by omega), decide_eq_false (by omega), decide_eq_false (by omega), decide_eq_false (by omega), decide_eq_false (by omega)]
  ·omega
 rcases T2.ycd hl with ⟨h, e⟩ | ⟨h, e⟩ | ⟨h, e⟩ | ⟨h, e⟩ | ⟨h, _, _, _, e⟩
 ·rw [e]; simp only
  refine ⟨?_, by omega, fun h92 => by rw [h92]⟩
  unfold spcB isEn
  have c : ∀ n : Nat, decide (((gb l 0 : Nat) : Int) = (n : Int)) = decide (gb l 0 = n) := fun n => by apply Bool.eq_iff_iff.2; simp; omega
  exact congr (congrArg _ (congr (congrArg _ (congr (congrArg _ (congr (congrArg _ (congr (congrArg _ (c 32)) (c 10))) (c 38))) (c 60))) (c 61))) (c 47)
 ·have h' := T2.ybl.1 h; rw [e]; simp only
  have := key (T2.v2 l) (by rw [T2.v2_eq]; omega) (by omega)
  exact ⟨this.1, this.2, fun h92 => by omega⟩
 ·have h' := T2.ybo.1 h; rw [e]; simp only
  have := key (T2.v3 l) (by omega) (by omega)
  exact ⟨this.1, this.2, fun h92 => by omega⟩
 ·have h' := T2.ybu.1 h; rw [e]; simp only
  have := key (T2.v4 l) (by omega) (by omega)
  exact ⟨this.1, this.2, fun h92 => by omega⟩
 ·rw [e]; simp only
  have := key (1114112 + gb l 0) (by omega) (by omega)
  exact ⟨this.1, this.2, fun h92 => by omega⟩
end Go.Proofs.YteibnfeokgibmaaGreat.S6
namespace Go.Proofs.YteibnfeokgibmaaGreat.S6
open Go.RowKit
open T2 (gb dec one isSg isPt sgs)
theorem yom {s : ByteArray} {p : Nat} {D : Nat × Nat} (hp : p < s.size) (hs : s.size <= 1000000) (hD : dec (s.data.toList.drop p) = D) (w : World) :
  Calls Tryz.prog 93 #[.string (s.extract p s.size)] w fun e w' => e = .returned (.tuple #[.int .i64 (D.1 : Int), .int .i64 (D.2 : Int)]) /\ ∃ m, w' = w.drewN m := by
 have h := T2.yna (s.extract p s.size) w (by rw [ByteArray.size_extract]; omega) (by rw [ByteArray.size_extract]; have : maxLen = 9223372036854775807 := by decide
                                                                                     omega)
 rw [T2.yha, hD] at h; exact h
set_option maxHeartbeats 2000000 in
theorem yon {w : World} {g : Nat} {s : ByteArray} {k : Nat} (h : RD TD w g s k) (hk : k <= s.size) (hs : s.size <= 1000000) {b : Bool} {l : List Int} {k' : Nat} (hR : seqD s.data.toList k = (b, l, k')) :
  Calls Tryz.prog 89 #[.pointer (some ⟨g, 0, none⟩)] w
   fun e w' => (∃ A n c, e = .returned (.tuple #[.slice A n c, .bool b]) /\ (b = true -> T2.OwnI w.heap.size w' (.slice A n c) l)) /\ RD TD w' g s k' /\ Mv g w w' := by
 have HT := zH (yir h hk hs); have hle := (af_le (L := s.data.toList) hk).2; rw [T2.ba_len] at hle
 have HF : Hid (colD s.data.toList 3 [] (af s.data.toList k) = (b, l, k')) := hR
 have HG := zH h.lt; obtain ⟨B, hB⟩ : ∃ B, w.heap.size = B := ⟨_, rfl⟩; rw [hB] at HG |-; have HBE := zH hB
 have HBW : Hid (∀ wr, Mv g w wr -> B <= wr.heap.size) := fun wr hm => by have := hm.size; omega
 clear h hR hB
 go_enter Tryz.func89, Tryz.ntmps89
 go_wp2_with (go_at_call 87; refine HT.out.mono ?_; rintro e w1 ⟨rfl, hr, hm⟩; have HR := zH hr; have HM := zH hm; clear hr hm)
 go_loopg [4] 3 (fun n v wr => ∃ (acc : List Int) (j : Nat), acc.length + n = 3 /\ j <= s.size /\ Hid (colD s.data.toList n acc j = (b, l, k')) /\ Hid (T2.OwnI B wr v acc) /\ Hid (RD TD wr g s j) /\ Hid (Mv g w wr))
 case atStart => exact ⟨[], _, rfl, hle, HF.out, T2.OwnI.nil _ _, HR.out, HM.out⟩
 case round =>
  obtain ⟨acc, j, hn, hj, HJ, HO, HRJ, HM⟩ := hrel; clear HR HF hle HT; obtain ⟨A, c, rfl, -⟩ := R4.yai HO.out; obtain ⟨na, hna⟩ : ∃ m, acc.length = m := ⟨_, rfl⟩; have HNA := zH hna; rw [hna] at hn HO |-; clear hna; have c0 := HRJ.out.c0; have c1 := HRJ.out.c1
  by_cases hlt : j < s.size
  ·have hltI : (j : Int) < (s.size : Int) := by omega
   have hjl : (j : Int) <= (s.size : Int) := by omega
   obtain ⟨D, hD⟩ : ∃ D, dec (s.data.toList.drop j) = D := ⟨_, rfl⟩; have HS := zH (yom hlt hs hD); have hde := dec_en (yil hlt); have hdle := T2.dec_le (yil hlt)
   have hsg1 : sg1 (s.data.toList.drop j) = if gb s.data.toList j = 92 then (if s.size - j <= 1 then (false, 0, 1) else (true, ((dec (s.data.toList.drop (j + 1))).1 : Int), 1 + (dec (s.data.toList.drop (j + 1))).2)) else (true, (D.1 : Int), D.2) := by
    unfold sg1; rw [yea, Nat.add_zero, hD, List.length_drop, T2.ba_len, List.drop_drop]
   rw [hD, yea, Nat.add_zero] at hde; rw [hD, List.length_drop, T2.ba_len] at hdle; obtain ⟨hd1, hd2, hd3⟩ := hde; obtain ⟨be, hbe⟩ : ∃ q, isEn (gb s.data.toList j) = q := ⟨_, rfl⟩; rw [hbe] at hd1; have HSP := zH (ymw hd1)
   have hen : endd (s.data.toList.drop j) = be := by rw [yhb, hbe, decide_eq_false (by rw [T2.ba_len]; omega)]; rfl
   have h9 := HJ.out; clear hd1 hD
   go_wp2
   go_quiet (fail)
   have HW := zH (yac wr nq); generalize wr.drewN nq = w2 at HW |-; have HR2 := zH (HRJ.out.below HW.out (zN _)); have HM2 := zH (HM.out.trans (Mv.of_below HW.out)); have HO2 := zH (HO.out.below HW.out (zN _)); clear HW HRJ HM HO c0 c1; have c0 := HR2.out.c0; have c1 := HR2.out.c1
   go_wp2
   go_quiet ((go_at_call 93; with_reducible exact Calls.quiet_of (HS.out _)))
   have HW := zH (yac w2 nq); generalize w2.drewN nq = w3 at HW |-; have HR3 := zH (HR2.out.below HW.out (zN _)); have HM3 := zH (HM2.out.trans (Mv.of_below HW.out)); have HO3 := zH (HO2.out.below HW.out (zN _)); clear HW HR2 HM2 HO2 c0 c1; have c0 := HR3.out.c0; have c1 := HR3.out.c1
   cases be with
   | true =>
    have h9 : (decide (0 < na), acc, j) = (b, l, k') := by
     rw [<- h9, <- HNA.out]
     cases gk <;> rw [colD, if_pos hen]
    have HJ2 := zH h9; clear h9 HJ hsg1 hen hbe hd2 hd3 hdle
    go_wp2_with (go_at_call 136; refine (HSP.out _).mono ?_; rintro e w4 ⟨rfl, rfl⟩)
    go_ret2
    have h9 := HJ2.out
    injection h9 with h1 h2
    injection h2 with h2 h3
    subst h1 h2 h3; exact ⟨⟨_, _, _, rfl, fun _ => HO3.out⟩, HR3.out, HM3.out⟩
   | false =>
    cases gk with
    | zero =>
     rw [colD, if_neg (by rw [hen]; simp)] at h9
     have HJ2 := zH h9; obtain rfl : na = 3 := by omega
     clear h9 HJ hsg1 hen hbe hd2 hd3 hdle
     go_wp2_with (go_at_call 136; refine (HSP.out _).mono ?_; rintro e w4 ⟨rfl, rfl⟩)
     go_ret2
     have h9 := HJ2.out
     injection h9 with h1 h2
     injection h2 with h2 h3
     subst h1 h2 h3; exact ⟨⟨_, _, _, rfl, fun h => by cases h⟩, HR3.out, HM3.out⟩
    | succ n =>
     rw [colD, if_neg (by rw [hen]; simp), hsg1] at h9
     have hn3 : ((na : Int) == 3) = false := by simp; omega
     have hn3' : ¬ na = 3 := by omega
     by_cases h92 : gb s.data.toList j = 92
     ·obtain rfl := hd3 h92; rw [if_pos h92] at h9
      have ew : IntKind.i64.wrap ((j : Int) + 1) = (j : Int) + 1 := IntWalk.i64_in _ (by omega)
      by_cases hl1 : s.size - j <= 1
      ·rw [if_pos hl1] at h9; simp only [Bool.false_eq_true, if_false] at h9; have HJ2 := zH h9
       have i1 : (s.size : Int) <= (j : Int) + 1 := by omega
       clear h9 HJ hsg1 hen hbe hd2 hd3 hdle
       go_wp2_with (go_at_call 136; refine (HSP.out _).mono ?_; rintro e w4 ⟨rfl, rfl⟩)
       go_quiet (fail)
       have HW := zH (yac w3 nq); generalize w3.drewN nq = w5 at HW |-; have HR5 := zH (HR3.out.below HW.out (zN _)); have HM5 := zH (HM3.out.trans (Mv.of_below HW.out)); have HO5 := zH (HO3.out.below HW.out (zN _)); clear HW HR3 HM3 HO3 c0 c1; have c0 := HR5.out.c0; have c1 := HR5.out.c1; have c2 := HR5.out.fz
       go_wp2
       go_ret2
       have h9 := HJ2.out
       injection h9 with h1 h2
       injection h2 with h2 h3
       subst h1 h2 h3; exact ⟨⟨_, _, _, rfl, fun h => by cases h⟩, HR5.out.set' (by omega), HM5.out.trans (Mv.set _ _)⟩
      ·rw [if_neg hl1] at h9; simp only [if_true] at h9
       have i1 : ¬ (s.size : Int) <= (j : Int) + 1 := by omega
       have i1b : decide ((s.size : Int) <= (j : Int) + 1) = false := decide_eq_false i1
       have hj1 : j + 1 < s.size := by omega
       obtain ⟨D2, hD2⟩ : ∃ D, dec (s.data.toList.drop (j + 1)) = D := ⟨_, rfl⟩; have hdle2 := T2.dec_le (yil hj1); rw [hD2, List.length_drop, T2.ba_len] at hdle2; rw [hD2] at h9; have HS2 := zH (yom hj1 hs hD2); have HJ2 := zH h9
       have HL : Hid (acc.length + [(D2.1 : Int)].length <= 10000000) := by show _ <= _; rw [HNA.out, List.length_singleton]; omega
       have e1 : ((j : Int) + 1).toNat = j + 1 := by omega
       have i5 : (0 : Int) <= (j : Int) + 1 := by omega
       have i6 : (j : Int) + 1 <= (s.size : Int) := by omega
       have i7 : (D2.2 : Int) <= 1000000 := by omega
       clear h9 HJ hsg1 hen hbe hd2 hd3 hdle hD2
       go_wp2_with (go_at_call 136; refine (HSP.out _).mono ?_; rintro e w4 ⟨rfl, rfl⟩)
       go_quiet (fail)
       have HW := zH (yac w3 nq); generalize w3.drewN nq = w5 at HW |-; have HR5 := zH (HR3.out.below HW.out (zN _)); have HM5 := zH (HM3.out.trans (Mv.of_below HW.out)); have HO5 := zH (HO3.out.below HW.out (zN _)); clear HW HR3 HM3 HO3 c0 c1; have c0 := HR5.out.c0; have c1 := HR5.out.c1
       go_wp2
       go_quiet ((go_at_call 93; with_reducible exact Calls.quiet_of (HS2.out _)))
       have HW := zH (yac w5 nq); generalize w5.drewN nq = w6 at HW |-; have HR6 := zH (HR5.out.below HW.out (zN _)); have HM6 := zH (HM5.out.trans (Mv.of_below HW.out)); have HO6 := zH (HO5.out.below HW.out (zN _)); clear HW HR5 HM5 HO5 c0 c1; have c0 := HR6.out.c0; have c1 := HR6.out.c1
       go_wp2_with (first
        | (go_at_call 136; refine (HSP.out _).mono ?_; rintro e w4 ⟨rfl, rfl⟩)
        | (at_builtin; refine T2.pushI rfl (.tmp 76) (.tmp 78) rfl _ B _ _ [(D2.1 : Int)] 1 rfl HO6.out rfl (HBW.out _ HM6.out) HL.out ?_; intro v7 w7 ho7 hb7; have HO7 := zH ho7; have HB7 := zH hb7; have HR7 := zH (HR6.out.low hb7 HG.out); have HM7 := zH (HM6.out.low hb7 (Nat.le_of_eq HBE.out)); have d1 := HR7.out.c1; have d2 := HR7.out.fz; clear ho7 hb7))
       go_roundg n
       case measure => omega
       case rel => exact ⟨acc ++ [(D2.1 : Int)], j + (1 + D2.2), by rw [List.length_append, HNA.out, List.length_singleton]; omega, by omega, HJ2.out, own_mv HO7.out (Mv.set w7 _) HG.out, HR7.out.set' (by omega), HM7.out.trans (Mv.set _ _)⟩
     ·rw [if_neg h92] at h9; simp only [if_true] at h9
      have h92I : (((D.1 : Nat) : Int) == 92) = false := by simp only [beq_eq_false_iff_ne, ne_eq]; exact fun h => h92 (hd2.1 h)
      have h92N : ¬ D.1 = 92 := fun h => h92 (hd2.1 (by omega))
      have HJ2 := zH h9
      have HL : Hid (acc.length + [(D.1 : Int)].length <= 10000000) := by show _ <= _; rw [HNA.out, List.length_singleton]; omega
      have i7 : (D.2 : Int) <= 1000000 := by omega
      clear h9 HJ hsg1 hen hbe hd2 hd3
      go_wp2_with (first
       | (go_at_call 136; refine (HSP.out _).mono ?_; rintro e w4 ⟨rfl, rfl⟩)
       | (at_builtin; refine T2.pushI rfl (.tmp 76) (.tmp 78) rfl _ B _ _ [(D.1 : Int)] 1 rfl HO3.out rfl (HBW.out _ HM3.out) HL.out ?_; intro v7 w7 ho7 hb7; have HO7 := zH ho7; have HB7 := zH hb7; have HR7 := zH (HR3.out.low hb7 HG.out); have HM7 := zH (HM3.out.low hb7 (Nat.le_of_eq HBE.out)); have d1 := HR7.out.c1; have d2 := HR7.out.fz; clear ho7 hb7))
      go_roundg n
      case measure => omega
      case rel => exact ⟨acc ++ [(D.1 : Int)], j + D.2, by rw [List.length_append, HNA.out, List.length_singleton]; omega, by omega, HJ2.out, own_mv HO7.out (Mv.set w7 _) HG.out, HR7.out.set' (by omega), HM7.out.trans (Mv.set _ _)⟩
  ·have hltI : ¬ (j : Int) < (s.size : Int) := by omega
   have h9 : (decide (0 < na), acc, j) = (b, l, k') := by
    rw [<- HJ.out, <- HNA.out]
    have hen : endd (s.data.toList.drop j) = true := by rw [yhb, decide_eq_true (by rw [T2.ba_len]; omega)]; rfl
    cases gk <;> rw [colD, if_pos hen]
   have HJ2 := zH h9; clear h9 HJ
   go_wp2
   go_quiet (fail)
   have HW := zH (yac wr nq); generalize wr.drewN nq = w2 at HW |-; have HR2 := zH (HRJ.out.below HW.out (zN _)); have HM2 := zH (HM.out.trans (Mv.of_below HW.out)); have HO2 := zH (HO.out.below HW.out (zN _)); clear HW HRJ HM HO c0 c1; have c0 := HR2.out.c0; have c1 := HR2.out.c1
   go_wp2
   go_ret2
   have h9 := HJ2.out
   injection h9 with h1 h2
   injection h2 with h2 h3
   subst h1 h2 h3; exact ⟨⟨_, _, _, rfl, fun _ => HO2.out⟩, HR2.out, HM2.out⟩
end Go.Proofs.YteibnfeokgibmaaGreat.S6
