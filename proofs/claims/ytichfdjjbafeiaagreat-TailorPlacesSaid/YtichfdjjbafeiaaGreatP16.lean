/-
  PACKED for a claim.
-/
import Derived.Outline
import Derived.Test.YtichfdjjbafeiaaGreatP07
import Derived.Test.YtichfdjjbafeiaaGreatP13
import Derived.Test.YtichfdjjbafeiaaGreatP14
import Derived.Test.YtichfdjjbafeiaaGreatP15
set_option linter.unusedVariables false
set_option linter.unusedSimpArgs false
set_option maxRecDepth 100000
namespace Go.Proofs.YtichfdjjbafeiaaGreat
open Go.RowKit
theorem yja (p s t : Nat) (v : Bool) (hp : p < 65536) (hs : s < 256) (ht : t < 128) (w : World) :
  Calls Tryz.prog 100 #[.int .i64 p, .int .i64 s, .int .i64 t, .bool v] w fun e w' => e = .returned (.int .u32 (E3.mk p s t (if v then 1 else 0) : Nat)) /\ w = w' := by
 have HC := zH (fun w => E3.make_d p s t v hp hs ht w)
 obtain ⟨r, hr⟩ : ∃ r, E3.mk p s t (if v then 1 else 0) = r := ⟨_, rfl⟩
 rw [hr] at HC |-; clear hr
 go_enter Tryz.func100, Tryz.ntmps100
 go_wp2_with (go_at_call 141; refine (HC.out _).mono ?_; rintro e w' ⟨rfl, rfl⟩)
 go_ret
 exact ⟨rfl, rfl⟩
theorem ydv {x y z : Int} {p s t : Nat} {v : Bool} {r : Nat} (hx : (p : Int) = x) (hy : (s : Int) = y) (hz : (t : Int) = z) (hp : p < 65536) (hs : s < 256) (ht : t < 128) (hr : E3.mk p s t (if v then 1 else 0) = r) (w : World) :
  Calls Tryz.prog 100 #[.int .i64 x, .int .i64 y, .int .i64 z, .bool v] w fun e w' => e = .returned (.int .u32 r) /\ w = w' := by
 rw [<- hx, <- hy, <- hz, <- hr]; exact yja p s t v hp hs ht w
theorem yqr (c : Int) (w : World) : Calls Tryz.prog 142 #[.int .i64 c] w fun e w' => e = .returned (.int .i64 (mkS c : Nat)) /\ w = w' := by
 unfold mkS
 by_cases h1 : c = 768
 ·subst h1
  go_enter Tryz.func142, Tryz.ntmps142
  go_wp2
  go_ret
  exact ⟨rfl, rfl⟩
 by_cases h2 : c = 769
 ·subst h2
  go_enter Tryz.func142, Tryz.ntmps142
  go_wp2
  go_ret
  exact ⟨rfl, rfl⟩
 by_cases h3 : c = 770
 ·subst h3
  go_enter Tryz.func142, Tryz.ntmps142
  go_wp2
  go_ret
  exact ⟨rfl, rfl⟩
 by_cases h4 : c = 771
 ·subst h4
  go_enter Tryz.func142, Tryz.ntmps142
  go_wp2
  go_ret
  exact ⟨rfl, rfl⟩
 by_cases h5 : c = 772
 ·subst h5
  go_enter Tryz.func142, Tryz.ntmps142
  go_wp2
  go_ret
  exact ⟨rfl, rfl⟩
 by_cases h6 : c = 776
 ·subst h6
  go_enter Tryz.func142, Tryz.ntmps142
  go_wp2
  go_ret
  exact ⟨rfl, rfl⟩
 by_cases h7 : c = 778
 ·subst h7
  go_enter Tryz.func142, Tryz.ntmps142
  go_wp2
  go_ret
  exact ⟨rfl, rfl⟩
 by_cases h8 : c = 807
 ·subst h8
  go_enter Tryz.func142, Tryz.ntmps142
  go_wp2
  go_ret
  exact ⟨rfl, rfl⟩
 rw [if_neg h1, if_neg h2, if_neg h3, if_neg h4, if_neg h5, if_neg h6, if_neg h7, if_neg h8]
 have g1 : (c == 768) = false := by simpa using h1
 have g2 : (c == 769) = false := by simpa using h2
 have g3 : (c == 770) = false := by simpa using h3
 have g4 : (c == 771) = false := by simpa using h4
 have g5 : (c == 772) = false := by simpa using h5
 have g6 : (c == 776) = false := by simpa using h6
 have g7 : (c == 778) = false := by simpa using h7
 have g8 : (c == 807) = false := by simpa using h8
 clear h1 h2 h3 h4 h5 h6 h7 h8
 go_enter Tryz.func142, Tryz.ntmps142
 go_wp2
 go_ret
 exact ⟨rfl, rfl⟩
theorem mkS_lt (c : Int) : mkS c < 256 := by unfold mkS; repeat' split <;> try omega
theorem yfn (c : Int) (w : World) : Calls Tryz.prog 102 #[.int .i64 c] w fun e w' => e = .returned (.int .u32 (mkW c : Nat)) /\ w = w' := by
 have HC := zH (fun w => yqr c w)
 have HW := zH (fun w => yja 0 (mkS c) 2 false (by omega) (mkS_lt c) (by omega) w)
 have hm : E3.mk 0 (mkS c) 2 (if false = true then 1 else 0) = mkW c := rfl
 rw [hm] at HW; obtain ⟨r, hr⟩ : ∃ r, mkW c = r := ⟨_, rfl⟩; obtain ⟨s, hs⟩ : ∃ s, mkS c = s := ⟨_, rfl⟩; rw [hr] at HW |-; rw [hs] at HC HW; clear hr hs hm
 go_enter Tryz.func102, Tryz.ntmps102
 go_wp2_with (first
  | (go_at_call 142; refine (HC.out _).mono ?_; rintro e w' ⟨rfl, rfl⟩)
  | (go_at_call 100; refine (HW.out _).mono ?_; rintro e w' ⟨rfl, rfl⟩))
 go_ret
 exact ⟨rfl, rfl⟩
theorem yfh (c : Nat) (h1 : 97 <= c) (h2 : c <= 122) (w : World) : Calls Tryz.prog 101 #[.int .i64 (c : Int)] w fun e w' => e = .returned (.int .u32 (letW c : Nat)) /\ w = w' := by
 have hl : letW c = E3.mk (256 + 8 * (c - 97)) 32 2 0 := by unfold letW; rw [if_neg (by omega)]
 obtain ⟨r, hr⟩ : ∃ r, letW c = r := ⟨_, rfl⟩; rw [hr] at hl |-; have HW := zH (fun w => ydv (x := 256 + 8 * ((c : Int) - 97)) (p := 256 + 8 * (c - 97)) (y := 32) (z := 2) (s := 32) (t := 2) (v := false) (by omega) rfl rfl (by omega) (by omega) (by omega) hl.symm w)
 clear hl hr
 have i1 : (90 : Int) < (c : Int) := by omega
 have i2 : (c : Int) <= 122 := by omega
 have i3 : (97 : Int) <= (c : Int) := by omega
 go_enter Tryz.func101, Tryz.ntmps101
 go_wp2_with (go_at_call 100; refine (HW.out _).mono ?_; rintro e w' ⟨rfl, rfl⟩)
 go_ret
 exact ⟨rfl, rfl⟩
theorem yjn (c : Nat) (h1 : 65 <= c) (h2 : c <= 90) (w : World) : Calls Tryz.prog 101 #[.int .i64 (c : Int)] w fun e w' => e = .returned (.int .u32 (letW c : Nat)) /\ w = w' := by
 have HL := zH (fun w => yfh (c + 32) (by omega) (by omega) w)
 have hl : letW (c + 32) = E3.mk (256 + 8 * (c - 65)) 32 2 0 := by unfold letW; rw [if_neg (by omega), show c + 32 - 97 = c - 65 by omega]
 have hl2 : letW c = E3.mk (256 + 8 * (c - 65)) 32 8 0 := by unfold letW; rw [if_pos (by omega)]
 have h3 : letW (c + 32) < 4294967296 := by rw [hl]; unfold E3.mk; omega
 have hw : ∀ w, Calls Tryz.prog 103 #[.int .u32 (letW (c + 32) : Nat), .int .i64 3, .int .i64 8] w fun r w' => r = .returned (.int .u32 (letW c : Nat)) /\ w = w' := fun w =>
  E3.yhw (e := letW (c + 32)) (v := 8) (n := letW c) (by show _ = _; rw [hl, hl2]; unfold E3.mk; omega) h3 (by omega) (by omega) w
 obtain ⟨r, hr⟩ : ∃ r, letW (c + 32) = r := ⟨_, rfl⟩; obtain ⟨q, hq⟩ : ∃ q, letW c = q := ⟨_, rfl⟩; rw [hr] at HL hw; rw [hq] at hw |-; have HW := zH hw
 have i1 : (c : Int) <= 90 := by omega
 have i3 : (65 : Int) <= (c : Int) := by omega
 have HL2 : Hid (∀ w, Calls Tryz.prog 101 #[.int .i64 ((c : Int) + 32)] w fun e w' => e = .returned (.int .u32 (r : Nat)) /\ w = w') := HL.out
 clear hl hl2 h3 hw hr hq HL
 go_enter Tryz.func101, Tryz.ntmps101
 go_wp2_with (first
  | (go_at_call 101; refine (HL2.out _).mono ?_; rintro e w' ⟨rfl, rfl⟩)
  | (go_at_call 103; refine (HW.out _).mono ?_; rintro e w' ⟨rfl, rfl⟩))
 go_ret
 exact ⟨rfl, rfl⟩
theorem ybg {c : Nat} (h : (65 <= c /\ c <= 90) \/ (97 <= c /\ c <= 122)) {x : Int} (hx : (c : Int) = x) {r : Nat} (hr : letW c = r) (w : World) : Calls Tryz.prog 101 #[.int .i64 x] w fun e w' => e = .returned (.int .u32 (r : Nat)) /\ w = w' := by
 rw [<- hx, <- hr]
 rcases h with h | h
 ·exact yjn c h.1 h.2 w
 ·exact yfh c h.1 h.2 w
theorem yjy {v : Value} {l : List Int} {F : Nat -> Prop} {w : World} (h : RdI F w v l) (hm : l.length <= 200000) :
  Calls Tryz.prog 139 #[v] w fun e w' => e = .returned (.bool (sgsB l)) /\ Below w.heap.size w w' := by
 have HC := zH (T2.ysj v l w h.rd hm)
 have hb : sgsB l = (T2.bytE l != 1) := by
  unfold sgsB T2.bytE
  by_cases h1 : l.all T2.isSg = true
  ·rw [if_pos h1, h1]; split <;> rfl
  ·rw [if_neg h1]; simp only [Bool.not_eq_true] at h1; rw [h1]; rfl
 obtain ⟨S, hS⟩ : ∃ S, T2.bytL l = S := ⟨_, rfl⟩; obtain ⟨E, hE⟩ : ∃ E, T2.bytE l = E := ⟨_, rfl⟩; rw [hS, hE] at HC; rw [hE] at hb; obtain ⟨A, c, rfl⟩ := h.form; rw [hb]; clear hS hE hb h
 go_enter Tryz.func139, Tryz.ntmps139
 go_wp2_with (go_at_call 165; refine (HC.out).mono ?_; rintro e w' ⟨rfl, hb⟩)
 go_ret
 exact ⟨rfl, hb⟩
theorem ybh {v : Value} {l : List Int} {b : Bool} (hb : sgsB l = b) {F : Nat -> Prop} {w : World} (h : RdI F w v l) (hm : l.length <= 200000) :
  Calls Tryz.prog 139 #[v] w fun e w' => e = .returned (.bool b) /\ Below w.heap.size w w' := by
 rw [<- hb]; exact yjy h hm
theorem ybd {lv e p : Nat} (hl : Lv lv) (h : wgt lv e = p) (he : e < 4294967296) (w : World) :
  Calls Tryz.prog 17 #[.int .u32 (e : Nat), .int .i64 (lv : Nat)] w fun r w' => r = .returned (.int .i64 (p : Nat)) /\ w = w' := by
 rcases hl with rfl | rfl | rfl
 ·exact E3.ydu h he w
 ·exact E3.yfr h he w
 ·exact E3.yfq h he w
theorem yhv {lv e v n : Nat} (hl : Lv lv) (h : putW lv e v = n) (he : e < 4294967296) (hv : v <= 1000000) (w : World) :
  Calls Tryz.prog 103 #[.int .u32 (e : Nat), .int .i64 (lv : Nat), .int .i64 (v : Nat)] w fun r w' => r = .returned (.int .u32 (n : Nat)) /\ w = w' := by
 subst h
 rcases hl with rfl | rfl | rfl
 ·exact E3.ypa (by show _ = _; unfold putW; rw [if_pos rfl]; omega) he (by omega) (by omega) w
 ·exact E3.yoz (by show _ = _; unfold putW; rw [if_neg (by omega), if_pos rfl]; omega) he (by omega) (by omega) w
 ·exact E3.yhw (by show _ = _; unfold putW; rw [if_neg (by omega), if_neg (by omega)]; omega) he (by omega) (by omega) w
theorem ybu {lv t : Nat} (hl : Lv lv) (h : topW lv = t) (w : World) :
  Calls Tryz.prog 154 #[.int .i64 (lv : Nat)] w fun r w' => r = .returned (.int .i64 (t : Nat)) /\ w = w' := by
 subst h
 rcases hl with rfl | rfl | rfl
 ·show Calls _ _ #[.int .i64 1] _ _
  go_enter Tryz.func154, Tryz.ntmps154
  go_wp2
  go_ret
  exact ⟨rfl, rfl⟩
 ·show Calls _ _ #[.int .i64 2] _ _
  go_enter Tryz.func154, Tryz.ntmps154
  go_wp2
  go_ret
  exact ⟨rfl, rfl⟩
 ·show Calls _ _ #[.int .i64 3] _ _
  go_enter Tryz.func154, Tryz.ntmps154
  go_wp2
  go_ret
  exact ⟨rfl, rfl⟩
theorem lv_wgt {lv e : Nat} (hl : Lv lv) (he : e < 4294967296) : wgt lv e <= 65535 := by
 have := ywa (lv := lv) he
 rcases hl with rfl | rfl | rfl <;> simp [topW] at this <;> omega
theorem yjf {lv fr e r b1 b2 : Nat} (hl : Lv lv) (he : e < 4294967296) (hr : up lv fr e = r) {w : World} (h1 : w.cell? ⟨b1, 0, none⟩ = some (.int .i64 (lv : Nat))) (h2 : w.cell? ⟨b2, 0, none⟩ = some (.int .i64 (fr : Nat))) :
  Calls Tryz.prog 175 #[.int .u32 (e : Nat), .pointer (some ⟨b1, 0, none⟩), .pointer (some ⟨b2, 0, none⟩)] w fun q w' => q = .returned (.int .u32 (r : Nat)) /\ w = w' := by
 obtain ⟨p, hp⟩ : ∃ p, wgt lv e = p := ⟨_, rfl⟩; obtain ⟨t, ht⟩ : ∃ t, topW lv = t := ⟨_, rfl⟩; have CW := zH (fun w => ybd hl hp he w)
 have CG := zH (fun w => ybu hl ht w)
 have hp5 := lv_wgt hl he; unfold up at hr; rw [hp, ht] at hr; rw [hp] at hp5
 by_cases c1 : p <= fr
 ·rw [if_pos (.inl c1)] at hr; subst hr
  have c1I : (p : Int) <= (fr : Int) := by omega
  clear hp ht hp5 c1
  go_enter Tryz.func175, Tryz.ntmps175
  go_wp2_with (go_at_call 17; refine (CW.out _).mono ?_; rintro q w' ⟨rfl, rfl⟩)
  go_ret
  exact ⟨rfl, rfl⟩
 ·have c1I : ¬ (p : Int) <= (fr : Int) := by omega
  have c1b : decide ((p : Int) <= (fr : Int)) = false := decide_eq_false c1I
  by_cases c2 : t < p
  ·rw [if_pos (.inr c2)] at hr; subst hr
   have c2I : (t : Int) < (p : Int) := by omega
   clear hp ht hp5 c1 c2
   go_enter Tryz.func175, Tryz.ntmps175
   go_wp2_with (first | (go_at_call 17; refine (CW.out _).mono ?_; rintro q w' ⟨rfl, rfl⟩) | (go_at_call 154; refine (CG.out _).mono ?_; rintro q w' ⟨rfl, rfl⟩))
   go_ret
   exact ⟨rfl, rfl⟩
  ·rw [if_neg (by omega)] at hr
   have CP := zH (fun w => yhv hl hr he (by omega) w)
   have c2I : ¬ (t : Int) < (p : Int) := by omega
   have c2b : decide ((t : Int) < (p : Int)) = false := decide_eq_false c2I
   have hsum : (p : Int) + 1 = ((p + 1 : Nat) : Int) := by omega
   have hpI : (p : Int) <= 65535 := by omega
   obtain ⟨p1, hp1⟩ : ∃ p1, p + 1 = p1 := ⟨_, rfl⟩; rw [hp1] at hsum CP
   have hwr : IntKind.i64.wrap ((p : Int) + 1) = (p1 : Int) := by rw [hsum]; rw [IntKind.wrap_i64]; omega
   clear hp ht c1 c2 hr hsum hp1 hp5 hpI
   go_enter Tryz.func175, Tryz.ntmps175
   go_wp2_with (first | (go_at_call 17; refine (CW.out _).mono ?_; rintro q w' ⟨rfl, rfl⟩) | (go_at_call 154; refine (CG.out _).mono ?_; rintro q w' ⟨rfl, rfl⟩) | (go_at_call 103; refine (CP.out _).mono ?_; rintro q w' ⟨rfl, rfl⟩))
   go_ret
   exact ⟨rfl, rfl⟩
theorem yuh {lv k r : Nat} (hl : Lv lv) (hk : k < 4294967296) (h1 : wgt lv k <= topW lv) (hr : nxt lv k = r) (w : World) :
  Calls Tryz.prog 157 #[.int .u32 (k : Nat), .int .i64 (lv : Nat)] w fun q w' => q = .returned (.int .u32 (r : Nat)) /\ w = w' := by
 obtain ⟨p, hp⟩ : ∃ p, wgt lv k = p := ⟨_, rfl⟩; have CW := zH (fun w => ybd hl hp hk w)
 have hp5 := lv_wgt hl hk; rw [hp] at hp5 h1
 have hwr : IntKind.i64.wrap ((p : Int) + 1) = ((p + 1 : Nat) : Int) := by rw [show (p : Int) + 1 = ((p + 1 : Nat) : Int) by omega]; rw [IntKind.wrap_i64]; omega
 have hp6 : p + 1 <= 1000000 := by omega
 unfold nxt at hr
 rcases hl with rfl | rfl | rfl
 ·rw [if_pos rfl, hp] at hr; have CM := zH (fun w => E3.make_d (p + 1) 32 2 false (by have : topW 1 = 64255 := rfl; omega) (by omega) (by omega) w)
  rw [show (if (false : Bool) = true then 1 else 0) = 0 from rfl, hr] at CM
  obtain ⟨p1, hp1⟩ : ∃ p1, p + 1 = p1 := ⟨_, rfl⟩; rw [hp1] at hwr CM; clear hp hr h1 hp5 hp1 hp6
  show Calls _ _ #[.int .u32 (k : Nat), .int .i64 1] _ _
  have CW1 : Hid (∀ w, Calls Tryz.prog 17 #[.int .u32 (k : Nat), .int .i64 1] w fun r w' => r = .returned (.int .i64 (p : Nat)) /\ w = w') := CW.out
  clear CW
  go_enter Tryz.func157, Tryz.ntmps157
  go_wp2_with (first | (go_at_call 17; refine (CW1.out _).mono ?_; rintro q w' ⟨rfl, rfl⟩) | (go_at_call 141; refine (CM.out _).mono ?_; rintro q w' ⟨rfl, rfl⟩))
  go_ret
  exact ⟨rfl, rfl⟩
 ·rw [if_neg (by omega), if_pos rfl, hp] at hr
  obtain ⟨m, hm⟩ : ∃ m, putW 2 k (p + 1) = m := ⟨_, rfl⟩
  have hmlt : m < 4294967296 := by rw [<- hm]; exact put_lt hk
  have CP : Hid (∀ w, Calls Tryz.prog 103 #[.int .u32 (k : Nat), .int .i64 2, .int .i64 ((p + 1 : Nat) : Int)] w fun r w' => r = .returned (.int .u32 (m : Nat)) /\ w = w') := fun w => yhv (.inr (.inl rfl)) hm hk hp6 w
  rw [hm] at hr
  have CQ : Hid (∀ w, Calls Tryz.prog 103 #[.int .u32 (m : Nat), .int .i64 3, .int .i64 2] w fun q w' => q = .returned (.int .u32 (r : Nat)) /\ w = w') := fun w => yhv (.inr (.inr rfl)) hr hmlt (by omega) w
  obtain ⟨p1, hp1⟩ : ∃ p1, p + 1 = p1 := ⟨_, rfl⟩; rw [hp1] at hwr CP; clear hp hr h1 hp5 hp1 hp6 hm hmlt
  show Calls _ _ #[.int .u32 (k : Nat), .int .i64 2] _ _
  have CW1 : Hid (∀ w, Calls Tryz.prog 17 #[.int .u32 (k : Nat), .int .i64 2] w fun r w' => r = .returned (.int .i64 (p : Nat)) /\ w = w') := CW.out
  clear CW
  have tok : True := trivial
  go_enter Tryz.func157, Tryz.ntmps157
  go_wp2_with (first | (go_at_call 17; refine (CW1.out _).mono ?_; rintro q w' ⟨rfl, rfl⟩) | (go_at_call 103; have _t := tok; refine (CP.out _).mono ?_; rintro q w' ⟨rfl, rfl⟩; clear _t tok) | (go_at_call 103; refine (CQ.out _).mono ?_; rintro q w' ⟨rfl, rfl⟩))
  go_ret
  exact ⟨rfl, rfl⟩
 ·rw [if_neg (by omega), if_neg (by omega), hp] at hr
  have CP : Hid (∀ w, Calls Tryz.prog 103 #[.int .u32 (k : Nat), .int .i64 3, .int .i64 ((p + 1 : Nat) : Int)] w fun q w' => q = .returned (.int .u32 (r : Nat)) /\ w = w') := fun w => yhv (.inr (.inr rfl)) hr hk hp6 w
  obtain ⟨p1, hp1⟩ : ∃ p1, p + 1 = p1 := ⟨_, rfl⟩; rw [hp1] at hwr CP; clear hp hr h1 hp5 hp1 hp6
  show Calls _ _ #[.int .u32 (k : Nat), .int .i64 3] _ _
  have CW1 : Hid (∀ w, Calls Tryz.prog 17 #[.int .u32 (k : Nat), .int .i64 3] w fun r w' => r = .returned (.int .i64 (p : Nat)) /\ w = w') := CW.out
  clear CW
  go_enter Tryz.func157, Tryz.ntmps157
  go_wp2_with (first | (go_at_call 17; refine (CW1.out _).mono ?_; rintro q w' ⟨rfl, rfl⟩) | (go_at_call 103; refine (CP.out _).mono ?_; rintro q w' ⟨rfl, rfl⟩))
  go_ret
  exact ⟨rfl, rfl⟩
end Go.Proofs.YtichfdjjbafeiaaGreat
