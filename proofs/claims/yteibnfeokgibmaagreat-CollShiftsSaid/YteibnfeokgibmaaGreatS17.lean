/-
  PACKED for a claim.
-/
import Derived.Outline
import Derived.Shelf.Abstract
import Derived.Test.YteibnfeokgibmaaGreatS12
import Derived.Test.YteibnfeokgibmaaGreatS16
set_option linter.unusedVariables false
set_option linter.unusedSimpArgs false
set_option maxRecDepth 100000
namespace Go.Proofs.YteibnfeokgibmaaGreat
open Go.RowKit
theorem yjg (p s t : Nat) (v : Bool) (hp : p < 65536) (hs : s < 256) (ht : t < 128) (w : World) :
  Calls Tryz.prog 102 #[.int .i64 p, .int .i64 s, .int .i64 t, .bool v] w fun e w' => e = .returned (.int .u32 (E3.mk p s t (if v then 1 else 0) : Nat)) /\ w = w' := by
 have HC := zH (fun w => E3.make_d p s t v hp hs ht w)
 obtain ⟨r, hr⟩ : ∃ r, E3.mk p s t (if v then 1 else 0) = r := ⟨_, rfl⟩
 rw [hr] at HC |-; clear hr
 go_enter Tryz.func102, Tryz.ntmps102
 go_wp2_with (go_at_call 154; refine (HC.out _).mono ?_; rintro e w' ⟨rfl, rfl⟩)
 go_ret
 exact ⟨rfl, rfl⟩
theorem ydy {x y z : Int} {p s t : Nat} {v : Bool} {r : Nat} (hx : (p : Int) = x) (hy : (s : Int) = y) (hz : (t : Int) = z) (hp : p < 65536) (hs : s < 256) (ht : t < 128) (hr : E3.mk p s t (if v then 1 else 0) = r) (w : World) :
  Calls Tryz.prog 102 #[.int .i64 x, .int .i64 y, .int .i64 z, .bool v] w fun e w' => e = .returned (.int .u32 r) /\ w = w' := by
 rw [<- hx, <- hy, <- hz, <- hr]; exact yjg p s t v hp hs ht w
theorem yrl (c : Int) (w : World) : Calls Tryz.prog 155 #[.int .i64 c] w fun e w' => e = .returned (.int .i64 (mkS c : Nat)) /\ w = w' := by
 unfold mkS
 by_cases h1 : c = 768
 ·subst h1
  go_enter Tryz.func155, Tryz.ntmps155
  go_wp2
  go_ret
  exact ⟨rfl, rfl⟩
 by_cases h2 : c = 769
 ·subst h2
  go_enter Tryz.func155, Tryz.ntmps155
  go_wp2
  go_ret
  exact ⟨rfl, rfl⟩
 by_cases h3 : c = 770
 ·subst h3
  go_enter Tryz.func155, Tryz.ntmps155
  go_wp2
  go_ret
  exact ⟨rfl, rfl⟩
 by_cases h4 : c = 771
 ·subst h4
  go_enter Tryz.func155, Tryz.ntmps155
  go_wp2
  go_ret
  exact ⟨rfl, rfl⟩
 by_cases h5 : c = 772
 ·subst h5
  go_enter Tryz.func155, Tryz.ntmps155
  go_wp2
  go_ret
  exact ⟨rfl, rfl⟩
 by_cases h6 : c = 776
 ·subst h6
  go_enter Tryz.func155, Tryz.ntmps155
  go_wp2
  go_ret
  exact ⟨rfl, rfl⟩
 by_cases h7 : c = 778
 ·subst h7
  go_enter Tryz.func155, Tryz.ntmps155
  go_wp2
  go_ret
  exact ⟨rfl, rfl⟩
 by_cases h8 : c = 807
 ·subst h8
  go_enter Tryz.func155, Tryz.ntmps155
  go_wp2
  go_ret
  exact ⟨rfl, rfl⟩
 rw [if_neg h1, if_neg h2, if_neg h3, if_neg h4, if_neg h5, if_neg h6, if_neg h7, if_neg h8]
 have g1 : (c == 768) = false := by simpa using h1
 have g2 : (c == 769) = false := by simpa using h2
 have g3 : (c == 770) = false := by simpa using h3
 have g4 : (c == 771) = false := by simpa using h4
 have g5 : (c == 772) = false := by simpa using h5
 have g6 : (c == 776) = false := by simpa using h6
 have g7 : (c == 778) = false := by simpa using h7
 have g8 : (c == 807) = false := by simpa using h8
 clear h1 h2 h3 h4 h5 h6 h7 h8
 go_enter Tryz.func155, Tryz.ntmps155
 go_wp2
 go_ret
 exact ⟨rfl, rfl⟩
theorem mkS_lt (c : Int) : mkS c < 256 := by unfold mkS; repeat' split <;> try omega
theorem yfo (c : Int) (w : World) : Calls Tryz.prog 104 #[.int .i64 c] w fun e w' => e = .returned (.int .u32 (mkW c : Nat)) /\ w = w' := by
 have HC := zH (fun w => yrl c w)
 have HW := zH (fun w => yjg 0 (mkS c) 2 false (by omega) (mkS_lt c) (by omega) w)
 have hm : E3.mk 0 (mkS c) 2 (if false = true then 1 else 0) = mkW c := rfl
 rw [hm] at HW; obtain ⟨r, hr⟩ : ∃ r, mkW c = r := ⟨_, rfl⟩; obtain ⟨s, hs⟩ : ∃ s, mkS c = s := ⟨_, rfl⟩; rw [hr] at HW |-; rw [hs] at HC HW; clear hr hs hm
 go_enter Tryz.func104, Tryz.ntmps104
 go_wp2_with (first
  | (go_at_call 155; refine (HC.out _).mono ?_; rintro e w' ⟨rfl, rfl⟩)
  | (go_at_call 102; refine (HW.out _).mono ?_; rintro e w' ⟨rfl, rfl⟩))
 go_ret
 exact ⟨rfl, rfl⟩
theorem yfg (c : Nat) (h1 : 97 <= c) (h2 : c <= 122) (w : World) : Calls Tryz.prog 103 #[.int .i64 (c : Int)] w fun e w' => e = .returned (.int .u32 (letW c : Nat)) /\ w = w' := by
 have hl : letW c = E3.mk (256 + 8 * (c - 97)) 32 2 0 := by unfold letW; rw [if_neg (by omega)]
 obtain ⟨r, hr⟩ : ∃ r, letW c = r := ⟨_, rfl⟩; rw [hr] at hl |-; have HW := zH (fun w => ydy (x := 256 + 8 * ((c : Int) - 97)) (p := 256 + 8 * (c - 97)) (y := 32) (z := 2) (s := 32) (t := 2) (v := false) (by omega) rfl rfl (by omega) (by omega) (by omega) hl.symm w)
 clear hl hr
 have i1 : (90 : Int) < (c : Int) := by omega
 have i2 : (c : Int) <= 122 := by omega
 have i3 : (97 : Int) <= (c : Int) := by omega
 go_enter Tryz.func103, Tryz.ntmps103
 go_wp2_with (go_at_call 102; refine (HW.out _).mono ?_; rintro e w' ⟨rfl, rfl⟩)
 go_ret
 exact ⟨rfl, rfl⟩
theorem yju (c : Nat) (h1 : 65 <= c) (h2 : c <= 90) (w : World) : Calls Tryz.prog 103 #[.int .i64 (c : Int)] w fun e w' => e = .returned (.int .u32 (letW c : Nat)) /\ w = w' := by
 have HL := zH (fun w => yfg (c + 32) (by omega) (by omega) w)
 have hl : letW (c + 32) = E3.mk (256 + 8 * (c - 65)) 32 2 0 := by unfold letW; rw [if_neg (by omega), show c + 32 - 97 = c - 65 by omega]
 have hl2 : letW c = E3.mk (256 + 8 * (c - 65)) 32 8 0 := by unfold letW; rw [if_pos (by omega)]
 have h3 : letW (c + 32) < 4294967296 := by rw [hl]; unfold E3.mk; omega
 have hw : ∀ w, Calls Tryz.prog 105 #[.int .u32 (letW (c + 32) : Nat), .int .i64 3, .int .i64 8] w fun r w' => r = .returned (.int .u32 (letW c : Nat)) /\ w = w' := fun w =>
  E3.yko (e := letW (c + 32)) (v := 8) (n := letW c) (by show _ = _; rw [hl, hl2]; unfold E3.mk; omega) h3 (by omega) (by omega) w
 obtain ⟨r, hr⟩ : ∃ r, letW (c + 32) = r := ⟨_, rfl⟩; obtain ⟨q, hq⟩ : ∃ q, letW c = q := ⟨_, rfl⟩; rw [hr] at HL hw; rw [hq] at hw |-; have HW := zH hw
 have i1 : (c : Int) <= 90 := by omega
 have i3 : (65 : Int) <= (c : Int) := by omega
 have HL2 : Hid (∀ w, Calls Tryz.prog 103 #[.int .i64 ((c : Int) + 32)] w fun e w' => e = .returned (.int .u32 (r : Nat)) /\ w = w') := HL.out
 clear hl hl2 h3 hw hr hq HL
 go_enter Tryz.func103, Tryz.ntmps103
 go_wp2_with (first
  | (go_at_call 103; refine (HL2.out _).mono ?_; rintro e w' ⟨rfl, rfl⟩)
  | (go_at_call 105; refine (HW.out _).mono ?_; rintro e w' ⟨rfl, rfl⟩))
 go_ret
 exact ⟨rfl, rfl⟩
theorem ybm {c : Nat} (h : (65 <= c /\ c <= 90) \/ (97 <= c /\ c <= 122)) {x : Int} (hx : (c : Int) = x) {r : Nat} (hr : letW c = r) (w : World) : Calls Tryz.prog 103 #[.int .i64 x] w fun e w' => e = .returned (.int .u32 (r : Nat)) /\ w = w' := by
 rw [<- hx, <- hr]
 rcases h with h | h
 ·exact yju c h.1 h.2 w
 ·exact yfg c h.1 h.2 w
theorem ykj {v : Value} {l : List Int} {F : Nat -> Prop} {w : World} (h : RdI F w v l) (hm : l.length <= 200000) :
  Calls Tryz.prog 210 #[v] w fun e w' => e = .returned (.bool (sgsB l)) /\ Below w.heap.size w w' := by
 have HC := zH (T2.ysv v l w h.rd hm)
 have hb : sgsB l = (T2.bytE l != 1) := by
  unfold sgsB T2.bytE
  by_cases h1 : l.all T2.isSg = true
  ·rw [if_pos h1, h1]; split <;> rfl
  ·rw [if_neg h1]; simp only [Bool.not_eq_true] at h1; rw [h1]; rfl
 obtain ⟨S, hS⟩ : ∃ S, T2.bytL l = S := ⟨_, rfl⟩; obtain ⟨E, hE⟩ : ∃ E, T2.bytE l = E := ⟨_, rfl⟩; rw [hS, hE] at HC; rw [hE] at hb; obtain ⟨A, c, rfl⟩ := h.form; rw [hb]; clear hS hE hb h
 go_enter Tryz.func210, Tryz.ntmps210
 go_wp2_with (go_at_call 225; refine (HC.out).mono ?_; rintro e w' ⟨rfl, hb⟩)
 go_ret
 exact ⟨rfl, hb⟩
theorem yhi {v : Value} {l : List Int} {b : Bool} (hb : sgsB l = b) {F : Nat -> Prop} {w : World} (h : RdI F w v l) (hm : l.length <= 200000) :
  Calls Tryz.prog 210 #[v] w fun e w' => e = .returned (.bool b) /\ Below w.heap.size w w' := by
 rw [<- hb]; exact ykj h hm
theorem ypk {lv e p : Nat} (hl : Lv lv) (h : wgt lv e = p) (he : e < 4294967296) (w : World) :
  Calls Tryz.prog 147 #[.int .u32 (e : Nat), .int .i64 (lv : Nat)] w fun r w' => r = .returned (.int .i64 (p : Nat)) /\ w = w' := by
 rcases hl with rfl | rfl | rfl
 ·exact E3.ycx h he w
 ·exact E3.yfx h he w
 ·exact E3.yfw h he w
theorem yuy {b : Int} (h0 : 0 <= b) (h : b < 64) : bits .or .i64 64256 b = 64256 + b := by
 have h1 := T2.or_low (a := 1004) (b := b.toNat) 6 (by omega) (by omega) (by omega)
 rw [show ((2 ^ 6 * 1004 : Nat) : Int) = 64256 by rfl, show ((b.toNat : Nat) : Int) = b by omega] at h1
 rw [h1]; omega
theorem yuz {b : Int} (h0 : 0 <= b) (h : b < 32768) : bits .or .i64 32768 b = 32768 + b := by
 have h1 := T2.or_low (a := 1) (b := b.toNat) 15 (by omega) (by omega) (by omega)
 rw [show ((2 ^ 15 * 1 : Nat) : Int) = 32768 by rfl, show ((b.toNat : Nat) : Int) = b by omega] at h1
 rw [h1]; omega
theorem ytf (n : Int) : bits .and .i64 n 32767 = n % 32768 := T2.yem 15 (by omega) n
def GotE (B : Nat) (w : World) (l : List Nat) (e : Ending) (w' : World) : Prop := ∃ v, e = .returned v /\ OwnE B w' v l /\ Below w.heap.size w w'
theorem ybi (w : World) (l : List Nat) (hl : l.length <= 1000) {B : Nat} (hB : B <= w.heap.size) : OwnE B (w.alloc (.cells (ev l).toArray 168)) (.slice (some ⟨w.heap.size, 0, none⟩) l.length l.length) l := by
 have := World.ownsRow_lit (base := B) (e := 168) (size := 1) w (ev l).toArray l.length hB (by simp only [maxLen]; omega) (by simp [ev_len])
 unfold OwnE
 simpa using this
theorem yir (w : World) (l : List Int) (hl : l.length <= 1000) {B : Nat} (hB : B <= w.heap.size) : T2.OwnI B (w.alloc (.cells (iv l).toArray 3)) (.slice (some ⟨w.heap.size, 0, none⟩) l.length l.length) l := by
 have := World.ownsRow_lit (base := B) (e := 3) (size := 1) w (iv l).toArray l.length hB (by simp only [maxLen]; omega) (by simp [iv_len])
 unfold T2.OwnI
 simpa using this
theorem yyl (c : Int) (h : T2.isSg c = false) (w : World) : Calls Tryz.prog 218 #[.int .i64 c] w (GotE w.heap.size w (impl c)) := by
 have hi : impl c = [] := by unfold impl; rw [h]; rfl
 have hb : sgsB [c] = false := by simp [sgsB, h]
 have HC := zH (yhi (F := anyB) hb (ybu (yir w [c] (by simp) (zN _)) fun _ _ => trivial) (by simp))
 rw [hi]; clear hi hb h
 go_enter Tryz.func218, Tryz.ntmps218
 go_wp2_with (go_at_call 210; refine (HC.out).mono ?_; rintro e w' ⟨rfl, hb⟩)
 go_ret
 exact ⟨_, rfl, World.ownsRow_nil _ _ _ _, ((zR _ _).alloc (zN _) _).trans (hb.mono (by simp))⟩
theorem yvn (c : Int) (h : T2.isSg c = true) (w : World) : Calls Tryz.prog 218 #[.int .i64 c] w (GotE w.heap.size w (impl c)) := by
 obtain ⟨h0, h1⟩ := yea h
 have hb : sgsB [c] = true := by simp [sgsB, h]
 obtain ⟨n, rfl⟩ : ∃ n : Nat, (n : Int) = c := ⟨c.toNat, by omega⟩
 have hi : impl (n : Int) = [E3.mk (64256 + n / 32768) 32 2 0, E3.mk (32768 + n % 32768) 32 2 0] := by unfold impl; rw [if_pos h, Int.toNat_natCast]
 obtain ⟨x, hx⟩ : ∃ x, E3.mk (64256 + n / 32768) 32 2 0 = x := ⟨_, rfl⟩; obtain ⟨y, hy⟩ : ∃ y, E3.mk (32768 + n % 32768) 32 2 0 = y := ⟨_, rfl⟩; have HX := zH (fun w => ydy (x := 64256 + (n : Int) / 32768) (p := 64256 + n / 32768) (y := 32) (z := 2) (s := 32) (t := 2) (v := false) (by omega) rfl rfl (by omega) (by omega) (by omega) hx w)
 have HY := zH (fun w => ydy (x := 32768 + (n : Int) % 32768) (p := 32768 + n % 32768) (y := 32) (z := 2) (s := 32) (t := 2) (v := false) (by omega) rfl rfl (by omega) (by omega) (by omega) hy w)
 have HC := zH (yhi (F := anyB) hb (ybu (yir w [(n : Int)] (by simp) (zN _)) fun _ _ => trivial) (by simp))
 have k1 := yuy (b := (n : Int) / 32768) (by omega) (by omega)
 have k2 := yuz (b := (n : Int) % 32768) (by omega) (by omega)
 have k3 := ytf (n : Int); rw [hx, hy] at hi; rw [hi]; clear hi hb h hx hy
 go_enter Tryz.func218, Tryz.ntmps218
 go_wp2_with (first
  | (go_at_call 210; refine (HC.out).mono ?_; rintro e w1 ⟨rfl, hb1⟩)
  | (go_at_call 102; (with_reducible refine (HX.out _).mono ?_); rintro e w' ⟨rfl, rfl⟩)
  | (go_at_call 102; (with_reducible refine (HY.out _).mono ?_); rintro e w' ⟨rfl, rfl⟩))
 go_ret
 have hs := hb1.size
 simp at hs
 have hb2 : Below w.heap.size w w1 := ((zR _ _).alloc (zN _) _).trans (hb1.mono (by simp))
 exact ⟨_, rfl, ybi w1 [x, y] (by simp) (by omega), hb2.alloc (by omega) _⟩
theorem yvp (c : Int) (w : World) : Calls Tryz.prog 218 #[.int .i64 c] w (GotE w.heap.size w (impl c)) := by
 cases h : T2.isSg c with
 | true => exact yvn c h w
 | false => exact yyl c h w
theorem yrc (c : Int) (A : Option Addr) (n cp : Nat) (w : World) :
  Calls Tryz.prog 101 #[.int .i64 c, .slice A n cp] w fun e w' => (∃ vs, e = .returned (.agg #[vs, .slice A n cp]) /\ T2.OwnI w.heap.size w' vs [c]) /\ Below w.heap.size w w' := by
 go_enter Tryz.func101, Tryz.ntmps101
 go_wp2
 refine bodyPost_ret (v := .agg #[.slice (some ⟨w.heap.size + 1, 0, none⟩) 1 1, .slice A n cp]) (by simp [results, Tryz.results101, go_sem]) rfl ⟨⟨_, rfl, ?_⟩, ?_⟩
 ·have h := yir (w.alloc (.cells #[.slice (some ⟨w.heap.size + 1, 0, none⟩) 1 1, .slice A n cp] 88)) [c] (by simp) (B := w.heap.size) (by simp)
  rw [World.size_alloc] at h; exact h
 ·exact ((zR _ _).alloc (zN _) _).alloc (by simp) _
theorem ok_is {x : Nat} (h : x < 4294967296) {b : Bool} (hb : E3.okE x = b) (w : World) : Calls Tryz.prog 180 #[.int .u32 x] w fun r w' => r = .returned (.bool b) /\ w = w' := by
 have e : E3.okP (x / 65536) (x / 256 % 256) (x / 2 % 128) (decide (x % 2 = 1)) = b := by
  rw [<- hb]; unfold E3.okP E3.okE
  rcases Nat.mod_two_eq_zero_or_one x with h2 | h2 <;> simp [h2]
 rw [<- e]; exact E3.ok_any x _ _ _ _ h rfl rfl rfl (by show _ = _; simp) w
theorem yno {x p : Nat} (h : x < 4294967296) (hp : x / 65536 = p) (w : World) : Calls Tryz.prog 147 #[.int .u32 x, .int .i64 1] w fun r w' => r = .returned (.int .i64 p) /\ w = w' := E3.ycx hp h w
theorem ykp (x : Nat) (h : x < 4294967296) (w : World) : Calls Tryz.prog 134 #[.int .u32 x] w fun r w' => r = .returned (.bool (!okW x)) /\ w = w' := by
 obtain ⟨b, hb⟩ : ∃ b, E3.okE x = b := ⟨_, rfl⟩; obtain ⟨p, hp⟩ : ∃ p, x / 65536 = p := ⟨_, rfl⟩
 have hk : okW x = (b && decide (p < 64256)) := by unfold okW; rw [hb, hp]
 have HO := zH (fun w => ok_is h hb w)
 have HW := zH (fun w => yno h hp w)
 rw [hk]
 have hp2 : (p : Int) <= 65536 := by omega
 clear hk hb hp
 cases b with
 | false =>
  go_enter Tryz.func134, Tryz.ntmps134
  go_wp2_with (go_at_call 180; refine (HO.out _).mono ?_; rintro e w' ⟨rfl, rfl⟩)
  go_ret
  exact ⟨rfl, rfl⟩
 | true =>
  by_cases hl : p < 64256
  ·have hd : decide ((64256 : Int) <= (p : Int)) = false := by simp; omega
   have hl' : (p : Int) < 64256 := by omega
   have e : (!(true && decide (p < 64256))) = false := by simp [hl]
   rw [e]; clear e hl
   go_enter Tryz.func134, Tryz.ntmps134
   go_wp2_with (first
    | (go_at_call 180; refine (HO.out _).mono ?_; rintro e w' ⟨rfl, rfl⟩)
    | (go_at_call 147; refine (HW.out _).mono ?_; rintro e w' ⟨rfl, rfl⟩))
   go_ret
   exact ⟨rfl, rfl⟩
  ·have hd : decide ((64256 : Int) <= (p : Int)) = true := by simp; omega
   have hl' : (64256 : Int) <= p := by omega
   have e : (!(true && decide (p < 64256))) = true := by simp [hl]
   rw [e]; clear e hl
   go_enter Tryz.func134, Tryz.ntmps134
   go_wp2_with (first
    | (go_at_call 180; refine (HO.out _).mono ?_; rintro e w' ⟨rfl, rfl⟩)
    | (go_at_call 147; refine (HW.out _).mono ?_; rintro e w' ⟨rfl, rfl⟩))
   go_ret
   exact ⟨rfl, rfl⟩
theorem yho {x : Nat} (h : x < 4294967296) {b : Bool} (hb : okW x = b) (w : World) : Calls Tryz.prog 134 #[.int .u32 x] w fun r w' => r = .returned (.bool (!b)) /\ w = w' := by
 rw [<- hb]; exact ykp x h w
def IdxU (l : List Nat) (w : World) (e : Ending) (w' : World) : Prop := ∃ r : Int, e = .returned (.int .i64 r) /\ decide (0 <= r) = !l.all okW /\ w = w'
theorem yrw {F : Nat -> Prop} {w : World} {v : Value} {l : List Nat} (h : RdE F w v l) (hl : l.length <= 1000000) (hw : ∀ x ∈ l, x < 4294967296) :
  Calls Tryz.prog 179 #[v, .func (.func 134) #[] #[]] w (IdxU l w) := by
 obtain ⟨A, c, rfl⟩ := h.form; have HR := zH h; have HW := zH hw
 have hl' : (l.length : Int) <= 1000000 := by omega
 clear h hw
 go_enter Tryz.func179, Tryz.ntmps179
 go_wp2
 go_loop [8] (fun i => ∃ k : Nat, k <= l.length /\ i = .int .i64 (k : Nat) /\ Hid ((l.take k).all okW = true)) (fun i => l.length - (intOf i).toNat)
 case atStart => exact ⟨0, Nat.zero_le _, rfl, rfl⟩
 case round =>
  obtain ⟨k, hk, rfl, HA⟩ := hrel
  by_cases hlt : k < l.length
  ·obtain ⟨x, hx⟩ : ∃ x, l[k]? = some x := ⟨_, List.getElem?_eq_getElem hlt⟩; obtain ⟨g, o, rfl, c0⟩ := HR.out.at hx; have hxw := HW.out x (List.mem_of_getElem? hx)
   have htk : l.take (k + 1) = l.take k ++ [x] := by rw [List.take_add_one, hx]; rfl
   have hkI : (k : Int) < (l.length : Int) := by omega
   cases hb : okW x with
   | true =>
    have HC := zH (fun w => yho hxw hb w)
    have HA2 : Hid ((l.take (k + 1)).all okW = true) := by show _ = _; rw [htk, List.all_append, HA.out]; simp [hb]
    clear hx hxw htk hb
    go_wp2_with (go_at_call 134; refine (HC.out _).mono ?_; rintro e w' ⟨rfl, rfl⟩)
    go_round
    case rel => exact ⟨k + 1, by omega, by go_num, HA2.out⟩
    case measure => simp [intOf]; omega
   | false =>
    have HC := zH (fun w => yho hxw hb w)
    have HN : Hid ((l.all okW) = false) := by
     show _ = _
     rw [List.all_eq_false]; exact ⟨x, List.mem_of_getElem? hx, by simp [hb]⟩
    clear hx hxw htk hb
    go_wp2_with (go_at_call 134; refine (HC.out _).mono ?_; rintro e w' ⟨rfl, rfl⟩)
    go_ret
    exact ⟨_, rfl, by rw [HN.out]; simp, rfl⟩
  ·have hkl : k = l.length := by omega
   subst hkl
   have HN : Hid ((l.all okW) = true) := by have := HA.out; rw [List.take_length] at this; exact this
   clear hlt
   go_wp2
   go_ret
   exact ⟨_, rfl, by rw [HN.out]; simp, rfl⟩
theorem ykb {F : Nat -> Prop} {w : World} {v : Value} {l : List Nat} (h : RdE F w v l) (hl : l.length <= 1000000) (hw : ∀ x ∈ l, x < 4294967296) :
  Calls Tryz.prog 133 #[v, .func (.func 134) #[] #[]] w fun e w' => e = .returned (.bool (!l.all okW)) /\ w = w' := by
 have HC := zH (yrw h hl hw); obtain ⟨A, c, rfl⟩ := h.form; obtain ⟨b, hb⟩ : ∃ b, (!l.all okW) = b := ⟨_, rfl⟩; have HB := zH hb; rw [hb]; clear h hb hw
 go_enter Tryz.func133, Tryz.ntmps133
 go_wp2_with (go_at_call 179; refine (HC.out).mono ?_; rintro e w' ⟨r, rfl, hr, rfl⟩; have HR := zH hr; clear hr)
 go_ret
 exact ⟨by rw [HR.out, HB.out]; rfl, rfl⟩
end Go.Proofs.YteibnfeokgibmaaGreat
