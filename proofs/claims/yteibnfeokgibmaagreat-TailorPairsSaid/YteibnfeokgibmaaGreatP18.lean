/-
  PACKED for a claim.
-/
import Derived.Shelf.Abstract
import Derived.Test.YteibnfeokgibmaaGreatP15
import Derived.Test.YteibnfeokgibmaaGreatP17
set_option linter.unusedVariables false
set_option linter.unusedSimpArgs false
set_option maxRecDepth 100000
namespace Go.Proofs.YteibnfeokgibmaaGreat
open Go.RowKit
theorem yzi {b : Int} (h0 : 0 <= b) (h : b < 64) : bits .or .i64 64256 b = 64256 + b := by
 have h1 := T2.or_low (a := 1004) (b := b.toNat) 6 (by omega) (by omega) (by omega)
 rw [show ((2 ^ 6 * 1004 : Nat) : Int) = 64256 by rfl, show ((b.toNat : Nat) : Int) = b by omega] at h1
 rw [h1]; omega
theorem yzj {b : Int} (h0 : 0 <= b) (h : b < 32768) : bits .or .i64 32768 b = 32768 + b := by
 have h1 := T2.or_low (a := 1) (b := b.toNat) 15 (by omega) (by omega) (by omega)
 rw [show ((2 ^ 15 * 1 : Nat) : Int) = 32768 by rfl, show ((b.toNat : Nat) : Int) = b by omega] at h1
 rw [h1]; omega
theorem yxa (n : Int) : bits .and .i64 n 32767 = n % 32768 := T2.yfr 15 (by omega) n
def GotE (B : Nat) (w : World) (l : List Nat) (e : Ending) (w' : World) : Prop := ∃ v, e = .returned v /\ OwnE B w' v l /\ Below w.heap.size w w'
theorem ybn (w : World) (l : List Nat) (hl : l.length <= 1000) {B : Nat} (hB : B <= w.heap.size) : OwnE B (w.alloc (.cells (ev l).toArray 168)) (.slice (some ⟨w.heap.size, 0, none⟩) l.length l.length) l := by
 have := World.ownsRow_lit (base := B) (e := 168) (size := 1) w (ev l).toArray l.length hB (by simp only [maxLen]; omega) (by simp [ev_len])
 unfold OwnE
 simpa using this
theorem ykh (w : World) (l : List Int) (hl : l.length <= 1000) {B : Nat} (hB : B <= w.heap.size) : T2.OwnI B (w.alloc (.cells (iv l).toArray 3)) (.slice (some ⟨w.heap.size, 0, none⟩) l.length l.length) l := by
 have := World.ownsRow_lit (base := B) (e := 3) (size := 1) w (iv l).toArray l.length hB (by simp only [maxLen]; omega) (by simp [iv_len])
 unfold T2.OwnI
 simpa using this
theorem impl_no (c : Int) (h : T2.isSg c = false) (w : World) : Calls Tryz.prog 218 #[.int .i64 c] w (GotE w.heap.size w (impl c)) := by
 have hi : impl c = [] := by unfold impl; rw [h]; rfl
 have hb : sgsB [c] = false := by simp [sgsB, h]
 have HC := zH (ybv (F := anyB) hb (ybi (ykh w [c] (by simp) (zN _)) fun _ _ => trivial) (by simp))
 rw [hi]; clear hi hb h
 go_enter Tryz.func218, Tryz.ntmps218
 go_wp2_with (go_at_call 210; refine (HC.out).mono ?_; rintro e w' ⟨rfl, hb⟩)
 go_ret
 exact ⟨_, rfl, World.ownsRow_nil _ _ _ _, ((zR _ _).alloc (zN _) _).trans (hb.mono (by simp))⟩
theorem yzz (c : Int) (h : T2.isSg c = true) (w : World) : Calls Tryz.prog 218 #[.int .i64 c] w (GotE w.heap.size w (impl c)) := by
 obtain ⟨h0, h1⟩ := yfb h
 have hb : sgsB [c] = true := by simp [sgsB, h]
 obtain ⟨n, rfl⟩ : ∃ n : Nat, (n : Int) = c := ⟨c.toNat, by omega⟩
 have hi : impl (n : Int) = [E3.mk (64256 + n / 32768) 32 2 0, E3.mk (32768 + n % 32768) 32 2 0] := by unfold impl; rw [if_pos h, Int.toNat_natCast]
 obtain ⟨x, hx⟩ : ∃ x, E3.mk (64256 + n / 32768) 32 2 0 = x := ⟨_, rfl⟩; obtain ⟨y, hy⟩ : ∃ y, E3.mk (32768 + n % 32768) 32 2 0 = y := ⟨_, rfl⟩; have HX := zH (fun w => yex (x := 64256 + (n : Int) / 32768) (p := 64256 + n / 32768) (y := 32) (z := 2) (s := 32) (t := 2) (v := false) (by omega) rfl rfl (by omega) (by omega) (by omega) hx w)
 have HY := zH (fun w => yex (x := 32768 + (n : Int) % 32768) (p := 32768 + n % 32768) (y := 32) (z := 2) (s := 32) (t := 2) (v := false) (by omega) rfl rfl (by omega) (by omega) (by omega) hy w)
 have HC := zH (ybv (F := anyB) hb (ybi (ykh w [(n : Int)] (by simp) (zN _)) fun _ _ => trivial) (by simp))
 have k1 := yzi (b := (n : Int) / 32768) (by omega) (by omega)
 have k2 := yzj (b := (n : Int) % 32768) (by omega) (by omega)
 have k3 := yxa (n : Int); rw [hx, hy] at hi; rw [hi]; clear hi hb h hx hy
 go_enter Tryz.func218, Tryz.ntmps218
 go_wp2_with (first
  | (go_at_call 210; refine (HC.out).mono ?_; rintro e w1 ⟨rfl, hb1⟩)
  | (go_at_call 102; (with_reducible refine (HX.out _).mono ?_); rintro e w' ⟨rfl, rfl⟩)
  | (go_at_call 102; (with_reducible refine (HY.out _).mono ?_); rintro e w' ⟨rfl, rfl⟩))
 go_ret
 have hs := hb1.size
 simp at hs
 have hb2 : Below w.heap.size w w1 := ((zR _ _).alloc (zN _) _).trans (hb1.mono (by simp))
 exact ⟨_, rfl, ybn w1 [x, y] (by simp) (by omega), hb2.alloc (by omega) _⟩
theorem zab (c : Int) (w : World) : Calls Tryz.prog 218 #[.int .i64 c] w (GotE w.heap.size w (impl c)) := by
 cases h : T2.isSg c with
 | true => exact yzz c h w
 | false => exact impl_no c h w
theorem yul (c : Int) (A : Option Addr) (n cp : Nat) (w : World) :
  Calls Tryz.prog 101 #[.int .i64 c, .slice A n cp] w fun e w' => (∃ vs, e = .returned (.agg #[vs, .slice A n cp]) /\ T2.OwnI w.heap.size w' vs [c]) /\ Below w.heap.size w w' := by
 go_enter Tryz.func101, Tryz.ntmps101
 go_wp2
 refine bodyPost_ret (v := .agg #[.slice (some ⟨w.heap.size + 1, 0, none⟩) 1 1, .slice A n cp]) (by simp [results, Tryz.results101, go_sem]) rfl ⟨⟨_, rfl, ?_⟩, ?_⟩
 ·have h := ykh (w.alloc (.cells #[.slice (some ⟨w.heap.size + 1, 0, none⟩) 1 1, .slice A n cp] 88)) [c] (by simp) (B := w.heap.size) (by simp)
  rw [World.size_alloc] at h; exact h
 ·exact ((zR _ _).alloc (zN _) _).alloc (by simp) _
theorem ok_is {x : Nat} (h : x < 4294967296) {b : Bool} (hb : E3.okE x = b) (w : World) : Calls Tryz.prog 180 #[.int .u32 x] w fun r w' => r = .returned (.bool b) /\ w = w' := by
 have e : E3.okP (x / 65536) (x / 256 % 256) (x / 2 % 128) (decide (x % 2 = 1)) = b := by
  rw [<- hb]; unfold E3.okP E3.okE
  rcases Nat.mod_two_eq_zero_or_one x with h2 | h2 <;> simp [h2]
 rw [<- e]; exact E3.ok_any x _ _ _ _ h rfl rfl rfl (by show _ = _; simp) w
theorem ypx {x p : Nat} (h : x < 4294967296) (hp : x / 65536 = p) (w : World) : Calls Tryz.prog 147 #[.int .u32 x, .int .i64 1] w fun r w' => r = .returned (.int .i64 p) /\ w = w' := E3.yds hp h w
theorem ymp (x : Nat) (h : x < 4294967296) (w : World) : Calls Tryz.prog 134 #[.int .u32 x] w fun r w' => r = .returned (.bool (!okW x)) /\ w = w' := by
 obtain ⟨b, hb⟩ : ∃ b, E3.okE x = b := ⟨_, rfl⟩; obtain ⟨p, hp⟩ : ∃ p, x / 65536 = p := ⟨_, rfl⟩
 have hk : okW x = (b && decide (p < 64256)) := by unfold okW; rw [hb, hp]
 have HO := zH (fun w => ok_is h hb w)
 have HW := zH (fun w => ypx h hp w)
 rw [hk]
 have hp2 : (p : Int) <= 65536 := by omega
 clear hk hb hp
 cases b with
 | false =>
  go_enter Tryz.func134, Tryz.ntmps134
  go_wp2_with (go_at_call 180; refine (HO.out _).mono ?_; rintro e w' ⟨rfl, rfl⟩)
  go_ret
  exact ⟨rfl, rfl⟩
 | true =>
  by_cases hl : p < 64256
  ·have hd : decide ((64256 : Int) <= (p : Int)) = false := by simp; omega
   have hl' : (p : Int) < 64256 := by omega
   have e : (!(true && decide (p < 64256))) = false := by simp [hl]
   rw [e]; clear e hl
   go_enter Tryz.func134, Tryz.ntmps134
   go_wp2_with (first
    | (go_at_call 180; refine (HO.out _).mono ?_; rintro e w' ⟨rfl, rfl⟩)
    | (go_at_call 147; refine (HW.out _).mono ?_; rintro e w' ⟨rfl, rfl⟩))
   go_ret
   exact ⟨rfl, rfl⟩
  ·have hd : decide ((64256 : Int) <= (p : Int)) = true := by simp; omega
   have hl' : (64256 : Int) <= p := by omega
   have e : (!(true && decide (p < 64256))) = true := by simp [hl]
   rw [e]; clear e hl
   go_enter Tryz.func134, Tryz.ntmps134
   go_wp2_with (first
    | (go_at_call 180; refine (HO.out _).mono ?_; rintro e w' ⟨rfl, rfl⟩)
    | (go_at_call 147; refine (HW.out _).mono ?_; rintro e w' ⟨rfl, rfl⟩))
   go_ret
   exact ⟨rfl, rfl⟩
theorem yiw {x : Nat} (h : x < 4294967296) {b : Bool} (hb : okW x = b) (w : World) : Calls Tryz.prog 134 #[.int .u32 x] w fun r w' => r = .returned (.bool (!b)) /\ w = w' := by
 rw [<- hb]; exact ymp x h w
def IdxU (l : List Nat) (w : World) (e : Ending) (w' : World) : Prop := ∃ r : Int, e = .returned (.int .i64 r) /\ decide (0 <= r) = !l.all okW /\ w = w'
theorem yvp {F : Nat -> Prop} {w : World} {v : Value} {l : List Nat} (h : RdE F w v l) (hl : l.length <= 1000000) (hw : ∀ x ∈ l, x < 4294967296) :
  Calls Tryz.prog 179 #[v, .func (.func 134) #[] #[]] w (IdxU l w) := by
 obtain ⟨A, c, rfl⟩ := h.form; have HR := zH h; have HW := zH hw
 have hl' : (l.length : Int) <= 1000000 := by omega
 clear h hw
 go_enter Tryz.func179, Tryz.ntmps179
 go_wp2
 go_loop [8] (fun i => ∃ k : Nat, k <= l.length /\ i = .int .i64 (k : Nat) /\ Hid ((l.take k).all okW = true)) (fun i => l.length - (intOf i).toNat)
 case atStart => exact ⟨0, Nat.zero_le _, rfl, rfl⟩
 case round =>
  obtain ⟨k, hk, rfl, HA⟩ := hrel
  by_cases hlt : k < l.length
  ·obtain ⟨x, hx⟩ : ∃ x, l[k]? = some x := ⟨_, List.getElem?_eq_getElem hlt⟩; obtain ⟨g, o, rfl, c0⟩ := HR.out.at hx; have hxw := HW.out x (List.mem_of_getElem? hx)
   have htk : l.take (k + 1) = l.take k ++ [x] := by rw [List.take_add_one, hx]; rfl
   have hkI : (k : Int) < (l.length : Int) := by omega
   cases hb : okW x with
   | true =>
    have HC := zH (fun w => yiw hxw hb w)
    have HA2 : Hid ((l.take (k + 1)).all okW = true) := by show _ = _; rw [htk, List.all_append, HA.out]; simp [hb]
    clear hx hxw htk hb
    go_wp2_with (go_at_call 134; refine (HC.out _).mono ?_; rintro e w' ⟨rfl, rfl⟩)
    go_round
    case rel => exact ⟨k + 1, by omega, by go_num, HA2.out⟩
    case measure => simp [intOf]; omega
   | false =>
    have HC := zH (fun w => yiw hxw hb w)
    have HN : Hid ((l.all okW) = false) := by
     show _ = _
     rw [List.all_eq_false]; exact ⟨x, List.mem_of_getElem? hx, by simp [hb]⟩
    clear hx hxw htk hb
    go_wp2_with (go_at_call 134; refine (HC.out _).mono ?_; rintro e w' ⟨rfl, rfl⟩)
    go_ret
    exact ⟨_, rfl, by rw [HN.out]; simp, rfl⟩
  ·have hkl : k = l.length := by omega
   subst hkl
   have HN : Hid ((l.all okW) = true) := by have := HA.out; rw [List.take_length] at this; exact this
   clear hlt
   go_wp2
   go_ret
   exact ⟨_, rfl, by rw [HN.out]; simp, rfl⟩
theorem ymc {F : Nat -> Prop} {w : World} {v : Value} {l : List Nat} (h : RdE F w v l) (hl : l.length <= 1000000) (hw : ∀ x ∈ l, x < 4294967296) :
  Calls Tryz.prog 133 #[v, .func (.func 134) #[] #[]] w fun e w' => e = .returned (.bool (!l.all okW)) /\ w = w' := by
 have HC := zH (yvp h hl hw); obtain ⟨A, c, rfl⟩ := h.form; obtain ⟨b, hb⟩ : ∃ b, (!l.all okW) = b := ⟨_, rfl⟩; have HB := zH hb; rw [hb]; clear h hb hw
 go_enter Tryz.func133, Tryz.ntmps133
 go_wp2_with (go_at_call 179; refine (HC.out).mono ?_; rintro e w' ⟨r, rfl, hr, rfl⟩; have HR := zH hr; clear hr)
 go_ret
 exact ⟨by rw [HR.out, HB.out]; rfl, rfl⟩
end Go.Proofs.YteibnfeokgibmaaGreat
