/-
  PACKED for a claim.
-/
import Derived.Test.YtichfdjjbafeiaaGreatP53
set_option linter.unusedVariables false
set_option linter.unusedSimpArgs false
set_option maxRecDepth 100000
namespace Go.Proofs.YtichfdjjbafeiaaGreat
open Go.RowKit
theorem str_ne {s t : ByteArray} (h : s ≠ t) : (s.toList == t.toList) = false := by
 rw [beq_eq_false_iff_ne]; intro h'
 apply h
 apply ByteArray.ext
 apply Array.toList_inj.1
 have := congrArg List.toArray h'
 simpa [ByteArray.toList_eq] using h'
def letB (a : Nat) : ByteArray := ⟨#[UInt8.ofNat (97 + a)]⟩
theorem ylc {a b : Nat} (ha : a < 26) (hb : b < 26) (h : a ≠ b) : letB a ≠ letB b := by
 intro e; have h1 := congrArg (fun s : ByteArray => s.data.toList) e
 have h2 : UInt8.ofNat (97 + a) = UInt8.ofNat (97 + b) := by simpa [letB] using h1
 have h3 := congrArg UInt8.toNat h2; rw [UInt8.toNat_ofNat', UInt8.toNat_ofNat'] at h3
 omega
theorem yjo (a : Nat) : (letB a).size = 1 := rfl
theorem ymg : ∀ a, a < 26 -> T2.sgs (letB a).data.toList = [((97 + a : Nat) : Int)] := by decide +kernel
theorem ygj {a : Nat} (ha : a < 26) (w : World) : (convert 24 9 (.slice (some ⟨w.heap.size, 0, none⟩) 1 1)).run Tryz.prog (w.alloc (.cells #[.int .u8 ((97 + a : Nat) : Int)] 5)) = .ok (.string (letB a)) (w.alloc (.cells #[.int .u8 ((97 + a : Nat) : Int)] 5)) := T2.conv_1 w (97 + a) (by omega)
theorem ywk (s : ByteArray) {k : Nat} {c : UInt8} (h : s.data.toList[k]? = some c) (w : World) : (Instr.index 9 (.string s) (.int .i64 (k : Int))).run Tryz.prog w = .ok (.int .u8 (c.toNat : Int)) w := by
 obtain ⟨hk, hc⟩ := List.getElem?_eq_some_iff.1 h
 have hk' : k < s.size := hk
 have h' : 0 <= (k : Int) /\ (k : Int) < (s.size : Int) := ⟨by omega, by omega⟩
 rw [run_index_string w 9 s .i64 (k : Int) Tryz.underlying9, dif_pos h']; subst hc; rfl
theorem yqz {a : Nat} (ha : a < 26) (w : World) : (Instr.index 9 (.string (letB a)) (.int .i64 0)).run Tryz.prog w = .ok (.int .u8 ((97 + a : Nat) : Int)) w := by
 have h := ywk (letB a) (k := 0) (c := UInt8.ofNat (97 + a)) rfl w
 have e : (UInt8.ofNat (97 + a)).toNat = 97 + a := by rw [UInt8.toNat_ofNat']; omega
 rw [e] at h; exact h
theorem ygi {F : Nat -> Prop} {w : World} {p : Nat} {L : List PE} (h : TabAt F w p L) {a b : Nat} (ha : a < 26) (hb : b < 26) {lv : Nat} (hl : Lv lv) {c : Int} (hc : plC L a b lv = c) :
  Calls Tryz.prog 10 #[.pointer (some ⟨p, 0, none⟩), .string (letB a), .string (letB b), .int .i64 (lv : Nat)] w fun e w' => e = .returned (.int .i64 c) /\ Below w.heap.size w w' := by
 have h1 := yun h (letB a) (letB b) (by rw [yjo]; omega) (by rw [yjo]; omega) hl
 rw [ymg a ha, ymg b hb] at h1; rw [<- hc]; exact h1
def OneV (x : Int) (v : Value) (w : World) : Prop := ∃ g : Nat, v = .slice (some ⟨g, 0, none⟩) 1 1 /\ RdI anyB w (.slice (some ⟨g, 0, none⟩) 1 1) [x]
def SV.one (x : Int) : SV := ⟨OneV x, fun v w w' h hb => by
 obtain ⟨g, h1, h2⟩ := h; exact ⟨g, h1, h2.below hb (zN _)⟩⟩
def RuoV (r x : Int) (v : Value) (w : World) : Prop := ∃ g : Nat, v = .agg #[.int .i64 r, .slice (some ⟨g, 0, none⟩) 1 1, .slice none 0 0] /\ RdI anyB w (.slice (some ⟨g, 0, none⟩) 1 1) [x]
def SV.ruo (r x : Int) : SV := ⟨RuoV r x, fun v w w' h hb => by
 obtain ⟨g, h1, h2⟩ := h; exact ⟨g, h1, h2.below hb (zN _)⟩⟩
def SV.rrs (l : List S6.RV) : SV := ⟨fun v w => S6.RdRs w v l, fun v w w' h hb => S6.RdRs.below h hb (zN _)⟩
def AppV (L : List PE) (v : Value) (w : World) : Prop := ∃ p : Nat, v = .tuple #[.pointer (some ⟨p, 0, none⟩), .int .i64 0] /\ TabAt anyB w p L
def SV.app (L : List PE) : SV := ⟨AppV L, fun v w w' h hb => by
 obtain ⟨p, h1, h2⟩ := h; exact ⟨p, h1, h2.below hb (zN _)⟩⟩
def PtrV (L : List PE) (v : Value) (w : World) : Prop := ∃ p : Nat, v = .pointer (some ⟨p, 0, none⟩) /\ TabAt anyB w p L
def SV.ptr (L : List PE) : SV := ⟨PtrV L, fun v w w' h hb => by
 obtain ⟨p, h1, h2⟩ := h; exact ⟨p, h1, h2.below hb (zN _)⟩⟩
theorem yyf {F : Nat -> Prop} {w : World} {p : Nat} {L L' : List PE} (hT : TabAt F w p L) {rv : Value} {l : List S6.RV} (hr : S6.RdRs w rv l) (hl : l.length <= 1000) (hok : ∀ r ∈ l, RuOk r) (hE : appE L l = 0) (hL' : appL L l = L') :
  Calls Tryz.prog 14 #[.pointer (some ⟨p, 0, none⟩), rv] w fun e w' => (∃ v, e = .returned v /\ AppV L' v w') /\ Below w.heap.size w w' :=
 (ykc hT hr hl hok hE hL').mono fun e w' h => by
  obtain ⟨h1, -, h3⟩ := h; obtain ⟨q, hq, ht⟩ := h1 rfl; exact ⟨⟨_, hq, q, rfl, ht.mono fun _ _ => trivial⟩, h3⟩
theorem yby (w : World) (a b c : Obj) : Below w.heap.size w (((w.alloc a).alloc b).alloc c) := by
 have h1 := yab w a; have h2 := yab (w.alloc a) b; have h3 := yab ((w.alloc a).alloc b) c; exact (h1.trans (h2.mono h1.size)).trans (h3.mono (h1.trans (h2.mono h1.size)).size)
set_option maxHeartbeats 16000000 in
theorem yeq (a0 b0 c0 l0 : Int) (w : World) (ha : 0 <= a0 /\ a0 <= 255) (hb : 0 <= b0 /\ b0 <= 255) (hc : 0 <= c0 /\ c0 <= 255) :
  Calls Tryz.prog 8 #[.int .u8 a0, .int .u8 b0, .int .u8 c0, .int .i64 l0] w fun e w' => e = .returned (.bool true) /\ Below w.heap.size w w' := by
 obtain ⟨a, hra, ha26⟩ : ∃ q : Nat, a0.tmod 26 = (q : Int) /\ q < 26 := ⟨(a0.tmod 26).toNat, by rw [Int.tmod_eq_emod_of_nonneg (by omega)]; omega, by rw [Int.tmod_eq_emod_of_nonneg (by omega)]; omega⟩
 obtain ⟨b, hrb, hb26⟩ : ∃ q : Nat, b0.tmod 26 = (q : Int) /\ q < 26 := ⟨(b0.tmod 26).toNat, by rw [Int.tmod_eq_emod_of_nonneg (by omega)]; omega, by rw [Int.tmod_eq_emod_of_nonneg (by omega)]; omega⟩
 obtain ⟨c, hrc, hc26⟩ : ∃ q : Nat, c0.tmod 26 = (q : Int) /\ q < 26 := ⟨(c0.tmod 26).toNat, by rw [Int.tmod_eq_emod_of_nonneg (by omega)]; omega, by rw [Int.tmod_eq_emod_of_nonneg (by omega)]; omega⟩
 have hwa : IntKind.u8.wrap (97 + (a : Int)) = ((97 + a : Nat) : Int) := by rw [IntWalk.u8_in _ (by omega)]; omega
 have hwb : IntKind.u8.wrap (97 + (b : Int)) = ((97 + b : Nat) : Int) := by rw [IntWalk.u8_in _ (by omega)]; omega
 have hwc : IntKind.u8.wrap (97 + (c : Int)) = ((97 + c : Nat) : Int) := by rw [IntWalk.u8_in _ (by omega)]; omega
 obtain ⟨m16, hm16⟩ : ∃ q : Nat, (q : Int) = l0 % 65536 := ⟨(l0 % 65536).toNat, by omega⟩
 have hand := and16 l0; rw [<- hm16] at hand; obtain ⟨k0, hk0⟩ : ∃ k, m16 % 3 = k := ⟨_, rfl⟩
 have hk02 : k0 < 3 := by omega
 have hrem : (m16 : Int).tmod 3 = (k0 : Int) := by rw [Int.tmod_eq_emod_of_nonneg (by omega)]; omega
 obtain ⟨k, hk⟩ : ∃ k, k0 + 1 = k := ⟨_, rfl⟩
 have hk1 : 1 <= k := by omega
 have hk3 : k <= 3 := by omega
 have hwk : IntKind.i64.wrap ((k0 : Int) + 1) = (k : Int) := by rw [IntWalk.i64_in _ (by omega)]; omega
 obtain ⟨k1, hkk1⟩ : ∃ q, 1 + k = q := ⟨_, rfl⟩
 have hwk1 : IntKind.i64.wrap (1 + (k : Int)) = (k1 : Int) := by rw [IntWalk.i64_in _ (by omega)]; omega
 have hwxa : IntKind.i64.wrap ((97 + a : Nat) : Int) = ((97 + a : Nat) : Int) := IntWalk.i64_in _ (by omega)
 have hwxb : IntKind.i64.wrap ((97 + b : Nat) : Int) = ((97 + b : Nat) : Int) := IntWalk.i64_in _ (by omega)
 have kA := ygj ha26 w; have kB := ygj hb26 (w.alloc (.cells #[.int .u8 ((97 + a : Nat) : Int)] 5)); have kC := ygj hc26 ((w.alloc (.cells #[.int .u8 ((97 + a : Nat) : Int)] 5)).alloc (.cells #[.int .u8 ((97 + b : Nat) : Int)] 5)); rw [World.size_alloc] at kB; rw [World.size_alloc, World.size_alloc] at kC; have iA := fun w => yqz ha26 w
 have iB := fun w => yqz hb26 w
 have HAW := zH you; obtain ⟨X, hX⟩ : ∃ X, letB a = X := ⟨_, rfl⟩; obtain ⟨Y, hY⟩ : ∃ X, letB b = X := ⟨_, rfl⟩; obtain ⟨Z, hZ⟩ : ∃ X, letB c = X := ⟨_, rfl⟩; have HX := zH hX; have HY := zH hY; have HZ := zH hZ; rw [hX] at kA iA; rw [hY] at kB iB; rw [hZ] at kC; obtain ⟨xa, hxa⟩ : ∃ q, 97 + a = q := ⟨_, rfl⟩; obtain ⟨xb, hxb⟩ : ∃ q, 97 + b = q := ⟨_, rfl⟩; obtain ⟨xc, hxc⟩ : ∃ q, 97 + c = q := ⟨_, rfl⟩; rw [hxa] at hwa hwxa kA kB kC iA; rw [hxb] at hwb hwxb kB kC iB; rw [hxc] at hwc kC; have HXA := zH hxa; have HXB := zH hxb; have HRR := zH (two_ru (r1 := 1) (r2 := (k1 : Int)) (x := (xa : Int)) (y := (xb : Int)) (by omega) (by omega))
 have HRV := zH (ywd 1 (k1 : Int) (xa : Int) (xb : Int))
 have HPL : Hid (plR a b k = [⟨1, [(xa : Int)], []⟩, ⟨(k1 : Int), [(xb : Int)], []⟩]) := by show _ = _; unfold plR lc; rw [hxa, hxb, hkk1]
 have h256a : xa < 256 := by omega
 have h256b : xb < 256 := by omega
 have h256c : xc < 256 := by omega
 have HA26 := zH ha26; have HB26 := zH hb26; have HC26 := zH hc26
 by_cases e1 : a = b
 ·have s1 : (X.toList == Y.toList) = true := by rw [<- hX, <- hY, e1]; simp
  clear hkk1 hX hY hZ e1 hm16 hk0 ha hb hc hk hxa hxb hxc
  go_enter Tryz.func8, Tryz.ntmps8
  go_wp2_with (go_at_call 12; refine (HAW.out _).mono ?_; rintro e w1 ⟨rfl, hb⟩; have HB1 := zH hb; clear hb)
  go_ret
  exact ⟨rfl, (yby w _ _ _).trans (HB1.out.mono (yby w _ _ _).size)⟩
 ·have s1 : (X.toList == Y.toList) = false := by rw [<- hX, <- hY]; exact str_ne (ylc ha26 hb26 e1)
  by_cases e2 : c = a
  ·have s2 : (Z.toList == X.toList) = true := by rw [<- hX, <- hZ, e2]; simp
   clear hkk1 hX hY hZ e1 e2 hm16 hk0 ha hb hc hk hxa hxb hxc
   go_enter Tryz.func8, Tryz.ntmps8
   go_wp2_with (go_at_call 12; refine (HAW.out _).mono ?_; rintro e w1 ⟨rfl, hb⟩; have HB1 := zH hb; clear hb)
   go_ret
   exact ⟨rfl, (yby w _ _ _).trans (HB1.out.mono (yby w _ _ _).size)⟩
  ·have s2 : (Z.toList == X.toList) = false := by rw [<- hX, <- hZ]; exact str_ne (ylc hc26 ha26 e2)
   by_cases e3 : c = b
   ·have s3 : (Z.toList == Y.toList) = true := by rw [<- hY, <- hZ, e3]; simp
    clear hkk1 hX hY hZ e1 e2 e3 hm16 hk0 ha hb hc hk hxa hxb hxc
    go_enter Tryz.func8, Tryz.ntmps8
    go_wp2_with (go_at_call 12; refine (HAW.out _).mono ?_; rintro e w1 ⟨rfl, hb⟩; have HB1 := zH hb; clear hb)
    go_ret
    exact ⟨rfl, (yby w _ _ _).trans (HB1.out.mono (yby w _ _ _).size)⟩
   ·have s3 : (Z.toList == Y.toList) = false := by rw [<- hY, <- hZ]; exact str_ne (ylc hc26 hb26 e3)
    obtain ⟨L, hL⟩ : ∃ L, appL rootP (plR a b k) = L := ⟨_, rfl⟩; obtain ⟨q1, q2, q3, q4⟩ := ytt ha26 hb26 hk1 hk3 e1 hL; obtain ⟨q4, q5⟩ := q4 c hc26 e2 e3; obtain ⟨C1, hC1⟩ : ∃ z, plC rootP c a 1 = z := ⟨_, rfl⟩; obtain ⟨C2, hC2⟩ : ∃ z, plC L c b 1 = z := ⟨_, rfl⟩; rw [hC1] at q4 q5; rw [hC2] at q5; rw [HPL.out] at q1 hL; have CO := zH (fun (w1 : World) (v : Value) (h : S6.RdRs w1 v [⟨1, [(xa : Int)], []⟩, ⟨(k1 : Int), [(xb : Int)], []⟩]) => S6.of_any h HRV.out)
    have CA := zH (fun (w1 : World) (p : Nat) (rv : Value) (ht : TabAt anyB w1 p rootP) (hr : S6.RdRs w1 rv [⟨1, [(xa : Int)], []⟩, ⟨(k1 : Int), [(xb : Int)], []⟩]) => yyf ht hr (by simp) HRR.out q1 hL)
    have CI := zH (fun (w1 : World) (p i : Nat) (ht : TabAt anyB w1 p L) (h1 : 1 <= i) (hi : i < k) => ygi ht ha26 hb26 (lv := i) (by unfold Lv; omega) (q2 i h1 hi))
    have CK := zH (fun (w1 : World) (p : Nat) (ht : TabAt anyB w1 p L) => ygi ht ha26 hb26 (lv := k) (by unfold Lv; omega) q3)
    have C3 := zH (fun (w1 : World) (p : Nat) (ht : TabAt anyB w1 p L) => ygi ht hc26 ha26 (lv := 1) (.inl rfl) q4)
    have C4 := zH (fun (w1 : World) (p : Nat) (ht : TabAt anyB w1 p rootP) => ygi ht hc26 ha26 (lv := 1) (.inl rfl) hC1)
    have C5 := zH (fun (w1 : World) (p : Nat) (ht : TabAt anyB w1 p L) => ygi ht hc26 hb26 (lv := 1) (.inl rfl) hC2)
    rw [hX, hY] at CI CK; rw [hZ, hX] at C3 C4; rw [hZ, hY] at C5; have HQ5 := zH q5; have HK1 := zH hk1; clear hkk1 hX hY hZ e1 e2 e3 hm16 hk0 ha hb hc hk hxa hxb hxc hL q1 q2 q3 q4 q5 hC1 hC2
    go_enter Tryz.func8, Tryz.ntmps8
    go_upto_region 9 with (go_at_call 13; refine (yie _).mono ?_; rintro e w1 ⟨p, rfl, ht, hb⟩; have HT1 := zH (ht.mono (G := anyB) fun _ _ => trivial); have HB1 := zH ((yby w _ _ _).trans (hb.mono (yby w _ _ _).size)); clear ht hb)
    refine yds (m := 19) 18 [52, 53, 54, 55, 56, 57, 58, 59, 60, 61, 62, 63, 64, 65, 66, 67, 51, 68, 69] [SV.eq (.pointer (some ⟨p, 0, none⟩)), SV.eq (.string X), SV.eq (.int .u8 (xa : Int)), SV.eq (.int .i64 (xa : Int)), SV.one (xa : Int), SV.ruo 1 (xa : Int), SV.eq (.int .i64 (k : Int)), SV.eq (.int .i64 (k1 : Int)), SV.eq (.string Y), SV.eq (.int .u8 (xb : Int)), SV.eq (.int .i64 (xb : Int)), SV.one (xb : Int), SV.ruo (k1 : Int) (xb : Int), SV.rrs [⟨1, [(xa : Int)], []⟩, ⟨(k1 : Int), [(xb : Int)], []⟩], SV.rrs [⟨1, [(xa : Int)], []⟩, ⟨(k1 : Int), [(xb : Int)], []⟩], SV.app L, SV.app L, SV.ptr L, SV.eq (.int .i64 0)] (by kernel_rfl) (by kernel_rfl) ?_ ?_ ?_
    ·refine ⟨⟨⟨⟨⟨⟨⟨⟨⟨⟨⟨⟨⟨⟨⟨⟨⟨⟨⟨trivial, ?_⟩, ?_⟩, ?_⟩, ?_⟩, ?_⟩, ?_⟩, ?_⟩, ?_⟩, ?_⟩, ?_⟩, ?_⟩, ?_⟩, ?_⟩, ?_⟩, ?_⟩, ?_⟩, ?_⟩, ?_⟩, ?_⟩
     all_goals (refine OpIs.mk rfl ?_; intro vs w1 hb hd K hK; simp only [frameV, zS, zA, zB, zC, zD] at hK |-)
     iterate 2 (·have HK := zH hK; clear hK; go_simp; exact HK.out _ _ rfl (zR _ _))
     ·have d1 : vs 1 = .string X := hd 1 (by kernel_rfl)
      simp only [d1] at hK |-; have HK := zH hK; clear hK; go_simp; exact HK.out _ _ rfl (zR _ _)
     ·have d2 : vs 2 = .int .u8 (xa : Int) := hd 2 (by kernel_rfl)
      simp only [d2] at hK |-; have HK := zH hK; clear hK; go_simp; exact HK.out _ _ rfl (zR _ _)
     ·have d3 : vs 3 = .int .i64 (xa : Int) := hd 3 (by kernel_rfl)
      simp only [d3] at hK |-; have HK := zH hK; clear hK; go_simp; exact HK.out _ _ ⟨_, rfl, ymc w1 _ _⟩ (yab w1 _)
     ·have d4 : OneV (xa : Int) (vs 4) w1 := hd 4 (by kernel_rfl)
      have zh4 := Exists.choose_spec d4; generalize Exists.choose d4 = gh4 at zh4; have e4 := zh4.1; have h4 := zh4.2; clear zh4 d4; simp only [e4] at hK |-; have HK := zH hK; clear hK; go_simp; exact HK.out _ _ ⟨_, rfl, h4⟩ (zR _ _)
     ·have HK := zH hK; clear hK; go_simp; exact HK.out _ _ rfl (zR _ _)
     ·have d6 : vs 6 = .int .i64 (k : Int) := hd 6 (by kernel_rfl)
      simp only [d6] at hK |-; have HK := zH hK; clear hK; go_simp; exact HK.out _ _ rfl (zR _ _)
     ·have HK := zH hK; clear hK; go_simp; exact HK.out _ _ rfl (zR _ _)
     ·have d8 : vs 8 = .string Y := hd 8 (by kernel_rfl)
      simp only [d8] at hK |-; have HK := zH hK; clear hK; go_simp; exact HK.out _ _ rfl (zR _ _)
     ·have d9 : vs 9 = .int .u8 (xb : Int) := hd 9 (by kernel_rfl)
      simp only [d9] at hK |-; have HK := zH hK; clear hK; go_simp; exact HK.out _ _ rfl (zR _ _)
     ·have d10 : vs 10 = .int .i64 (xb : Int) := hd 10 (by kernel_rfl)
      simp only [d10] at hK |-; have HK := zH hK; clear hK; go_simp; exact HK.out _ _ ⟨_, rfl, ymc w1 _ _⟩ (yab w1 _)
     ·have d7 : vs 7 = .int .i64 (k1 : Int) := hd 7 (by kernel_rfl)
      have d11 : OneV (xb : Int) (vs 11) w1 := hd 11 (by kernel_rfl)
      have zh11 := Exists.choose_spec d11; generalize Exists.choose d11 = gh11 at zh11; have e11 := zh11.1; have h11 := zh11.2; clear zh11 d11; simp only [d7] at hK |-; simp only [e11] at hK |-; have HK := zH hK; clear hK; go_simp; exact HK.out _ _ ⟨_, rfl, h11⟩ (zR _ _)
     ·have d5 : RuoV 1 (xa : Int) (vs 5) w1 := hd 5 (by kernel_rfl)
      have d12 : RuoV (k1 : Int) (xb : Int) (vs 12) w1 := hd 12 (by kernel_rfl)
      have zh5 := Exists.choose_spec d5; generalize Exists.choose d5 = gh5 at zh5; have e5 := zh5.1; have h5 := zh5.2; clear zh5 d5; have zh12 := Exists.choose_spec d12; generalize Exists.choose d12 = gh12 at zh12; have e12 := zh12.1; have h12 := zh12.2; clear zh12 d12; simp only [e5, e12] at hK |-; have HK := zH hK; clear hK; go_simp; exact HK.out _ _ (yno w1 h5 h12 _) (yab w1 _)
     ·have d13 : S6.RdRs w1 (vs 13) [⟨1, [(xa : Int)], []⟩, ⟨(k1 : Int), [(xb : Int)], []⟩] := hd 13 (by kernel_rfl)
      have HK := zH hK; clear hK; go_simp
      go_at_call 15
      refine (CO.out _ _ d13).mono ?_; rintro r w3 ⟨⟨v3, rfl, hr3⟩, hb3⟩; exact HK.out _ _ hr3 hb3
     ·have d0 : vs 0 = .pointer (some ⟨p, 0, none⟩) := hd 0 (by kernel_rfl)
      have d14 : S6.RdRs w1 (vs 14) [⟨1, [(xa : Int)], []⟩, ⟨(k1 : Int), [(xb : Int)], []⟩] := hd 14 (by kernel_rfl)
      simp only [d0] at hK |-; have HK := zH hK; clear hK; go_simp
      go_at_call 14
      refine (CA.out _ _ _ (HT1.out.below hb (zN _)) d14).mono ?_; rintro r w3 ⟨⟨v3, rfl, hr3⟩, hb3⟩; exact HK.out _ _ hr3 hb3
     ·have d15 : AppV L (vs 15) w1 := hd 15 (by kernel_rfl)
      have zh15 := Exists.choose_spec d15; generalize Exists.choose d15 = gh15 at zh15; have e15 := zh15.1; have h15 := zh15.2; clear zh15 d15; simp only [e15] at hK |-; have HK := zH hK; clear hK; go_simp; exact HK.out _ _ ⟨_, rfl, h15⟩ (zR _ _)
     ·have d16 : AppV L (vs 16) w1 := hd 16 (by kernel_rfl)
      have zh16 := Exists.choose_spec d16; generalize Exists.choose d16 = gh16 at zh16; have e16 := zh16.1; have h16 := zh16.2; clear zh16 d16; simp only [e16] at hK |-; have HK := zH hK; clear hK; go_simp; exact HK.out _ _ ⟨_, rfl, h16⟩ (zR _ _)
     ·have d16 : AppV L (vs 16) w1 := hd 16 (by kernel_rfl)
      have zh16 := Exists.choose_spec d16; generalize Exists.choose d16 = gh16 at zh16; have e16 := zh16.1; have h16 := zh16.2; clear zh16 d16; simp only [e16] at hK |-; have HK := zH hK; clear hK; go_simp; exact HK.out _ _ rfl (zR _ _)
    ·intro vs w3 hb hd; have HBR := zH hb; obtain ⟨p2, d17, hq⟩ : PtrV L (vs 17) w3 := hd 17 (by omega)
     have d18 : vs 18 = .int .i64 0 := hd 18 (by omega)
     obtain ⟨u0, f0⟩ : ∃ u, vs 0 = u := ⟨_, rfl⟩; obtain ⟨u1, f1⟩ : ∃ u, vs 1 = u := ⟨_, rfl⟩; obtain ⟨u2, f2⟩ : ∃ u, vs 2 = u := ⟨_, rfl⟩; obtain ⟨u3, f3⟩ : ∃ u, vs 3 = u := ⟨_, rfl⟩; obtain ⟨u4, f4⟩ : ∃ u, vs 4 = u := ⟨_, rfl⟩; obtain ⟨u5, f5⟩ : ∃ u, vs 5 = u := ⟨_, rfl⟩; obtain ⟨u6, f6⟩ : ∃ u, vs 6 = u := ⟨_, rfl⟩; obtain ⟨u7, f7⟩ : ∃ u, vs 7 = u := ⟨_, rfl⟩; obtain ⟨u8, f8⟩ : ∃ u, vs 8 = u := ⟨_, rfl⟩; obtain ⟨u9, f9⟩ : ∃ u, vs 9 = u := ⟨_, rfl⟩; obtain ⟨u10, f10⟩ : ∃ u, vs 10 = u := ⟨_, rfl⟩; obtain ⟨u11, f11⟩ : ∃ u, vs 11 = u := ⟨_, rfl⟩; obtain ⟨u12, f12⟩ : ∃ u, vs 12 = u := ⟨_, rfl⟩; obtain ⟨u13, f13⟩ : ∃ u, vs 13 = u := ⟨_, rfl⟩; obtain ⟨u14, f14⟩ : ∃ u, vs 14 = u := ⟨_, rfl⟩; obtain ⟨u15, f15⟩ : ∃ u, vs 15 = u := ⟨_, rfl⟩; obtain ⟨u16, f16⟩ : ∃ u, vs 16 = u := ⟨_, rfl⟩; simp only [f0, f1, f2, f3, f4, f5, f6, f7, f8, f9, f10, f11, f12, f13, f14, f15, f16, frameV, zS, zA, zB, List.drop_succ_cons, List.drop_zero, List.take_succ_cons, List.take_zero, List.cons_append, List.nil_append, d17, d18]; clear hb hd; have HP2 := zH (HT1.out.below HBR.out (zN _)); have HQ2 := zH hq; have HB2 := zH (HB1.out.trans (HBR.out.mono HB1.out.size)); clear hq
     go_wp2
     go_loopw [16] (fun i wr => ∃ j : Nat, 1 <= j /\ j <= k /\ i = .int .i64 (j : Nat) /\ Hid (TabAt anyB wr p rootP) /\ Hid (TabAt anyB wr p2 L) /\ Hid (Below w.heap.size w wr)) (fun i _ => k - (intOf i).toNat)
     case atStart => exact ⟨1, zN _, HK1.out, rfl, HP2.out, HQ2.out, HB2.out⟩
     case round =>
      obtain ⟨j, hj1, hjk, rfl, HP, HQ, HB⟩ := hrel; clear HP2 HQ2 HB2 HB1 HT1 HBR
      by_cases hlt : j < k
      ·have hltI : (j : Int) < (k : Int) := by omega
       have CJ := zH (CI.out wr p2 j HQ.out hj1 hlt); clear hlt
       go_wp2_with (go_at_call 10; refine (CJ.out).mono ?_; rintro e w4 ⟨rfl, hb⟩; have HP4 := zH (HP.out.below hb (zN _)); have HQ4 := zH (HQ.out.below hb (zN _)); have HB4 := zH (HB.out.trans (hb.mono HB.out.size)); clear hb)
       go_roundw
       case rel => exact ⟨j + 1, by omega, by omega, by go_num, HP4.out, HQ4.out, HB4.out⟩
       case measure => simp [intOf] <;> omega
      ·have hltI : ¬ (j : Int) < (k : Int) := by omega
       have tk1 : True := trivial
       have tk2 : True := trivial
       have tk3 : True := trivial
       have tk4 : True := trivial
       have tk5 : True := trivial
       clear hlt
       by_cases hq : C1 < 0
       ·have hq2 : C2 < 0 := HQ5.out.1 hq
        go_wp2_with (first
         | (go_at_call 10; have _t := tk1; refine (CK.out _ _ HQ.out).mono ?_; rintro e w4 ⟨rfl, hb⟩; have HP4 := zH (HP.out.below hb (zN _)); have HQ4 := zH (HQ.out.below hb (zN _)); have HB4 := zH (HB.out.trans (hb.mono HB.out.size)); clear hb _t tk1)
         | (go_at_call 10; have _t := tk2; refine (C3.out _ _ HQ4.out).mono ?_; rintro e w5 ⟨rfl, hb⟩; have HP5 := zH (HP4.out.below hb (zN _)); have HQ5' := zH (HQ4.out.below hb (zN _)); have HB5 := zH (HB4.out.trans (hb.mono HB4.out.size)); clear hb _t tk2)
         | (go_at_call 10; have _t := tk3; refine (C4.out _ _ HP5.out).mono ?_; rintro e w6 ⟨rfl, hb⟩; have HP6 := zH (HP5.out.below hb (zN _)); have HQ6 := zH (HQ5'.out.below hb (zN _)); have HB6 := zH (HB5.out.trans (hb.mono HB5.out.size)); clear hb _t tk3)
         | (go_at_call 10; have _t := tk4; refine (C4.out _ _ HP6.out).mono ?_; rintro e w7 ⟨rfl, hb⟩; have HQ7 := zH (HQ6.out.below hb (zN _)); have HB7 := zH (HB6.out.trans (hb.mono HB6.out.size)); clear hb _t tk4)
         | (go_at_call 10; have _t := tk5; refine (C5.out _ _ HQ7.out).mono ?_; rintro e w8 ⟨rfl, hb⟩; have HB8 := zH (HB7.out.trans (hb.mono HB7.out.size)); clear hb _t tk5)
         | (go_at_call 12; refine (HAW.out _).mono ?_; rintro e w9 ⟨rfl, hb⟩; have HB9 := zH (HB8.out.trans (hb.mono HB8.out.size)); clear hb))
        go_ret
        exact ⟨rfl, HB9.out⟩
       ·have hq2 : ¬ C2 < 0 := fun h => hq (HQ5.out.2 h)
        go_wp2_with (first
         | (go_at_call 10; have _t := tk1; refine (CK.out _ _ HQ.out).mono ?_; rintro e w4 ⟨rfl, hb⟩; have HP4 := zH (HP.out.below hb (zN _)); have HQ4 := zH (HQ.out.below hb (zN _)); have HB4 := zH (HB.out.trans (hb.mono HB.out.size)); clear hb _t tk1)
         | (go_at_call 10; have _t := tk2; refine (C3.out _ _ HQ4.out).mono ?_; rintro e w5 ⟨rfl, hb⟩; have HP5 := zH (HP4.out.below hb (zN _)); have HQ5' := zH (HQ4.out.below hb (zN _)); have HB5 := zH (HB4.out.trans (hb.mono HB4.out.size)); clear hb _t tk2)
         | (go_at_call 10; have _t := tk3; refine (C4.out _ _ HP5.out).mono ?_; rintro e w6 ⟨rfl, hb⟩; have HP6 := zH (HP5.out.below hb (zN _)); have HQ6 := zH (HQ5'.out.below hb (zN _)); have HB6 := zH (HB5.out.trans (hb.mono HB5.out.size)); clear hb _t tk3)
         | (go_at_call 10; have _t := tk4; refine (C4.out _ _ HP6.out).mono ?_; rintro e w7 ⟨rfl, hb⟩; have HQ7 := zH (HQ6.out.below hb (zN _)); have HB7 := zH (HB6.out.trans (hb.mono HB6.out.size)); clear hb _t tk4)
         | (go_at_call 10; have _t := tk5; refine (C5.out _ _ HQ7.out).mono ?_; rintro e w8 ⟨rfl, hb⟩; have HB8 := zH (HB7.out.trans (hb.mono HB7.out.size)); clear hb _t tk5)
         | (go_at_call 12; refine (HAW.out _).mono ?_; rintro e w9 ⟨rfl, hb⟩; have HB9 := zH (HB8.out.trans (hb.mono HB8.out.size)); clear hb))
        go_ret
        exact ⟨rfl, HB9.out⟩
    ·intro vs w3 hb hd; have HBR := zH hb; obtain ⟨p2, d17, hq⟩ : PtrV L (vs 17) w3 := hd 17 (by omega) (by omega)
     obtain ⟨p4, d18, -⟩ : AppV L (vs 16) w3 := hd 16 (by omega) (by omega)
     obtain ⟨u0, f0⟩ : ∃ u, vs 0 = u := ⟨_, rfl⟩; obtain ⟨u1, f1⟩ : ∃ u, vs 1 = u := ⟨_, rfl⟩; obtain ⟨u2, f2⟩ : ∃ u, vs 2 = u := ⟨_, rfl⟩; obtain ⟨u3, f3⟩ : ∃ u, vs 3 = u := ⟨_, rfl⟩; obtain ⟨u4, f4⟩ : ∃ u, vs 4 = u := ⟨_, rfl⟩; obtain ⟨u5, f5⟩ : ∃ u, vs 5 = u := ⟨_, rfl⟩; obtain ⟨u6, f6⟩ : ∃ u, vs 6 = u := ⟨_, rfl⟩; obtain ⟨u7, f7⟩ : ∃ u, vs 7 = u := ⟨_, rfl⟩; obtain ⟨u8, f8⟩ : ∃ u, vs 8 = u := ⟨_, rfl⟩; obtain ⟨u9, f9⟩ : ∃ u, vs 9 = u := ⟨_, rfl⟩; obtain ⟨u10, f10⟩ : ∃ u, vs 10 = u := ⟨_, rfl⟩; obtain ⟨u11, f11⟩ : ∃ u, vs 11 = u := ⟨_, rfl⟩; obtain ⟨u12, f12⟩ : ∃ u, vs 12 = u := ⟨_, rfl⟩; obtain ⟨u13, f13⟩ : ∃ u, vs 13 = u := ⟨_, rfl⟩; obtain ⟨u14, f14⟩ : ∃ u, vs 14 = u := ⟨_, rfl⟩; obtain ⟨u15, f15⟩ : ∃ u, vs 15 = u := ⟨_, rfl⟩; obtain ⟨u18, f18⟩ : ∃ u, vs 18 = u := ⟨_, rfl⟩; simp only [f0, f1, f2, f3, f4, f5, f6, f7, f8, f9, f10, f11, f12, f13, f14, f15, f18, frameV, zS, zA, zB, List.drop_succ_cons, List.drop_zero, List.take_succ_cons, List.take_zero, List.cons_append, List.nil_append, d17, d18]; clear hb hd; have HP2 := zH (HT1.out.below HBR.out (zN _)); have HQ2 := zH hq; have HB2 := zH (HB1.out.trans (HBR.out.mono HB1.out.size)); clear hq
     go_wp2
     go_loopw [16] (fun i wr => ∃ j : Nat, 1 <= j /\ j <= k /\ i = .int .i64 (j : Nat) /\ Hid (TabAt anyB wr p rootP) /\ Hid (TabAt anyB wr p2 L) /\ Hid (Below w.heap.size w wr)) (fun i _ => k - (intOf i).toNat)
     case atStart => exact ⟨1, zN _, HK1.out, rfl, HP2.out, HQ2.out, HB2.out⟩
     case round =>
      obtain ⟨j, hj1, hjk, rfl, HP, HQ, HB⟩ := hrel; clear HP2 HQ2 HB2 HB1 HT1 HBR
      by_cases hlt : j < k
      ·have hltI : (j : Int) < (k : Int) := by omega
       have CJ := zH (CI.out wr p2 j HQ.out hj1 hlt); clear hlt
       go_wp2_with (go_at_call 10; refine (CJ.out).mono ?_; rintro e w4 ⟨rfl, hb⟩; have HP4 := zH (HP.out.below hb (zN _)); have HQ4 := zH (HQ.out.below hb (zN _)); have HB4 := zH (HB.out.trans (hb.mono HB.out.size)); clear hb)
       go_roundw
       case rel => exact ⟨j + 1, by omega, by omega, by go_num, HP4.out, HQ4.out, HB4.out⟩
       case measure => simp [intOf] <;> omega
      ·have hltI : ¬ (j : Int) < (k : Int) := by omega
       have tk1 : True := trivial
       have tk2 : True := trivial
       have tk3 : True := trivial
       have tk4 : True := trivial
       have tk5 : True := trivial
       clear hlt
       by_cases hq : C1 < 0
       ·have hq2 : C2 < 0 := HQ5.out.1 hq
        go_wp2_with (first
         | (go_at_call 10; have _t := tk1; refine (CK.out _ _ HQ.out).mono ?_; rintro e w4 ⟨rfl, hb⟩; have HP4 := zH (HP.out.below hb (zN _)); have HQ4 := zH (HQ.out.below hb (zN _)); have HB4 := zH (HB.out.trans (hb.mono HB.out.size)); clear hb _t tk1)
         | (go_at_call 10; have _t := tk2; refine (C3.out _ _ HQ4.out).mono ?_; rintro e w5 ⟨rfl, hb⟩; have HP5 := zH (HP4.out.below hb (zN _)); have HQ5' := zH (HQ4.out.below hb (zN _)); have HB5 := zH (HB4.out.trans (hb.mono HB4.out.size)); clear hb _t tk2)
         | (go_at_call 10; have _t := tk3; refine (C4.out _ _ HP5.out).mono ?_; rintro e w6 ⟨rfl, hb⟩; have HP6 := zH (HP5.out.below hb (zN _)); have HQ6 := zH (HQ5'.out.below hb (zN _)); have HB6 := zH (HB5.out.trans (hb.mono HB5.out.size)); clear hb _t tk3)
         | (go_at_call 10; have _t := tk4; refine (C4.out _ _ HP6.out).mono ?_; rintro e w7 ⟨rfl, hb⟩; have HQ7 := zH (HQ6.out.below hb (zN _)); have HB7 := zH (HB6.out.trans (hb.mono HB6.out.size)); clear hb _t tk4)
         | (go_at_call 10; have _t := tk5; refine (C5.out _ _ HQ7.out).mono ?_; rintro e w8 ⟨rfl, hb⟩; have HB8 := zH (HB7.out.trans (hb.mono HB7.out.size)); clear hb _t tk5)
         | (go_at_call 12; refine (HAW.out _).mono ?_; rintro e w9 ⟨rfl, hb⟩; have HB9 := zH (HB8.out.trans (hb.mono HB8.out.size)); clear hb))
        go_ret
        exact ⟨rfl, HB9.out⟩
       ·have hq2 : ¬ C2 < 0 := fun h => hq (HQ5.out.2 h)
        go_wp2_with (first
         | (go_at_call 10; have _t := tk1; refine (CK.out _ _ HQ.out).mono ?_; rintro e w4 ⟨rfl, hb⟩; have HP4 := zH (HP.out.below hb (zN _)); have HQ4 := zH (HQ.out.below hb (zN _)); have HB4 := zH (HB.out.trans (hb.mono HB.out.size)); clear hb _t tk1)
         | (go_at_call 10; have _t := tk2; refine (C3.out _ _ HQ4.out).mono ?_; rintro e w5 ⟨rfl, hb⟩; have HP5 := zH (HP4.out.below hb (zN _)); have HQ5' := zH (HQ4.out.below hb (zN _)); have HB5 := zH (HB4.out.trans (hb.mono HB4.out.size)); clear hb _t tk2)
         | (go_at_call 10; have _t := tk3; refine (C4.out _ _ HP5.out).mono ?_; rintro e w6 ⟨rfl, hb⟩; have HP6 := zH (HP5.out.below hb (zN _)); have HQ6 := zH (HQ5'.out.below hb (zN _)); have HB6 := zH (HB5.out.trans (hb.mono HB5.out.size)); clear hb _t tk3)
         | (go_at_call 10; have _t := tk4; refine (C4.out _ _ HP6.out).mono ?_; rintro e w7 ⟨rfl, hb⟩; have HQ7 := zH (HQ6.out.below hb (zN _)); have HB7 := zH (HB6.out.trans (hb.mono HB6.out.size)); clear hb _t tk4)
         | (go_at_call 10; have _t := tk5; refine (C5.out _ _ HQ7.out).mono ?_; rintro e w8 ⟨rfl, hb⟩; have HB8 := zH (HB7.out.trans (hb.mono HB7.out.size)); clear hb _t tk5)
         | (go_at_call 12; refine (HAW.out _).mono ?_; rintro e w9 ⟨rfl, hb⟩; have HB9 := zH (HB8.out.trans (hb.mono HB8.out.size)); clear hb))
        go_ret
        exact ⟨rfl, HB9.out⟩
end Go.Proofs.YtichfdjjbafeiaaGreat
