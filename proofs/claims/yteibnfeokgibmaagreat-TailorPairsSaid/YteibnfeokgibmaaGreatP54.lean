/-
  PACKED for a claim.
-/
import Derived.Laws.Concat
import Derived.Test.YteibnfeokgibmaaGreatP53
set_option linter.unusedVariables false
set_option linter.unusedSimpArgs false
set_option maxRecDepth 100000
namespace Go.Proofs.YteibnfeokgibmaaGreat
open Go.RowKit
theorem tx8 {l : List Nat} (h : l.all (fun x => decide (x < 128)) = true) {s : ByteArray} (hs : s.data.toList = l.map UInt8.ofNat) : T2.sgs s.data.toList = l.map fun x => ((x : Nat) : Int) := by
 rw [hs, yta]
 ·rw [List.map_map]; refine List.map_congr_left fun x hx => ?_
  have := of_decide_eq_true (List.all_eq_true.1 h x hx)
  show (((UInt8.ofNat x).toNat : Nat) : Int) = _
  rw [UInt8.toNat_ofNat']; omega
 ·rw [List.all_map]; refine List.all_eq_true.2 fun x hx => ?_
  have := of_decide_eq_true (List.all_eq_true.1 h x hx)
  show decide ((UInt8.ofNat x).toNat < 128) = true
  rw [UInt8.toNat_ofNat']; exact decide_eq_true (by omega)
theorem u8_rem {a0 : Int} (h : 0 <= a0 /\ a0 <= 255) : ∃ q : Nat, a0.tmod 26 = (q : Int) /\ q < 26 := ⟨(a0.tmod 26).toNat, by rw [Int.tmod_eq_emod_of_nonneg (by omega)]; omega, by rw [Int.tmod_eq_emod_of_nonneg (by omega)]; omega⟩
theorem yvj {a b : Nat} (ha : a < 26) (hb : b < 26) : Op.bytesLess (letT a).toList (letT b).toList = decide (a < b) := by
 rw [Lib.toList_data, Lib.toList_data]
 show (decide (UInt8.ofNat (97 + a) < UInt8.ofNat (97 + b)) || (UInt8.ofNat (97 + a) == UInt8.ofNat (97 + b) && false)) = _
 rw [Bool.and_false, Bool.or_false]
 have e : (UInt8.ofNat (97 + a) < UInt8.ofNat (97 + b)) = (a < b) := by
  rw [UInt8.lt_iff_toNat_lt, UInt8.toNat_ofNat', UInt8.toNat_ofNat']
  apply propext; omega
 simp only [e]
theorem letT_eq {a b : Nat} (ha : a < 26) (hb : b < 26) : ((letT a).toList == (letT b).toList) = decide (a = b) := by
 rw [Lib.toList_data, Lib.toList_data]
 show ([UInt8.ofNat (97 + a)] == [UInt8.ofNat (97 + b)]) = _
 rw [Bool.eq_iff_iff, beq_iff_eq, decide_eq_true_eq]
 constructor
 ·intro h
  injection h with h _
  have := congrArg UInt8.toNat h
  rw [UInt8.toNat_ofNat', UInt8.toNat_ofNat'] at this
  omega
 ·rintro rfl; rfl
set_option maxHeartbeats 8000000 in
theorem ygq (a0 b0 c0 o0 : Int) (w : World) (ha0 : 0 <= a0 /\ a0 <= 255) (hb0 : 0 <= b0 /\ b0 <= 255) (hc0 : 0 <= c0 /\ c0 <= 255) (ho0 : 0 <= o0 /\ o0 <= 255) :
  Calls Tryz.prog 7 #[.int .u8 a0, .int .u8 b0, .int .u8 c0, .int .u8 o0] w fun e w' => e = .returned (.bool true) /\ Below w.heap.size w w' := by
 have HAW := zH yry; obtain ⟨a, hra, ha26⟩ := u8_rem ha0
 have hwa : IntKind.u8.wrap (97 + (a : Int)) = ((97 + a : Nat) : Int) := by rw [IntWalk.u8_in _ (by omega)]; omega
 have kva := fun (w : World) (g : Nat) (h : w.cell? ⟨g, 0, none⟩ = some (.int .u8 ((97 + a : Nat) : Int))) => yhe ha26 h
 have kwa := fun (w : World) => yfi ha26 w
 obtain ⟨b, hrb, hb26⟩ := u8_rem hb0
 have hwb : IntKind.u8.wrap (97 + (b : Int)) = ((97 + b : Nat) : Int) := by rw [IntWalk.u8_in _ (by omega)]; omega
 have kvb := fun (w : World) (g : Nat) (h : w.cell? ⟨g, 0, none⟩ = some (.int .u8 ((97 + b : Nat) : Int))) => yhe hb26 h
 have kwb := fun (w : World) => yfi hb26 w
 obtain ⟨c, hrc, hc26⟩ := u8_rem hc0
 have hwc : IntKind.u8.wrap (97 + (c : Int)) = ((97 + c : Nat) : Int) := by rw [IntWalk.u8_in _ (by omega)]; omega
 have kvc := fun (w : World) (g : Nat) (h : w.cell? ⟨g, 0, none⟩ = some (.int .u8 ((97 + c : Nat) : Int))) => yhe hc26 h
 have kwc := fun (w : World) => yfi hc26 w
 obtain ⟨o, hro, ho26⟩ := u8_rem ho0
 have hwo : IntKind.u8.wrap (97 + (o : Int)) = ((97 + o : Nat) : Int) := by rw [IntWalk.u8_in _ (by omega)]; omega
 have kvo := fun (w : World) (g : Nat) (h : w.cell? ⟨g, 0, none⟩ = some (.int .u8 ((97 + o : Nat) : Int))) => yhe ho26 h
 have kwo := fun (w : World) => yfi ho26 w
 have pa := yuf ha26 hb26 hc26 ho26
 have tYZ : T2.sgs (letT b ++ letT c).data.toList = [lc b, lc c] := tx8 (l := [97 + b, 97 + c]) (by simp; omega) (by rw [ByteArray.data_append]; rfl)
 have tY1 : T2.sgs (letT b ++ ⟨#[49]⟩ ++ letT c).data.toList = [lc b, 49, lc c] := tx8 (l := [97 + b, 49, 97 + c]) (by simp; omega) (by rw [ByteArray.data_append, ByteArray.data_append]; rfl)
 have tY2 : T2.sgs (letT b ++ ⟨#[50]⟩ ++ letT c).data.toList = [lc b, 50, lc c] := tx8 (l := [97 + b, 50, 97 + c]) (by simp; omega) (by rw [ByteArray.data_append, ByteArray.data_append]; rfl)
 obtain ⟨S, hS⟩ : ∃ S : ByteArray, ⟨#[38, 32]⟩ ++ letT a ++ ⟨#[32, 60, 32]⟩ ++ letT b ++ letT c = S := ⟨_, rfl⟩; obtain ⟨o1, o2, o3⟩ := yzc ha26 hb26 hc26 (s := S) (by rw [<- hS]; simp only [ByteArray.data_append, Array.toList_append]; rfl)
 have hP := ytr (s := S) (by rw [<- hS]; simp only [ByteArray.size_append, ydy]; show 2 + 1 + 3 + 1 + 1 <= 1000000; omega) o2
 rw [o1, o3, <- hS] at hP
 have k1 : colK (.table 3 false false (prL a b c)) (letT a).data.toList (letT b ++ letT c).data.toList = -1 := by rw [yek, ykp a ha26, tYZ]; exact pa.1
 have k2 : colK (.table 3 false false (prL a b c)) (letT b ++ letT c).data.toList (letT o).data.toList = if o < a then 1 else if a < o then -1 else colK (.table 3 false false (prL a b c)) (letT b ++ letT c).data.toList (letT o).data.toList := by
  by_cases h : o < a
  ·rw [if_pos h, yek, ykp o ho26, tYZ]; exact pa.2.1 h
  ·rw [if_neg h]
   by_cases h' : a < o
   ·rw [if_pos h', yek, ykp o ho26, tYZ]; exact pa.2.2.1 h'
   ·rw [if_neg h']
 have k3 : colK (.table 3 false false (prL a b c)) (letT b ++ ⟨#[49]⟩ ++ letT c).data.toList (letT b ++ ⟨#[50]⟩ ++ letT c).data.toList = -1 := by rw [yek, tY1, tY2]; exact pa.2.2.2
 have k4 : colK (.table 3 false false (prL a b c)) (letT b ++ letT c).data.toList (letT b ++ letT c).data.toList = 0 := (to_colK _).self _
 have l1 := yvj ho26 ha26; have l2 := letT_eq ho26 ha26; obtain ⟨K, hK⟩ : ∃ K, prL a b c = K := ⟨_, rfl⟩; rw [hK] at hP k1 k2 k3 k4; have sa := ydy a; obtain ⟨X, hX⟩ : ∃ X, letT a = X := ⟨_, rfl⟩; have sb := ydy b; obtain ⟨Y, hY⟩ : ∃ X, letT b = X := ⟨_, rfl⟩; have sc := ydy c; obtain ⟨Z, hZ⟩ : ∃ X, letT c = X := ⟨_, rfl⟩; have so := ydy o; obtain ⟨O, hO⟩ : ∃ X, letT o = X := ⟨_, rfl⟩; rw [hX] at hP k1 l1 l2 sa kva kwa; rw [hY] at hP k1 k2 k3 k4 sb kvb kwb; rw [hZ] at hP k1 k2 k3 k4 sc kvc kwc; rw [hO] at k2 l1 l2 so kvo kwo; obtain ⟨xa, hxa⟩ : ∃ q, 97 + a = q := ⟨_, rfl⟩; rw [hxa] at hwa kva kwa; obtain ⟨xb, hxb⟩ : ∃ q, 97 + b = q := ⟨_, rfl⟩; rw [hxb] at hwb kvb kwb; obtain ⟨xc, hxc⟩ : ∃ q, 97 + c = q := ⟨_, rfl⟩; rw [hxc] at hwc kvc kwc; obtain ⟨xo, hxo⟩ : ∃ q, 97 + o = q := ⟨_, rfl⟩; rw [hxo] at hwo kvo kwo
 have z1 : (⟨#[38, 32]⟩ ++ X : ByteArray).size = 3 := by rw [ByteArray.size_append, sa]; rfl
 have z2 : (⟨#[38, 32]⟩ ++ X ++ ⟨#[32, 60, 32]⟩ : ByteArray).size = 6 := by rw [ByteArray.size_append, z1]; rfl
 have z3 : (⟨#[38, 32]⟩ ++ X ++ ⟨#[32, 60, 32]⟩ ++ Y : ByteArray).size = 7 := by rw [ByteArray.size_append, z2, sb]
 have z5 : (Y ++ ⟨#[49]⟩ : ByteArray).size = 2 := by rw [ByteArray.size_append, sb]; rfl
 have z6 : (Y ++ ⟨#[50]⟩ : ByteArray).size = 2 := by rw [ByteArray.size_append, sb]; rfl
 have z7 : (Y ++ ⟨#[49]⟩ ++ Z : ByteArray).size = 3 := by rw [ByteArray.size_append, z5, sc]
 have z8 : (Y ++ ⟨#[50]⟩ ++ Z : ByteArray).size = 3 := by rw [ByteArray.size_append, z6, sc]
 have z9 : (Y ++ Z : ByteArray).size = 2 := by rw [ByteArray.size_append, sb, sc]
 obtain ⟨r2, hr2⟩ : ∃ r, colK (.table 3 false false K) (Y ++ Z).data.toList O.data.toList = r := ⟨_, rfl⟩; rw [hr2] at k2
 have C1 : Hid (∀ (w1 : World) (v : Value), ColAt w1 v (.table 3 false false K) -> Calls Tryz.prog 15 #[v, .string X, .string (Y ++ Z)] w1 fun e w' => e = .returned (.int .i64 (-1)) /\ Below w1.heap.size w1 w') := fun w1 v h => yef h (by omega) (by omega) k1
 have C2 : Hid (∀ (w1 : World) (v : Value), ColAt w1 v (.table 3 false false K) -> Calls Tryz.prog 15 #[v, .string (Y ++ Z), .string O] w1 fun e w' => e = .returned (.int .i64 r2) /\ Below w1.heap.size w1 w') := fun w1 v h => yef h (by omega) (by omega) hr2
 have C3 : Hid (∀ (w1 : World) (v : Value), ColAt w1 v (.table 3 false false K) -> Calls Tryz.prog 15 #[v, .string (Y ++ ⟨#[49]⟩ ++ Z), .string (Y ++ ⟨#[50]⟩ ++ Z)] w1 fun e w' => e = .returned (.int .i64 (-1)) /\ Below w1.heap.size w1 w') := fun w1 v h => yef h (by omega) (by omega) k3
 have C4 : Hid (∀ (w1 : World) (v : Value), ColAt w1 v (.table 3 false false K) -> Calls Tryz.prog 15 #[v, .string (Y ++ Z), .string (Y ++ Z)] w1 fun e w' => e = .returned (.int .i64 0) /\ Below w1.heap.size w1 w') := fun w1 v h => yef h (by omega) (by omega) k4
 have CO := zH (fun w => yzg hP w)
 have HK2 := zH k2; clear hS hP k1 k2 k3 k4 hr2 pa tYZ tY1 tY2 o1 o2 o3 hK ha0 hb0 hc0 ho0 hX hY hZ hO hxa hxb hxc hxo; have kA := kwa w; have HKB := zH kvb; have HKC := zH kvc; have HKO := zH kwo; clear kva kvb kvc kvo kwa kwb kwc kwo
 go_enter Tryz.func7, Tryz.ntmps7
 go_upto_region 2 with (fail)
 have HB1 := zH (belAlloc w (.cells #[.int .u8 (xa : Int)] 5)); clear kA; generalize (w.alloc (.cells #[.int .u8 (xa : Int)] 5)) = w1 at HB1 |-; refine yag (m := 11) [21, 22, 23, 24, 25, 26, 27, 28, 29, 30, 10] [SV.eq (.int .u8 b0), SV.eq (.int .u8 (b : Int)), SV.eq (.int .u8 (xb : Int)), SV.by1 (xb : Int), SV.eq (.string Y), SV.eq (.int .u8 c0), SV.eq (.int .u8 (c : Int)), SV.eq (.int .u8 (xc : Int)), SV.by1 (xc : Int), SV.eq (.string Z), SV.eq (.string Y)] (by kernel_rfl) (by kernel_rfl) ?_ ?_
 ·refine ⟨⟨⟨⟨⟨⟨⟨⟨⟨⟨⟨trivial, ?_⟩, ?_⟩, ?_⟩, ?_⟩, ?_⟩, ?_⟩, ?_⟩, ?_⟩, ?_⟩, ?_⟩, ?_⟩
  all_goals (refine OpIs.mk rfl ?_; intro vs w1 hb hd K hK; simp only [frameV, zS, zA, zB, zC, zD] at hK |-)
  ·have HK := zH hK; clear hK; go_simp; exact HK.out _ _ rfl (zR _ _)
  ·have d0 : vs 0 = .int .u8 b0 := hd 0 (by kernel_rfl)
   simp only [d0] at hK |-; have HK := zH hK; clear hK; go_simp; exact HK.out _ _ rfl (zR _ _)
  ·have d1 : vs 1 = .int .u8 (b : Int) := hd 1 (by kernel_rfl)
   simp only [d1] at hK |-; have HK := zH hK; clear hK; go_simp; exact HK.out _ _ rfl (zR _ _)
  ·have d2 : vs 2 = .int .u8 (xb : Int) := hd 2 (by kernel_rfl)
   simp only [d2] at hK |-; have HK := zH hK; clear hK; go_simp; exact HK.out _ _ (ywq w1 _) (belAlloc w1 _)
  ·have d3 : By1V (xb : Int) (vs 3) w1 := hd 3 (by kernel_rfl)
   have q1 := Exists.choose_spec d3; generalize Exists.choose d3 = g0 at q1; have q2 := q1.1; have q3 := q1.2; have kc := HKB.out w1 g0 q3; rw [q2] at hK |-; have HK := zH hK; clear hK; go_simp; exact HK.out _ _ rfl (zR _ _)
  ·have HK := zH hK; clear hK; go_simp; exact HK.out _ _ rfl (zR _ _)
  ·have d5 : vs 5 = .int .u8 c0 := hd 5 (by kernel_rfl)
   simp only [d5] at hK |-; have HK := zH hK; clear hK; go_simp; exact HK.out _ _ rfl (zR _ _)
  ·have d6 : vs 6 = .int .u8 (c : Int) := hd 6 (by kernel_rfl)
   simp only [d6] at hK |-; have HK := zH hK; clear hK; go_simp; exact HK.out _ _ rfl (zR _ _)
  ·have d7 : vs 7 = .int .u8 (xc : Int) := hd 7 (by kernel_rfl)
   simp only [d7] at hK |-; have HK := zH hK; clear hK; go_simp; exact HK.out _ _ (ywq w1 _) (belAlloc w1 _)
  ·have d8 : By1V (xc : Int) (vs 8) w1 := hd 8 (by kernel_rfl)
   have q1 := Exists.choose_spec d8; generalize Exists.choose d8 = g0 at q1; have q2 := q1.1; have q3 := q1.2; have kc := HKC.out w1 g0 q3; rw [q2] at hK |-; have HK := zH hK; clear hK; go_simp; exact HK.out _ _ rfl (zR _ _)
  ·have d4 : vs 4 = .string Y := hd 4 (by kernel_rfl)
   simp only [d4] at hK |-; have HK := zH hK; clear hK; go_simp; exact HK.out _ _ rfl (zR _ _)
 ·intro vs w2 hb hd
  have d4 : vs 4 = .string Y := hd 4 (by omega)
  have d10 : vs 10 = .string Y := hd 10 (by omega)
  have d9 : vs 9 = .string Z := hd 9 (by omega)
  have HB2 := zH (HB1.out.trans (hb.mono HB1.out.size)); simp only [frameV, zS, zA, zB, List.drop_succ_cons, List.drop_zero, d4, d9, d10]; clear hb hd d4 d9 d10; have kO := HKO.out w2
  go_upto_region 4 with (fail)
  have HB3 := zH (HB2.out.trans ((belAlloc w2 (.cells #[.int .u8 (xo : Int)] 5)).mono HB2.out.size)); clear kO; generalize (w2.alloc (.cells #[.int .u8 (xo : Int)] 5)) = w3 at HB3 |-
  go_upto_region 5 with (go_at_call 16; refine (CO.out _).mono ?_; rintro e w4 ⟨⟨p, rfl, hc⟩, hb⟩; have hba := belAlloc w4 (.cells #[.int .i64 3, .int .i64 3, .bool false, .bool false, .pointer (some ⟨p, 0, none⟩)] 25); have HX := zH (heap_alloc_new w4 (.cells #[.int .i64 3, .int .i64 3, .bool false, .bool false, .pointer (some ⟨p, 0, none⟩)] 25)); have HC := zH (hc.below hba (zN _)); have HB4 := zH (HB3.out.trans ((hb.trans (hba.mono hb.size)).mono HB3.out.size)); clear hba hc hb)
  generalize (w4.alloc (.cells #[.int .i64 3, .int .i64 3, .bool false, .bool false, .pointer (some ⟨p, 0, none⟩)] 25)) = wz at HX HC HB4 |-; obtain ⟨bx, hbx⟩ : ∃ b, w4.heap.size = b := ⟨_, rfl⟩; rw [hbx] at HX |-; clear hbx HB1 HB2 HB3 HKB HKC HKO CO; have HX0 := HX; have HC0 := HC; have HZ0 := HB4; have hk2 := HK2.out; clear HK2
  by_cases h1 : o < a
  ·rw [decide_eq_true h1] at l1; rw [decide_eq_false (by omega)] at l2
   rw [if_pos h1] at hk2; subst hk2; clear h1; have y0 := cellAt (i := 0) (v := .int .i64 3) HX.out rfl; have y1 := cellAt (i := 1) (v := .int .i64 3) HX.out rfl; have y2 := cellAt (i := 2) (v := .bool false) HX.out rfl; have y3 := cellAt (i := 3) (v := .bool false) HX.out rfl; have y4 := cellAt (i := 4) (v := .pointer (some ⟨p, 0, none⟩)) HX.out rfl
   go_wp2_with (first
    | (go_at_call 15; (with_reducible refine (C1.out _ _ HC0.out).mono ?_); rintro e v1 ⟨rfl, hb⟩; have HX1 := zH ((hb.block bx (R4.yad HX0.out)).trans HX0.out); have HC1 := zH (HC0.out.below hb (zN _)); have HZ1 := zH (HZ0.out.trans (hb.mono HZ0.out.size)); clear hb y0 y1 y2 y3 y4; have y0 := cellAt (i := 0) (v := .int .i64 3) HX1.out rfl; have y1 := cellAt (i := 1) (v := .int .i64 3) HX1.out rfl; have y2 := cellAt (i := 2) (v := .bool false) HX1.out rfl; have y3 := cellAt (i := 3) (v := .bool false) HX1.out rfl; have y4 := cellAt (i := 4) (v := .pointer (some ⟨p, 0, none⟩)) HX1.out rfl)
    | (go_at_call 15; (with_reducible refine (C2.out _ _ HC1.out).mono ?_); rintro e v2 ⟨rfl, hb⟩; have HX2 := zH ((hb.block bx (R4.yad HX1.out)).trans HX1.out); have HC2 := zH (HC1.out.below hb (zN _)); have HZ2 := zH (HZ1.out.trans (hb.mono HZ1.out.size)); clear hb y0 y1 y2 y3 y4; have y0 := cellAt (i := 0) (v := .int .i64 3) HX2.out rfl; have y1 := cellAt (i := 1) (v := .int .i64 3) HX2.out rfl; have y2 := cellAt (i := 2) (v := .bool false) HX2.out rfl; have y3 := cellAt (i := 3) (v := .bool false) HX2.out rfl; have y4 := cellAt (i := 4) (v := .pointer (some ⟨p, 0, none⟩)) HX2.out rfl)
    | (go_at_call 15; (with_reducible refine (C3.out _ _ HC2.out).mono ?_); rintro e v3 ⟨rfl, hb⟩; have HX3 := zH ((hb.block bx (R4.yad HX2.out)).trans HX2.out); have HC3 := zH (HC2.out.below hb (zN _)); have HZ3 := zH (HZ2.out.trans (hb.mono HZ2.out.size)); clear hb y0 y1 y2 y3 y4; have y0 := cellAt (i := 0) (v := .int .i64 3) HX3.out rfl; have y1 := cellAt (i := 1) (v := .int .i64 3) HX3.out rfl; have y2 := cellAt (i := 2) (v := .bool false) HX3.out rfl; have y3 := cellAt (i := 3) (v := .bool false) HX3.out rfl; have y4 := cellAt (i := 4) (v := .pointer (some ⟨p, 0, none⟩)) HX3.out rfl)
    | (go_at_call 15; (with_reducible refine (C4.out _ _ HC3.out).mono ?_); rintro e v4 ⟨rfl, hb⟩; have HX4 := zH ((hb.block bx (R4.yad HX3.out)).trans HX3.out); have HC4 := zH (HC3.out.below hb (zN _)); have HZ4 := zH (HZ3.out.trans (hb.mono HZ3.out.size)); clear hb y0 y1 y2 y3 y4; have y0 := cellAt (i := 0) (v := .int .i64 3) HX4.out rfl; have y1 := cellAt (i := 1) (v := .int .i64 3) HX4.out rfl; have y2 := cellAt (i := 2) (v := .bool false) HX4.out rfl; have y3 := cellAt (i := 3) (v := .bool false) HX4.out rfl; have y4 := cellAt (i := 4) (v := .pointer (some ⟨p, 0, none⟩)) HX4.out rfl)
    | (go_at_call 13; refine (HAW.out _).mono ?_; rintro e wa ⟨rfl, hb⟩; have HBa := zH (HZ4.out.trans (hb.mono HZ4.out.size)); clear hb))
   go_ret
   exact ⟨rfl, HBa.out⟩
  ·rw [decide_eq_false h1] at l1; rw [if_neg h1] at hk2
   by_cases h2 : o = a
   ·rw [decide_eq_true h2] at l2; clear h1 h2 hk2; have y0 := cellAt (i := 0) (v := .int .i64 3) HX.out rfl; have y1 := cellAt (i := 1) (v := .int .i64 3) HX.out rfl; have y2 := cellAt (i := 2) (v := .bool false) HX.out rfl; have y3 := cellAt (i := 3) (v := .bool false) HX.out rfl; have y4 := cellAt (i := 4) (v := .pointer (some ⟨p, 0, none⟩)) HX.out rfl
    go_wp2_with (first
     | (go_at_call 15; (with_reducible refine (C1.out _ _ HC0.out).mono ?_); rintro e v1 ⟨rfl, hb⟩; have HX1 := zH ((hb.block bx (R4.yad HX0.out)).trans HX0.out); have HC1 := zH (HC0.out.below hb (zN _)); have HZ1 := zH (HZ0.out.trans (hb.mono HZ0.out.size)); clear hb y0 y1 y2 y3 y4; have y0 := cellAt (i := 0) (v := .int .i64 3) HX1.out rfl; have y1 := cellAt (i := 1) (v := .int .i64 3) HX1.out rfl; have y2 := cellAt (i := 2) (v := .bool false) HX1.out rfl; have y3 := cellAt (i := 3) (v := .bool false) HX1.out rfl; have y4 := cellAt (i := 4) (v := .pointer (some ⟨p, 0, none⟩)) HX1.out rfl)
     | (go_at_call 15; (with_reducible refine (C3.out _ _ HC1.out).mono ?_); rintro e v3 ⟨rfl, hb⟩; have HX3 := zH ((hb.block bx (R4.yad HX1.out)).trans HX1.out); have HC3 := zH (HC1.out.below hb (zN _)); have HZ3 := zH (HZ1.out.trans (hb.mono HZ1.out.size)); clear hb y0 y1 y2 y3 y4; have y0 := cellAt (i := 0) (v := .int .i64 3) HX3.out rfl; have y1 := cellAt (i := 1) (v := .int .i64 3) HX3.out rfl; have y2 := cellAt (i := 2) (v := .bool false) HX3.out rfl; have y3 := cellAt (i := 3) (v := .bool false) HX3.out rfl; have y4 := cellAt (i := 4) (v := .pointer (some ⟨p, 0, none⟩)) HX3.out rfl)
     | (go_at_call 15; (with_reducible refine (C4.out _ _ HC3.out).mono ?_); rintro e v4 ⟨rfl, hb⟩; have HX4 := zH ((hb.block bx (R4.yad HX3.out)).trans HX3.out); have HC4 := zH (HC3.out.below hb (zN _)); have HZ4 := zH (HZ3.out.trans (hb.mono HZ3.out.size)); clear hb y0 y1 y2 y3 y4; have y0 := cellAt (i := 0) (v := .int .i64 3) HX4.out rfl; have y1 := cellAt (i := 1) (v := .int .i64 3) HX4.out rfl; have y2 := cellAt (i := 2) (v := .bool false) HX4.out rfl; have y3 := cellAt (i := 3) (v := .bool false) HX4.out rfl; have y4 := cellAt (i := 4) (v := .pointer (some ⟨p, 0, none⟩)) HX4.out rfl)
     | (go_at_call 13; refine (HAW.out _).mono ?_; rintro e wa ⟨rfl, hb⟩; have HBa := zH (HZ4.out.trans (hb.mono HZ4.out.size)); clear hb))
    go_ret
    exact ⟨rfl, HBa.out⟩
   ·rw [decide_eq_false h2] at l2; rw [if_pos (by omega)] at hk2
    subst hk2; clear h1 h2; have y0 := cellAt (i := 0) (v := .int .i64 3) HX.out rfl; have y1 := cellAt (i := 1) (v := .int .i64 3) HX.out rfl; have y2 := cellAt (i := 2) (v := .bool false) HX.out rfl; have y3 := cellAt (i := 3) (v := .bool false) HX.out rfl; have y4 := cellAt (i := 4) (v := .pointer (some ⟨p, 0, none⟩)) HX.out rfl
    go_wp2_with (first
     | (go_at_call 15; (with_reducible refine (C1.out _ _ HC0.out).mono ?_); rintro e v1 ⟨rfl, hb⟩; have HX1 := zH ((hb.block bx (R4.yad HX0.out)).trans HX0.out); have HC1 := zH (HC0.out.below hb (zN _)); have HZ1 := zH (HZ0.out.trans (hb.mono HZ0.out.size)); clear hb y0 y1 y2 y3 y4; have y0 := cellAt (i := 0) (v := .int .i64 3) HX1.out rfl; have y1 := cellAt (i := 1) (v := .int .i64 3) HX1.out rfl; have y2 := cellAt (i := 2) (v := .bool false) HX1.out rfl; have y3 := cellAt (i := 3) (v := .bool false) HX1.out rfl; have y4 := cellAt (i := 4) (v := .pointer (some ⟨p, 0, none⟩)) HX1.out rfl)
     | (go_at_call 15; (with_reducible refine (C2.out _ _ HC1.out).mono ?_); rintro e v2 ⟨rfl, hb⟩; have HX2 := zH ((hb.block bx (R4.yad HX1.out)).trans HX1.out); have HC2 := zH (HC1.out.below hb (zN _)); have HZ2 := zH (HZ1.out.trans (hb.mono HZ1.out.size)); clear hb y0 y1 y2 y3 y4; have y0 := cellAt (i := 0) (v := .int .i64 3) HX2.out rfl; have y1 := cellAt (i := 1) (v := .int .i64 3) HX2.out rfl; have y2 := cellAt (i := 2) (v := .bool false) HX2.out rfl; have y3 := cellAt (i := 3) (v := .bool false) HX2.out rfl; have y4 := cellAt (i := 4) (v := .pointer (some ⟨p, 0, none⟩)) HX2.out rfl)
     | (go_at_call 15; (with_reducible refine (C3.out _ _ HC2.out).mono ?_); rintro e v3 ⟨rfl, hb⟩; have HX3 := zH ((hb.block bx (R4.yad HX2.out)).trans HX2.out); have HC3 := zH (HC2.out.below hb (zN _)); have HZ3 := zH (HZ2.out.trans (hb.mono HZ2.out.size)); clear hb y0 y1 y2 y3 y4; have y0 := cellAt (i := 0) (v := .int .i64 3) HX3.out rfl; have y1 := cellAt (i := 1) (v := .int .i64 3) HX3.out rfl; have y2 := cellAt (i := 2) (v := .bool false) HX3.out rfl; have y3 := cellAt (i := 3) (v := .bool false) HX3.out rfl; have y4 := cellAt (i := 4) (v := .pointer (some ⟨p, 0, none⟩)) HX3.out rfl)
     | (go_at_call 15; (with_reducible refine (C4.out _ _ HC3.out).mono ?_); rintro e v4 ⟨rfl, hb⟩; have HX4 := zH ((hb.block bx (R4.yad HX3.out)).trans HX3.out); have HC4 := zH (HC3.out.below hb (zN _)); have HZ4 := zH (HZ3.out.trans (hb.mono HZ3.out.size)); clear hb y0 y1 y2 y3 y4; have y0 := cellAt (i := 0) (v := .int .i64 3) HX4.out rfl; have y1 := cellAt (i := 1) (v := .int .i64 3) HX4.out rfl; have y2 := cellAt (i := 2) (v := .bool false) HX4.out rfl; have y3 := cellAt (i := 3) (v := .bool false) HX4.out rfl; have y4 := cellAt (i := 4) (v := .pointer (some ⟨p, 0, none⟩)) HX4.out rfl)
     | (go_at_call 13; refine (HAW.out _).mono ?_; rintro e wa ⟨rfl, hb⟩; have HBa := zH (HZ4.out.trans (hb.mono HZ4.out.size)); clear hb))
    go_ret
    exact ⟨rfl, HBa.out⟩
end Go.Proofs.YteibnfeokgibmaaGreat
