/-
  PACKED for a claim.
-/
import Derived.Test.YteibnfeokgibmaaGreatS52
set_option linter.unusedVariables false
set_option linter.unusedSimpArgs false
set_option maxRecDepth 100000
namespace Go.Proofs.YteibnfeokgibmaaGreat
open Go.RowKit
theorem yei {w : World} {p n : Nat} {L : List PE} {sh bk : Bool} (h : TabAt anyB w p L) (h1 : 1 <= n) (h3 : n <= 3) : ColAt w (.agg #[.int .i64 3, .int .i64 (n : Nat), .bool sh, .bool bk, .pointer (some ⟨p, 0, none⟩)]) (.table n sh bk L) := ⟨3, n, sh, bk, _, rfl, rfl, rfl, h1, h3, rfl, rfl, p, rfl, h⟩
theorem yoq (w : World) : ColAt w (.agg #[.int .i64 2, .int .i64 0, .bool false, .bool false, .pointer none]) .fold := ⟨2, 0, false, false, none, rfl, rfl⟩
theorem aw8_1 : colK (.table 1 false false rootP) [101] [195, 137] = 0 := by decide +kernel
theorem aw8_2 : colK (.table 2 false false rootP) [101] [195, 137] = -1 := by decide +kernel
theorem aw8_3 : colK (.table 3 false false rootP) [97] [65] = -1 := by decide +kernel
theorem aw8_4 : colK .fold [65] [97] = 0 := by decide +kernel
structure AwS (R : List PE) (w w' : World) (b1 b2 b3 p1 p2 p3 : Nat) : Prop where
 k1 : w'.heap[b1]? = some (.cells #[.int .i64 3, .int .i64 1, .bool false, .bool false, .pointer (some ⟨p1, 0, none⟩)] 25 (0, 0))
 k2 : w'.heap[b2]? = some (.cells #[.int .i64 3, .int .i64 2, .bool false, .bool false, .pointer (some ⟨p2, 0, none⟩)] 25 (0, 0))
 k3 : w'.heap[b3]? = some (.cells #[.int .i64 3, .int .i64 3, .bool false, .bool false, .pointer (some ⟨p3, 0, none⟩)] 25 (0, 0))
 t1 : TabAt anyB w' p1 R
 t2 : TabAt anyB w' p2 R
 t3 : TabAt anyB w' p3 R
 bel : Below w.heap.size w w'
theorem AwS.step {R : List PE} {w w' w2 : World} {b1 b2 b3 p1 p2 p3 : Nat} (h : AwS R w w' b1 b2 b3 p1 p2 p3) (hb : Below w'.heap.size w' w2) : AwS R w w2 b1 b2 b3 p1 p2 p3 :=
 ⟨(hb.block _ (R4.yad h.k1)).trans h.k1, (hb.block _ (R4.yad h.k2)).trans h.k2, (hb.block _ (R4.yad h.k3)).trans h.k3, h.t1.below hb (zN _), h.t2.below hb (zN _), h.t3.below hb (zN _), h.bel.trans (hb.mono h.bel.size)⟩
theorem AwS.cells {R : List PE} {w w' : World} {b1 b2 b3 p1 p2 p3 : Nat} (h : AwS R w w' b1 b2 b3 p1 p2 p3) : w'.cell? ⟨b1, 0, none⟩ = some (.int .i64 3) /\ w'.cell? ⟨b1, 1, none⟩ = some (.int .i64 1) /\ w'.cell? ⟨b1, 2, none⟩ = some (.bool false) /\ w'.cell? ⟨b1, 3, none⟩ = some (.bool false) /\ w'.cell? ⟨b1, 4, none⟩ = some (.pointer (some ⟨p1, 0, none⟩)) /\ w'.cell? ⟨b2, 0, none⟩ = some (.int .i64 3) /\ w'.cell? ⟨b2, 1, none⟩ = some (.int .i64 2) /\ w'.cell? ⟨b2, 2, none⟩ = some (.bool false) /\ w'.cell? ⟨b2, 3, none⟩ = some (.bool false) /\ w'.cell? ⟨b2, 4, none⟩ = some (.pointer (some ⟨p2, 0, none⟩)) /\ w'.cell? ⟨b3, 0, none⟩ = some (.int .i64 3) /\ w'.cell? ⟨b3, 1, none⟩ = some (.int .i64 3) /\ w'.cell? ⟨b3, 2, none⟩ = some (.bool false) /\ w'.cell? ⟨b3, 3, none⟩ = some (.bool false) /\ w'.cell? ⟨b3, 4, none⟩ = some (.pointer (some ⟨p3, 0, none⟩)) :=
 ⟨cellAt h.k1 rfl, cellAt h.k1 rfl, cellAt h.k1 rfl, cellAt h.k1 rfl, cellAt h.k1 rfl, cellAt h.k2 rfl, cellAt h.k2 rfl, cellAt h.k2 rfl, cellAt h.k2 rfl, cellAt h.k2 rfl, cellAt h.k3 rfl, cellAt h.k3 rfl, cellAt h.k3 rfl, cellAt h.k3 rfl, cellAt h.k3 rfl⟩
theorem ygq (lvl : Int) {n : Nat} (hn : lvN lvl = n) (w : World) : Calls Tryz.prog 17 #[.int .i64 3, .int .i64 lvl, .bool false, .bool false, .string ⟨#[]⟩] w (MkIs n false false rootP w) := make_a (s := ⟨#[]⟩) rfl rfl (by decide) hn yld ylc w
set_option maxHeartbeats 2000000 in
theorem ytc {R : List PE} (hR : rootP = R) (w : World) : Calls Tryz.prog 13 #[] w fun e w' => e = .returned (.bool true) /\ Below w.heap.size w w' := by
 have CM0 := zH (fun w => ygq 0 (n := 1) (by decide) w)
 have CM1 := zH (fun w => ygq 1 (n := 2) (by decide) w)
 have CM2 := zH (fun w => ygq 2 (n := 3) (by decide) w)
 have CC1 : Hid (∀ (w1 : World) (p : Nat), TabAt anyB w1 p rootP -> Calls Tryz.prog 15 #[.agg #[.int .i64 3, .int .i64 1, .bool false, .bool false, .pointer (some ⟨p, 0, none⟩)], .string ⟨#[101]⟩, .string ⟨#[195, 137]⟩] w1 fun e w' => e = .returned (.int .i64 0) /\ Below w1.heap.size w1 w') := fun w1 p ht => ydw (yei (n := 1) ht (by omega) (by omega)) (by decide) (by decide) aw8_1
 have CC2 : Hid (∀ (w1 : World) (p : Nat), TabAt anyB w1 p rootP -> Calls Tryz.prog 15 #[.agg #[.int .i64 3, .int .i64 2, .bool false, .bool false, .pointer (some ⟨p, 0, none⟩)], .string ⟨#[101]⟩, .string ⟨#[195, 137]⟩] w1 fun e w' => e = .returned (.int .i64 (-1)) /\ Below w1.heap.size w1 w') := fun w1 p ht => ydw (yei (n := 2) ht (by omega) (by omega)) (by decide) (by decide) aw8_2
 have CC3 : Hid (∀ (w1 : World) (p : Nat), TabAt anyB w1 p rootP -> Calls Tryz.prog 15 #[.agg #[.int .i64 3, .int .i64 3, .bool false, .bool false, .pointer (some ⟨p, 0, none⟩)], .string ⟨#[97]⟩, .string ⟨#[65]⟩] w1 fun e w' => e = .returned (.int .i64 (-1)) /\ Below w1.heap.size w1 w') := fun w1 p ht => ydw (yei (n := 3) ht (by omega) (by omega)) (by decide) (by decide) aw8_3
 have CS : Hid (∀ (w1 : World), Calls Tryz.prog 20 #[.agg #[.int .i64 2, .int .i64 0, .bool false, .bool false, .pointer none], .string ⟨#[65]⟩, .string ⟨#[97]⟩] w1 fun e w' => e = .returned (.bool true) /\ Below w1.heap.size w1 w') := fun w1 => ywt (yoq w1) (by decide) (by decide) (r := true) (by rw [show (⟨#[65]⟩ : ByteArray).data.toList = [65] from rfl, show (⟨#[97]⟩ : ByteArray).data.toList = [97] from rfl, aw8_4]; rfl)
 have CO : Hid (∀ (w1 : World) (p : Nat), Calls Tryz.prog 19 #[.agg #[.int .i64 3, .int .i64 1, .bool false, .bool false, .pointer (some ⟨p, 0, none⟩)]] w1 fun e w' => e = .returned (.bool true) /\ Below w1.heap.size w1 w') := fun w1 p => ok_all 3 1 false false (some ⟨p, 0, none⟩) w1
 rw [hR] at CM0 CM1 CM2 CC1 CC2 CC3; clear hR; obtain ⟨nu, hnu⟩ : ∃ n, R.length = n := ⟨_, rfl⟩; have HNU := zH hnu; clear hnu
 go_enter Tryz.func13, Tryz.ntmps13
 go_upto_region 4 with (first
  | (go_at_call 17; (with_reducible refine (CM0.out _).mono ?_); rintro e w1 ⟨⟨p1, u1, rfl, ht, hr⟩, hb⟩; obtain ⟨Au1, cu1, rfl⟩ := hr.form; rw [HNU.out]; have hba := belAlloc w1 (.cells #[.int .i64 3, .int .i64 1, .bool false, .bool false, .pointer (some ⟨p1, 0, none⟩)] 25); have hbb := belAlloc (w1.alloc (.cells #[.int .i64 3, .int .i64 1, .bool false, .bool false, .pointer (some ⟨p1, 0, none⟩)] 25)) (.cells #[.int .i64 3, .int .i64 1, .bool false, .bool false, .slice Au1 nu cu1] 42); have hbc := hba.trans (hbb.mono hba.size); have K11 : Hid (((w1.alloc (.cells #[.int .i64 3, .int .i64 1, .bool false, .bool false, .pointer (some ⟨p1, 0, none⟩)] 25)).alloc (.cells #[.int .i64 3, .int .i64 1, .bool false, .bool false, .slice Au1 nu cu1] 42)).heap[w1.heap.size]? = some (.cells #[.int .i64 3, .int .i64 1, .bool false, .bool false, .pointer (some ⟨p1, 0, none⟩)] 25 (0, 0))) := ((hbb.block w1.heap.size (by simp)).trans (heap_alloc_new w1 (.cells #[.int .i64 3, .int .i64 1, .bool false, .bool false, .pointer (some ⟨p1, 0, none⟩)] 25))); have T11 := zH (ht.below hbc (zN _)); have B1 := zH (hb.trans (hbc.mono hb.size)); clear hba hbb hbc ht hr hb)
  | (go_at_call 17; (with_reducible refine (CM1.out _).mono ?_); rintro e w2 ⟨⟨p2, u2, rfl, ht, hr⟩, hb⟩; obtain ⟨Au2, cu2, rfl⟩ := hr.form; rw [HNU.out]; have hba := belAlloc w2 (.cells #[.int .i64 3, .int .i64 2, .bool false, .bool false, .pointer (some ⟨p2, 0, none⟩)] 25); have hbb := belAlloc (w2.alloc (.cells #[.int .i64 3, .int .i64 2, .bool false, .bool false, .pointer (some ⟨p2, 0, none⟩)] 25)) (.cells #[.int .i64 3, .int .i64 2, .bool false, .bool false, .slice Au2 nu cu2] 42); have hbc := hba.trans (hbb.mono hba.size); have K22 : Hid (((w2.alloc (.cells #[.int .i64 3, .int .i64 2, .bool false, .bool false, .pointer (some ⟨p2, 0, none⟩)] 25)).alloc (.cells #[.int .i64 3, .int .i64 2, .bool false, .bool false, .slice Au2 nu cu2] 42)).heap[w2.heap.size]? = some (.cells #[.int .i64 3, .int .i64 2, .bool false, .bool false, .pointer (some ⟨p2, 0, none⟩)] 25 (0, 0))) := ((hbb.block w2.heap.size (by simp)).trans (heap_alloc_new w2 (.cells #[.int .i64 3, .int .i64 2, .bool false, .bool false, .pointer (some ⟨p2, 0, none⟩)] 25))); have T22 := zH (ht.below hbc (zN _)); have hbd := hb.trans (hbc.mono hb.size); have B2 := zH (B1.out.trans (hbd.mono B1.out.size)); have K21 := zH ((hbd.block _ (R4.yad K11.out)).trans K11.out); have T21 := zH (T11.out.below hbd (zN _)); clear hbd; clear hba hbb hbc ht hr hb)
  | (go_at_call 17; (with_reducible refine (CM2.out _).mono ?_); rintro e w3 ⟨⟨p3, u3, rfl, ht, hr⟩, hb⟩; obtain ⟨Au3, cu3, rfl⟩ := hr.form; rw [HNU.out]; have hba := belAlloc w3 (.cells #[.int .i64 3, .int .i64 3, .bool false, .bool false, .pointer (some ⟨p3, 0, none⟩)] 25); have hbb := belAlloc (w3.alloc (.cells #[.int .i64 3, .int .i64 3, .bool false, .bool false, .pointer (some ⟨p3, 0, none⟩)] 25)) (.cells #[.int .i64 3, .int .i64 3, .bool false, .bool false, .slice Au3 nu cu3] 42); have hbc := hba.trans (hbb.mono hba.size); have K33 : Hid (((w3.alloc (.cells #[.int .i64 3, .int .i64 3, .bool false, .bool false, .pointer (some ⟨p3, 0, none⟩)] 25)).alloc (.cells #[.int .i64 3, .int .i64 3, .bool false, .bool false, .slice Au3 nu cu3] 42)).heap[w3.heap.size]? = some (.cells #[.int .i64 3, .int .i64 3, .bool false, .bool false, .pointer (some ⟨p3, 0, none⟩)] 25 (0, 0))) := ((hbb.block w3.heap.size (by simp)).trans (heap_alloc_new w3 (.cells #[.int .i64 3, .int .i64 3, .bool false, .bool false, .pointer (some ⟨p3, 0, none⟩)] 25))); have T33 := zH (ht.below hbc (zN _)); have hbd := hb.trans (hbc.mono hb.size); have B3 := zH (B2.out.trans (hbd.mono B2.out.size)); have K31 := zH ((hbd.block _ (R4.yad K21.out)).trans K21.out); have T31 := zH (T21.out.below hbd (zN _)); have K32 := zH ((hbd.block _ (R4.yad K22.out)).trans K22.out); have T32 := zH (T22.out.below hbd (zN _)); clear hbd; clear hba hbb hbc ht hr hb))
 have S0 : Hid (AwS R w _ _ _ _ _ _ _) := AwS.mk K31.out K32.out K33.out T31.out T32.out T33.out B3.out
 clear K11 T11 B1 K21 K22 T21 T22 B2 K31 K32 K33 T31 T32 T33 B3 CM0 CM1 CM2; generalize ((w3.alloc (.cells #[.int .i64 3, .int .i64 3, .bool false, .bool false, .pointer (some ⟨p3, 0, none⟩)] 25)).alloc (.cells #[.int .i64 3, .int .i64 3, .bool false, .bool false, .slice Au3 nu cu3] 42)) = wz at S0 |-; obtain ⟨b1, hb1⟩ : ∃ b, w1.heap.size = b := ⟨_, rfl⟩; obtain ⟨b2, hb2⟩ : ∃ b, w2.heap.size = b := ⟨_, rfl⟩; obtain ⟨b3, hb3⟩ : ∃ b, w3.heap.size = b := ⟨_, rfl⟩; rw [hb1, hb2, hb3] at S0 |-; clear hb1 hb2 hb3; obtain ⟨a0, a1, a2, a3, a4, a5, a6, a7, a8, a9, a10, a11, a12, a13, a14⟩ := S0.out.cells
 go_wp2_with (first
  | (go_at_call 19; refine (CO.out _ _).mono ?_; rintro e v1 ⟨rfl, hb⟩; have S1 := zH (S0.out.step hb); clear hb a0 a1 a2 a3 a4 a5 a6 a7 a8 a9 a10 a11 a12 a13 a14; obtain ⟨a0, a1, a2, a3, a4, a5, a6, a7, a8, a9, a10, a11, a12, a13, a14⟩ := S1.out.cells)
  | (go_at_call 15; (with_reducible refine (CC1.out _ _ S1.out.t1).mono ?_); rintro e v2 ⟨rfl, hb⟩; have S2 := zH (S1.out.step hb); clear hb a0 a1 a2 a3 a4 a5 a6 a7 a8 a9 a10 a11 a12 a13 a14; obtain ⟨a0, a1, a2, a3, a4, a5, a6, a7, a8, a9, a10, a11, a12, a13, a14⟩ := S2.out.cells)
  | (go_at_call 15; (with_reducible refine (CC2.out _ _ S2.out.t2).mono ?_); rintro e v3 ⟨rfl, hb⟩; have S3 := zH (S2.out.step hb); clear hb a0 a1 a2 a3 a4 a5 a6 a7 a8 a9 a10 a11 a12 a13 a14; obtain ⟨a0, a1, a2, a3, a4, a5, a6, a7, a8, a9, a10, a11, a12, a13, a14⟩ := S3.out.cells)
  | (go_at_call 15; (with_reducible refine (CC3.out _ _ S3.out.t3).mono ?_); rintro e v4 ⟨rfl, hb⟩; have S4 := zH (S3.out.step hb); clear hb a0 a1 a2 a3 a4 a5 a6 a7 a8 a9 a10 a11 a12 a13 a14; obtain ⟨a0, a1, a2, a3, a4, a5, a6, a7, a8, a9, a10, a11, a12, a13, a14⟩ := S4.out.cells)
  | (go_at_call 20; refine (CS.out _).mono ?_; rintro e v5 ⟨rfl, hb⟩; have S5 := zH (S4.out.step hb); clear hb a0 a1 a2 a3 a4 a5 a6 a7 a8 a9 a10 a11 a12 a13 a14; obtain ⟨a0, a1, a2, a3, a4, a5, a6, a7, a8, a9, a10, a11, a12, a13, a14⟩ := S5.out.cells))
 go_ret
 exact ⟨rfl, S5.out.bel⟩
theorem ypb (w : World) : Calls Tryz.prog 13 #[] w fun e w' => e = .returned (.bool true) /\ Below w.heap.size w w' := ytc rfl w
set_option maxHeartbeats 2000000 in
theorem yjl (n : Nat) (h1 : 1 <= n) (h3 : n <= 3) (sh bk : Bool) (w : World) : Calls Tryz.prog 14 #[.int .i64 (n : Nat), .bool sh, .bool bk] w fun e w' => (∃ p : Nat, e = .returned (.agg #[.int .i64 3, .int .i64 (n : Nat), .bool sh, .bool bk, .pointer (some ⟨p, 0, none⟩)]) /\ ColAt w' (.agg #[.int .i64 3, .int .i64 (n : Nat), .bool sh, .bool bk, .pointer (some ⟨p, 0, none⟩)]) (.table n sh bk rootP)) /\ Below w.heap.size w w' := by
 have CT := zH ymh; unfold RootIs at CT; obtain ⟨R, hR⟩ : ∃ R, rootP = R := ⟨_, rfl⟩; rw [hR] at CT |-; have hx := heap_alloc_new w (.cells #[.int .i64 0, .int .i64 0, .bool false, .bool false, .pointer none] 25); have HX := zH hx; have HB := zH (belAlloc w (.cells #[.int .i64 0, .int .i64 0, .bool false, .bool false, .pointer none] 25)); have H1 := zH h1; have H3 := zH h3
 have HS1 : Hid ((w.alloc (.cells #[.int .i64 0, .int .i64 0, .bool false, .bool false, .pointer none] 25)).heap.size = w.heap.size + 1) := World.size_alloc _ _
 clear hR hx h1 h3
 go_enter Tryz.func14, Tryz.ntmps14
 go_upto_region 1 with (fail)
 generalize (w.alloc (.cells #[.int .i64 0, .int .i64 0, .bool false, .bool false, .pointer none] 25)) = w1 at HX HB HS1 |-; obtain ⟨bx, hbx⟩ : ∃ b, w.heap.size = b := ⟨_, rfl⟩; have HBX := zH hbx; rw [hbx] at HX HB HS1; rw [show (({ block := w.heap.size, off := 0 } : Addr)) = ⟨bx, 0, none⟩ by rw [hbx]]
 clear hbx
 go_wp2_with (go_at_call 25; refine (CT.out _).mono ?_; rintro e w2 ⟨p, rfl, ht, hb⟩; have hx2 := (hb.block bx (R4.yad HX.out)).trans HX.out; have HX2 := zH hx2; have HT2 := zH ht; have HB2 := zH (HB.out.trans (hb.mono (bsz HB.out HBX.out))); have x0 := cellAt (i := 0) (v := .int .i64 0) hx2 rfl; have f0 := frozen_of_row _ bx 0 _ _ hx2; have x1 := cellAt (i := 1) (v := .int .i64 0) hx2 rfl; have f1 := frozen_of_row _ bx 1 _ _ hx2; have x2 := cellAt (i := 2) (v := .bool false) hx2 rfl; have f2 := frozen_of_row _ bx 2 _ _ hx2; have x3 := cellAt (i := 3) (v := .bool false) hx2 rfl; have f3 := frozen_of_row _ bx 3 _ _ hx2; have x4 := cellAt (i := 4) (v := .pointer none) hx2 rfl; have f4 := frozen_of_row _ bx 4 _ _ hx2; clear ht hb hx2)
 have k1 := set5 HX2.out (.int .i64 3) (.int .i64 (n : Int)) (.bool sh) (.bool bk) (.pointer (some ⟨p, 0, none⟩)); have g1 := grown5 w2 bx (.int .i64 3) (.int .i64 (n : Int)) (.bool sh) (.bool bk) (.pointer (some ⟨p, 0, none⟩)); have z0 := cellAt (i := 0) (v := .int .i64 3) k1 rfl; have z1 := cellAt (i := 1) (v := .int .i64 (n : Int)) k1 rfl; have z2 := cellAt (i := 2) (v := .bool sh) k1 rfl; have z3 := cellAt (i := 3) (v := .bool bk) k1 rfl; have z4 := cellAt (i := 4) (v := .pointer (some ⟨p, 0, none⟩)) k1 rfl; have ht1 := TabAt.beside HT2.out (fun k hk => by have hk : w1.heap.size <= k := hk; have := HS1.out; omega) g1 HX2.out (by decide) (by decide) (by decide) (by decide) no_sl5
 refine bodyPost_ret (v := .agg #[.int .i64 3, .int .i64 (n : Int), .bool sh, .bool bk, .pointer (some ⟨p, 0, none⟩)]) (by simp [results, Tryz.results14, go_sem, z0, z1, z2, z3, z4]) rfl ⟨⟨p, rfl, yei (ht1.mono fun _ _ => trivial) H1.out H3.out⟩, ?_⟩
 rw [HBX.out]; exact HB2.out.grown g1 (bsz HB2.out HBX.out) (fun k e => by injection e with e; omega)
theorem yxf (s : ByteArray) {k : Nat} {c : UInt8} (h : s.data.toList[k]? = some c) (w : World) : (Instr.index 9 (.string s) (.int .i64 (k : Int))).run Tryz.prog w = .ok (.int .u8 (c.toNat : Int)) w := by
 obtain ⟨hk, hc⟩ := List.getElem?_eq_some_iff.1 h
 have hk' : k < s.size := hk
 have h' : 0 <= (k : Int) /\ (k : Int) < (s.size : Int) := ⟨by omega, by omega⟩
 rw [run_index_string w 9 s .i64 (k : Int) Tryz.underlying9, dif_pos h']; subst hc; rfl
def letB8 (c : UInt8) : Bool := decide (97 <= c.toNat) && decide (c.toNat <= 122)
theorem yrr {l : List UInt8} (h : ∀ (j : Nat) (c : UInt8), l[j]? = some c -> letB8 c = true) : l.all letB8 = true := List.all_eq_true.2 fun c hc => by
 obtain ⟨j, hj, e⟩ := List.mem_iff_getElem.1 hc; exact h j c (by rw [List.getElem?_eq_getElem hj, e])
theorem yyd {l : List UInt8} (h : l.all letB8 = true) : l.all (fun x => decide (x.toNat < 128)) = true := List.all_eq_true.2 fun c hc => by
 have := List.all_eq_true.1 h c hc
 simp only [letB8, Bool.and_eq_true, decide_eq_true_eq] at this; exact decide_eq_true (by omega)
theorem yvh {l : List UInt8} (h : l.all letB8 = true) : (l.map fun x => ((x.toNat : Nat) : Int)).all letS = true := by
 rw [List.all_map]; refine List.all_eq_true.2 fun c hc => ?_
 have := List.all_eq_true.1 h c hc
 simp only [letB8, Bool.and_eq_true, decide_eq_true_eq] at this
 show (decide (97 <= ((c.toNat : Nat) : Int)) && decide (((c.toNat : Nat) : Int) <= 122)) = true
 rw [Bool.and_eq_true, decide_eq_true_eq, decide_eq_true_eq]; omega
end Go.Proofs.YteibnfeokgibmaaGreat
