/-
  PACKED for a claim.
-/
import Derived.Test.YteibnfeokgibmaaGreatS42
import Derived.Test.YteibnfeokgibmaaGreatS51
set_option linter.unusedVariables false
set_option linter.unusedSimpArgs false
set_option maxRecDepth 100000
namespace Go.Proofs.YteibnfeokgibmaaGreat
open Go.RowKit
theorem set5 {w : World} {b : Nat} {t : TypeId} {a0 a1 a2 a3 a4 : Value} (h : w.heap[b]? = some (.cells #[a0, a1, a2, a3, a4] t (0, 0))) (v0 v1 v2 v3 v4 : Value) : (((((w.setCell ⟨b, 0, none⟩ v0).setCell ⟨b, 1, none⟩ v1).setCell ⟨b, 2, none⟩ v2).setCell ⟨b, 3, none⟩ v3).setCell ⟨b, 4, none⟩ v4).heap[b]? = some (.cells #[v0, v1, v2, v3, v4] t (0, 0)) :=
 heap_setCell_same _ b 4 _ _ v4 (heap_setCell_same _ b 3 _ _ v3 (heap_setCell_same _ b 2 _ _ v2 (heap_setCell_same _ b 1 _ _ v1 (heap_setCell_same w b 0 _ _ v0 h))))
theorem grown5 (w : World) (b : Nat) (v0 v1 v2 v3 v4 : Value) : w.grownBy (((((w.setCell ⟨b, 0, none⟩ v0).setCell ⟨b, 1, none⟩ v1).setCell ⟨b, 2, none⟩ v2).setCell ⟨b, 3, none⟩ v3).setCell ⟨b, 4, none⟩ v4) (some b) :=
 (((((R4.yae w ⟨b, 0, none⟩ v0).trans (R4.yae _ ⟨b, 1, none⟩ v1)).trans (R4.yae _ ⟨b, 2, none⟩ v2)).trans (R4.yae _ ⟨b, 3, none⟩ v3)).trans (R4.yae _ ⟨b, 4, none⟩ v4))
theorem TabAt.beside {F : Nat -> Prop} {w w' : World} {p : Nat} {L : List PE} {b : Nat} {cs : Array Value} {T : TypeId} {fr : Nat × Nat} (h : TabAt F w p L) (hF : ∀ k, F k -> k ≠ b) (hg : w.grownBy w' (some b)) (hb : w.heap[b]? = some (.cells cs T fr)) (h0 : T ≠ 122) (h1 : T ≠ 252) (h2 : T ≠ 253) (h3 : T ≠ 225)
  (hn : ∀ o u1 u2, cs[o]? = some u1 -> cs[o + 1]? = some u2 -> ¬ (IsSl u1 /\ IsSl u2)) : TabAt F w' p L := by
 refine h.off hF hg hb h0 h1 h2 h3 ?_; intro o u1 u2 s1 s2 c1 c2; rw [cell_of_row w b o _ _ _ hb] at c1; rw [cell_of_row w b (o + 1) _ _ _ hb] at c2; exact absurd ⟨s1, s2⟩ (hn o u1 u2 c1 c2)
theorem no_sl5 {k l : Int} {s b : Bool} {v : Value} (o : Nat) (u1 u2 : Value) (h1 : (#[Value.int .i64 k, .int .i64 l, .bool s, .bool b, v] : Array Value)[o]? = some u1) (h2 : (#[Value.int .i64 k, .int .i64 l, .bool s, .bool b, v] : Array Value)[o + 1]? = some u2) : ¬ (IsSl u1 /\ IsSl u2) := by
 rintro ⟨⟨A1, n1, k1, rfl⟩, ⟨A2, n2, k2, rfl⟩⟩
 rcases o with _ | _ | _ | _ | o
 iterate 4 (·cases h1)
 ·simp at h2
def lvN (x : Int) : Nat := (x % 65536).toNat % 3 + 1
def MkIs (n : Nat) (sh bk : Bool) (L : List PE) (w : World) (e : Ending) (w' : World) : Prop :=
 (∃ (p : Nat) (u : Value), e = .returned (.tuple #[.agg #[.int .i64 3, .int .i64 (n : Nat), .bool sh, .bool bk, .pointer (some ⟨p, 0, none⟩)], .agg #[.int .i64 3, .int .i64 (n : Nat), .bool sh, .bool bk, u], .bool true]) /\ TabAt anyB w' p L /\ RefT w' u L) /\ Below w.heap.size w w'
def ReadsP (s : ByteArray) (k : Nat) (L : List PE) : Prop := ∀ w : World, Calls Tryz.prog 29 #[.string s] w fun e w' => (∃ p : Nat, e = .returned (.tuple #[.pointer (some ⟨p, 0, none⟩), .int .i64 (k : Nat), .int .i64 0]) /\ TabAt (fun k => w.heap.size <= k) w' p L) /\ Below w.heap.size w w'
def ReadsR (s : ByteArray) (k : Nat) (L : List PE) : Prop := ∀ w : World, Calls Tryz.prog 30 #[.string s] w fun e w' => (∃ u : Value, e = .returned (.tuple #[.agg #[u], .int .i64 (k : Nat), .int .i64 0]) /\ RefT w' u L) /\ Below w.heap.size w w'
set_option maxHeartbeats 8000000 in
theorem make_a {kd lvl : Int} {sh bk : Bool} {s : ByteArray} {n k : Nat} {L : List PE} (h1 : (kd == 1) = false) (h2 : (kd == 2) = false) (hs : s.size <= 200) (hn : lvN lvl = n) (hP : ReadsP s k L) (hR : ReadsR s k L) (w : World) :
  Calls Tryz.prog 17 #[.int .i64 kd, .int .i64 lvl, .bool sh, .bool bk, .string s] w (MkIs n sh bk L w) := by
 obtain ⟨m16, hm16⟩ : ∃ q : Nat, (q : Int) = lvl % 65536 := ⟨(lvl % 65536).toNat, by omega⟩
 have hand := and16 lvl; rw [<- hm16] at hand
 have hrem : (m16 : Int).tmod 3 = ((m16 % 3 : Nat) : Int) := by rw [Int.tmod_eq_emod_of_nonneg (by omega)]; omega
 have hwk : IntKind.i64.wrap (((m16 % 3 : Nat) : Int) + 1) = (n : Int) := by rw [IntWalk.i64_in _ (by omega), <- hn]; unfold lvN; rw [<- hm16]; omega
 obtain ⟨k0, hk0⟩ : ∃ k, m16 % 3 = k := ⟨_, rfl⟩; rw [hk0] at hrem hwk; clear hm16 hk0 hn
 have hsI : ¬ (200 : Int) < (s.size : Int) := by omega
 have CP := zH hP; have CR := zH hR; clear hP hR hs; have hb1 := belAlloc w (.cells #[.int .i64 0, .int .i64 0, .bool false, .bool false, .pointer none] 25); have hb2 := belAlloc (w.alloc (.cells #[.int .i64 0, .int .i64 0, .bool false, .bool false, .pointer none] 25)) (.cells #[.int .i64 0, .int .i64 0, .bool false, .bool false, .slice none 0 0] 42); have hx := heap_alloc_new (w.alloc (.cells #[.int .i64 0, .int .i64 0, .bool false, .bool false, .pointer none] 25)) (.cells #[.int .i64 0, .int .i64 0, .bool false, .bool false, .slice none 0 0] 42); have hc := (hb2.block w.heap.size (by simp)).trans (heap_alloc_new w (.cells #[.int .i64 0, .int .i64 0, .bool false, .bool false, .pointer none] 25))
 have HD := zH hx; have HC := zH hc; have HB := zH (hb1.trans (hb2.mono hb1.size))
 have HS : Hid ((w.alloc (.cells #[.int .i64 0, .int .i64 0, .bool false, .bool false, .pointer none] 25)).heap.size = w.heap.size + 1) := World.size_alloc _ _
 have HS2 : Hid (((w.alloc (.cells #[.int .i64 0, .int .i64 0, .bool false, .bool false, .pointer none] 25)).alloc (.cells #[.int .i64 0, .int .i64 0, .bool false, .bool false, .slice none 0 0] 42)).heap.size = w.heap.size + 2) := by show _ = _; rw [World.size_alloc, World.size_alloc]
 clear hb1 hb2 hx hc
 go_enter Tryz.func17, Tryz.ntmps17
 go_upto_region 1 with (fail)
 generalize hw1 : (w.alloc (.cells #[.int .i64 0, .int .i64 0, .bool false, .bool false, .pointer none] 25)) = w1 at HD HB HS HS2 HC |-; rw [HS.out] at HD; clear hw1; generalize (w1.alloc (.cells #[.int .i64 0, .int .i64 0, .bool false, .bool false, .slice none 0 0] 42)) = w2 at HD HB HS2 HC |-; obtain ⟨bx, hbx⟩ : ∃ b, w.heap.size = b := ⟨_, rfl⟩; have HBX := zH hbx; rw [hbx] at HD HB HS2 HC; obtain ⟨cx, hcx⟩ : ∃ b, bx + 1 = b := ⟨_, rfl⟩; have HCX := zH hcx; rw [hcx] at HD; rw [show (({ block := w.heap.size + 1, off := 0 } : Addr)) = ⟨cx, 0, none⟩ by rw [hbx, hcx], show (({ block := w.heap.size, off := 0 } : Addr)) = ⟨bx, 0, none⟩ by rw [hbx]]
 clear hbx hcx
 go_upto_region 11 with (first | (go_at_call 29; refine (CP.out _).mono ?_; rintro e w3 ⟨⟨p, rfl, ht⟩, hb⟩; have HC3 := zH ((hb.block bx (R4.yad HC.out)).trans HC.out); have HD3 := zH ((hb.block cx (R4.yad HD.out)).trans HD.out); have HT3 := zH ht; have HB3 := zH (HB.out.trans (hb.mono (bsz HB.out HBX.out))); clear ht hb) | (go_at_call 30; refine (CR.out _).mono ?_; rintro e w4 ⟨⟨u, rfl, hr⟩, hb⟩; obtain ⟨Au, cu, rfl⟩ := hr.form; have HBa := zH (hb.trans ((belAlloc w4 (.cells #[.slice Au L.length cu] 40)).mono hb.size)); have HR4 := zH (hr.below (belAlloc w4 (.cells #[.slice Au L.length cu] 40)) (zN _)); have HX4 := zH (heap_alloc_new w4 (.cells #[.slice Au L.length cu] 40)); have HB4 : Hid (bx < w4.heap.size) := (R4.yad ((hb.block bx (R4.yad HC3.out)).trans HC3.out)); clear hr hb))
 obtain ⟨nu, hnu⟩ : ∃ n, L.length = n := ⟨_, rfl⟩; rw [hnu] at HBa HR4 HX4 |-; clear hnu; have HCz := zH ((HBa.out.block bx (R4.yad HC3.out)).trans HC3.out); have HDz := zH ((HBa.out.block cx (R4.yad HD3.out)).trans HD3.out); have HTz := zH (HT3.out.below HBa.out (zN _)); have HBz := zH (HB3.out.trans (HBa.out.mono (bsz HB3.out HBX.out))); generalize (w4.alloc (.cells #[.slice Au nu cu] 40)) = wz at HCz HDz HTz HBz HR4 HX4 |-; have HRz := HR4
 have HNE : Hid (w4.heap.size ≠ bx) := by have := HB4.out; show _ ≠ _; omega
 obtain ⟨tb, htb⟩ : ∃ b, w4.heap.size = b := ⟨_, rfl⟩; rw [htb] at HX4 HNE |-; clear htb HR4 HBa HC3 HD3 HT3 HB3; have HXz := HX4; clear HX4; have c0 := cellAt (i := 0) (v := .slice Au nu cu) HXz.out rfl; have hc8 := HCz.out; have x0 := cellAt (i := 0) (v := .int .i64 0) hc8 rfl; have xf0 := frozen_of_row _ bx 0 _ _ hc8; have x1 := cellAt (i := 1) (v := .int .i64 0) hc8 rfl; have xf1 := frozen_of_row _ bx 1 _ _ hc8; have x2 := cellAt (i := 2) (v := .bool false) hc8 rfl; have xf2 := frozen_of_row _ bx 2 _ _ hc8; have x3 := cellAt (i := 3) (v := .bool false) hc8 rfl; have xf3 := frozen_of_row _ bx 3 _ _ hc8; have x4 := cellAt (i := 4) (v := .pointer none) hc8 rfl; have xf4 := frozen_of_row _ bx 4 _ _ hc8
 have ne1 : bx ≠ cx := by have := HCX.out; omega
 have k1 := set5 HCz.out (.int .i64 3) (.int .i64 (n : Int)) (.bool sh) (.bool bk) (.pointer (some ⟨p, 0, none⟩)); have g1 := grown5 wz bx (.int .i64 3) (.int .i64 (n : Int)) (.bool sh) (.bool bk) (.pointer (some ⟨p, 0, none⟩))
 have k2 : (((((wz.setCell ⟨bx, 0, none⟩ (.int .i64 3)).setCell ⟨bx, 1, none⟩ (.int .i64 (n : Int))).setCell ⟨bx, 2, none⟩ (.bool sh)).setCell ⟨bx, 3, none⟩ (.bool bk)).setCell ⟨bx, 4, none⟩ (.pointer (some ⟨p, 0, none⟩))).heap[cx]? = _ := (g1.block cx (R4.yad HDz.out) (by intro e; injection e with e; exact ne1 e.symm)).trans HDz.out
 have kt : (((((wz.setCell ⟨bx, 0, none⟩ (.int .i64 3)).setCell ⟨bx, 1, none⟩ (.int .i64 (n : Int))).setCell ⟨bx, 2, none⟩ (.bool sh)).setCell ⟨bx, 3, none⟩ (.bool bk)).setCell ⟨bx, 4, none⟩ (.pointer (some ⟨p, 0, none⟩))).heap[tb]? = _ := (g1.block tb (R4.yad HXz.out) (by intro e; injection e with e; exact HNE.out e)).trans HXz.out
 have c1 := cellAt (i := 0) (v := .slice Au nu cu) kt rfl; have y0 := cellAt (i := 0) (v := .int .i64 0) k2 rfl; have yf0 := frozen_of_row _ cx 0 _ _ k2; have y1 := cellAt (i := 1) (v := .int .i64 0) k2 rfl; have yf1 := frozen_of_row _ cx 1 _ _ k2; have y2 := cellAt (i := 2) (v := .bool false) k2 rfl; have yf2 := frozen_of_row _ cx 2 _ _ k2; have y3 := cellAt (i := 3) (v := .bool false) k2 rfl; have yf3 := frozen_of_row _ cx 3 _ _ k2; have y4 := cellAt (i := 4) (v := .slice none 0 0) k2 rfl; have yf4 := frozen_of_row _ cx 4 _ _ k2; have K1 := zH k1; have G1 := zH g1; have K2 := zH k2; clear k1 g1 k2 kt hc8
 go_region
 go_wp2
 have k3 := set5 K2.out (.int .i64 3) (.int .i64 (n : Int)) (.bool sh) (.bool bk) (.slice Au nu cu); have g2 := grown5 (((((wz.setCell ⟨bx, 0, none⟩ (.int .i64 3)).setCell ⟨bx, 1, none⟩ (.int .i64 (n : Int))).setCell ⟨bx, 2, none⟩ (.bool sh)).setCell ⟨bx, 3, none⟩ (.bool bk)).setCell ⟨bx, 4, none⟩ (.pointer (some ⟨p, 0, none⟩))) cx (.int .i64 3) (.int .i64 (n : Int)) (.bool sh) (.bool bk) (.slice Au nu cu)
 have k4 : ((((((((((wz.setCell ⟨bx, 0, none⟩ (.int .i64 3)).setCell ⟨bx, 1, none⟩ (.int .i64 (n : Int))).setCell ⟨bx, 2, none⟩ (.bool sh)).setCell ⟨bx, 3, none⟩ (.bool bk)).setCell ⟨bx, 4, none⟩ (.pointer (some ⟨p, 0, none⟩))).setCell ⟨cx, 0, none⟩ (.int .i64 3)).setCell ⟨cx, 1, none⟩ (.int .i64 (n : Int))).setCell ⟨cx, 2, none⟩ (.bool sh)).setCell ⟨cx, 3, none⟩ (.bool bk)).setCell ⟨cx, 4, none⟩ (.slice Au nu cu)).heap[bx]? = _ := (g2.block bx (R4.yad K1.out) (by intro e; injection e with e; exact ne1 e)).trans K1.out
 have ht1 := TabAt.beside HTz.out (fun k hk => by have hk : w2.heap.size <= k := hk; have := HS2.out; omega) G1.out HCz.out (by decide) (by decide) (by decide) (by decide) no_sl5
 have ht2 := TabAt.beside ht1 (fun k hk => by have hk : w2.heap.size <= k := hk; have := HS2.out; have := HCX.out; omega) g2 K2.out (by decide) (by decide) (by decide) (by decide) no_sl5
 have hr1 := RefU.off HRz.out G1.out HCz.out (by decide) (by decide) (by decide)
 have hr2 := RefU.off hr1 g2 K2.out (by decide) (by decide) (by decide)
 have z0 := cellAt (i := 0) (v := .int .i64 3) k4 rfl; have z1 := cellAt (i := 1) (v := .int .i64 (n : Int)) k4 rfl; have z2 := cellAt (i := 2) (v := .bool sh) k4 rfl; have z3 := cellAt (i := 3) (v := .bool bk) k4 rfl; have z4 := cellAt (i := 4) (v := .pointer (some ⟨p, 0, none⟩)) k4 rfl; have q0 := cellAt (i := 0) (v := .int .i64 3) k3 rfl; have q1 := cellAt (i := 1) (v := .int .i64 (n : Int)) k3 rfl; have q2 := cellAt (i := 2) (v := .bool sh) k3 rfl; have q3 := cellAt (i := 3) (v := .bool bk) k3 rfl; have q4 := cellAt (i := 4) (v := .slice Au nu cu) k3 rfl; refine bodyPost_ret (v := .tuple #[.agg #[.int .i64 3, .int .i64 (n : Int), .bool sh, .bool bk, .pointer (some ⟨p, 0, none⟩)], .agg #[.int .i64 3, .int .i64 (n : Int), .bool sh, .bool bk, .slice Au nu cu], .bool true]) (by simp [results, Tryz.results17, go_sem, z0, z1, z2, z3, z4, q0, q1, q2, q3, q4]) rfl ⟨⟨p, _, rfl, (ht2.mono fun _ _ => trivial).below (zR _ _).drew (zN _), RefU.below hr2 (zR _ _).drew (zN _)⟩, ?_⟩
 rw [HBX.out]; exact ((HBz.out.grown G1.out (bsz HBz.out HBX.out) (fun k e => by injection e with e; omega)).grown g2 (by rw [show (((((wz.setCell ⟨bx, 0, none⟩ (.int .i64 3)).setCell ⟨bx, 1, none⟩ (.int .i64 (n : Int))).setCell ⟨bx, 2, none⟩ (.bool sh)).setCell ⟨bx, 3, none⟩ (.bool bk)).setCell ⟨bx, 4, none⟩ (.pointer (some ⟨p, 0, none⟩))).heap.size = wz.heap.size by simp [World.setCell]]; exact bsz HBz.out HBX.out) (fun k e => by injection e with e; have := HCX.out; omega)).drew
theorem ymg : checkP rootP = 0 := by decide +kernel
set_option maxHeartbeats 4000000 in
theorem yob {w : World} {v rv : Value} (h : RefT w v rootP) (hr : S6.RdRs w rv []) :
  Calls Tryz.prog 53 #[.agg #[v], rv] w (RAppIs rootP 0 w) := by
 obtain ⟨Av, cv, rfl⟩ := h.form; obtain ⟨Ar, cr, rfl⟩ := hr.form; have hA := yaa w (.cells #[.slice Av rootP.length cv] 40); have hA2 := yaa (w.alloc (.cells #[.slice Av rootP.length cv] 40)) (.cells #[.slice none 0 0] 40); have h2 := (hA2.block _ (R4.yad (heap_alloc_new w (.cells #[.slice Av rootP.length cv] 40)))).trans (heap_alloc_new w (.cells #[.slice Av rootP.length cv] 40)); have h4 := heap_alloc_new (w.alloc (.cells #[.slice Av rootP.length cv] 40)) (.cells #[.slice none 0 0] 40); have HT := zH ((h.below hA (zN _)).below hA2 (zN _)); have HB := zH (hA.trans (hA2.mono hA.size)); have H2 := zH h2; have H4 := zH h4; rw [World.size_alloc] at H4; obtain ⟨nL, hnL⟩ : ∃ n, rootP.length = n := ⟨_, rfl⟩; rw [hnL] at HT HB H2 H4 |-
 have HLN : Hid (rootP.length = nL) := hnL
 clear h hr hA hA2 h2 h4 hnL
 go_enter Tryz.func53, Tryz.ntmps53
 go_wp2
 generalize ((w.alloc (.cells #[.slice Av nL cv] 40)).alloc (.cells #[.slice none 0 0] 40)) = w0 at HT HB H2 H4 |-; obtain ⟨b2, hb2⟩ : ∃ b, w.heap.size = b := ⟨_, rfl⟩; have HB2 := zH hb2; rw [hb2] at H2 H4 HB; obtain ⟨b4, hb4⟩ : ∃ b, b2 + 1 = b := ⟨_, rfl⟩; have HB4 := zH hb4; rw [hb4] at H4; rw [show (({ block := w.heap.size, off := 0 } : Addr)) = ⟨b2, 0, none⟩ by rw [hb2], show (({ block := w.heap.size + 1, off := 0 } : Addr)) = ⟨b4, 0, none⟩ by rw [hb2, hb4]]
 clear hb2 hb4
 have CK : Hid (Calls Tryz.prog 92 #[.agg #[.slice Av nL cv]] w0 fun e_1 w' => e_1 = .returned (.int .i64 0) /\ Below w0.heap.size w0 w') := ynx HT.out (by have := root_good.len; omega) (fun f hf => by have h1 := root_good.seq f hf; have h2 := (root_good.els f hf).1; omega) ymg
 have v0 := yan (i := 0) (v := .slice Av nL cv) H2.out rfl; refine wp_loop_rounds 1 ?_; rw [rounds_succ]
 go_wp2_with (go_at_call 92; refine (CK.out).mono ?_; rintro q' w3 ⟨rfl, hb⟩; have V3 := zH ((hb.block b2 (R4.yad H2.out)).trans H2.out); have R3 := zH ((hb.block b4 (R4.yad H4.out)).trans H4.out); have d0 := yan (i := 0) (v := .slice Av nL cv) V3.out rfl; have y4 := yan (i := 0) (v := .slice none 0 0) R3.out rfl; have y4f := frozen_of_row _ b4 0 _ _ R3.out; have HB3 := zH (HB.out.trans (hb.mono (by have := HB.out.size; rw [HB2.out] at this; exact this))); have RF3 := zH (HT.out.below hb (zN _)); clear hb v0)
 have h9 := heap_setCell_same w3 b4 0 _ _ (.slice Av nL cv) R3.out; have x9 := yan (i := 0) (v := .slice Av nL cv) h9 rfl; refine bodyPost_ret (v := .tuple #[.agg #[.slice Av nL cv], .int .i64 0]) (by simp [results, Tryz.results53, go_sem, x9]) rfl ⟨fun _ => ⟨_, rfl, ?_⟩, fun h => absurd rfl h, ?_⟩
 ·exact RF3.out.off (R4.yae _ ⟨b4, 0, none⟩ _) R3.out (by decide) (by decide) (by decide)
 ·rw [HB2.out]; exact HB3.out.setCell (by show b2 <= b4; have := HB4.out; omega) _
theorem yhv : S6.parse (⟨#[]⟩ : ByteArray).data.toList = ([], 0, 0) := rfl
set_option maxHeartbeats 4000000 in
theorem ytg {U : Nat -> Prop} {w : World} {p : Nat} {L : List PE} (hC : checkP L = 0) (hU : ∀ k, w.heap.size <= k -> U k) (hT : TabAt U w p L) {A : Option Addr} {c : Nat} :
  Calls Tryz.prog 51 #[.pointer (some ⟨p, 0, none⟩), .slice A 0 c] w fun e w' => (∃ q : Nat, e = .returned (.tuple #[.pointer (some ⟨q, 0, none⟩), .int .i64 0]) /\ TabAt U w' q L) /\ Below w.heap.size w w' := by
 have CM := zH (yve (F := U) hU hT); rw [yxz] at CM
 have CC : Hid (∀ (w1 : World) (q : Nat), TabAt U w1 q L -> Calls Tryz.prog 86 #[.pointer (some ⟨q, 0, none⟩)] w1 fun e w' => e = .returned (.int .i64 0) /\ Below w1.heap.size w1 w') := fun w1 q h => (ysu h hC)
 clear hT hU hC
 go_enter Tryz.func51, Tryz.ntmps51
 go_wp2_with (go_at_call 83; refine (CM.out).mono ?_; rintro q w1 ⟨⟨q1, rfl, ht1⟩, hb1⟩; have HT2 := zH (ht1.below (belAlloc w1 (.cells #[.pointer (some ⟨q1, 0, none⟩), .slice none 0 0, .bool false] 143)) (zN _)); have HX2 := zH (heap_alloc_new w1 (.cells #[.pointer (some ⟨q1, 0, none⟩), .slice none 0 0, .bool false] 143)); have HB2 := zH (hb1.trans ((belAlloc w1 (.cells #[.pointer (some ⟨q1, 0, none⟩), .slice none 0 0, .bool false] 143)).mono hb1.size)); clear ht1 hb1)
 generalize (w1.alloc (.cells #[.pointer (some ⟨q1, 0, none⟩), .slice none 0 0, .bool false] 143)) = w2 at HT2 HX2 HB2 |-; obtain ⟨bx, hbx⟩ : ∃ b, w1.heap.size = b := ⟨_, rfl⟩; rw [hbx] at HX2 |-; clear hbx; have c0 := cellAt (i := 0) (v := .pointer (some ⟨q1, 0, none⟩)) HX2.out rfl; refine wp_loop_rounds 1 ?_; rw [rounds_succ]
 go_wp2_with (go_at_call 86; refine (CC.out _ _ HT2.out).mono ?_; rintro q w3 ⟨rfl, hb⟩; have d0 := yac hb c0; have HT3 := zH (HT2.out.below hb (zN _)); have HB3 := zH (HB2.out.trans (hb.mono HB2.out.size)); clear hb c0)
 go_ret2
 exact ⟨⟨_, rfl, HT3.out⟩, HB3.out⟩
set_option maxHeartbeats 4000000 in
theorem yld : ReadsP ⟨#[]⟩ 0 rootP := fun w => by
 have CP : Hid (Calls Tryz.prog 50 #[.string ⟨#[]⟩] w fun e w' => (∃ (A : Option Addr) (n c : Nat), e = .returned (.tuple #[.slice A n c, .int .i64 0, .int .i64 0]) /\ n = 0 /\ S6.RdRs w' (.slice A n c) []) /\ Below w.heap.size w w') := yut w (by decide) yhv
 have CT := zH ymh; unfold RootIs at CT
 have CA : Hid (∀ (w1 : World) (p : Nat) (A : Option Addr) (c : Nat), w.heap.size <= w1.heap.size -> TabAt (fun k => w.heap.size <= k) w1 p rootP -> Calls Tryz.prog 51 #[.pointer (some ⟨p, 0, none⟩), .slice A 0 c] w1 fun e w' => (∃ q : Nat, e = .returned (.tuple #[.pointer (some ⟨q, 0, none⟩), .int .i64 0]) /\ TabAt (fun k => w.heap.size <= k) w' q rootP) /\ Below w1.heap.size w1 w') := fun w1 p A c hs ht => ytg ymg (fun k hk => Nat.le_trans hs hk) ht
 obtain ⟨R, hR⟩ : ∃ R, rootP = R := ⟨_, rfl⟩; rw [hR] at CT CA |-; clear hR
 go_enter Tryz.func29, Tryz.ntmps29
 go_wp2_with (first
  | (go_at_call 50; refine (CP.out).mono ?_; rintro q w1 ⟨⟨A, n, c, rfl, hn, -⟩, hb⟩; subst hn; have HB := zH hb; clear hb)
  | (go_at_call 25; refine (CT.out _).mono ?_; rintro q w2 ⟨p, rfl, ht, hb⟩; have HB2 := zH (HB.out.trans (hb.mono HB.out.size)); have HT := zH (ht.mono (G := fun k => w.heap.size <= k) fun k hk => Nat.le_trans HB.out.size hk); clear hb ht)
  | (go_at_call 51; refine (CA.out _ _ _ _ HB2.out.size HT.out).mono ?_; rintro q w3 ⟨⟨p3, rfl, ht⟩, hb⟩; have HB3 := zH (HB2.out.trans (hb.mono HB2.out.size)); have HT3 := zH ht; clear hb ht))
 go_ret3
 exact ⟨⟨_, rfl, HT3.out⟩, HB3.out⟩
theorem ylc : ReadsR ⟨#[]⟩ 0 rootP := fun w => (yuc w (s := ⟨#[]⟩) (by decide) yhv fun w1 u rv ht hr => yob ht hr).mono fun e w' ⟨h1, _, h3⟩ => ⟨by obtain ⟨u, h4, h5⟩ := h1 rfl; exact ⟨u, h4, h5⟩, h3⟩
end Go.Proofs.YteibnfeokgibmaaGreat
