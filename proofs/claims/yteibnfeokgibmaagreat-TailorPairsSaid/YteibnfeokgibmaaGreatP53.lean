/-
  PACKED for a claim.
-/
import Derived.Test.YteibnfeokgibmaaGreatP41
import Derived.Test.YteibnfeokgibmaaGreatP52
set_option linter.unusedVariables false
set_option linter.unusedSimpArgs false
set_option maxRecDepth 100000
namespace Go.Proofs.YteibnfeokgibmaaGreat
open Go.RowKit
theorem set5 {w : World} {b : Nat} {t : TypeId} {a0 a1 a2 a3 a4 : Value} (h : w.heap[b]? = some (.cells #[a0, a1, a2, a3, a4] t (0, 0))) (v0 v1 v2 v3 v4 : Value) : (((((w.setCell ⟨b, 0, none⟩ v0).setCell ⟨b, 1, none⟩ v1).setCell ⟨b, 2, none⟩ v2).setCell ⟨b, 3, none⟩ v3).setCell ⟨b, 4, none⟩ v4).heap[b]? = some (.cells #[v0, v1, v2, v3, v4] t (0, 0)) :=
 heap_setCell_same _ b 4 _ _ v4 (heap_setCell_same _ b 3 _ _ v3 (heap_setCell_same _ b 2 _ _ v2 (heap_setCell_same _ b 1 _ _ v1 (heap_setCell_same w b 0 _ _ v0 h))))
theorem grown5 (w : World) (b : Nat) (v0 v1 v2 v3 v4 : Value) : w.grownBy (((((w.setCell ⟨b, 0, none⟩ v0).setCell ⟨b, 1, none⟩ v1).setCell ⟨b, 2, none⟩ v2).setCell ⟨b, 3, none⟩ v3).setCell ⟨b, 4, none⟩ v4) (some b) :=
 (((((R4.yae w ⟨b, 0, none⟩ v0).trans (R4.yae _ ⟨b, 1, none⟩ v1)).trans (R4.yae _ ⟨b, 2, none⟩ v2)).trans (R4.yae _ ⟨b, 3, none⟩ v3)).trans (R4.yae _ ⟨b, 4, none⟩ v4))
theorem TabAt.beside {F : Nat -> Prop} {w w' : World} {p : Nat} {L : List PE} {b : Nat} {cs : Array Value} {T : TypeId} {fr : Nat × Nat} (h : TabAt F w p L) (hF : ∀ k, F k -> k ≠ b) (hg : w.grownBy w' (some b)) (hb : w.heap[b]? = some (.cells cs T fr)) (h0 : T ≠ 122) (h1 : T ≠ 252) (h2 : T ≠ 253) (h3 : T ≠ 225)
  (hn : ∀ o u1 u2, cs[o]? = some u1 -> cs[o + 1]? = some u2 -> ¬ (IsSl u1 /\ IsSl u2)) : TabAt F w' p L := by
 refine h.off hF hg hb h0 h1 h2 h3 ?_; intro o u1 u2 s1 s2 c1 c2; rw [cell_of_row w b o _ _ _ hb] at c1; rw [cell_of_row w b (o + 1) _ _ _ hb] at c2; exact absurd ⟨s1, s2⟩ (hn o u1 u2 c1 c2)
theorem no_sl5 {k l : Int} {s b : Bool} {v : Value} (o : Nat) (u1 u2 : Value) (h1 : (#[Value.int .i64 k, .int .i64 l, .bool s, .bool b, v] : Array Value)[o]? = some u1) (h2 : (#[Value.int .i64 k, .int .i64 l, .bool s, .bool b, v] : Array Value)[o + 1]? = some u2) : ¬ (IsSl u1 /\ IsSl u2) := by
 rintro ⟨⟨A1, n1, k1, rfl⟩, ⟨A2, n2, k2, rfl⟩⟩
 rcases o with _ | _ | _ | _ | o
 iterate 4 (·cases h1)
 ·simp at h2
def lvN (x : Int) : Nat := (x % 65536).toNat % 3 + 1
def MkIs (n : Nat) (sh bk : Bool) (L : List PE) (w : World) (e : Ending) (w' : World) : Prop :=
 (∃ (p : Nat) (u : Value), e = .returned (.tuple #[.agg #[.int .i64 3, .int .i64 (n : Nat), .bool sh, .bool bk, .pointer (some ⟨p, 0, none⟩)], .agg #[.int .i64 3, .int .i64 (n : Nat), .bool sh, .bool bk, u], .bool true]) /\ TabAt anyB w' p L /\ RefT w' u L) /\ Below w.heap.size w w'
def ReadsP (s : ByteArray) (k : Nat) (L : List PE) : Prop := ∀ w : World, Calls Tryz.prog 29 #[.string s] w fun e w' => (∃ p : Nat, e = .returned (.tuple #[.pointer (some ⟨p, 0, none⟩), .int .i64 (k : Nat), .int .i64 0]) /\ TabAt (fun k => w.heap.size <= k) w' p L) /\ Below w.heap.size w w'
def ReadsR (s : ByteArray) (k : Nat) (L : List PE) : Prop := ∀ w : World, Calls Tryz.prog 30 #[.string s] w fun e w' => (∃ u : Value, e = .returned (.tuple #[.agg #[u], .int .i64 (k : Nat), .int .i64 0]) /\ RefT w' u L) /\ Below w.heap.size w w'
theorem ytr {s : ByteArray} (hs : s.size <= 1000000) (hE : rdE s = 0) : ReadsP s (rdK s) (rdL s) := fun w => (Read_any w hs).mono fun e w' ⟨h1, _, h3⟩ => ⟨by rw [<- hE]; exact hE ▸ h1 hE, h3⟩
set_option maxHeartbeats 8000000 in
theorem make_a {kd lvl : Int} {sh bk : Bool} {s : ByteArray} {n k : Nat} {L : List PE} (h1 : (kd == 1) = false) (h2 : (kd == 2) = false) (hs : s.size <= 200) (hn : lvN lvl = n) (hP : ReadsP s k L) (hR : ReadsR s k L) (w : World) :
  Calls Tryz.prog 17 #[.int .i64 kd, .int .i64 lvl, .bool sh, .bool bk, .string s] w (MkIs n sh bk L w) := by
 obtain ⟨m16, hm16⟩ : ∃ q : Nat, (q : Int) = lvl % 65536 := ⟨(lvl % 65536).toNat, by omega⟩
 have hand := and16 lvl; rw [<- hm16] at hand
 have hrem : (m16 : Int).tmod 3 = ((m16 % 3 : Nat) : Int) := by rw [Int.tmod_eq_emod_of_nonneg (by omega)]; omega
 have hwk : IntKind.i64.wrap (((m16 % 3 : Nat) : Int) + 1) = (n : Int) := by rw [IntWalk.i64_in _ (by omega), <- hn]; unfold lvN; rw [<- hm16]; omega
 obtain ⟨k0, hk0⟩ : ∃ k, m16 % 3 = k := ⟨_, rfl⟩; rw [hk0] at hrem hwk; clear hm16 hk0 hn
 have hsI : ¬ (200 : Int) < (s.size : Int) := by omega
 have CP := zH hP; have CR := zH hR; clear hP hR hs; have hb1 := belAlloc w (.cells #[.int .i64 0, .int .i64 0, .bool false, .bool false, .pointer none] 25); have hb2 := belAlloc (w.alloc (.cells #[.int .i64 0, .int .i64 0, .bool false, .bool false, .pointer none] 25)) (.cells #[.int .i64 0, .int .i64 0, .bool false, .bool false, .slice none 0 0] 42); have hx := heap_alloc_new (w.alloc (.cells #[.int .i64 0, .int .i64 0, .bool false, .bool false, .pointer none] 25)) (.cells #[.int .i64 0, .int .i64 0, .bool false, .bool false, .slice none 0 0] 42); have hc := (hb2.block w.heap.size (by simp)).trans (heap_alloc_new w (.cells #[.int .i64 0, .int .i64 0, .bool false, .bool false, .pointer none] 25))
 have HD := zH hx; have HC := zH hc; have HB := zH (hb1.trans (hb2.mono hb1.size))
 have HS : Hid ((w.alloc (.cells #[.int .i64 0, .int .i64 0, .bool false, .bool false, .pointer none] 25)).heap.size = w.heap.size + 1) := World.size_alloc _ _
 have HS2 : Hid (((w.alloc (.cells #[.int .i64 0, .int .i64 0, .bool false, .bool false, .pointer none] 25)).alloc (.cells #[.int .i64 0, .int .i64 0, .bool false, .bool false, .slice none 0 0] 42)).heap.size = w.heap.size + 2) := by show _ = _; rw [World.size_alloc, World.size_alloc]
 clear hb1 hb2 hx hc
 go_enter Tryz.func17, Tryz.ntmps17
 go_upto_region 1 with (fail)
 generalize hw1 : (w.alloc (.cells #[.int .i64 0, .int .i64 0, .bool false, .bool false, .pointer none] 25)) = w1 at HD HB HS HS2 HC |-; rw [HS.out] at HD; clear hw1; generalize (w1.alloc (.cells #[.int .i64 0, .int .i64 0, .bool false, .bool false, .slice none 0 0] 42)) = w2 at HD HB HS2 HC |-; obtain ⟨bx, hbx⟩ : ∃ b, w.heap.size = b := ⟨_, rfl⟩; have HBX := zH hbx; rw [hbx] at HD HB HS2 HC; obtain ⟨cx, hcx⟩ : ∃ b, bx + 1 = b := ⟨_, rfl⟩; have HCX := zH hcx; rw [hcx] at HD; rw [show (({ block := w.heap.size + 1, off := 0 } : Addr)) = ⟨cx, 0, none⟩ by rw [hbx, hcx], show (({ block := w.heap.size, off := 0 } : Addr)) = ⟨bx, 0, none⟩ by rw [hbx]]
 clear hbx hcx
 go_upto_region 11 with (first | (go_at_call 29; refine (CP.out _).mono ?_; rintro e w3 ⟨⟨p, rfl, ht⟩, hb⟩; have HC3 := zH ((hb.block bx (R4.yad HC.out)).trans HC.out); have HD3 := zH ((hb.block cx (R4.yad HD.out)).trans HD.out); have HT3 := zH ht; have HB3 := zH (HB.out.trans (hb.mono (bsz HB.out HBX.out))); clear ht hb) | (go_at_call 30; refine (CR.out _).mono ?_; rintro e w4 ⟨⟨u, rfl, hr⟩, hb⟩; obtain ⟨Au, cu, rfl⟩ := hr.form; have HBa := zH (hb.trans ((belAlloc w4 (.cells #[.slice Au L.length cu] 40)).mono hb.size)); have HR4 := zH (hr.below (belAlloc w4 (.cells #[.slice Au L.length cu] 40)) (zN _)); have HX4 := zH (heap_alloc_new w4 (.cells #[.slice Au L.length cu] 40)); have HB4 : Hid (bx < w4.heap.size) := (R4.yad ((hb.block bx (R4.yad HC3.out)).trans HC3.out)); clear hr hb))
 obtain ⟨nu, hnu⟩ : ∃ n, L.length = n := ⟨_, rfl⟩; rw [hnu] at HBa HR4 HX4 |-; clear hnu; have HCz := zH ((HBa.out.block bx (R4.yad HC3.out)).trans HC3.out); have HDz := zH ((HBa.out.block cx (R4.yad HD3.out)).trans HD3.out); have HTz := zH (HT3.out.below HBa.out (zN _)); have HBz := zH (HB3.out.trans (HBa.out.mono (bsz HB3.out HBX.out))); generalize (w4.alloc (.cells #[.slice Au nu cu] 40)) = wz at HCz HDz HTz HBz HR4 HX4 |-; have HRz := HR4
 have HNE : Hid (w4.heap.size ≠ bx) := by have := HB4.out; show _ ≠ _; omega
 obtain ⟨tb, htb⟩ : ∃ b, w4.heap.size = b := ⟨_, rfl⟩; rw [htb] at HX4 HNE |-; clear htb HR4 HBa HC3 HD3 HT3 HB3; have HXz := HX4; clear HX4; have c0 := cellAt (i := 0) (v := .slice Au nu cu) HXz.out rfl; have hc8 := HCz.out; have x0 := cellAt (i := 0) (v := .int .i64 0) hc8 rfl; have xf0 := frozen_of_row _ bx 0 _ _ hc8; have x1 := cellAt (i := 1) (v := .int .i64 0) hc8 rfl; have xf1 := frozen_of_row _ bx 1 _ _ hc8; have x2 := cellAt (i := 2) (v := .bool false) hc8 rfl; have xf2 := frozen_of_row _ bx 2 _ _ hc8; have x3 := cellAt (i := 3) (v := .bool false) hc8 rfl; have xf3 := frozen_of_row _ bx 3 _ _ hc8; have x4 := cellAt (i := 4) (v := .pointer none) hc8 rfl; have xf4 := frozen_of_row _ bx 4 _ _ hc8
 have ne1 : bx ≠ cx := by have := HCX.out; omega
 have k1 := set5 HCz.out (.int .i64 3) (.int .i64 (n : Int)) (.bool sh) (.bool bk) (.pointer (some ⟨p, 0, none⟩)); have g1 := grown5 wz bx (.int .i64 3) (.int .i64 (n : Int)) (.bool sh) (.bool bk) (.pointer (some ⟨p, 0, none⟩))
 have k2 : (((((wz.setCell ⟨bx, 0, none⟩ (.int .i64 3)).setCell ⟨bx, 1, none⟩ (.int .i64 (n : Int))).setCell ⟨bx, 2, none⟩ (.bool sh)).setCell ⟨bx, 3, none⟩ (.bool bk)).setCell ⟨bx, 4, none⟩ (.pointer (some ⟨p, 0, none⟩))).heap[cx]? = _ := (g1.block cx (R4.yad HDz.out) (by intro e; injection e with e; exact ne1 e.symm)).trans HDz.out
 have kt : (((((wz.setCell ⟨bx, 0, none⟩ (.int .i64 3)).setCell ⟨bx, 1, none⟩ (.int .i64 (n : Int))).setCell ⟨bx, 2, none⟩ (.bool sh)).setCell ⟨bx, 3, none⟩ (.bool bk)).setCell ⟨bx, 4, none⟩ (.pointer (some ⟨p, 0, none⟩))).heap[tb]? = _ := (g1.block tb (R4.yad HXz.out) (by intro e; injection e with e; exact HNE.out e)).trans HXz.out
 have c1 := cellAt (i := 0) (v := .slice Au nu cu) kt rfl; have y0 := cellAt (i := 0) (v := .int .i64 0) k2 rfl; have yf0 := frozen_of_row _ cx 0 _ _ k2; have y1 := cellAt (i := 1) (v := .int .i64 0) k2 rfl; have yf1 := frozen_of_row _ cx 1 _ _ k2; have y2 := cellAt (i := 2) (v := .bool false) k2 rfl; have yf2 := frozen_of_row _ cx 2 _ _ k2; have y3 := cellAt (i := 3) (v := .bool false) k2 rfl; have yf3 := frozen_of_row _ cx 3 _ _ k2; have y4 := cellAt (i := 4) (v := .slice none 0 0) k2 rfl; have yf4 := frozen_of_row _ cx 4 _ _ k2; have K1 := zH k1; have G1 := zH g1; have K2 := zH k2; clear k1 g1 k2 kt hc8
 go_region
 go_wp2
 have k3 := set5 K2.out (.int .i64 3) (.int .i64 (n : Int)) (.bool sh) (.bool bk) (.slice Au nu cu); have g2 := grown5 (((((wz.setCell ⟨bx, 0, none⟩ (.int .i64 3)).setCell ⟨bx, 1, none⟩ (.int .i64 (n : Int))).setCell ⟨bx, 2, none⟩ (.bool sh)).setCell ⟨bx, 3, none⟩ (.bool bk)).setCell ⟨bx, 4, none⟩ (.pointer (some ⟨p, 0, none⟩))) cx (.int .i64 3) (.int .i64 (n : Int)) (.bool sh) (.bool bk) (.slice Au nu cu)
 have k4 : ((((((((((wz.setCell ⟨bx, 0, none⟩ (.int .i64 3)).setCell ⟨bx, 1, none⟩ (.int .i64 (n : Int))).setCell ⟨bx, 2, none⟩ (.bool sh)).setCell ⟨bx, 3, none⟩ (.bool bk)).setCell ⟨bx, 4, none⟩ (.pointer (some ⟨p, 0, none⟩))).setCell ⟨cx, 0, none⟩ (.int .i64 3)).setCell ⟨cx, 1, none⟩ (.int .i64 (n : Int))).setCell ⟨cx, 2, none⟩ (.bool sh)).setCell ⟨cx, 3, none⟩ (.bool bk)).setCell ⟨cx, 4, none⟩ (.slice Au nu cu)).heap[bx]? = _ := (g2.block bx (R4.yad K1.out) (by intro e; injection e with e; exact ne1 e)).trans K1.out
 have ht1 := TabAt.beside HTz.out (fun k hk => by have hk : w2.heap.size <= k := hk; have := HS2.out; omega) G1.out HCz.out (by decide) (by decide) (by decide) (by decide) no_sl5
 have ht2 := TabAt.beside ht1 (fun k hk => by have hk : w2.heap.size <= k := hk; have := HS2.out; have := HCX.out; omega) g2 K2.out (by decide) (by decide) (by decide) (by decide) no_sl5
 have hr1 := RefU.off HRz.out G1.out HCz.out (by decide) (by decide) (by decide)
 have hr2 := RefU.off hr1 g2 K2.out (by decide) (by decide) (by decide)
 have z0 := cellAt (i := 0) (v := .int .i64 3) k4 rfl; have z1 := cellAt (i := 1) (v := .int .i64 (n : Int)) k4 rfl; have z2 := cellAt (i := 2) (v := .bool sh) k4 rfl; have z3 := cellAt (i := 3) (v := .bool bk) k4 rfl; have z4 := cellAt (i := 4) (v := .pointer (some ⟨p, 0, none⟩)) k4 rfl; have q0 := cellAt (i := 0) (v := .int .i64 3) k3 rfl; have q1 := cellAt (i := 1) (v := .int .i64 (n : Int)) k3 rfl; have q2 := cellAt (i := 2) (v := .bool sh) k3 rfl; have q3 := cellAt (i := 3) (v := .bool bk) k3 rfl; have q4 := cellAt (i := 4) (v := .slice Au nu cu) k3 rfl; refine bodyPost_ret (v := .tuple #[.agg #[.int .i64 3, .int .i64 (n : Int), .bool sh, .bool bk, .pointer (some ⟨p, 0, none⟩)], .agg #[.int .i64 3, .int .i64 (n : Int), .bool sh, .bool bk, .slice Au nu cu], .bool true]) (by simp [results, Tryz.results17, go_sem, z0, z1, z2, z3, z4, q0, q1, q2, q3, q4]) rfl ⟨⟨p, _, rfl, (ht2.mono fun _ _ => trivial).below (zR _ _).drew (zN _), RefU.below hr2 (zR _ _).drew (zN _)⟩, ?_⟩
 rw [HBX.out]; exact ((HBz.out.grown G1.out (bsz HBz.out HBX.out) (fun k e => by injection e with e; omega)).grown g2 (by rw [show (((((wz.setCell ⟨bx, 0, none⟩ (.int .i64 3)).setCell ⟨bx, 1, none⟩ (.int .i64 (n : Int))).setCell ⟨bx, 2, none⟩ (.bool sh)).setCell ⟨bx, 3, none⟩ (.bool bk)).setCell ⟨bx, 4, none⟩ (.pointer (some ⟨p, 0, none⟩))).heap.size = wz.heap.size by simp [World.setCell]]; exact bsz HBz.out HBX.out) (fun k e => by injection e with e; have := HCX.out; omega)).drew
theorem yoo : checkP rootP = 0 := by decide +kernel
set_option maxHeartbeats 4000000 in
theorem yqp {w : World} {v rv : Value} (h : RefT w v rootP) (hr : S6.RdRs w rv []) :
  Calls Tryz.prog 53 #[.agg #[v], rv] w (RAppIs rootP 0 w) := by
 obtain ⟨Av, cv, rfl⟩ := h.form; obtain ⟨Ar, cr, rfl⟩ := hr.form; have hA := yaa w (.cells #[.slice Av rootP.length cv] 40); have hA2 := yaa (w.alloc (.cells #[.slice Av rootP.length cv] 40)) (.cells #[.slice none 0 0] 40); have h2 := (hA2.block _ (R4.yad (heap_alloc_new w (.cells #[.slice Av rootP.length cv] 40)))).trans (heap_alloc_new w (.cells #[.slice Av rootP.length cv] 40)); have h4 := heap_alloc_new (w.alloc (.cells #[.slice Av rootP.length cv] 40)) (.cells #[.slice none 0 0] 40); have HT := zH ((h.below hA (zN _)).below hA2 (zN _)); have HB := zH (hA.trans (hA2.mono hA.size)); have H2 := zH h2; have H4 := zH h4; rw [World.size_alloc] at H4; obtain ⟨nL, hnL⟩ : ∃ n, rootP.length = n := ⟨_, rfl⟩; rw [hnL] at HT HB H2 H4 |-
 have HLN : Hid (rootP.length = nL) := hnL
 clear h hr hA hA2 h2 h4 hnL
 go_enter Tryz.func53, Tryz.ntmps53
 go_wp2
 generalize ((w.alloc (.cells #[.slice Av nL cv] 40)).alloc (.cells #[.slice none 0 0] 40)) = w0 at HT HB H2 H4 |-; obtain ⟨b2, hb2⟩ : ∃ b, w.heap.size = b := ⟨_, rfl⟩; have HB2 := zH hb2; rw [hb2] at H2 H4 HB; obtain ⟨b4, hb4⟩ : ∃ b, b2 + 1 = b := ⟨_, rfl⟩; have HB4 := zH hb4; rw [hb4] at H4; rw [show (({ block := w.heap.size, off := 0 } : Addr)) = ⟨b2, 0, none⟩ by rw [hb2], show (({ block := w.heap.size + 1, off := 0 } : Addr)) = ⟨b4, 0, none⟩ by rw [hb2, hb4]]
 clear hb2 hb4
 have CK : Hid (Calls Tryz.prog 92 #[.agg #[.slice Av nL cv]] w0 fun e_1 w' => e_1 = .returned (.int .i64 0) /\ Below w0.heap.size w0 w') := yqk HT.out (by have := root_good.len; omega) (fun f hf => by have h1 := root_good.seq f hf; have h2 := (root_good.els f hf).1; omega) yoo
 have v0 := yar (i := 0) (v := .slice Av nL cv) H2.out rfl; refine wp_loop_rounds 1 ?_; rw [rounds_succ]
 go_wp2_with (go_at_call 92; refine (CK.out).mono ?_; rintro q' w3 ⟨rfl, hb⟩; have V3 := zH ((hb.block b2 (R4.yad H2.out)).trans H2.out); have R3 := zH ((hb.block b4 (R4.yad H4.out)).trans H4.out); have d0 := yar (i := 0) (v := .slice Av nL cv) V3.out rfl; have y4 := yar (i := 0) (v := .slice none 0 0) R3.out rfl; have y4f := frozen_of_row _ b4 0 _ _ R3.out; have HB3 := zH (HB.out.trans (hb.mono (by have := HB.out.size; rw [HB2.out] at this; exact this))); have RF3 := zH (HT.out.below hb (zN _)); clear hb v0)
 have h9 := heap_setCell_same w3 b4 0 _ _ (.slice Av nL cv) R3.out; have x9 := yar (i := 0) (v := .slice Av nL cv) h9 rfl; refine bodyPost_ret (v := .tuple #[.agg #[.slice Av nL cv], .int .i64 0]) (by simp [results, Tryz.results53, go_sem, x9]) rfl ⟨fun _ => ⟨_, rfl, ?_⟩, fun h => absurd rfl h, ?_⟩
 ·exact RF3.out.off (R4.yae _ ⟨b4, 0, none⟩ _) R3.out (by decide) (by decide) (by decide)
 ·rw [HB2.out]; exact HB3.out.setCell (by show b2 <= b4; have := HB4.out; omega) _
theorem yjd : S6.parse (⟨#[]⟩ : ByteArray).data.toList = ([], 0, 0) := rfl
set_option maxHeartbeats 4000000 in
theorem yxb {U : Nat -> Prop} {w : World} {p : Nat} {L : List PE} (hC : checkP L = 0) (hU : ∀ k, w.heap.size <= k -> U k) (hT : TabAt U w p L) {A : Option Addr} {c : Nat} :
  Calls Tryz.prog 51 #[.pointer (some ⟨p, 0, none⟩), .slice A 0 c] w fun e w' => (∃ q : Nat, e = .returned (.tuple #[.pointer (some ⟨q, 0, none⟩), .int .i64 0]) /\ TabAt U w' q L) /\ Below w.heap.size w w' := by
 have CM := zH (ypb (F := U) hU hT); rw [yvd] at CM
 have CC : Hid (∀ (w1 : World) (q : Nat), TabAt U w1 q L -> Calls Tryz.prog 86 #[.pointer (some ⟨q, 0, none⟩)] w1 fun e w' => e = .returned (.int .i64 0) /\ Below w1.heap.size w1 w') := fun w1 q h => (ymj h hC)
 clear hT hU hC
 go_enter Tryz.func51, Tryz.ntmps51
 go_wp2_with (go_at_call 83; refine (CM.out).mono ?_; rintro q w1 ⟨⟨q1, rfl, ht1⟩, hb1⟩; have HT2 := zH (ht1.below (belAlloc w1 (.cells #[.pointer (some ⟨q1, 0, none⟩), .slice none 0 0, .bool false] 143)) (zN _)); have HX2 := zH (heap_alloc_new w1 (.cells #[.pointer (some ⟨q1, 0, none⟩), .slice none 0 0, .bool false] 143)); have HB2 := zH (hb1.trans ((belAlloc w1 (.cells #[.pointer (some ⟨q1, 0, none⟩), .slice none 0 0, .bool false] 143)).mono hb1.size)); clear ht1 hb1)
 generalize (w1.alloc (.cells #[.pointer (some ⟨q1, 0, none⟩), .slice none 0 0, .bool false] 143)) = w2 at HT2 HX2 HB2 |-; obtain ⟨bx, hbx⟩ : ∃ b, w1.heap.size = b := ⟨_, rfl⟩; rw [hbx] at HX2 |-; clear hbx; have c0 := cellAt (i := 0) (v := .pointer (some ⟨q1, 0, none⟩)) HX2.out rfl; refine wp_loop_rounds 1 ?_; rw [rounds_succ]
 go_wp2_with (go_at_call 86; refine (CC.out _ _ HT2.out).mono ?_; rintro q w3 ⟨rfl, hb⟩; have d0 := yab hb c0; have HT3 := zH (HT2.out.below hb (zN _)); have HB3 := zH (HB2.out.trans (hb.mono HB2.out.size)); clear hb c0)
 go_ret2
 exact ⟨⟨_, rfl, HT3.out⟩, HB3.out⟩
set_option maxHeartbeats 4000000 in
theorem ynd : ReadsP ⟨#[]⟩ 0 rootP := fun w => by
 have CP : Hid (Calls Tryz.prog 50 #[.string ⟨#[]⟩] w fun e w' => (∃ (A : Option Addr) (n c : Nat), e = .returned (.tuple #[.slice A n c, .int .i64 0, .int .i64 0]) /\ n = 0 /\ S6.RdRs w' (.slice A n c) []) /\ Below w.heap.size w w') := ykf w (by decide) yjd
 have CT := zH ykb; unfold RootIs at CT
 have CA : Hid (∀ (w1 : World) (p : Nat) (A : Option Addr) (c : Nat), w.heap.size <= w1.heap.size -> TabAt (fun k => w.heap.size <= k) w1 p rootP -> Calls Tryz.prog 51 #[.pointer (some ⟨p, 0, none⟩), .slice A 0 c] w1 fun e w' => (∃ q : Nat, e = .returned (.tuple #[.pointer (some ⟨q, 0, none⟩), .int .i64 0]) /\ TabAt (fun k => w.heap.size <= k) w' q rootP) /\ Below w1.heap.size w1 w') := fun w1 p A c hs ht => yxb yoo (fun k hk => Nat.le_trans hs hk) ht
 obtain ⟨R, hR⟩ : ∃ R, rootP = R := ⟨_, rfl⟩; rw [hR] at CT CA |-; clear hR
 go_enter Tryz.func29, Tryz.ntmps29
 go_wp2_with (first
  | (go_at_call 50; refine (CP.out).mono ?_; rintro q w1 ⟨⟨A, n, c, rfl, hn, -⟩, hb⟩; subst hn; have HB := zH hb; clear hb)
  | (go_at_call 25; refine (CT.out _).mono ?_; rintro q w2 ⟨p, rfl, ht, hb⟩; have HB2 := zH (HB.out.trans (hb.mono HB.out.size)); have HT := zH (ht.mono (G := fun k => w.heap.size <= k) fun k hk => Nat.le_trans HB.out.size hk); clear hb ht)
  | (go_at_call 51; refine (CA.out _ _ _ _ HB2.out.size HT.out).mono ?_; rintro q w3 ⟨⟨p3, rfl, ht⟩, hb⟩; have HB3 := zH (HB2.out.trans (hb.mono HB2.out.size)); have HT3 := zH ht; clear hb ht))
 go_ret3
 exact ⟨⟨_, rfl, HT3.out⟩, HB3.out⟩
theorem ync : ReadsR ⟨#[]⟩ 0 rootP := fun w => (yye w (s := ⟨#[]⟩) (by decide) yjd fun w1 u rv ht hr => yqp ht hr).mono fun e w' ⟨h1, _, h3⟩ => ⟨by obtain ⟨u, h4, h5⟩ := h1 rfl; exact ⟨u, h4, h5⟩, h3⟩
theorem yfl {w : World} {p n : Nat} {L : List PE} {sh bk : Bool} (h : TabAt anyB w p L) (h1 : 1 <= n) (h3 : n <= 3) : ColAt w (.agg #[.int .i64 3, .int .i64 (n : Nat), .bool sh, .bool bk, .pointer (some ⟨p, 0, none⟩)]) (.table n sh bk L) := ⟨3, n, sh, bk, _, rfl, rfl, rfl, h1, h3, rfl, rfl, p, rfl, h⟩
theorem yrj (w : World) : ColAt w (.agg #[.int .i64 2, .int .i64 0, .bool false, .bool false, .pointer none]) .fold := ⟨2, 0, false, false, none, rfl, rfl⟩
theorem aw8_1 : colK (.table 1 false false rootP) [101] [195, 137] = 0 := by decide +kernel
theorem aw8_2 : colK (.table 2 false false rootP) [101] [195, 137] = -1 := by decide +kernel
theorem aw8_3 : colK (.table 3 false false rootP) [97] [65] = -1 := by decide +kernel
theorem aw8_4 : colK .fold [65] [97] = 0 := by decide +kernel
structure AwS (R : List PE) (w w' : World) (b1 b2 b3 p1 p2 p3 : Nat) : Prop where
 k1 : w'.heap[b1]? = some (.cells #[.int .i64 3, .int .i64 1, .bool false, .bool false, .pointer (some ⟨p1, 0, none⟩)] 25 (0, 0))
 k2 : w'.heap[b2]? = some (.cells #[.int .i64 3, .int .i64 2, .bool false, .bool false, .pointer (some ⟨p2, 0, none⟩)] 25 (0, 0))
 k3 : w'.heap[b3]? = some (.cells #[.int .i64 3, .int .i64 3, .bool false, .bool false, .pointer (some ⟨p3, 0, none⟩)] 25 (0, 0))
 t1 : TabAt anyB w' p1 R
 t2 : TabAt anyB w' p2 R
 t3 : TabAt anyB w' p3 R
 bel : Below w.heap.size w w'
theorem AwS.step {R : List PE} {w w' w2 : World} {b1 b2 b3 p1 p2 p3 : Nat} (h : AwS R w w' b1 b2 b3 p1 p2 p3) (hb : Below w'.heap.size w' w2) : AwS R w w2 b1 b2 b3 p1 p2 p3 :=
 ⟨(hb.block _ (R4.yad h.k1)).trans h.k1, (hb.block _ (R4.yad h.k2)).trans h.k2, (hb.block _ (R4.yad h.k3)).trans h.k3, h.t1.below hb (zN _), h.t2.below hb (zN _), h.t3.below hb (zN _), h.bel.trans (hb.mono h.bel.size)⟩
theorem AwS.cells {R : List PE} {w w' : World} {b1 b2 b3 p1 p2 p3 : Nat} (h : AwS R w w' b1 b2 b3 p1 p2 p3) : w'.cell? ⟨b1, 0, none⟩ = some (.int .i64 3) /\ w'.cell? ⟨b1, 1, none⟩ = some (.int .i64 1) /\ w'.cell? ⟨b1, 2, none⟩ = some (.bool false) /\ w'.cell? ⟨b1, 3, none⟩ = some (.bool false) /\ w'.cell? ⟨b1, 4, none⟩ = some (.pointer (some ⟨p1, 0, none⟩)) /\ w'.cell? ⟨b2, 0, none⟩ = some (.int .i64 3) /\ w'.cell? ⟨b2, 1, none⟩ = some (.int .i64 2) /\ w'.cell? ⟨b2, 2, none⟩ = some (.bool false) /\ w'.cell? ⟨b2, 3, none⟩ = some (.bool false) /\ w'.cell? ⟨b2, 4, none⟩ = some (.pointer (some ⟨p2, 0, none⟩)) /\ w'.cell? ⟨b3, 0, none⟩ = some (.int .i64 3) /\ w'.cell? ⟨b3, 1, none⟩ = some (.int .i64 3) /\ w'.cell? ⟨b3, 2, none⟩ = some (.bool false) /\ w'.cell? ⟨b3, 3, none⟩ = some (.bool false) /\ w'.cell? ⟨b3, 4, none⟩ = some (.pointer (some ⟨p3, 0, none⟩)) :=
 ⟨cellAt h.k1 rfl, cellAt h.k1 rfl, cellAt h.k1 rfl, cellAt h.k1 rfl, cellAt h.k1 rfl, cellAt h.k2 rfl, cellAt h.k2 rfl, cellAt h.k2 rfl, cellAt h.k2 rfl, cellAt h.k2 rfl, cellAt h.k3 rfl, cellAt h.k3 rfl, cellAt h.k3 rfl, cellAt h.k3 rfl, cellAt h.k3 rfl⟩
theorem yia (lvl : Int) {n : Nat} (hn : lvN lvl = n) (w : World) : Calls Tryz.prog 17 #[.int .i64 3, .int .i64 lvl, .bool false, .bool false, .string ⟨#[]⟩] w (MkIs n false false rootP w) := make_a (s := ⟨#[]⟩) rfl rfl (by decide) hn ynd ync w
set_option maxHeartbeats 2000000 in
theorem ywx {R : List PE} (hR : rootP = R) (w : World) : Calls Tryz.prog 13 #[] w fun e w' => e = .returned (.bool true) /\ Below w.heap.size w w' := by
 have CM0 := zH (fun w => yia 0 (n := 1) (by decide) w)
 have CM1 := zH (fun w => yia 1 (n := 2) (by decide) w)
 have CM2 := zH (fun w => yia 2 (n := 3) (by decide) w)
 have CC1 : Hid (∀ (w1 : World) (p : Nat), TabAt anyB w1 p rootP -> Calls Tryz.prog 15 #[.agg #[.int .i64 3, .int .i64 1, .bool false, .bool false, .pointer (some ⟨p, 0, none⟩)], .string ⟨#[101]⟩, .string ⟨#[195, 137]⟩] w1 fun e w' => e = .returned (.int .i64 0) /\ Below w1.heap.size w1 w') := fun w1 p ht => yef (yfl (n := 1) ht (by omega) (by omega)) (by decide) (by decide) aw8_1
 have CC2 : Hid (∀ (w1 : World) (p : Nat), TabAt anyB w1 p rootP -> Calls Tryz.prog 15 #[.agg #[.int .i64 3, .int .i64 2, .bool false, .bool false, .pointer (some ⟨p, 0, none⟩)], .string ⟨#[101]⟩, .string ⟨#[195, 137]⟩] w1 fun e w' => e = .returned (.int .i64 (-1)) /\ Below w1.heap.size w1 w') := fun w1 p ht => yef (yfl (n := 2) ht (by omega) (by omega)) (by decide) (by decide) aw8_2
 have CC3 : Hid (∀ (w1 : World) (p : Nat), TabAt anyB w1 p rootP -> Calls Tryz.prog 15 #[.agg #[.int .i64 3, .int .i64 3, .bool false, .bool false, .pointer (some ⟨p, 0, none⟩)], .string ⟨#[97]⟩, .string ⟨#[65]⟩] w1 fun e w' => e = .returned (.int .i64 (-1)) /\ Below w1.heap.size w1 w') := fun w1 p ht => yef (yfl (n := 3) ht (by omega) (by omega)) (by decide) (by decide) aw8_3
 have CS : Hid (∀ (w1 : World), Calls Tryz.prog 20 #[.agg #[.int .i64 2, .int .i64 0, .bool false, .bool false, .pointer none], .string ⟨#[65]⟩, .string ⟨#[97]⟩] w1 fun e w' => e = .returned (.bool true) /\ Below w1.heap.size w1 w') := fun w1 => Same_any (yrj w1) (by decide) (by decide) (r := true) (by rw [show (⟨#[65]⟩ : ByteArray).data.toList = [65] from rfl, show (⟨#[97]⟩ : ByteArray).data.toList = [97] from rfl, aw8_4]; rfl)
 have CO : Hid (∀ (w1 : World) (p : Nat), Calls Tryz.prog 19 #[.agg #[.int .i64 3, .int .i64 1, .bool false, .bool false, .pointer (some ⟨p, 0, none⟩)]] w1 fun e w' => e = .returned (.bool true) /\ Below w1.heap.size w1 w') := fun w1 p => ok_all 3 1 false false (some ⟨p, 0, none⟩) w1
 rw [hR] at CM0 CM1 CM2 CC1 CC2 CC3; clear hR; obtain ⟨nu, hnu⟩ : ∃ n, R.length = n := ⟨_, rfl⟩; have HNU := zH hnu; clear hnu
 go_enter Tryz.func13, Tryz.ntmps13
 go_upto_region 4 with (first
  | (go_at_call 17; (with_reducible refine (CM0.out _).mono ?_); rintro e w1 ⟨⟨p1, u1, rfl, ht, hr⟩, hb⟩; obtain ⟨Au1, cu1, rfl⟩ := hr.form; rw [HNU.out]; have hba := belAlloc w1 (.cells #[.int .i64 3, .int .i64 1, .bool false, .bool false, .pointer (some ⟨p1, 0, none⟩)] 25); have hbb := belAlloc (w1.alloc (.cells #[.int .i64 3, .int .i64 1, .bool false, .bool false, .pointer (some ⟨p1, 0, none⟩)] 25)) (.cells #[.int .i64 3, .int .i64 1, .bool false, .bool false, .slice Au1 nu cu1] 42); have hbc := hba.trans (hbb.mono hba.size); have K11 : Hid (((w1.alloc (.cells #[.int .i64 3, .int .i64 1, .bool false, .bool false, .pointer (some ⟨p1, 0, none⟩)] 25)).alloc (.cells #[.int .i64 3, .int .i64 1, .bool false, .bool false, .slice Au1 nu cu1] 42)).heap[w1.heap.size]? = some (.cells #[.int .i64 3, .int .i64 1, .bool false, .bool false, .pointer (some ⟨p1, 0, none⟩)] 25 (0, 0))) := ((hbb.block w1.heap.size (by simp)).trans (heap_alloc_new w1 (.cells #[.int .i64 3, .int .i64 1, .bool false, .bool false, .pointer (some ⟨p1, 0, none⟩)] 25))); have T11 := zH (ht.below hbc (zN _)); have B1 := zH (hb.trans (hbc.mono hb.size)); clear hba hbb hbc ht hr hb)
  | (go_at_call 17; (with_reducible refine (CM1.out _).mono ?_); rintro e w2 ⟨⟨p2, u2, rfl, ht, hr⟩, hb⟩; obtain ⟨Au2, cu2, rfl⟩ := hr.form; rw [HNU.out]; have hba := belAlloc w2 (.cells #[.int .i64 3, .int .i64 2, .bool false, .bool false, .pointer (some ⟨p2, 0, none⟩)] 25); have hbb := belAlloc (w2.alloc (.cells #[.int .i64 3, .int .i64 2, .bool false, .bool false, .pointer (some ⟨p2, 0, none⟩)] 25)) (.cells #[.int .i64 3, .int .i64 2, .bool false, .bool false, .slice Au2 nu cu2] 42); have hbc := hba.trans (hbb.mono hba.size); have K22 : Hid (((w2.alloc (.cells #[.int .i64 3, .int .i64 2, .bool false, .bool false, .pointer (some ⟨p2, 0, none⟩)] 25)).alloc (.cells #[.int .i64 3, .int .i64 2, .bool false, .bool false, .slice Au2 nu cu2] 42)).heap[w2.heap.size]? = some (.cells #[.int .i64 3, .int .i64 2, .bool false, .bool false, .pointer (some ⟨p2, 0, none⟩)] 25 (0, 0))) := ((hbb.block w2.heap.size (by simp)).trans (heap_alloc_new w2 (.cells #[.int .i64 3, .int .i64 2, .bool false, .bool false, .pointer (some ⟨p2, 0, none⟩)] 25))); have T22 := zH (ht.below hbc (zN _)); have hbd := hb.trans (hbc.mono hb.size); have B2 := zH (B1.out.trans (hbd.mono B1.out.size)); have K21 := zH ((hbd.block _ (R4.yad K11.out)).trans K11.out); have T21 := zH (T11.out.below hbd (zN _)); clear hbd; clear hba hbb hbc ht hr hb)
  | (go_at_call 17; (with_reducible refine (CM2.out _).mono ?_); rintro e w3 ⟨⟨p3, u3, rfl, ht, hr⟩, hb⟩; obtain ⟨Au3, cu3, rfl⟩ := hr.form; rw [HNU.out]; have hba := belAlloc w3 (.cells #[.int .i64 3, .int .i64 3, .bool false, .bool false, .pointer (some ⟨p3, 0, none⟩)] 25); have hbb := belAlloc (w3.alloc (.cells #[.int .i64 3, .int .i64 3, .bool false, .bool false, .pointer (some ⟨p3, 0, none⟩)] 25)) (.cells #[.int .i64 3, .int .i64 3, .bool false, .bool false, .slice Au3 nu cu3] 42); have hbc := hba.trans (hbb.mono hba.size); have K33 : Hid (((w3.alloc (.cells #[.int .i64 3, .int .i64 3, .bool false, .bool false, .pointer (some ⟨p3, 0, none⟩)] 25)).alloc (.cells #[.int .i64 3, .int .i64 3, .bool false, .bool false, .slice Au3 nu cu3] 42)).heap[w3.heap.size]? = some (.cells #[.int .i64 3, .int .i64 3, .bool false, .bool false, .pointer (some ⟨p3, 0, none⟩)] 25 (0, 0))) := ((hbb.block w3.heap.size (by simp)).trans (heap_alloc_new w3 (.cells #[.int .i64 3, .int .i64 3, .bool false, .bool false, .pointer (some ⟨p3, 0, none⟩)] 25))); have T33 := zH (ht.below hbc (zN _)); have hbd := hb.trans (hbc.mono hb.size); have B3 := zH (B2.out.trans (hbd.mono B2.out.size)); have K31 := zH ((hbd.block _ (R4.yad K21.out)).trans K21.out); have T31 := zH (T21.out.below hbd (zN _)); have K32 := zH ((hbd.block _ (R4.yad K22.out)).trans K22.out); have T32 := zH (T22.out.below hbd (zN _)); clear hbd; clear hba hbb hbc ht hr hb))
 have S0 : Hid (AwS R w _ _ _ _ _ _ _) := AwS.mk K31.out K32.out K33.out T31.out T32.out T33.out B3.out
 clear K11 T11 B1 K21 K22 T21 T22 B2 K31 K32 K33 T31 T32 T33 B3 CM0 CM1 CM2; generalize ((w3.alloc (.cells #[.int .i64 3, .int .i64 3, .bool false, .bool false, .pointer (some ⟨p3, 0, none⟩)] 25)).alloc (.cells #[.int .i64 3, .int .i64 3, .bool false, .bool false, .slice Au3 nu cu3] 42)) = wz at S0 |-; obtain ⟨b1, hb1⟩ : ∃ b, w1.heap.size = b := ⟨_, rfl⟩; obtain ⟨b2, hb2⟩ : ∃ b, w2.heap.size = b := ⟨_, rfl⟩; obtain ⟨b3, hb3⟩ : ∃ b, w3.heap.size = b := ⟨_, rfl⟩; rw [hb1, hb2, hb3] at S0 |-; clear hb1 hb2 hb3; obtain ⟨a0, a1, a2, a3, a4, a5, a6, a7, a8, a9, a10, a11, a12, a13, a14⟩ := S0.out.cells
 go_wp2_with (first
  | (go_at_call 19; refine (CO.out _ _).mono ?_; rintro e v1 ⟨rfl, hb⟩; have S1 := zH (S0.out.step hb); clear hb a0 a1 a2 a3 a4 a5 a6 a7 a8 a9 a10 a11 a12 a13 a14; obtain ⟨a0, a1, a2, a3, a4, a5, a6, a7, a8, a9, a10, a11, a12, a13, a14⟩ := S1.out.cells)
  | (go_at_call 15; (with_reducible refine (CC1.out _ _ S1.out.t1).mono ?_); rintro e v2 ⟨rfl, hb⟩; have S2 := zH (S1.out.step hb); clear hb a0 a1 a2 a3 a4 a5 a6 a7 a8 a9 a10 a11 a12 a13 a14; obtain ⟨a0, a1, a2, a3, a4, a5, a6, a7, a8, a9, a10, a11, a12, a13, a14⟩ := S2.out.cells)
  | (go_at_call 15; (with_reducible refine (CC2.out _ _ S2.out.t2).mono ?_); rintro e v3 ⟨rfl, hb⟩; have S3 := zH (S2.out.step hb); clear hb a0 a1 a2 a3 a4 a5 a6 a7 a8 a9 a10 a11 a12 a13 a14; obtain ⟨a0, a1, a2, a3, a4, a5, a6, a7, a8, a9, a10, a11, a12, a13, a14⟩ := S3.out.cells)
  | (go_at_call 15; (with_reducible refine (CC3.out _ _ S3.out.t3).mono ?_); rintro e v4 ⟨rfl, hb⟩; have S4 := zH (S3.out.step hb); clear hb a0 a1 a2 a3 a4 a5 a6 a7 a8 a9 a10 a11 a12 a13 a14; obtain ⟨a0, a1, a2, a3, a4, a5, a6, a7, a8, a9, a10, a11, a12, a13, a14⟩ := S4.out.cells)
  | (go_at_call 20; refine (CS.out _).mono ?_; rintro e v5 ⟨rfl, hb⟩; have S5 := zH (S4.out.step hb); clear hb a0 a1 a2 a3 a4 a5 a6 a7 a8 a9 a10 a11 a12 a13 a14; obtain ⟨a0, a1, a2, a3, a4, a5, a6, a7, a8, a9, a10, a11, a12, a13, a14⟩ := S5.out.cells))
 go_ret
 exact ⟨rfl, S5.out.bel⟩
theorem yry (w : World) : Calls Tryz.prog 13 #[] w fun e w' => e = .returned (.bool true) /\ Below w.heap.size w w' := ywx rfl w
set_option maxHeartbeats 2000000 in
theorem yzg {s : ByteArray} {k : Nat} {L : List PE} (hP : ReadsP s k L) (w : World) : Calls Tryz.prog 16 #[.string s, .int .i64 3] w fun e w' => (∃ p : Nat, e = .returned (.tuple #[.agg #[.int .i64 3, .int .i64 3, .bool false, .bool false, .pointer (some ⟨p, 0, none⟩)], .bool true]) /\ ColAt w' (.agg #[.int .i64 3, .int .i64 3, .bool false, .bool false, .pointer (some ⟨p, 0, none⟩)]) (.table 3 false false L)) /\ Below w.heap.size w w' := by
 have CT := zH hP; unfold ReadsP at CT; have hx := heap_alloc_new w (.cells #[.int .i64 0, .int .i64 0, .bool false, .bool false, .pointer none] 25); have HX := zH hx; have HB := zH (belAlloc w (.cells #[.int .i64 0, .int .i64 0, .bool false, .bool false, .pointer none] 25))
 have HS1 : Hid ((w.alloc (.cells #[.int .i64 0, .int .i64 0, .bool false, .bool false, .pointer none] 25)).heap.size = w.heap.size + 1) := World.size_alloc _ _
 clear hx hP
 go_enter Tryz.func16, Tryz.ntmps16
 go_upto_region 1 with (fail)
 generalize (w.alloc (.cells #[.int .i64 0, .int .i64 0, .bool false, .bool false, .pointer none] 25)) = w1 at HX HB HS1 |-; obtain ⟨bx, hbx⟩ : ∃ b, w.heap.size = b := ⟨_, rfl⟩; have HBX := zH hbx; rw [hbx] at HX HB HS1; rw [show (({ block := w.heap.size, off := 0 } : Addr)) = ⟨bx, 0, none⟩ by rw [hbx]]
 clear hbx
 go_wp2_with (go_at_call 29; refine (CT.out _).mono ?_; rintro e w2 ⟨⟨p, rfl, ht⟩, hb⟩; have hx2 := (hb.block bx (R4.yad HX.out)).trans HX.out; have HX2 := zH hx2; have HT2 := zH ht; have HB2 := zH (HB.out.trans (hb.mono (bsz HB.out HBX.out))); have x0 := cellAt (i := 0) (v := .int .i64 0) hx2 rfl; have f0 := frozen_of_row _ bx 0 _ _ hx2; have x1 := cellAt (i := 1) (v := .int .i64 0) hx2 rfl; have f1 := frozen_of_row _ bx 1 _ _ hx2; have x2 := cellAt (i := 2) (v := .bool false) hx2 rfl; have f2 := frozen_of_row _ bx 2 _ _ hx2; have x3 := cellAt (i := 3) (v := .bool false) hx2 rfl; have f3 := frozen_of_row _ bx 3 _ _ hx2; have x4 := cellAt (i := 4) (v := .pointer none) hx2 rfl; have f4 := frozen_of_row _ bx 4 _ _ hx2; clear ht hb hx2)
 have k1 := set5 HX2.out (.int .i64 3) (.int .i64 3) (.bool false) (.bool false) (.pointer (some ⟨p, 0, none⟩)); have g1 := grown5 w2 bx (.int .i64 3) (.int .i64 3) (.bool false) (.bool false) (.pointer (some ⟨p, 0, none⟩)); have z0 := cellAt (i := 0) (v := .int .i64 3) k1 rfl; have z1 := cellAt (i := 1) (v := .int .i64 3) k1 rfl; have z2 := cellAt (i := 2) (v := .bool false) k1 rfl; have z3 := cellAt (i := 3) (v := .bool false) k1 rfl; have z4 := cellAt (i := 4) (v := .pointer (some ⟨p, 0, none⟩)) k1 rfl; have ht1 := TabAt.beside HT2.out (fun k hk => by have hk : w1.heap.size <= k := hk; have := HS1.out; omega) g1 HX2.out (by decide) (by decide) (by decide) (by decide) no_sl5
 refine bodyPost_ret (v := .tuple #[.agg #[.int .i64 3, .int .i64 3, .bool false, .bool false, .pointer (some ⟨p, 0, none⟩)], .bool true]) (by simp [results, Tryz.results16, go_sem, z0, z1, z2, z3, z4]) rfl ⟨⟨p, rfl, yfl (n := 3) (ht1.mono fun _ _ => trivial) (by decide) (by decide)⟩, ?_⟩
 rw [HBX.out]; exact HB2.out.grown g1 (bsz HB2.out HBX.out) (fun k e => by injection e with e; omega)
def letT (a : Nat) : ByteArray := ⟨#[UInt8.ofNat (97 + a)]⟩
theorem ydy (a : Nat) : (letT a).size = 1 := rfl
theorem ykp : ∀ a, a < 26 -> T2.sgs (letT a).data.toList = [((97 + a : Nat) : Int)] := by decide +kernel
theorem yfi {a : Nat} (ha : a < 26) (w : World) : (convert 32 9 (.slice (some ⟨w.heap.size, 0, none⟩) 1 1)).run Tryz.prog (w.alloc (.cells #[.int .u8 ((97 + a : Nat) : Int)] 5)) = .ok (.string (letT a)) (w.alloc (.cells #[.int .u8 ((97 + a : Nat) : Int)] 5)) := T2.conv_1 w (97 + a) (by omega)
def By1V (c : Int) (v : Value) (w : World) : Prop := ∃ g : Nat, v = .slice (some ⟨g, 0, none⟩) 1 1 /\ w.cell? ⟨g, 0, none⟩ = some (.int .u8 c)
def SV.by1 (c : Int) : SV := ⟨By1V c, fun v w w' h hb => by
 obtain ⟨g, h1, h2⟩ := h; exact ⟨g, h1, yab hb h2⟩⟩
theorem ywq (w : World) (c : Int) : By1V c (.slice (some ⟨w.heap.size, 0, none⟩) 1 1) (w.alloc (.cells #[.int .u8 c] 5)) := ⟨_, rfl, cellAt (i := 0) (v := .int .u8 c) (heap_alloc_new w _) rfl⟩
theorem yhe {a g : Nat} (ha : a < 26) {w : World} (h : w.cell? ⟨g, 0, none⟩ = some (.int .u8 ((97 + a : Nat) : Int))) : (convert 32 9 (.slice (some ⟨g, 0, none⟩) 1 1)).run Tryz.prog w = .ok (.string (letT a)) w := by
 have e : ((97 + a : Nat) : Int) = (((UInt8.ofNat (97 + a)).toNat : Nat) : Int) := by rw [UInt8.toNat_ofNat']; omega
 refine T2.str_of (B := w.heap.size) (l := [UInt8.ofNat (97 + a)]) (v := .slice (some ⟨g, 0, none⟩) 1 1) ⟨some ⟨g, 0, none⟩, 1, rfl, fun _ => ⟨⟨g, 0, none⟩, rfl, yaj h, fun j u hu => ?_⟩⟩
 have hu : [Value.int .u8 (((UInt8.ofNat (97 + a)).toNat : Nat) : Int)][j]? = some u := hu
 rcases j with _ | j
 ·injection hu with hu
  subst hu; rw [Addr.add_lit, Nat.zero_add, <- e]; exact h
 ·simp at hu
end Go.Proofs.YteibnfeokgibmaaGreat
