/-
  PACKED for a claim.
-/
import Derived.Test.YteibnfeokgibmaaGreatS30
import Derived.Test.YteibnfeokgibmaaGreatS38
set_option linter.unusedVariables false
set_option linter.unusedSimpArgs false
set_option maxRecDepth 100000
namespace Go.Proofs.YteibnfeokgibmaaGreat
open Go.RowKit
set_option maxHeartbeats 8000000 in
theorem yup {F : Nat -> Prop} {w : World} {p : Nat} {L : List PE} (h : TabAt F w p L) (b : ByteArray) (hb : b.size <= 100000) (k : Int) {n : Nat} (hn1 : 1 <= n) (hn : n <= 3) (sh bk : Bool) {R : List (List Int)} (hR : wsL sh bk (elsP L (T2.sgs b.data.toList)) n 1 = R) :
  Calls Tryz.prog 64 #[.agg #[.int .i64 k, .int .i64 (n : Nat), .bool sh, .bool bk, .pointer (some ⟨p, 0, none⟩)], .string b] w fun e w' => (∃ u, e = .returned (.agg #[.string ⟨#[]⟩, u]) /\ RdLL w' u R) /\ Below w.heap.size w w' := by
 have hel := els_lt h.good (T2.sgs b.data.toList); have hln := ysj h.good (T2.sgs b.data.toList); have hsl := T2.ydq b.data.toList; rw [T2.ba_len] at hsl; obtain ⟨E, hE⟩ : ∃ E, elsP L (T2.sgs b.data.toList) = E := ⟨_, rfl⟩; rw [hE] at hel hln hR
 have hELN : E.length <= 1000000 := by omega
 have HRG : Hid (∀ m, m < n -> R[m]? = some (wsP (m + 1) sh bk E)) := fun m hm => by rw [<- hR, ypg sh bk E n 1 m hm, Nat.add_comm 1 m]
 have HRL : Hid (R.length = n) := by rw [<- hR]; exact ykm _ _ _ _ _
 have HEL := zH hel; have hb1 := belAlloc w (.cells #[.int .i64 k, .int .i64 (n : Nat), .bool sh, .bool bk, .pointer (some ⟨p, 0, none⟩)] 25); have hb2 := belAlloc (w.alloc (.cells #[.int .i64 k, .int .i64 (n : Nat), .bool sh, .bool bk, .pointer (some ⟨p, 0, none⟩)] 25)) (.cells #[.string ⟨#[]⟩, .slice none 0 0] 63); have hx := heap_alloc_new (w.alloc (.cells #[.int .i64 k, .int .i64 (n : Nat), .bool sh, .bool bk, .pointer (some ⟨p, 0, none⟩)] 25)) (.cells #[.string ⟨#[]⟩, .slice none 0 0] 63); have hc := (hb2.block w.heap.size (by simp)).trans (heap_alloc_new w (.cells #[.int .i64 k, .int .i64 (n : Nat), .bool sh, .bool bk, .pointer (some ⟨p, 0, none⟩)] 25))
 have CE := zH (yjd ((h.below hb1 (zN _)).below hb2 (zN _)) b hb k (n : Nat) sh bk hE); have HX := zH hx; have HC := zH hc; have HB := zH (hb1.trans (hb2.mono hb1.size))
 have HS : Hid ((w.alloc (.cells #[.int .i64 k, .int .i64 (n : Nat), .bool sh, .bool bk, .pointer (some ⟨p, 0, none⟩)] 25)).heap.size = w.heap.size + 1) := World.size_alloc _ _
 have HS2 : Hid (((w.alloc (.cells #[.int .i64 k, .int .i64 (n : Nat), .bool sh, .bool bk, .pointer (some ⟨p, 0, none⟩)] 25)).alloc (.cells #[.string ⟨#[]⟩, .slice none 0 0] 63)).heap.size = w.heap.size + 2) := by show _ = _; rw [World.size_alloc, World.size_alloc]
 obtain ⟨i0, hi0, hz0, hz1, hz2⟩ := info_parts yue; have HI := zH hi0; have HZ0 := zH hz0; have HZ1 := zH hz1; have HZ2 := zH hz2; clear hb1 hb2 hx hc hel hln hsl hR hE hi0 hz0 hz1 hz2 h hb
 go_enter Tryz.func64, Tryz.ntmps64
 go_upto_region 1 with (fail)
 generalize hw1 : (w.alloc (.cells #[.int .i64 k, .int .i64 (n : Nat), .bool sh, .bool bk, .pointer (some ⟨p, 0, none⟩)] 25)) = w1 at HX HB HS HS2 HC CE |-; rw [HS.out] at HX; clear hw1; generalize (w1.alloc (.cells #[.string ⟨#[]⟩, .slice none 0 0] 63)) = w2 at HX HB HS2 HC CE |-; obtain ⟨bx, hbx⟩ : ∃ b, w.heap.size = b := ⟨_, rfl⟩; have HBX := zH hbx; rw [hbx] at HX HB HS2 HC; rw [show (({ block := w.heap.size + 1, off := 0 } : Addr)) = ⟨bx + 1, 0, none⟩ by rw [hbx], show (({ block := w.heap.size, off := 0 } : Addr)) = ⟨bx, 0, none⟩ by rw [hbx]]
 clear hbx; have c0 := cellAt (i := 0) (v := .int .i64 k) HC.out rfl; have c1 := cellAt (i := 1) (v := .int .i64 (n : Nat)) HC.out rfl; have c2 := cellAt (i := 2) (v := .bool sh) HC.out rfl; have c3 := cellAt (i := 3) (v := .bool bk) HC.out rfl; have c4 := cellAt (i := 4) (v := .pointer (some ⟨p, 0, none⟩)) HC.out rfl
 have ne : (n : Int) <= 3 := by omega
 go_upto_region 2 with (go_at_call 96; refine (CE.out).mono ?_; rintro e w3 ⟨⟨ve, rfl, hr⟩, hb⟩; have HE3 := zH hr; have hC3 := (hb.block bx (by rw [HS2.out]; omega)).trans HC.out; have hX3 := (hb.block (bx + 1) (by rw [HS2.out]; omega)).trans HX.out; have HC3 := zH hC3; have HX3 := zH hX3; have HB3 := zH (HB.out.trans (hb.mono (by rw [HS2.out]; omega))); have HS3 : Hid (bx + 2 <= w3.heap.size) := (by have := hb.size; rw [HS2.out] at this; exact this); clear c0 c1 c2 c3 c4 hr hb hC3 hX3)
 have c1 := cellAt (i := 1) (v := .int .i64 (n : Nat)) HC3.out rfl
 go_wp2_with (refine wpList_make_full _ rfl (.tmp 12) (.tmp 12) 61 rfl w3.heap.size 29 i0 _ 1 Tryz.underlying61 HI.out HZ0.out HZ1.out .i64 .i64 _ _ n rfl rfl rfl rfl (by rw [HZ2.out]; omega) (by simp only [maxLen]; omega) (zN _) ?_; intro w4 ho hg; have HT4 := zH (TabRows.new (rows := R) ho); have HB4 := zH ((zR w3.heap.size w3).grown hg (zN _) (by simp)); clear ho hg c1)
 obtain ⟨g, hg⟩ : ∃ g, w3.heap.size = g := ⟨_, rfl⟩; have HG := zH hg; rw [hg] at HT4 HB4 HS3 |-; clear hg
 go_loopw [16] (fun i wr => ∃ m : Nat, m <= n /\ i = .int .i64 (m : Nat) /\ Hid (TabRows g n R m wr) /\ Hid (Below g w3 wr)) (fun i _ => n - (intOf i).toNat)
 case atStart => exact ⟨0, Nat.zero_le _, rfl, HT4.out, HB4.out⟩
 case round =>
  clear HT4 HB4; obtain ⟨m, hm, rfl, HT, HB5⟩ := hrel; obtain ⟨wo, rfl⟩ : ∃ wo, wo = wr := ⟨_, rfl⟩; have HC5 := zH ((HB5.out.block bx (by have := HS3.out; omega)).trans HC3.out)
  have HX5 := zH ((HB5.out.block (bx + 1) (by have := HS3.out; omega)).trans HX3.out)
  have HGS : Hid (g < wo.heap.size) := by obtain ⟨vs, _, h2, _⟩ := HT.out; exact R4.yad h2
  by_cases hlt : m < n
  ·have hltI : (m : Int) < (n : Int) := by omega
   have hw1 : IntKind.i64.wrap ((m : Int) + 1) = ((m + 1 : Nat) : Int) := by rw [IntWalk.i64_in _ (by omega)]; omega
   have c0 := cellAt (i := 0) (v := .int .i64 k) HC5.out rfl; have c1 := cellAt (i := 1) (v := .int .i64 (n : Nat)) HC5.out rfl; have c2 := cellAt (i := 2) (v := .bool sh) HC5.out rfl; have c3 := cellAt (i := 3) (v := .bool bk) HC5.out rfl; have c4 := cellAt (i := 4) (v := .pointer (some ⟨p, 0, none⟩)) HC5.out rfl; have CW := zH (yti (RdE.below HE3.out HB5.out (by rw [HG.out]; exact zN _)) hELN HEL.out (lv := m + 1) (by unfold Lv; omega) k (n : Nat) sh bk (.pointer (some ⟨p, 0, none⟩)) rfl)
   obtain ⟨m1, hm1⟩ : ∃ m1, m + 1 = m1 := ⟨_, rfl⟩; have HRM := zH (HRG.out m hlt); rw [hm1] at hw1 CW HRM; have HM1 := zH hm1; have HLT := zH hlt; clear hm1 hlt
   go_wp2_with (go_at_call 95; refine (CW.out).mono ?_; rintro e w5 ⟨⟨u5, rfl, hr⟩, hb⟩; obtain ⟨A5, k5, rfl⟩ := hr.form; have HT5 := zH (HT.out.below hb); have HR5 := zH (RdF.mono hr (fun j hj => Nat.lt_of_lt_of_le HGS.out hj)); have HB6 := zH (HB5.out.trans (hb.mono (Nat.le_of_lt HGS.out))); obtain ⟨⟨v0, y0⟩, y1⟩ := HT5.out.old HLT.out; clear hr hb c0 c1 c2 c3 c4)
   go_roundw
   case rel => exact ⟨m1, by have := HM1.out; have := HLT.out; omega, by have := HM1.out; go_num, by have h := HT5.out.put HLT.out HRM.out HR5.out; rw [HM1.out] at h; exact h, HB6.out.setCell (p := ⟨g, m, none⟩) (zN _) _⟩
   case measure => have := HM1.out; simp [intOf] <;> omega
  ·obtain rfl : m = n := by omega
   have hltI : ¬ (m : Int) < (m : Int) := by omega
   have x0 := cellAt (i := 0) (v := .string ⟨#[]⟩) HX5.out rfl; have x1 := cellAt (i := 1) (v := .slice none 0 0) HX5.out rfl; have x2 := frozen_of_row _ (bx + 1) 0 _ _ HX5.out; have x3 := frozen_of_row _ (bx + 1) 1 _ _ HX5.out; clear hlt
   go_wp2
   have h9 := set2 HX5.out (.string ⟨#[]⟩) (.slice (some ⟨g, 0, none⟩) m m); have z0 := cellAt (i := 0) (v := .string ⟨#[]⟩) h9 rfl; have z1 := cellAt (i := 1) (v := .slice (some ⟨g, 0, none⟩) m m) h9 rfl; have HLL := zH (HT.out.all HRL.out (zN _))
   have hgs : bx + 1 < g := by have := HS3.out; omega
   refine bodyPost_ret (v := .agg #[.string ⟨#[]⟩, .slice (some ⟨g, 0, none⟩) m m]) (by simp [results, Tryz.results64, go_sem, z0, z1]) rfl ⟨⟨_, rfl, ?_⟩, ?_⟩
   ·obtain ⟨vs, h1, h2, h3⟩ := HT.out
    have hk : ∀ j, j ≠ bx + 1 -> ((wo.setCell ⟨bx + 1, 0, none⟩ (.string ⟨#[]⟩)).setCell ⟨bx + 1, 1, none⟩ (.slice (some ⟨g, 0, none⟩) m m)).heap[j]? = wo.heap[j]? := fun j hj => (Below.heap_setCell _ _ _ _ (by simpa using hj)).trans (Below.heap_setCell _ _ _ _ (by simpa using hj))
    refine TabRows.all ⟨vs, h1, (hk g (by omega)).trans h2, fun i x hi hx => ?_⟩ HRL.out (zN _)
    obtain ⟨u, hu, hr⟩ := h3 i x hi hx; exact ⟨u, hu, RdF.frame hr fun j hj _ => hk j (by have hj : g < j := hj; omega)⟩
   ·rw [HBX.out]; exact ((HB3.out.trans (HB5.out.mono (by omega))).setCell (p := ⟨bx + 1, 0, none⟩) (by show bx <= bx + 1; omega) _).setCell (p := ⟨bx + 1, 1, none⟩) (by show bx <= bx + 1; omega) _
end Go.Proofs.YteibnfeokgibmaaGreat
