/-
  PACKED for a claim.
-/
import Derived.Test.YtichfdjjbafeiaaGreatJ28
set_option linter.unusedVariables false
set_option linter.unusedSimpArgs false
set_option maxRecDepth 100000
namespace Go.Proofs.YtichfdjjbafeiaaGreat
open Go.RowKit
def zME : ME := ⟨.slice none 0 0, .slice none 0 0, [], []⟩
theorem yni (n : Nat) : (madeCells (Value.agg #[.slice none 0 0, .slice none 0 0]).cells (n * 2)).toList = mcells (List.replicate n zME) := by
 apply List.ext_getElem?
 intro j
 by_cases hj : j < n * 2
 ·have hk : (List.replicate n zME)[j / 2]? = some zME := by rw [List.getElem?_replicate, if_pos (by omega)]
  obtain ⟨h1, h2⟩ := yci hk
  have hl : (madeCells (Value.agg #[.slice none 0 0, .slice none 0 0]).cells (n * 2)).toList[j]? = some (.slice none 0 0) := by
   rcases Nat.mod_two_eq_zero_or_one j with e | e <;> simp [madeCells, Value.cells, hj, e]
  rw [hl]
  rcases Nat.mod_two_eq_zero_or_one j with e | e
  ·rw [show j / 2 * 2 = j by omega] at h1
   rw [h1]; rfl
  ·rw [show j / 2 * 2 + 1 = j by omega] at h2
   rw [h2]; rfl
 ·rw [List.getElem?_eq_none (by simp [madeCells]; omega), List.getElem?_eq_none (by rw [yao, List.length_replicate]; omega)]
theorem yiw {D R : List ME} {z m : ME} {k : Nat} (hk : D.length = k) : ((mcells (D ++ z :: R)).set (k * 2) m.vs).set (k * 2 + 1) m.vl = mcells (D ++ [m] ++ R) := by
 subst hk; rw [yav, yav, yav, yep, List.append_assoc]; have hl := yao D; rw [<- hl, List.set_append_right _ _ (zN _), List.set_append_right _ _ (by omega)]
 simp [mcells]
theorem ywj {n k : Nat} (h : k < n) : List.replicate (n - k) zME = zME :: List.replicate (n - (k + 1)) zME := by
 rw [show n - k = (n - (k + 1)) + 1 by omega, List.replicate_succ]
def SV.intsF (N : Nat) (l : List Int) : SV := ⟨fun v w => RdI (fun k => N <= k) w v l, fun _ _ _ h hb => h.below hb (zN _)⟩
def SV.elsF (N : Nat) (l : List Nat) : SV := ⟨fun v w => RdE (fun k => N <= k) w v l, fun _ _ _ h hb => h.below hb (zN _)⟩
def SV.entF (N : Nat) (s : List Int) (l : List Nat) : SV := ⟨fun v w => ∃ a b, v = .agg #[a, b] /\ RdI (fun k => N <= k) w a s /\ RdE (fun k => N <= k) w b l, fun _ _ _ ⟨a, b, e, h1, h2⟩ hb => ⟨a, b, e, h1.below hb (zN _), h2.below hb (zN _)⟩⟩
structure ES (w : World) (B g n : Nat) (L : List PE) (k : Nat) (wr : World) : Prop where
 own : ∃ D, pls D = L.take k /\ wr.ownsRow B 45 2 (.slice (some ⟨g, 0, none⟩) n n) n (mcells (D ++ List.replicate (n - k) zME)) /\ ∀ m ∈ D, EntOk (fun j => j ≠ g) wr m
 bel : Below w.heap.size w wr
theorem EntOk.miss {w w' : World} {g : Nat} {m : ME} (h : EntOk (fun j => j ≠ g) w m) (hg : w.grownBy w' (some g)) : EntOk (fun j => j ≠ g) w' m := h.frame fun k hk hl => hg.block k hl (by intro e; injection e with e; exact hk e)
theorem ES.more {w : World} {B g n : Nat} {L : List PE} {k : Nat} {wr wr' : World} (h : ES w B g n L k wr) (hb : Below wr.heap.size wr wr') : ES w B g n L k wr' := by
 obtain ⟨⟨D, h1, h2, h3⟩, h4⟩ := h; exact ⟨⟨D, h1, R4.yai h2 hb (zN _), fun m hm => (h3 m hm).below hb (zN _)⟩, h4.trans (hb.mono h4.size)⟩
theorem ES.put {w : World} {B g n : Nat} {L : List PE} {k : Nat} {wr : World} {e : PE} {a b : Value} {N : Nat} (h : ES w B g n L k wr) (hn : L.length = n) (hk : L[k]? = some e) (ha : RdI (fun j => N <= j) wr a e.1) (hb : RdE (fun j => N <= j) wr b e.2) (hN : g < N) (hB : w.heap.size <= B) :
  ES w B g n L (k + 1) ((wr.setCell ⟨g, k * 2, none⟩ a).setCell ⟨g, k * 2 + 1, none⟩ b) := by
 obtain ⟨⟨D, h1, h2, h3⟩, h4⟩ := h
 have hkn : k < n := by rw [<- hn]; exact (List.getElem?_eq_some_iff.1 hk).1
 have hD : D.length = k := by rw [<- yap, h1, List.length_take]; omega
 obtain ⟨s1, g1⟩ := h2.stored (k * 2) a; obtain ⟨s2, g2⟩ := s1.stored (k * 2 + 1) b
 have hgB : B <= g := (World.ownsRow.lt h2 g rfl).1
 refine ⟨⟨D ++ [⟨a, b, e.1, e.2⟩], ?_, ?_, fun m hm => ?_⟩, (h4.setCell (by show _ <= g; omega) _).setCell (by show _ <= g; omega) _⟩
 ·rw [ybd, h1, List.take_add_one, hk]; rfl
 ·rw [ywj hkn] at s2; rw [<- yiw (m := ⟨a, b, e.1, e.2⟩) hD]; exact s2
 ·rcases List.mem_append.1 hm with hm | hm
  ·exact ((h3 m hm).miss g1).miss g2
  ·simp at hm
   subst hm; exact EntOk.miss (EntOk.miss ⟨RdF.mono ha fun j hj => by omega, RdF.mono hb fun j hj => by omega⟩ g1) g2
theorem ES.done {w : World} {B g n : Nat} {L : List PE} {wr : World} (h : ES w B g n L n wr) (hn : L.length = n) : RdT anyB wr (.slice (some ⟨g, 0, none⟩) n n) L := by
 obtain ⟨⟨D, h1, h2, h3⟩, -⟩ := h; rw [<- hn, List.take_length] at h1
 have hD : D.length = n := by rw [<- yap, h1, hn]
 rw [Nat.sub_self, List.replicate_zero, List.append_nil, <- hD] at h2; refine ⟨D, h1, ?_, fun m hm => (h3 m hm).mono fun _ _ => trivial⟩
 have := RdF.of_own (F := anyB) h2 (fun _ _ => trivial)
 rw [hD] at this |-; exact this
theorem ES.cells {w : World} {B g n : Nat} {L : List PE} {k : Nat} {wr : World} (h : ES w B g n L k wr) (hk : k < n) (hn : L.length = n) : (∃ u, wr.cell? ⟨g, k * 2, none⟩ = some u) /\ (∃ u, wr.cell? ⟨g, k * 2 + 1, none⟩ = some u) /\ (∀ j, wr.frozen? ⟨g, j, none⟩ = false) := by
 obtain ⟨⟨D, h1, h2, -⟩, -⟩ := h
 have hD : D.length = k := by rw [<- yap, h1, List.length_take]; omega
 have hl : (mcells (D ++ List.replicate (n - k) zME)).length = n * 2 := by rw [yao, List.length_append, List.length_replicate]; omega
 refine ⟨?_, ?_, fun j => h2.frozenAt j⟩
 iterate 2 (·rw [h2.cellAt _ (by omega), List.getElem?_eq_getElem (by omega)]; exact ⟨_, rfl⟩)
set_option maxHeartbeats 4000000 in
theorem yib {F : Nat -> Prop} {w : World} {p : Nat} {L : List PE} (h : TabAt F w p L) :
  Calls Tryz.prog 16 #[.pointer (some ⟨p, 0, none⟩)] w fun e w' => (∃ A c, e = .returned (.slice A L.length c) /\ RdT anyB w' (.slice A L.length c) L) /\ Below w.heap.size w w' := by
 obtain ⟨A1, c1, bo, b2, b3, d0, -, -, -, hrt, -, -, -⟩ := h.cells; have HE := zH hrt; have hlen := h.good.len; obtain ⟨n, hn⟩ : ∃ n, L.length = n := ⟨_, rfl⟩; have HN := zH hn; have HD := zH d0; have HGOOD := zH h.good; rw [hn] at d0 HE HD hlen |-
 have hnI : (n : Int) <= 500 := by omega
 obtain ⟨i0, hi0, hz0, hz1, hz2⟩ := info_parts ybo; have HI := zH hi0; have HZ0 := zH hz0; have HZ1 := zH hz1; have HZ2 := zH hz2; clear hrt h hn hi0 hz0 hz1 hz2
 go_enter Tryz.func16, Tryz.ntmps16
 go_wp2_with (refine wpList_make_full _ rfl (.tmp 10) (.tmp 10) 41 rfl w.heap.size 45 i0 _ 2 Tryz.underlying41 HI.out HZ0.out HZ1.out .i64 .i64 _ _ n rfl rfl rfl rfl (by rw [HZ2.out]; omega) (by simp only [maxLen]; omega) (zN _) ?_; intro w1 ho hg; have HS1 : Hid (ES w w.heap.size w.heap.size n L 0 w1) := ⟨⟨[], rfl, (by rw [List.nil_append, Nat.sub_zero, <- yni]; exact ho), fun m hm => by cases hm⟩, (zR _ w).grown hg (zN _) (by simp)⟩; have d1 := (HS1.out.bel.cell (p := ⟨p, 0, none⟩) (yah HD.out)).trans HD.out; clear ho hg d0)
 obtain ⟨g, hg⟩ : ∃ g, w.heap.size = g := ⟨_, rfl⟩; have HG := zH hg
 have HS2 : Hid (ES w g g n L 0 w1) := by rw [<- hg]; exact HS1.out
 rw [hg]; clear hg HS1 d1
 go_loopw [17] (fun i wr => ∃ k : Nat, k <= n /\ i = .int .i64 (k : Nat) /\ Hid (ES w g g n L k wr)) (fun i _ => n - (intOf i).toNat)
 case atStart => exact ⟨0, Nat.zero_le _, rfl, HS2.out⟩
 case round =>
  clear HS2; obtain ⟨k, hk, rfl, HS⟩ := hrel
  by_cases hlt : k < n
  ·obtain ⟨e, he⟩ : ∃ e, L[k]? = some e := ⟨_, List.getElem?_eq_getElem (by rw [HN.out]; exact hlt)⟩
   obtain ⟨g1, o1, vs, vl, rfl, c0, c1, hri, hre⟩ := (HE.out.below HS.out.bel (zN _)).at he; obtain ⟨A2, k2, rfl⟩ := hri.form; obtain ⟨A3, k3, rfl⟩ := hre.form; have HRI := zH hri; have HRE := zH hre; have HEE := zH he
   have hkI : (k : Int) < (n : Int) := by omega
   have hgw : g < wr.heap.size := by obtain ⟨D, _, h2, _⟩ := HS.out.own; exact (World.ownsRow.lt h2 g rfl).2
   have HGW := zH hgw; have HLS := zH (show e.1.length <= 1000000 /\ e.2.length <= 1000000 from ⟨by have := (HGOOD.out.seq e (List.mem_of_getElem? he)).2.1; omega, by have := (HGOOD.out.els e (List.mem_of_getElem? he)).1; omega⟩)
   clear hri hre he hlt hgw
   go_wp2
   have HSX := zH (HS.out.more (yaa wr (.cells #[.slice A2 e.1.length k2, .slice A3 e.2.length k3] 45))); have HRIX := zH (HRI.out.below (yaa wr (.cells #[.slice A2 e.1.length k2, .slice A3 e.2.length k3] 45)) (zN _)); have HREX := zH (HRE.out.below (yaa wr (.cells #[.slice A2 e.1.length k2, .slice A3 e.2.length k3] 45)) (zN _))
   have hx0 : (wr.alloc (.cells #[.slice A2 e.1.length k2, .slice A3 e.2.length k3] 45)).cell? ⟨wr.heap.size, 0, none⟩ = some (.slice A2 e.1.length k2) := by rw [cell_of_row _ _ 0 _ _ _ (heap_alloc_new wr _)]; rfl
   have hx1 : (wr.alloc (.cells #[.slice A2 e.1.length k2, .slice A3 e.2.length k3] 45)).cell? ⟨wr.heap.size, 1, none⟩ = some (.slice A3 e.2.length k3) := by rw [cell_of_row _ _ 1 _ _ _ (heap_alloc_new wr _)]; rfl
   have HX0 := zH hx0; have HX1 := zH hx1
   have HSZ : Hid ((wr.alloc (.cells #[.slice A2 e.1.length k2, .slice A3 e.2.length k3] 45)).heap.size = wr.heap.size + 1) := World.size_alloc _ _
   clear hx0 hx1 HS HRI HRE c0 c1; generalize (wr.alloc (.cells #[.slice A2 e.1.length k2, .slice A3 e.2.length k3] 45)) = wx at HSX HRIX HREX HX0 HX1 HSZ |-; obtain ⟨bx, hbx⟩ : ∃ bx, wr.heap.size = bx := ⟨_, rfl⟩; rw [hbx] at HX0 HX1 HSZ HGW |-; clear hbx; refine yam (m := 10) [22, 23, 24, 25, 26, 27, 28, 29, 30, 31] [SV.eq (.slice (some ⟨g, 0, none⟩) n n), SV.eq (.int .i64 (k : Int)), SV.eq (.pointer (some ⟨bx, 0, none⟩)), SV.eq (.slice A2 e.1.length k2), SV.intsF wx.heap.size e.1, SV.eq (.pointer (some ⟨bx, 1, none⟩)), SV.eq (.slice A3 e.2.length k3), SV.elsF wx.heap.size e.2, SV.entF wx.heap.size e.1 e.2, SV.eq (.pointer (some ⟨g, k * 2, none⟩))] (by kernel_rfl) (by kernel_rfl) ?_ ?_
   ·refine ⟨⟨⟨⟨⟨⟨⟨⟨⟨⟨trivial, ?_⟩, ?_⟩, ?_⟩, ?_⟩, ?_⟩, ?_⟩, ?_⟩, ?_⟩, ?_⟩, ?_⟩
    all_goals (refine OpIs.mk rfl ?_; intro vs w1 hb hd K hK; simp only [frameV, zS, zA, zB, zC, zD] at hK |-)
    iterate 3 (·have HK := zH hK; clear hK; go_simp; exact HK.out _ _ rfl (zR _ _))
    ·have d2 : vs 2 = .pointer (some ⟨bx, 0, none⟩) := hd 2 (by kernel_rfl)
     have c0 := yab hb HX0.out; simp only [d2] at hK |-; have HK := zH hK; clear hK; go_simp; exact HK.out _ _ rfl (zR _ _)
    ·have d3 : vs 3 = .slice A2 e.1.length k2 := hd 3 (by kernel_rfl)
     simp only [d3] at hK |-; have HK := zH hK; clear hK; go_simp
     go_at_call 34
     refine (yfo (HRIX.out.below hb (zN _)) HLS.out.1).mono ?_; rintro r w3 ⟨⟨v', rfl, ho⟩, hb3⟩; exact HK.out _ _ (ybt ho fun j hj => Nat.le_trans hb.size hj) hb3
    ·have HK := zH hK; clear hK; go_simp; exact HK.out _ _ rfl (zR _ _)
    ·have d5 : vs 5 = .pointer (some ⟨bx, 1, none⟩) := hd 5 (by kernel_rfl)
     have c0 := yab hb HX1.out; simp only [d5] at hK |-; have HK := zH hK; clear hK; go_simp; exact HK.out _ _ rfl (zR _ _)
    ·have d6 : vs 6 = .slice A3 e.2.length k3 := hd 6 (by kernel_rfl)
     simp only [d6] at hK |-; have HK := zH hK; clear hK; go_simp
     go_at_call 35
     refine (ydx (HREX.out.below hb (zN _)) HLS.out.2).mono ?_; rintro r w3 ⟨⟨v', rfl, ho⟩, hb3⟩; exact HK.out _ _ (ho.rd fun j hj => Nat.le_trans hb.size hj) hb3
    ·have d4 : RdI (fun j => wx.heap.size <= j) w1 (vs 4) e.1 := hd 4 (by kernel_rfl)
     have d7 : RdE (fun j => wx.heap.size <= j) w1 (vs 7) e.2 := hd 7 (by kernel_rfl)
     obtain ⟨Aa, ka, e4⟩ := RdI.form d4; obtain ⟨Ab, kb, e7⟩ := RdE.form d7; simp only [e4, e7] at hK |-; have HK := zH hK; clear hK; go_simp; exact HK.out _ _ ⟨_, _, rfl, e4 ▸ d4, e7 ▸ d7⟩ (zR _ _)
    ·have d0 : vs 0 = .slice (some ⟨g, 0, none⟩) n n := hd 0 (by kernel_rfl)
     have d1 : vs 1 = .int .i64 (k : Int) := hd 1 (by kernel_rfl)
     simp only [d0, d1] at hK |-; have HK := zH hK; clear hK; go_simp; exact HK.out _ _ rfl (zR _ _)
   ·intro vs w3 hb hd; obtain ⟨va, vb, d8, ha, hb8⟩ : ∃ a b, vs 8 = .agg #[a, b] /\ RdI (fun j => wx.heap.size <= j) w3 a e.1 /\ RdE (fun j => wx.heap.size <= j) w3 b e.2 := hd 8 (by omega)
    have d9 : vs 9 = .pointer (some ⟨g, k * 2, none⟩) := hd 9 (by omega)
    have HS3 := zH (HSX.out.more hb); obtain ⟨⟨u0, f0⟩, ⟨u1, f1⟩, ff⟩ := HS3.out.cells (by omega) HN.out
    have ff0 := ff (k * 2); have ff1 := ff (k * 2 + 1); have HS4 := zH (HS3.out.put HN.out HEE.out ha hb8 (by have := HSZ.out; have := HGW.out; omega) (Nat.le_of_eq HG.out))
    obtain ⟨Aa, ka, rfl⟩ := ha.form; obtain ⟨Ab, kb, rfl⟩ := hb8.form; simp only [frameV, zS, zA, zB, List.drop_succ_cons, List.drop_zero, d8, d9]; clear ha hb8 hb hd ff
    go_wp2
    go_roundw
    case rel => exact ⟨k + 1, by omega, by go_num, HS4.out⟩
    case measure => simp [intOf]; omega
  ·obtain rfl : k = n := by omega
   clear hlt
   go_wp2
   go_ret
   exact ⟨⟨_, _, rfl, HS.out.done HN.out⟩, HS.out.bel⟩
set_option maxHeartbeats 8000000 in
theorem yed {F : Nat -> Prop} {w : World} {p : Nat} {L : List PE} {u : Value} (h : TabAt F w p L) (hr : RefT w u L) :
  Calls Tryz.prog 20 #[.pointer (some ⟨p, 0, none⟩), .agg #[u]] w fun e w' => e = .returned (.bool true) /\ Below w.heap.size w w' := by
 obtain ⟨Au, cu, rfl⟩ := hr.form; have hlen := h.good.len; have HGOOD := zH h.good; have HT := zH (h.below (yaa w (.cells #[.slice Au L.length cu] 52)) (zN _)); have HR := zH (hr.below (yaa w (.cells #[.slice Au L.length cu] 52)) (zN _))
 have hx0 : (w.alloc (.cells #[.slice Au L.length cu] 52)).cell? ⟨w.heap.size, 0, none⟩ = some (.slice Au L.length cu) := by rw [cell_of_row _ _ 0 _ _ _ (heap_alloc_new w _)]; rfl
 have HX := zH hx0; have HB0 := zH (yaa w (.cells #[.slice Au L.length cu] 52)); obtain ⟨n, hn⟩ : ∃ n, L.length = n := ⟨_, rfl⟩; have HN := zH hn; rw [hn] at HT HR HX HB0 hlen |-
 have hnI : (n : Int) <= 500 := by omega
 clear h hr hx0 hn
 go_enter Tryz.func20, Tryz.ntmps20
 go_wp2_with (go_at_call 16; refine (yib HT.out).mono ?_; rintro r w2 ⟨⟨A, c, rfl, hrd⟩, hb⟩; rw [HN.out] at hrd |-; have HE := zH hrd; have HR2 := zH (HR.out.below hb (zN _)); have c0 := yab hb HX.out; have HX2 := zH c0; have HB2 := zH (HB0.out.trans (hb.mono HB0.out.size)); clear hrd hb HR HX HB0 HT)
 clear c0; obtain ⟨b3, hb3⟩ : ∃ b, w.heap.size = b := ⟨_, rfl⟩; rw [hb3] at HX2; rw [show (({ block := w.heap.size, off := 0 } : Addr)) = ⟨b3, 0, none⟩ by rw [hb3]]
 clear hb3
 go_loopw [6] (fun i wr => ∃ k : Nat, k <= n /\ i = .int .i64 (k : Nat) /\ Hid (Below w2.heap.size w2 wr)) (fun i _ => n - (intOf i).toNat)
 case atStart => exact ⟨0, Nat.zero_le _, rfl, zR _ _⟩
 case round =>
  obtain ⟨k, hk, rfl, HB⟩ := hrel
  by_cases hlt : k < n
  ·obtain ⟨e, he⟩ : ∃ e, L[k]? = some e := ⟨_, List.getElem?_eq_getElem (by rw [HN.out]; exact hlt)⟩
   obtain ⟨g1, o1, vs, vl, rfl, c0, c1, hri, hre⟩ := (HE.out.below HB.out (zN _)).at he; obtain ⟨g2, o2, us, ul, rfl, e0, e1, hqi, hqe⟩ := (HR2.out.below HB.out (zN _)).at he; obtain ⟨A2, k2, rfl⟩ := hri.form; obtain ⟨A3, k3, rfl⟩ := hre.form; obtain ⟨A4, k4, rfl⟩ := hqi.form; obtain ⟨A5, k5, rfl⟩ := hqe.form; have HRI := zH hri; have HRE := zH hre; have HQI := zH hqi; have HQE := zH hqe; have HC0 := zH c0; have HC1 := zH c1; have HE0 := zH e0; have HE1 := zH e1; have cx := (HB.out.cell (p := ⟨b3, 0, none⟩) (yah HX2.out)).trans HX2.out; have HCX := zH cx
   have hkI : (k : Int) < (n : Int) := by omega
   have HLS : Hid (e.1.length <= 10000000 /\ e.2.length <= 10000000 /\ ∀ x ∈ e.2, x < 4294967296) := ⟨by have := (HGOOD.out.seq e (List.mem_of_getElem? he)).2.1; omega, by have := (HGOOD.out.els e (List.mem_of_getElem? he)).1; omega, (HGOOD.out.els e (List.mem_of_getElem? he)).2⟩
   clear hri hre hqi hqe he hlt c0 c1 e0 e1 cx
   go_wp2
   refine yam (m := 27) [23, 24, 25, 26, 27, 28, 29, 30, 31, 32, 33, 34, 35, 36, 37, 38, 39, 40, 41, 42, 43, 44, 45, 46, 47, 48, 49] [SV.eq (.slice (some ⟨g1, o1, none⟩) n c), SV.eq (.int .i64 (k : Int)), SV.eq (.pointer (some ⟨g1, o1 + k * 2, none⟩)), SV.eq (.pointer (some ⟨g1, o1 + k * 2, none⟩)), SV.eq (.slice A2 e.1.length k2), SV.eq (.pointer (some ⟨b3, 0, none⟩)), SV.eq (.slice (some ⟨g2, o2, none⟩) n cu), SV.eq (.int .i64 (k : Int)), SV.eq (.pointer (some ⟨g2, o2 + k * 2, none⟩)), SV.eq (.pointer (some ⟨g2, o2 + k * 2, none⟩)), SV.eq (.slice A4 e.1.length k4), SV.eq (.bool true), SV.eq (.bool false), SV.eq (.bool false), SV.eq (.slice (some ⟨g1, o1, none⟩) n c), SV.eq (.int .i64 (k : Int)), SV.eq (.pointer (some ⟨g1, o1 + k * 2, none⟩)), SV.eq (.pointer (some ⟨g1, o1 + k * 2 + 1, none⟩)), SV.eq (.slice A3 e.2.length k3), SV.eq (.pointer (some ⟨b3, 0, none⟩)), SV.eq (.slice (some ⟨g2, o2, none⟩) n cu), SV.eq (.int .i64 (k : Int)), SV.eq (.pointer (some ⟨g2, o2 + k * 2, none⟩)), SV.eq (.pointer (some ⟨g2, o2 + k * 2 + 1, none⟩)), SV.eq (.slice A5 e.2.length k5), SV.eq (.bool true), SV.eq (.bool false)] (by kernel_rfl) (by kernel_rfl) ?_ ?_
   ·refine ⟨⟨⟨⟨⟨⟨⟨⟨⟨⟨⟨⟨⟨⟨⟨⟨⟨⟨⟨⟨⟨⟨⟨⟨⟨⟨⟨trivial, ?_⟩, ?_⟩, ?_⟩, ?_⟩, ?_⟩, ?_⟩, ?_⟩, ?_⟩, ?_⟩, ?_⟩, ?_⟩, ?_⟩, ?_⟩, ?_⟩, ?_⟩, ?_⟩, ?_⟩, ?_⟩, ?_⟩, ?_⟩, ?_⟩, ?_⟩, ?_⟩, ?_⟩, ?_⟩, ?_⟩, ?_⟩
    all_goals (refine OpIs.mk rfl ?_; intro vs w1 hb hd K hK; simp only [frameV, zS, zA, zB, zC, zD] at hK |-)
    iterate 2 (·have HK := zH hK; clear hK; go_simp; exact HK.out _ _ rfl (zR _ _))
    ·have d0 : vs 0 = .slice (some ⟨g1, o1, none⟩) n c := hd 0 (by kernel_rfl)
     have d1 : vs 1 = .int .i64 (k : Int) := hd 1 (by kernel_rfl)
     simp only [d0, d1] at hK |-; have HK := zH hK; clear hK; go_simp; exact HK.out _ _ rfl (zR _ _)
    ·have d2 : vs 2 = .pointer (some ⟨g1, o1 + k * 2, none⟩) := hd 2 (by kernel_rfl)
     simp only [d2] at hK |-; have HK := zH hK; clear hK; go_simp; exact HK.out _ _ rfl (zR _ _)
    ·have d3 : vs 3 = .pointer (some ⟨g1, o1 + k * 2, none⟩) := hd 3 (by kernel_rfl)
     have c0 := yab hb HC0.out; simp only [d3] at hK |-; have HK := zH hK; clear hK; go_simp; exact HK.out _ _ rfl (zR _ _)
    ·have HK := zH hK; clear hK; go_simp; exact HK.out _ _ rfl (zR _ _)
    ·have d5 : vs 5 = .pointer (some ⟨b3, 0, none⟩) := hd 5 (by kernel_rfl)
     have c0 := yab hb HCX.out; simp only [d5] at hK |-; have HK := zH hK; clear hK; go_simp; exact HK.out _ _ rfl (zR _ _)
    ·have HK := zH hK; clear hK; go_simp; exact HK.out _ _ rfl (zR _ _)
    ·have d6 : vs 6 = .slice (some ⟨g2, o2, none⟩) n cu := hd 6 (by kernel_rfl)
     have d7 : vs 7 = .int .i64 (k : Int) := hd 7 (by kernel_rfl)
     simp only [d6, d7] at hK |-; have HK := zH hK; clear hK; go_simp; exact HK.out _ _ rfl (zR _ _)
    ·have d8 : vs 8 = .pointer (some ⟨g2, o2 + k * 2, none⟩) := hd 8 (by kernel_rfl)
     simp only [d8] at hK |-; have HK := zH hK; clear hK; go_simp; exact HK.out _ _ rfl (zR _ _)
    ·have d9 : vs 9 = .pointer (some ⟨g2, o2 + k * 2, none⟩) := hd 9 (by kernel_rfl)
     have c0 := yab hb HE0.out; simp only [d9] at hK |-; have HK := zH hK; clear hK; go_simp; exact HK.out _ _ rfl (zR _ _)
    ·have d4 : vs 4 = .slice A2 e.1.length k2 := hd 4 (by kernel_rfl)
     have d10 : vs 10 = .slice A4 e.1.length k4 := hd 10 (by kernel_rfl)
     simp only [d4, d10] at hK |-; have HK := zH hK; clear hK; go_simp
     go_at_call 46
     refine (ydp (r := true) (HRI.out.below hb (zN _)) (HQI.out.below hb (zN _)) HLS.out.1 (by simp)).mono ?_
     rintro r w3 ⟨rfl, hb3⟩; exact HK.out _ _ rfl hb3
    ·have d11 : vs 11 = .bool true := hd 11 (by kernel_rfl)
     simp only [d11] at hK |-; have HK := zH hK; clear hK; go_simp; exact HK.out _ _ rfl (zR _ _)
    ·have d12 : vs 12 = .bool false := hd 12 (by kernel_rfl)
     simp only [d12] at hK |-; have HK := zH hK; clear hK; go_simp; exact HK.out _ _ rfl (zR _ _)
    ·have d13 : vs 13 = .bool false := hd 13 (by kernel_rfl)
     simp only [d13] at hK |-; have HK := zH hK; clear hK; go_simp; exact HK.out _ _ rfl (zR _ _)
    ·have d13 : vs 13 = .bool false := hd 13 (by kernel_rfl)
     simp only [d13] at hK |-; have HK := zH hK; clear hK; go_simp; exact HK.out _ _ rfl (zR _ _)
    ·have d14 : vs 14 = .slice (some ⟨g1, o1, none⟩) n c := hd 14 (by kernel_rfl)
     have d15 : vs 15 = .int .i64 (k : Int) := hd 15 (by kernel_rfl)
     have d13 : vs 13 = .bool false := hd 13 (by kernel_rfl)
     simp only [d14, d15, d13] at hK |-; have HK := zH hK; clear hK; go_simp; exact HK.out _ _ rfl (zR _ _)
    ·have d16 : vs 16 = .pointer (some ⟨g1, o1 + k * 2, none⟩) := hd 16 (by kernel_rfl)
     have d13 : vs 13 = .bool false := hd 13 (by kernel_rfl)
     simp only [d16, d13] at hK |-; have HK := zH hK; clear hK; go_simp; exact HK.out _ _ rfl (zR _ _)
    ·have d17 : vs 17 = .pointer (some ⟨g1, o1 + k * 2 + 1, none⟩) := hd 17 (by kernel_rfl)
     have d13 : vs 13 = .bool false := hd 13 (by kernel_rfl)
     have c0 := yab hb HC1.out; simp only [d17, d13] at hK |-; have HK := zH hK; clear hK; go_simp; exact HK.out _ _ rfl (zR _ _)
    ·have d13 : vs 13 = .bool false := hd 13 (by kernel_rfl)
     simp only [d13] at hK |-; have HK := zH hK; clear hK; go_simp; exact HK.out _ _ rfl (zR _ _)
    ·have d19 : vs 19 = .pointer (some ⟨b3, 0, none⟩) := hd 19 (by kernel_rfl)
     have d13 : vs 13 = .bool false := hd 13 (by kernel_rfl)
     have c0 := yab hb HCX.out; simp only [d19, d13] at hK |-; have HK := zH hK; clear hK; go_simp; exact HK.out _ _ rfl (zR _ _)
    ·have d13 : vs 13 = .bool false := hd 13 (by kernel_rfl)
     simp only [d13] at hK |-; have HK := zH hK; clear hK; go_simp; exact HK.out _ _ rfl (zR _ _)
    ·have d20 : vs 20 = .slice (some ⟨g2, o2, none⟩) n cu := hd 20 (by kernel_rfl)
     have d21 : vs 21 = .int .i64 (k : Int) := hd 21 (by kernel_rfl)
     have d13 : vs 13 = .bool false := hd 13 (by kernel_rfl)
     simp only [d20, d21, d13] at hK |-; have HK := zH hK; clear hK; go_simp; exact HK.out _ _ rfl (zR _ _)
    ·have d22 : vs 22 = .pointer (some ⟨g2, o2 + k * 2, none⟩) := hd 22 (by kernel_rfl)
     have d13 : vs 13 = .bool false := hd 13 (by kernel_rfl)
     simp only [d22, d13] at hK |-; have HK := zH hK; clear hK; go_simp; exact HK.out _ _ rfl (zR _ _)
    ·have d23 : vs 23 = .pointer (some ⟨g2, o2 + k * 2 + 1, none⟩) := hd 23 (by kernel_rfl)
     have d13 : vs 13 = .bool false := hd 13 (by kernel_rfl)
     have c0 := yab hb HE1.out; simp only [d23, d13] at hK |-; have HK := zH hK; clear hK; go_simp; exact HK.out _ _ rfl (zR _ _)
    ·have d18 : vs 18 = .slice A3 e.2.length k3 := hd 18 (by kernel_rfl)
     have d24 : vs 24 = .slice A5 e.2.length k5 := hd 24 (by kernel_rfl)
     have d13 : vs 13 = .bool false := hd 13 (by kernel_rfl)
     simp only [d18, d24, d13] at hK |-; have HK := zH hK; clear hK; go_simp
     go_at_call 47
     refine (yjs (b := true) (HRE.out.below hb (zN _)) (HQE.out.below hb (zN _)) HLS.out.2.1 HLS.out.2.1 HLS.out.2.2 (by simp)).mono ?_
     rintro r w3 ⟨rfl, hb3⟩; exact HK.out _ _ rfl hb3
    ·have d25 : vs 25 = .bool true := hd 25 (by kernel_rfl)
     have d13 : vs 13 = .bool false := hd 13 (by kernel_rfl)
     simp only [d25, d13] at hK |-; have HK := zH hK; clear hK; go_simp; exact HK.out _ _ rfl (zR _ _)
   ·intro vs w3 hb hd
    have d13 : vs 13 = .bool false := hd 13 (by omega)
    have d26 : vs 26 = .bool false := hd 26 (by omega)
    have HB3 := zH (HB.out.trans (hb.mono HB.out.size)); simp only [frameV, zS, zA, zB, List.drop_succ_cons, List.drop_zero, d13, d26]; clear hb hd
    go_wp2
    go_roundw
    case rel => exact ⟨k + 1, by omega, by go_num, HB3.out⟩
    case measure => simp [intOf]; omega
  ·obtain rfl : k = n := by omega
   clear hlt
   go_wp2
   go_ret
   exact ⟨rfl, HB2.out.trans (HB.out.mono HB2.out.size)⟩
end Go.Proofs.YtichfdjjbafeiaaGreat
