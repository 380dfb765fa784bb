/-
  PACKED for a claim.
-/
import Derived.Deep.Slices
import Derived.WalkSpells
import Derived.Lib.SliceRun
import Derived.Test.YteibnfeokgibmaaGreatP19
set_option linter.unusedVariables false
set_option linter.unusedSimpArgs false
set_option maxRecDepth 100000
namespace Go.Proofs.YteibnfeokgibmaaGreat.R4
open Go.RowKit
theorem ywr {w w' : World} {B bt : Nat} {vi vb : Value} {bs : List (List Int)} (ht : w.heap[bt]? = some (.cells #[vi, vb] 252 (0, 0))) (hk : OwnK B w vb bs) (hg : w.grownBy w' vb.ownBlock) : w'.cell? ⟨bt, 1, none⟩ = some vb /\ w'.frozen? ⟨bt, 1, none⟩ = false :=
 have ht := (hg.block _ (yad ht) (yao hk ht (by decide))).trans ht
 ⟨cell_of_row w' bt 1 _ _ _ ht, frozen_of_row w' bt 1 _ _ ht⟩
theorem ytw (w : World) (cs : List Value) (t : TypeId) : (w.alloc (.cells cs.toArray t)).rangeAt w.heap.size 0 cs := fun j u hu => by
 have := yax w cs t j u hu
 rw [Addr.add_lit, Nat.zero_add] at this; rw [Nat.zero_add]; exact this
theorem yer {w w' : World} {b o : Nat} {cs : List Value} {row : Option Nat} (h : w.rangeAt b o cs) (hg : w.grownBy w' row) (hne : some b ≠ row) : w'.rangeAt b o cs := fun j u hu => hg.cell (h j u hu) hne
set_option maxHeartbeats 1000000 in
theorem lay_new {B : Nat} {w : World} {bp bt bm : Nat} {vi vb : Value} {ix : List Nat} {bs : List (List Int)} (h : BldAt B w bp bt bm vi vb ix bs) {x : List Int} (hx : GoodR x) (hm : x ∉ bs) (n : Nat) (hn : 0 < n) (hl : ix.length + n <= 20000) (hbl : bs.length <= 20000) :
  Calls Tryz.prog 166 #[.pointer (some ⟨bp, 0, none⟩), bval x, .int .i64 (n : Nat)] w fun e w' => e = .returned (.tuple #[]) /\ (∃ vi' vb', BldAt B w' bp bt bm vi' vb' (ix ++ List.replicate n bs.length) (bs ++ [x])) /\ Below B w w' := by
 have hBs : B <= w.heap.size := Nat.le_of_lt (Nat.lt_of_le_of_lt h.hbp (yad h.hp))
 obtain ⟨k, hk⟩ : ∃ k, bs.length = k := ⟨_, rfl⟩; obtain ⟨bs6, hbs6⟩ : ∃ bs6, bs6 = bs ++ [x] := ⟨_, rfl⟩; obtain ⟨cs, hcs⟩ : ∃ cs, cs = cellsB x := ⟨_, rfl⟩
 have hcl : cs.length = 64 := by rw [hcs, ybh]; exact hx.1
 obtain ⟨wa, hwa⟩ : ∃ wa, w.alloc (.cells cs.toArray 225) = wa := ⟨_, rfl⟩
 have gwa : w.grownBy wa none := by rw [<- hwa]; exact World.grownBy_alloc _ _ _
 have hra : wa.rangeAt w.heap.size 0 cs := by rw [<- hwa]; exact ytw w cs _
 have hba : BldAt B wa bp bt bm vi vb ix bs := h.kept gwa
 have hb0 : BldAt B wa.drew bp bt bm vi vb ix bs := hba.kept (ybb _)
 have hb1 : BldAt B wa.drew.drew bp bt bm vi vb ix bs := hb0.kept (ybb _)
 have hlook : (Instr.lookup 226 (.map (some bm)) (.agg cs.toArray) true).run Tryz.prog wa.drew = .ok (.tuple #[.int .u16 0, .bool false]) wa.drew := by
  have := hb0.hm.look_new hx hm
  rw [hcs]; exact this
 obtain ⟨w3, hst, hF3, hg3⟩ := hb1.hm.store hx hm (by omega)
 rw [hk, show bval x = .agg cs.toArray by rw [hcs]; rfl] at hst
 have hbm_ne : bp ≠ bm := by
  obtain ⟨es, c, hmm⟩ := hb1.hm.isMap; exact ygg hb1.hp hmm (by intro e; cases e)
 have hbt_ne : bt ≠ bm := by
  obtain ⟨es, c, hmm⟩ := hb1.hm.isMap; exact ygg hb1.ht hmm (by intro e; cases e)
 have hp3 := (hg3.block _ (yad hb1.hp) (by simp; exact hbm_ne)).trans hb1.hp
 have ht3 := (hg3.block _ (yad hb1.ht) (by simp; exact hbt_ne)).trans hb1.ht
 have hk3 : OwnK B w3 vb bs := World.ownsRow.kept hb1.hk hg3 (by
  obtain ⟨es, c, hmm⟩ := hb1.hm.isMap
  cases q : vb.ownBlock with
  | none => exact .inl rfl
  | some g => exact .inr (q ▸ (ybf hb1.hk hmm).symm))
 have hwm : w.heap.size ≠ bm := Nat.ne_of_gt h.hm.lt
 have hr3 : w3.rangeAt w.heap.size 0 cs := yer (w := wa.drew.drew) hra hg3 (by simp; exact hwm)
 obtain ⟨A0, C0', e0, -, -⟩ := yai h.hk; have hsl := yhn cs hcl
 have hin : (Tryz.prog.info? 225).map (·.size) = some cs.length := by rw [hcl]; exact infoBlk
 have hu : Tryz.prog.underlying 225 = some (.array 64 21) := underBlk
 have HC0 := zH (show wa.drew.cell? ⟨bp, 1, none⟩ = some (.map (some bm)) from cell_of_row _ bp 1 _ _ _ hb0.hp)
 have HC1 := zH (show wa.drew.drew.cell? ⟨bp, 1, none⟩ = some (.map (some bm)) from cell_of_row _ bp 1 _ _ _ hb1.hp)
 have HC3 := zH (show w3.cell? ⟨bp, 1, none⟩ = some (.map (some bm)) from cell_of_row _ bp 1 _ _ _ hp3)
 have HD3 := zH (show w3.drew.cell? ⟨bp, 0, none⟩ = some (.pointer (some ⟨bt, 0, none⟩)) from cell_of_row w3 bp 0 _ _ _ hp3)
 have HE3 := zH (show w3.drew.cell? ⟨bt, 1, none⟩ = some vb from cell_of_row w3 bt 1 _ _ _ ht3)
 have HR0 := zH (show wa.drew.rangeAt w.heap.size 0 cs from hra)
 have HR1 := zH (show wa.drew.drew.rangeAt w.heap.size 0 cs from hra)
 have HR3 := zH hr3; have HK3 := zH hk3; have HT3 := zH ht3; have HP3 := zH hp3; have HF3 := zH hF3; have HG3 := zH hg3; have HL := zH hlook; have HST := zH hst; have HB1 := zH hb1; have HWA := zH hwa
 have HWB : Hid (Below B w wa.drew.drew) := by show Below _ _ _; rw [<- hwa]; exact ((zR _ _).alloc hBs _).drew.drew
 have HK := zH hk
 have c4 : wa.cell? ⟨bp, 0, none⟩ = some (.pointer (some ⟨bt, 0, none⟩)) := cell_of_row _ bp 0 _ _ _ hb0.hp
 have c5 : wa.cell? ⟨bt, 1, none⟩ = some (.slice A0 k C0') := by rw [<- hk, <- e0]; exact cell_of_row _ bt 1 _ _ _ hb0.ht
 have hn1 : ((n : Int) == 0) = false := by rw [beq_eq_false_iff_ne]; omega
 have hn2 : (n : Int) <= 20000 := by omega
 have hk2 : (k : Int) <= 20000 := by omega
 have hbv : bval x = .agg cs.toArray := by rw [hcs]; rfl
 have HX := zH hx.1; have HCS := zH hcs; have HB6E := zH hbs6; have HBP := zH hb1.hbp; have HBT := zH hb1.hbt; have HBPT := zH hb1.bp_ne; have HE0 := zH e0
 have HVB : Hid (some w.heap.size ≠ vb.ownBlock) := fun e => Nat.lt_irrefl _ (own_lt h.hk _ e.symm).2
 have HBL : Hid (bs.length + 1 <= 10000000) := by show _ <= _; omega
 rw [hbv, hk, <- hbs6]; clear hlook hb0 hb1 hba hk hx hm hcs hbv hst hF3 hg3 hp3 ht3 hk3 hr3 e0 hra gwa hwa h hbs6 hbm_ne hbt_ne hwm
 go_enter Tryz.func166, Tryz.ntmps166
 go_wp2
 rw [HWA.out]
 go_region_held3 (fun w' => w'.cell? ⟨bp, 1, none⟩ = some (.map (some bm)) /\ w'.rangeAt w.heap.size 0 cs /\ (Instr.lookup 226 (.map (some bm)) (.agg cs.toArray) true).run Tryz.prog w' = .ok (.tuple #[.int .u16 0, .bool false]) w')
  (first | exact ⟨HC0.out, HR0.out, HL.out⟩ | assumption)
  (fail)
 go_wp2
 clear c4 c5; have hst := HST.out
 go_region_held3 (fun w' => w'.cell? ⟨bp, 1, none⟩ = some (.map (some bm)) /\ w'.rangeAt w.heap.size 0 cs)
  (first | exact ⟨HC1.out, HR1.out⟩ | exact ⟨HC3.out, HR3.out⟩ | assumption)
  (fail)
 clear hst
 go_wp2
 have hE0 := HE0.out; obtain ⟨T, hT0⟩ : ∃ T : World -> Prop, T = fun w' => w'.cell? ⟨bp, 0, none⟩ = some (.pointer (some ⟨bt, 0, none⟩)) /\ w'.cell? ⟨bt, 1, none⟩ = some (.slice A0 k C0') /\ w'.rangeAt w.heap.size 0 cs := ⟨_, rfl⟩
 have TS : Hid (T w3.drew) := by rw [hT0]; exact ⟨HD3.out, by rw [HE3.out, hE0, HK.out], HR3.out⟩
 have gal := World.grownBy_alloc w3 (.cells cs.toArray 225) none
 have TS2 : Hid (T (w3.alloc (.cells cs.toArray 225)).drew) := by
  rw [hT0]
  exact ⟨cell_of_row (w3.alloc (.cells cs.toArray 225)) bp 0 _ _ _ ((gal.block _ (yad HP3.out) (by simp)).trans HP3.out), by
   rw [show (w3.alloc (.cells cs.toArray 225)).drew.cell? ⟨bt, 1, none⟩ = _ from cell_of_row (w3.alloc (.cells cs.toArray 225)) bt 1 _ _ _ ((gal.block _ (yad HT3.out) (by simp)).trans HT3.out), <- HK.out, <- hE0]; rfl, yer HR3.out (gal.trans (ybb _)) (by simp)⟩
 have hT := zH hT0
 have HTR : Hid (∀ w', T w' -> w'.rangeAt w.heap.size 0 cs) := fun w' h => by rw [hT0] at h; exact h.2.2
 clear hT0 gal hE0; refine ydh (m := 14) (S := T) (by kernel_rfl) ?_
 refine yaf (i := 0) (d := 36) (v := ?_) rfl (by kernel_rfl) (by kernel_rfl) (by omega) (by kernel_rfl) (by kernel_rfl) (fun _ _ _ h => h) (Or.inl ⟨by rfl, ?_⟩) TS.out ?_
 rotate_left
 ·intro w' hSw; rw [hT.out] at hSw; obtain ⟨s1, s2, -⟩ := hSw; go_simp <;> with_reducible rfl
 simp only [zS, zA, zB]; refine yaf (i := 1) (d := 37) (v := ?_) rfl (by kernel_rfl) (by kernel_rfl) (by omega) (by kernel_rfl) (by kernel_rfl) (fun _ _ _ h => h) (Or.inl ⟨by rfl, ?_⟩) TS.out ?_
 rotate_left
 ·intro w' hSw; rw [hT.out] at hSw; obtain ⟨s1, s2, -⟩ := hSw; go_simp <;> with_reducible rfl
 simp only [zS, zA, zB]; refine yaf (i := 2) (d := 38) (v := ?_) rfl (by kernel_rfl) (by kernel_rfl) (by omega) (by kernel_rfl) (by kernel_rfl) (fun _ _ _ h => h) (Or.inl ⟨by rfl, ?_⟩) TS.out ?_
 rotate_left
 ·intro w' hSw; rw [hT.out] at hSw; obtain ⟨s1, s2, -⟩ := hSw; go_simp <;> with_reducible rfl
 simp only [zS, zA, zB]; refine yaf (i := 3) (d := 39) (v := ?_) rfl (by kernel_rfl) (by kernel_rfl) (by omega) (by kernel_rfl) (by kernel_rfl) (fun _ _ _ h => h) (Or.inl ⟨by rfl, ?_⟩) TS.out ?_
 rotate_left
 ·intro w' hSw; rw [hT.out] at hSw; obtain ⟨s1, s2, -⟩ := hSw; go_simp <;> with_reducible rfl
 simp only [zS, zA, zB]; refine yaf (i := 4) (d := 40) (v := ?_) rfl (by kernel_rfl) (by kernel_rfl) (by omega) (by kernel_rfl) (by kernel_rfl) (fun _ _ _ h => h) (Or.inl ⟨by rfl, ?_⟩) TS.out ?_
 rotate_left
 ·intro w' hSw; rw [hT.out] at hSw; obtain ⟨s1, s2, -⟩ := hSw; go_simp <;> with_reducible rfl
 simp only [zS, zA, zB]; refine yaf (i := 5) (d := 41) (v := ?_) rfl (by kernel_rfl) (by kernel_rfl) (by omega) (by kernel_rfl) (by kernel_rfl) (fun _ _ _ h => h) (Or.inl ⟨by rfl, ?_⟩) TS.out ?_
 rotate_left
 ·intro w' hSw; rw [hT.out] at hSw; obtain ⟨s1, s2, -⟩ := hSw; go_simp <;> with_reducible rfl
 simp only [zS, zA, zB]; refine yaf (i := 6) (d := 42) (v := ?_) rfl (by kernel_rfl) (by kernel_rfl) (by omega) (by kernel_rfl) (by kernel_rfl) (fun _ _ _ h => h) (Or.inl ⟨by rfl, ?_⟩) TS.out ?_
 rotate_left
 ·intro w' hSw; rw [hT.out] at hSw; obtain ⟨s1, s2, -⟩ := hSw; go_simp <;> with_reducible rfl
 simp only [zS, zA, zB]; refine yaf (i := 7) (d := 43) (v := ?_) rfl (by kernel_rfl) (by kernel_rfl) (by omega) (by kernel_rfl) (by kernel_rfl) (fun _ _ _ h => h) (Or.inl ⟨by rfl, ?_⟩) TS.out ?_
 rotate_left
 ·intro w' hSw; rw [hT.out] at hSw; obtain ⟨s1, s2, -⟩ := hSw; go_simp <;> with_reducible rfl
 simp only [zS, zA, zB]; refine yaf (i := 8) (d := 44) (v := ?_) rfl (by kernel_rfl) (by kernel_rfl) (by omega) (by kernel_rfl) (by kernel_rfl) (fun _ _ _ h => h) (Or.inl ⟨by rfl, ?_⟩) TS.out ?_
 rotate_left
 ·intro w' hSw; rw [hT.out] at hSw; obtain ⟨s1, s2, -⟩ := hSw; go_simp <;> with_reducible rfl
 simp only [zS, zA, zB]; refine yaf (i := 9) (d := 45) (v := ?_) rfl (by kernel_rfl) (by kernel_rfl) (by omega) (by kernel_rfl) (by kernel_rfl) (fun _ _ _ h => h) (Or.inl ⟨by rfl, ?_⟩) TS.out ?_
 rotate_left
 ·intro w' hSw; rw [hT.out] at hSw; obtain ⟨s1, s2, -⟩ := hSw; go_simp <;> with_reducible rfl
 simp only [zS, zA, zB]; refine yaf (i := 10) (d := 46) (v := ?_) rfl (by kernel_rfl) (by kernel_rfl) (by omega) (by kernel_rfl) (by kernel_rfl) (fun _ _ _ h => h) (Or.inl ⟨by rfl, ?_⟩) TS.out ?_
 rotate_left
 ·intro w' hSw; rw [hT.out] at hSw; obtain ⟨s1, s2, -⟩ := hSw; go_simp <;> with_reducible rfl
 simp only [zS, zA, zB]; refine yaf (i := 11) (d := 47) (v := .agg cs.toArray) rfl (by kernel_rfl) (by kernel_rfl) (by omega) (by kernel_rfl) (by kernel_rfl) (fun _ _ _ h => h) ?_ TS.out ?_
 ·exact yieldsIf_load_mid (by rfl) 225 (.tmp 4) (by rfl) w.heap.size 0 (by rfl) cs (.array 64 21) HTR.out underBlk (by rfl) hin
 simp only [zS, zA, zB]; refine ycg (i := 12) rfl (by kernel_rfl) (by omega) (fun K hK => ?_)
 refine ylf (by rfl) (.tmp 47) (by rfl) cs hcl (by rfl) ?_
 refine hK _ _ TS2.out ?_; clear hK K; refine yez (i := 12) (d := 48) rfl (by kernel_rfl) ?_
 simp only [zS, zA, zB]; refine ycg (i := 13) rfl (by kernel_rfl) (by omega) (fun K hK => ?_)
 have hk3d : OwnK B w3.drew vb bs := HK3.out
 have hE0 := HE0.out; refine yqd (by rfl) (.tmp 46) (.tmp 48) (by rfl) w3.drew B vb bs x cs HCS.out HX.out 1 (by rw [hE0, HK.out]; rfl) hk3d (by rfl) (Nat.le_trans hBs (Nat.le_trans HWB.out.size HG3.out.size)) HBL.out ?_
 intro A2 C2 w4 ho4 hg4
 have q0 : w4.cell? ⟨bp, 0, none⟩ = some (.pointer (some ⟨bt, 0, none⟩)) := cell_of_row w4 bp 0 _ _ _ ((hg4.block _ (yad HP3.out) (yao hk3d HP3.out (by decide))).trans HP3.out)
 obtain ⟨q1, q3⟩ := ywr (w := w3.drew) HT3.out hk3d hg4
 have q2 : w4.rangeAt w.heap.size 0 cs := yer (w := w3.drew) HR3.out hg4 HVB.out
 have HO4 := zH ho4; have HG4 := zH hg4; rw [hE0, HK.out] at q1; refine hK _ _ (by rw [hT.out]; exact ⟨q0, q1, q2⟩) ?_
 clear hK K hg4 ho4 hk3d; refine yez (i := 13) (d := 49) rfl (by kernel_rfl) ?_
 simp only [zS, zA, zB]; refine yey (k := 14) (by omega) (by kernel_rfl) (by kernel_rfl) ?_
 simp only [List.drop_succ_cons, List.drop_zero]; clear hE0 q2; obtain ⟨vb6, hvb6⟩ : ∃ vb6, vb6 = Value.slice A2 (bs.length + 1) C2 := ⟨_, rfl⟩
 have HB6 : Hid (BldAt B (w4.setCell ⟨bt, 1, none⟩ vb6) bp bt bm vi vb6 ix bs6) := by
  rw [hvb6, HB6E.out]; exact HB1.out.blocked HG3.out HF3.out (ybb _) HG4.out (by have := HO4.out; unfold OwnK at this |-; rw [List.length_append] at this |-; exact this)
 have HW6 : Hid (Below B w (w4.setCell ⟨bt, 1, none⟩ vb6)) :=
  (((HWB.out.grown HG3.out (Nat.le_trans hBs HWB.out.size) (fun q hq => by cases hq; exact HB1.out.hbm)).drew).grown HG4.out (Nat.le_trans hBs (Nat.le_trans HWB.out.size HG3.out.size)) (fun q hq => (own_lt HK3.out q hq).1)).setCell HBT.out _
 go_wp2
 rw [show Value.slice A2 (bs.length + 1) C2 = vb6 from hvb6.symm]
 clear hvb6 q0 q1 q3 HO4 HG4 TS TS2 hT HTR T HC0 HC1 HC3 HD3 HE3 HR0 HR1 HR3 HK3 HT3 HP3 HF3 HG3 HL HST hsl HE0 HVB HX HBL; rw [show w3.drew.heap.size = w3.heap.size from rfl]
 go_loopw [53] (fun i wr => ∃ (j : Nat), j <= n /\ i = .int .i64 (j : Nat) /\ Hid (∃ A C, BldAt B wr bp bt bm (.slice A (ix ++ List.replicate j k).length C) vb6 (ix ++ List.replicate j k) bs6) /\ Hid (Below B w wr)) (fun i _ => n - (intOf i).toNat)
 case atStart =>
  refine ⟨0, Nat.zero_le _, rfl, ?_, HW6.out⟩; obtain ⟨A, C, e, -, -⟩ := yai HB6.out.hi; refine ⟨A, C, ?_⟩; rw [List.replicate_zero, List.append_nil, <- e]; exact HB6.out
 case round =>
  obtain ⟨j, hj, rfl, HB, HW⟩ := hrel
  by_cases hlt : j < n
  ·obtain ⟨A, C, hb⟩ := HB.out
   have hlen : (ix ++ List.replicate j k).length = ix.length + j := by simp
   have hnext : ix ++ List.replicate (j + 1) k = (ix ++ List.replicate j k) ++ [k] := by rw [List.replicate_succ', List.append_assoc]
   obtain ⟨l, hl'⟩ : ∃ l, ix ++ List.replicate j k = l := ⟨_, rfl⟩; rw [hl'] at hb hlen hnext; have HN := zH hnext
   have hbd : BldAt B wr.drew bp bt bm (.slice A l.length C) vb6 l bs6 := hb.kept (ybb _)
   have hba : BldAt B (wr.alloc (.cells #[.int .u16 (k : Nat)] 253)).drew bp bt bm (.slice A l.length C) vb6 l bs6 := (hb.kept (World.grownBy_alloc _ _ _)).kept (ybb _)
   have HBD := zH hbd; have C0 := zH (cell_of_row _ bp 0 _ _ _ hbd.hp); have C1 := zH (cell_of_row _ bp 0 _ _ _ hba.hp)
   have c1 : wr.cell? ⟨bt, 0, none⟩ = some (.slice A l.length C) := cell_of_row _ bt 0 _ _ _ hb.ht
   have c2 : (wr.alloc (.cells #[.int .u16 (k : Nat)] 253)).cell? ⟨bt, 0, none⟩ = some (.slice A l.length C) := cell_of_row _ bt 0 _ _ _ hba.ht
   have hne : bt ≠ bp := fun e => hb.bp_ne e.symm
   have hBw : Hid (B <= wr.drew.heap.size) := Nat.le_trans hBs HW.out.size
   have hLL : Hid (l.length + 1 <= 10000000) := by show _ <= _; omega
   have hltI : (j : Int) < (n : Int) := by omega
   clear hb hbd hba hlen hnext hl'; obtain ⟨S, hS0⟩ : ∃ S : World -> Prop, S = fun w' => w'.cell? ⟨bp, 0, none⟩ = some (.pointer (some ⟨bt, 0, none⟩)) /\ w'.cell? ⟨bt, 0, none⟩ = some (.slice A l.length C) := ⟨_, rfl⟩
   have HS : Hid (S wr.drew) := by rw [hS0]; exact ⟨C0.out, c1⟩
   have HS2 : Hid (S (wr.alloc (.cells #[.int .u16 (k : Nat)] 253)).drew) := by rw [hS0]; exact ⟨C1.out, c2⟩
   have hS := zH hS0; clear hS0
   go_wp2
   refine ydh (m := 14) (S := S) (by kernel_rfl) ?_
   refine yaf (i := 0) (d := 55) (v := ?_) rfl (by kernel_rfl) (by kernel_rfl) (by omega) (by kernel_rfl) (by kernel_rfl) (fun _ _ _ h => h) (Or.inl ⟨by rfl, ?_⟩) HS.out ?_
   rotate_left
   ·intro w' hSw; rw [hS.out] at hSw; obtain ⟨s1, s2⟩ := hSw; go_simp <;> with_reducible rfl
   try simp only [zS, zA, zB]
   refine yaf (i := 1) (d := 56) (v := ?_) rfl (by kernel_rfl) (by kernel_rfl) (by omega) (by kernel_rfl) (by kernel_rfl) (fun _ _ _ h => h) (Or.inl ⟨by rfl, ?_⟩) HS.out ?_
   rotate_left
   ·intro w' hSw; rw [hS.out] at hSw; obtain ⟨s1, s2⟩ := hSw; go_simp <;> with_reducible rfl
   try simp only [zS, zA, zB]
   refine yaf (i := 2) (d := 57) (v := ?_) rfl (by kernel_rfl) (by kernel_rfl) (by omega) (by kernel_rfl) (by kernel_rfl) (fun _ _ _ h => h) (Or.inl ⟨by rfl, ?_⟩) HS.out ?_
   rotate_left
   ·intro w' hSw; rw [hS.out] at hSw; obtain ⟨s1, s2⟩ := hSw; go_simp <;> with_reducible rfl
   try simp only [zS, zA, zB]
   refine yaf (i := 3) (d := 58) (v := ?_) rfl (by kernel_rfl) (by kernel_rfl) (by omega) (by kernel_rfl) (by kernel_rfl) (fun _ _ _ h => h) (Or.inl ⟨by rfl, ?_⟩) HS.out ?_
   rotate_left
   ·intro w' hSw; rw [hS.out] at hSw; obtain ⟨s1, s2⟩ := hSw; go_simp <;> with_reducible rfl
   try simp only [zS, zA, zB]
   refine yaf (i := 4) (d := 59) (v := ?_) rfl (by kernel_rfl) (by kernel_rfl) (by omega) (by kernel_rfl) (by kernel_rfl) (fun _ _ _ h => h) (Or.inl ⟨by rfl, ?_⟩) HS.out ?_
   rotate_left
   ·intro w' hSw; rw [hS.out] at hSw; obtain ⟨s1, s2⟩ := hSw; go_simp <;> with_reducible rfl
   try simp only [zS, zA, zB]
   refine yaf (i := 5) (d := 60) (v := ?_) rfl (by kernel_rfl) (by kernel_rfl) (by omega) (by kernel_rfl) (by kernel_rfl) (fun _ _ _ h => h) (Or.inl ⟨by rfl, ?_⟩) HS.out ?_
   rotate_left
   ·intro w' hSw; rw [hS.out] at hSw; obtain ⟨s1, s2⟩ := hSw; go_simp <;> with_reducible rfl
   try simp only [zS, zA, zB]
   refine yaf (i := 6) (d := 61) (v := ?_) rfl (by kernel_rfl) (by kernel_rfl) (by omega) (by kernel_rfl) (by kernel_rfl) (fun _ _ _ h => h) (Or.inl ⟨by rfl, ?_⟩) HS.out ?_
   rotate_left
   ·intro w' hSw; rw [hS.out] at hSw; obtain ⟨s1, s2⟩ := hSw; go_simp <;> with_reducible rfl
   try simp only [zS, zA, zB]
   refine yaf (i := 7) (d := 62) (v := ?_) rfl (by kernel_rfl) (by kernel_rfl) (by omega) (by kernel_rfl) (by kernel_rfl) (fun _ _ _ h => h) (Or.inl ⟨by rfl, ?_⟩) HS.out ?_
   rotate_left
   ·intro w' hSw; rw [hS.out] at hSw; obtain ⟨s1, s2⟩ := hSw; go_simp <;> with_reducible rfl
   try simp only [zS, zA, zB]
   refine yaf (i := 8) (d := 63) (v := ?_) rfl (by kernel_rfl) (by kernel_rfl) (by omega) (by kernel_rfl) (by kernel_rfl) (fun _ _ _ h => h) (Or.inl ⟨by rfl, ?_⟩) HS.out ?_
   rotate_left
   ·intro w' hSw; rw [hS.out] at hSw; obtain ⟨s1, s2⟩ := hSw; go_simp <;> with_reducible rfl
   try simp only [zS, zA, zB]
   refine yaf (i := 9) (d := 64) (v := ?_) rfl (by kernel_rfl) (by kernel_rfl) (by omega) (by kernel_rfl) (by kernel_rfl) (fun _ _ _ h => h) (Or.inl ⟨by rfl, ?_⟩) HS.out ?_
   rotate_left
   ·intro w' hSw; rw [hS.out] at hSw; obtain ⟨s1, s2⟩ := hSw; go_simp <;> with_reducible rfl
   try simp only [zS, zA, zB]
   refine yaf (i := 10) (d := 65) (v := ?_) rfl (by kernel_rfl) (by kernel_rfl) (by omega) (by kernel_rfl) (by kernel_rfl) (fun _ _ _ h => h) (Or.inl ⟨by rfl, ?_⟩) HS.out ?_
   rotate_left
   ·intro w' hSw; rw [hS.out] at hSw; obtain ⟨s1, s2⟩ := hSw; go_simp <;> with_reducible rfl
   try simp only [zS, zA, zB]
   refine yaf (i := 11) (d := 66) (v := ?_) rfl (by kernel_rfl) (by kernel_rfl) (by omega) (by kernel_rfl) (by kernel_rfl) (fun _ _ _ h => h) (Or.inl ⟨by rfl, ?_⟩) HS.out ?_
   rotate_left
   ·intro w' hSw; rw [hS.out] at hSw; obtain ⟨s1, s2⟩ := hSw; go_simp <;> with_reducible rfl
   try simp only [zS, zA, zB]
   refine ycg (i := 12) rfl (by kernel_rfl) (by omega) (fun K hK => ?_)
   have HK := zH hK; clear hK; go_simp; refine HK.out _ _ HS2.out ?_; clear HK K
   try simp only [zS, zA, zB]
   refine ycg (i := 13) rfl (by kernel_rfl) (by omega) (fun K hK => ?_)
   refine yix (by rfl) (.tmp 65) (.tmp 67) (by rfl) wr.drew B _ _ k 1 (by rfl) HBD.out.hi (by rfl) hBw.out hLL.out ?_
   intro A7 C7 w2 ho2 hg2; have d0 := ypr HBD.out hg2; obtain ⟨d1, d2⟩ := ypq HBD.out hg2; refine hK _ _ (by rw [hS.out]; exact ⟨d0, d1⟩) ?_
   clear hK K; refine yez (i := 13) (d := 68) rfl (by kernel_rfl) ?_
   try simp only [zS, zA, zB]
   refine yey (k := 14) (by omega) (by kernel_rfl) (by kernel_rfl) ?_
   simp only [List.drop_succ_cons, List.drop_zero]
   go_wp2
   go_roundw
   case rel =>
    refine ⟨j + 1, by omega, by go_num, ?_, ?_⟩
    ·have hh := HBD.out.pushed hg2 ho2; rw [<- HN.out] at hh; refine ⟨A7, C7, ?_⟩
     have e : (ix ++ List.replicate (j + 1) k).length = l.length + 1 := by rw [HN.out]; simp
     rw [e]; exact hh
    ·exact (HW.out.drew.grown hg2 hBw.out (fun q hq => (own_lt HBD.out.hi q hq).1)).setCell HBD.out.hbt _
   case measure => simp [intOf]; omega
  ·have hjn : j = n := by omega
   subst hjn; have hb := HB.out; clear hlt
   go_wp2
   go_end0
   obtain ⟨A, C, hb⟩ := hb; exact ⟨rfl, ⟨_, _, hb⟩, HW.out⟩
end Go.Proofs.YteibnfeokgibmaaGreat.R4
namespace Go.Proofs.YteibnfeokgibmaaGreat.R4
open Go.RowKit
theorem yzu {B : Nat} {w : World} {bp : Nat} {r : List (List Int)} (h : Bld B w bp r) (hB : B <= w.heap.size) (x : List Int) (p : Value) :
  Calls Tryz.prog 166 #[p, bval x, .int .i64 0] w fun e w' => e = .returned (.tuple #[]) /\ Bld B w' bp r /\ Below B w w' := by
 have H := zH h; clear h; unfold bval; obtain ⟨cs, hcs⟩ : ∃ cs, cs = cellsB x := ⟨_, rfl⟩; rw [<- hcs]; clear hcs
 go_enter Tryz.func166, Tryz.ntmps166
 go_wp2
 exact bodyPost_ret (v := .tuple #[]) (by simp [results, Tryz.results166, go_sem]) rfl ⟨rfl, H.out.kept (World.grownBy_alloc _ _ _), (zR _ _).alloc hB _⟩
theorem Bld.le {B : Nat} {w : World} {bp : Nat} {r : List (List Int)} (h : Bld B w bp r) : B <= bp /\ bp < w.heap.size := by
 obtain ⟨bt, bm, vi, vb, h⟩ := h; exact ⟨h.hbp, yad h.hp⟩
theorem lay_any {B : Nat} {w : World} {bp : Nat} {r : List (List Int)} (h : Bld B w bp r) {x : List Int} (hx : GoodR x) (n : Nat) (hl : r.length + n <= 20000) :
  Calls Tryz.prog 166 #[.pointer (some ⟨bp, 0, none⟩), bval x, .int .i64 (n : Nat)] w fun e w' => e = .returned (.tuple #[]) /\ Bld B w' bp (r ++ List.replicate n x) /\ Below B w w' := by
 cases n with
 | zero =>
  have hB := h.le; exact (yzu h (by omega) x _).mono fun e w' ⟨he, hb, hw⟩ => ⟨he, by rw [List.replicate_zero, List.append_nil]; exact hb, hw⟩
 | succ n =>
  obtain ⟨bt, bm, vi, vb, h⟩ := h; have hf := yjj r
  by_cases hm : x ∈ r
  ·have hm' := (ybg r x).2 hm; refine (lay_old h hx hm' (n + 1) (by omega) (by rw [yie]; omega)).mono fun e w' ⟨he, ⟨vi', hb⟩, hw⟩ => ⟨he, ⟨bt, bm, vi', vb, ?_⟩, hw⟩
   rw [yvn, ygj, if_pos hm, addF, if_pos hm']; exact hb
  ·have hm' : x ∉ firsts r := fun h => hm ((ybg r x).1 h)
   refine (lay_new h hx hm' (n + 1) (by omega) (by rw [yie]; omega) (by omega)).mono fun e w' ⟨he, ⟨vi', vb', hb⟩, hw⟩ => ⟨he, ⟨bt, bm, vi', vb', ?_⟩, hw⟩
   rw [yvn, ygj, if_neg hm, addF, if_neg hm']; exact hb
theorem Bld.trie {B : Nat} {w : World} {bp : Nat} {r : List (List Int)} (h : Bld B w bp r) (hg : ∀ x ∈ r, GoodR x) (hl : r.length = 17412) : ∃ bt, w.cell? ⟨bp, 0, none⟩ = some (.pointer (some ⟨bt, 0, none⟩)) /\ TrieAt w bt r := by
 obtain ⟨bt, bm, vi, vb, h⟩ := h; exact ⟨bt, cell_of_row w bp 0 _ _ _ h.hp, ⟨vi, vb, h.ht, yau h.hi (Nat.zero_le _), yau h.hk (Nat.zero_le _)⟩, hg, hl⟩
end Go.Proofs.YteibnfeokgibmaaGreat.R4
namespace Go.Proofs.YteibnfeokgibmaaGreat.R4
open Go.RowKit
def RdP (B : Nat) (w : World) (v : Value) (l : List (Int × Int)) : Prop :=
 ∃ A c, v = .slice A l.length c /\ l.length <= c /\ (0 < l.length -> ∃ g o : Nat, A = some ⟨g, o, none⟩ /\ g < B /\ ∀ j u, (pcells l)[j]? = some u -> w.cell? ⟨g, o + j, none⟩ = some u)
theorem RdP.below {B : Nat} {w w' : World} {v : Value} {l : List (Int × Int)} (h : RdP B w v l) (hb : Below B w w') : RdP B w' v l := by
 obtain ⟨A, c, rfl, hlc, h⟩ := h; refine ⟨A, c, rfl, hlc, fun hn => ?_⟩
 obtain ⟨g, o, e, hlt, hc⟩ := h hn; exact ⟨g, o, e, hlt, fun j u hu => (hb.cell (p := ⟨g, o + j, none⟩) hlt).trans (hc j u hu)⟩
theorem RdP.more {B B' : Nat} {w : World} {v : Value} {l : List (Int × Int)} (h : RdP B w v l) (hB : B <= B') : RdP B' w v l := by
 obtain ⟨A, c, rfl, hlc, h⟩ := h; refine ⟨A, c, rfl, hlc, fun hn => ?_⟩
 obtain ⟨g, o, e, hlt, hc⟩ := h hn; exact ⟨g, o, e, by omega, hc⟩
theorem RdP.form {B : Nat} {w : World} {v : Value} {l : List (Int × Int)} (h : RdP B w v l) : ∃ A c, v = .slice A l.length c := by
 obtain ⟨A, c, e, _⟩ := h; exact ⟨A, c, e⟩
theorem RdP.cap {B : Nat} {w : World} {A : Option Addr} {n c : Nat} {l : List (Int × Int)} (h : RdP B w (.slice A n c) l) : l.length <= c := by
 obtain ⟨A', c', e, hlc, _⟩ := h
 cases e
 exact hlc
theorem RdP.at {B : Nat} {w : World} {A : Option Addr} {n c : Nat} {l : List (Int × Int)} (h : RdP B w (.slice A n c) l) {k : Nat} {p : Int × Int} (hk : l[k]? = some p) :
  ∃ g o : Nat, A = some ⟨g, o, none⟩ /\ w.cell? ⟨g, o + k * 2, none⟩ = some (.int .i64 p.1) /\ w.cell? ⟨g, o + k * 2 + 1, none⟩ = some (.int .i64 p.2) := by
 obtain ⟨A', c', e, _, h⟩ := h
 cases e
 have hl : k < l.length := (List.getElem?_eq_some_iff.1 hk).1
 obtain ⟨g, o, e, _, hc⟩ := h (by omega)
 obtain ⟨h1, h2⟩ := ylo hk; exact ⟨g, o, e, hc _ _ h1, by rw [Nat.add_assoc]; exact hc _ _ h2⟩
theorem OwnP.rd {B : Nat} {w : World} {v : Value} {l : List (Int × Int)} (h : OwnP B w v l) : RdP w.heap.size w v l := by
 obtain ⟨A, c, rfl, hlc, hr⟩ := yai h; refine ⟨A, c, rfl, hlc, fun hn => ?_⟩
 obtain ⟨g, e, -, hg, hc⟩ := hr hn; exact ⟨g, 0, e, hg, fun j u hu => by rw [Nat.zero_add]; exact hc j u hu⟩
theorem yhw : (Tryz.prog.info? 125).map (fun i => (i.zero, i.size, i.bytes)) = some (some (.agg #[.int .i64 0, .int .i64 0]), 2, 16) := by kernel_rfl
theorem ywn (n c : Nat) (w : World) : Calls Tryz.prog 118 #[.slice none n c] w fun e w' => e = .returned (.slice none 0 0) /\ w = w' := by
 have q22 : ∀ (w : World) (a : Option Addr) (n c n' c' : Nat), (binOp .eql 123 (.slice a n c) (.slice none n' c')).run Tryz.prog w = .ok (.bool a.isNone) w := fun w a n c n' c' => Lib.run_eql_slice_nil w _ _ a n c n' c' Tryz.underlying123
 go_enter Tryz.func118, Tryz.ntmps118
 go_wp2
 go_ret
 exact ⟨rfl, rfl⟩
theorem yrk (ad : Addr) (l : List (Int × Int)) (c : Nat) (w : World) (hl : l.length <= 1000000) (hc : ∀ j u, (pcells l)[j]? = some u -> w.cell? (ad.add j) = some u) :
  Calls Tryz.prog 118 #[.slice (some ad) l.length c] w fun e w' => (∃ v, e = .returned v /\ OwnP w.heap.size w' v l) /\ Below w.heap.size w w' := by
 have q22 : ∀ (w : World) (a : Option Addr) (n c n' c' : Nat), (binOp .eql 123 (.slice a n c) (.slice none n' c')).run Tryz.prog w = .ok (.bool a.isNone) w := fun w a n c n' c' => Lib.run_eql_slice_nil w _ _ a n c n' c' Tryz.underlying123
 obtain ⟨i0, hi0, hz0, hz1, hz2⟩ := info_parts yhw
 have HC : Hid (∀ j u, (pcells l)[j]? = some u -> (w.alloc (.cells #[] 125)).cell? (ad.add j) = some u) := fun j u hu => (World.grownBy_alloc w (.cells #[] 125) none).cell (hc j u hu) (by simp)
 have HI := zH hi0; have HZ0 := zH hz0; have HZ1 := zH hz1; have HZ2 := zH hz2
 have HL : Hid (0 + l.length <= maxLen) := by show _ <= _; simp only [maxLen]; omega
 have HL2 : Hid ((0 + l.length) * 16 <= 140737488355328) := by show _ <= _; omega
 have HP := zH (ygc l); have HP1 := zH (yqu l); clear hc hi0 hz0 hz1 hz2
 go_enter Tryz.func118, Tryz.ntmps118
 go_wp2_with (at_builtin; refine wpList_append_own_at _ rfl _ _ 123 rfl w.heap.size 125 i0 _ 2 16 Tryz.underlying123 HI.out HZ0.out HZ1.out HZ2.out rfl (by omega) _ _ _ rfl (World.ownsRow_made w #[] 0 (zN _) (Nat.zero_le _) (by simp)) ad l.length c (pcells l) rfl HP.out HC.out HP1.out HL.out HL2.out (by simp) ?_; intro v' w1 hown hgrow hnil hat)
 go_ret
 refine ⟨⟨v', rfl, ?_⟩, ?_⟩
 ·have := hown
  rw [Nat.zero_add, List.nil_append] at this; exact this
 ·exact ((zR _ w).alloc (zN _) _).grown hgrow (by simp) (by intro k hk; cases hk; exact zN _)
end Go.Proofs.YteibnfeokgibmaaGreat.R4
