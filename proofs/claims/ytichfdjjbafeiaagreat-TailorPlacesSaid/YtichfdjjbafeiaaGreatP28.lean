/-
  PACKED for a claim.
-/
import Derived.Laws.Cover3
import Derived.Test.YtichfdjjbafeiaaGreatP27
set_option linter.unusedVariables false
set_option linter.unusedSimpArgs false
set_option maxRecDepth 100000
namespace Go.Proofs.YtichfdjjbafeiaaGreat
open Go.RowKit
theorem yph {L : List PE} {k : Nat} {e : PE} (h : L[k]? = some e) : L.take (k + 1) = L.take k ++ [e] := by rw [List.take_add_one, h]; rfl
theorem ysv {L : List PE} {k : Nat} (h : k <= L.length) : (L.take k).length = k := by rw [List.length_take]; omega
theorem yns {L : List PE} (hs : Srt L) {k : Nat} {e : PE} (h : L[k]? = some e) : place (L.take k) e.1 = none := by
 refine ydf.2 fun f hf => ?_
 obtain ⟨i, hi, he⟩ := List.getElem_of_mem hf; rw [List.getElem_take] at he; rw [List.length_take] at hi; have hk := (List.getElem?_eq_some_iff.1 h).1
 have := List.pairwise_iff_getElem.1 hs i k (by omega) hk (by omega)
 rw [he] at this
 have h2 : L[k] = e := (List.getElem?_eq_some_iff.1 h).2
 rw [h2] at this; exact ord_ne this
theorem sg_i64 {s : List Int} (h : s.all T2.isSg = true) : I64 s := fun x hx => by
 have := ydz (List.all_eq_true.1 h x hx)
 omega
theorem ybm {w : World} {p : Addr} {u : Value} (h : w.cell? p = some u) (o : Obj) : (w.alloc o).cell? p = some u := by
 rw [World.cell?_of_block (w := w) (Below.heap_alloc _ _ _ (yag h))]; exact h
theorem ypg {w : World} {v : Value} {L : List PE} (hg : GoodT L) (h : R4.RdP w.heap.size w v (ones 0 L)) :
  Calls Tryz.prog 69 #[v] w fun e w' => (∃ p, e = .returned (.tuple #[.pointer (some ⟨p, 0, none⟩), .int .i64 0]) /\ R4.TrieAt w' p (R4.rowsF 17412 (R4.findP (ones 0 L)))) /\ Below w.heap.size w w' := by
 have hl := ymb 0 L; have hl2 := hg.len; refine (R4.yek h (by omega) (yqi hg)).mono fun e w' hp => ?_
 obtain ⟨hb, h1 | h1 | h1⟩ := hp
 ·exact absurd (yud hg) h1.1
 ·exact absurd (yqj hg.srt 0) h1.2.1
 ·obtain ⟨_, _, p, he, ht⟩ := h1; exact ⟨⟨p, he, ht⟩, hb⟩
def BuildIs (F : Nat -> Prop) (w : World) (L : List PE) (e : Ending) (w' : World) : Prop := ∃ p, e = .returned (.pointer (some ⟨p, 0, none⟩)) /\ TabAt F w' p L /\ Below w.heap.size w w'
attribute [local go_sem ↓] Go.wp_at_zero Go.wp_at_succ
set_option maxHeartbeats 4000000 in
set_option maxRecDepth 200000 in
theorem yek {F : Nat -> Prop} {w : World} {v : Value} {L : List PE} (h : RdT F w v L) (hg : GoodT L) :
  Calls Tryz.prog 30 #[v] w (BuildIs F w L) := by
 obtain ⟨A, c, rfl⟩ := h.form; have HR := zH h; have HG := zH hg; have HS := zH (BuildSt.start w A L.length c); have hmm := @run_makeMap Tryz.prog
 have hlen : (L.length : Int) <= 500 := by have := hg.len; omega
 clear h hg
 go_enter Tryz.func30, Tryz.ntmps30
 go_wp2
 clear hmm; obtain ⟨bt, hbt⟩ : ∃ b, w.heap.size + 1 + 1 = b := ⟨_, rfl⟩; rw [hbt]
 have HBT : Hid (w.heap.size + 2 = bt) := by show _ = _; omega
 clear hbt
 go_loopw [4, 14] (fun u i wr => ∃ k : Nat, k <= L.length /\ i = .int .i64 (k : Nat) /\ Hid (BuildSt w (.slice A L.length c) u (L.take k) wr)) (fun _ i _ => L.length - (intOf i).toNat)
 case atStart => exact ⟨0, Nat.zero_le _, rfl, HS.out⟩
 case round =>
  clear HS; obtain ⟨k, hk, rfl, HB⟩ := hrel
  by_cases hlt : k < L.length
  ·obtain ⟨e, he⟩ : ∃ e, L[k]? = some e := ⟨_, List.getElem?_eq_getElem hlt⟩; obtain ⟨g, o, vs, vl, rfl, c0, c1, hrs, hrl⟩ := (HR.out.below HB.out.bel (zN _)).at he; obtain ⟨A1, d1, rfl⟩ := hrs.form; obtain ⟨A2, d2, rfl⟩ := hrl.form
   have hkI : (k : Int) < (L.length : Int) := by omega
   have hgood := HG.out.seq e (List.mem_of_getElem? he); have HTK := zH (yph he); have HPL := zH (yns HG.out.srt he); have HTL := zH (ysv hk); have HI := zH (sg_i64 hgood.2.2); obtain ⟨n, hn⟩ : ∃ n, e.1.length = n := ⟨_, rfl⟩
   have hn1 : 1 <= n := by omega
   have hn3 : n <= 3 := by omega
   have HN := zH hn; have HRS := zH hrs; rw [hn] at c0; have HB1 := zH (HB.out.more ((zR _ wr).alloc (zN _) (.cells #[.slice A1 n d1, .slice A2 e.2.length d2] 45))); clear hn he hgood hrs hrl hlt
   by_cases n1 : n = 1
   ·subst n1; obtain ⟨x, hx⟩ : ∃ x, hd e.1 = x := ⟨_, rfl⟩; obtain ⟨g1, o1, rfl, c2⟩ := HRS.out.at (hd_at (by have := HN.out; omega))
    rw [hx] at c2; simp only [Nat.add_zero] at c2; have c3 := ybm c2 (.cells #[.slice (some ⟨g1, o1, none⟩) 1 d1, .slice A2 e.2.length d2] 45); have HX := zH hx
    have HY : Hid (((L.take k).length : Int) + 1 = (k : Int) + 1) := by show _ = _; rw [HTL.out]
    have HL : Hid ((L.take k).length <= 1000) := by show _ <= _; rw [HTL.out]; omega
    clear hx c2
    go_wp2_with (at_builtin; refine HB1.out.push HN.out HX.out HY.out HL.out rfl (.tmp 24) (.tmp 32) rfl 1 (b := wr.heap.size + 1) (by simp) rfl rfl ?_; intro v2 w2 h2; have H2 := zH h2; clear h2)
    go_roundw
    case rel => exact ⟨k + 1, by omega, by go_num, by rw [HTK.out]; exact H2.out⟩
    case measure => simp [intOf]; omega
   ·by_cases n2 : n = 2
    ·subst n2
     obtain ⟨x, y, hxy⟩ : ∃ x y, e.1 = [x, y] := by
      have := HN.out
      match h : e.1, this with
      | [x, y], _ => exact ⟨x, y, rfl⟩
     obtain ⟨g1, o1, rfl, c2⟩ := HRS.out.at (k := 0) (x := x) (by rw [hxy]; rfl)
     obtain ⟨g1', o1', e1, c3⟩ := HRS.out.at (k := 1) (x := y) (by rw [hxy]; rfl)
     cases e1
     simp only [Nat.add_zero] at c2; obtain ⟨w5, hrun, hm5, hg5⟩ := (KMap.store kt2 (HB1.out.more ((zR _ _).drew)).m2 (e := e) HN.out HI.out HPL.out (by rw [HTL.out]; omega))
     have hav : aval e.1 = .agg #[.int .i64 x, .int .i64 y] := by rw [hxy]; rfl
     rw [hav, HTL.out] at hrun
     have hat : ∀ W, (Instr.arrayAt 128 (.slice (some ⟨g1, o1, none⟩) 2 d1)).run Tryz.prog W = .ok (.pointer (some ⟨g1, o1, none⟩)) W := fun W => run_arrayAt W 128 _ 2 _ 2 d1 Tryz.underlying128 (zN _)
     have HS2 := zH ((HB1.out.more ((zR _ _).drew)).map2 HN.out hg5 hm5); have c4 := ybm c2 (.cells #[.slice (some ⟨g1, o1, none⟩) 2 d1, .slice A2 e.2.length d2] 45); have c5 := ybm c3 (.cells #[.slice (some ⟨g1, o1, none⟩) 2 d1, .slice A2 e.2.length d2] 45)
     have c6 : (wr.alloc (.cells #[.slice (some ⟨g1, o1, none⟩) 2 d1, .slice A2 e.2.length d2] 45)).cell? ⟨wr.heap.size, 0, none⟩ = some (.slice (some ⟨g1, o1, none⟩) 2 d1) := by rw [World.cell?_alloc_mark]; rfl
     have c7 : (wr.alloc (.cells #[.slice (some ⟨g1, o1, none⟩) 2 d1, .slice A2 e.2.length d2] 45)).cell? ⟨bt, 2, none⟩ = some (.map (some w.heap.size)) := by rw [<- HBT.out, cell_of_row _ _ 2 _ _ _ HB1.out.tab]; rfl
     have HK5 : Hid (w5.cell? ⟨bt, 2, none⟩ = some (.map (some w.heap.size)) /\ w5.cell? ⟨wr.heap.size, 0, none⟩ = some (.slice (some ⟨g1, o1, none⟩) 2 d1) /\ w5.cell? ⟨g1, o1, none⟩ = some (.int .i64 x) /\ w5.cell? ⟨g1, o1 + 1, none⟩ = some (.int .i64 y)) := by
      obtain ⟨es, cc, hmap⟩ := HB1.out.m2.isMap
      have off : ∀ {b o : Nat} {u : Value}, (wr.alloc (.cells #[.slice (some ⟨g1, o1, none⟩) 2 d1, .slice A2 e.2.length d2] 45)).cell? ⟨b, o, none⟩ = some u -> w5.cell? ⟨b, o, none⟩ = some u := fun {b o u} hc => by
       refine hg5.cell (a := ⟨b, o, none⟩) hc ?_; intro e0
       injection e0 with e0
       simp only at e0
       subst e0; unfold World.cell? at hc; simp only [hmap] at hc
       cases hc
      exact ⟨off c7, off c6, off c4, off c5⟩
     clear hxy c2 c3 hm5 hg5 hav
     go_wp2
     go_region_held3 (fun w' => w'.cell? ⟨bt, 2, none⟩ = some (.map (some w.heap.size)) /\ w'.cell? ⟨wr.heap.size, 0, none⟩ = some (.slice (some ⟨g1, o1, none⟩) 2 d1) /\ w'.cell? ⟨g1, o1, none⟩ = some (.int .i64 x) /\ w'.cell? ⟨g1, o1 + 1, none⟩ = some (.int .i64 y))
      (first
       | exact ⟨c7, c6, c4, c5⟩
       | exact HK5.out)
      (fail)
     go_wp2
     go_roundw
     case rel => exact ⟨k + 1, by omega, by go_num, by rw [HTK.out]; exact HS2.out⟩
     case measure => simp [intOf]; omega
    ·obtain rfl : n = 3 := by omega
     obtain ⟨x, y, z, hxy⟩ : ∃ x y z, e.1 = [x, y, z] := by
      have := HN.out
      match h : e.1, this with
      | [x, y, z], _ => exact ⟨x, y, z, rfl⟩
     obtain ⟨g1, o1, rfl, c2⟩ := HRS.out.at (k := 0) (x := x) (by rw [hxy]; rfl)
     obtain ⟨g1', o1', e1, c3⟩ := HRS.out.at (k := 1) (x := y) (by rw [hxy]; rfl)
     cases e1
     obtain ⟨g1', o1', e1, c8⟩ := HRS.out.at (k := 2) (x := z) (by rw [hxy]; rfl)
     cases e1
     simp only [Nat.add_zero] at c2; obtain ⟨w5, hrun, hm5, hg5⟩ := (KMap.store kt3 (HB1.out.more ((zR _ _).drew)).m3 (e := e) HN.out HI.out HPL.out (by rw [HTL.out]; omega))
     have hav : aval e.1 = .agg #[.int .i64 x, .int .i64 y, .int .i64 z] := by rw [hxy]; rfl
     rw [hav, HTL.out] at hrun
     have hat : ∀ W, (Instr.arrayAt 129 (.slice (some ⟨g1, o1, none⟩) 3 d1)).run Tryz.prog W = .ok (.pointer (some ⟨g1, o1, none⟩)) W := fun W => run_arrayAt W 129 _ 3 _ 3 d1 Tryz.underlying129 (zN _)
     have HS2 := zH ((HB1.out.more ((zR _ _).drew)).map3 HN.out hg5 hm5); have c4 := ybm c2 (.cells #[.slice (some ⟨g1, o1, none⟩) 3 d1, .slice A2 e.2.length d2] 45); have c5 := ybm c3 (.cells #[.slice (some ⟨g1, o1, none⟩) 3 d1, .slice A2 e.2.length d2] 45); have c9 := ybm c8 (.cells #[.slice (some ⟨g1, o1, none⟩) 3 d1, .slice A2 e.2.length d2] 45)
     have c6 : (wr.alloc (.cells #[.slice (some ⟨g1, o1, none⟩) 3 d1, .slice A2 e.2.length d2] 45)).cell? ⟨wr.heap.size, 0, none⟩ = some (.slice (some ⟨g1, o1, none⟩) 3 d1) := by rw [World.cell?_alloc_mark]; rfl
     have c7 : (wr.alloc (.cells #[.slice (some ⟨g1, o1, none⟩) 3 d1, .slice A2 e.2.length d2] 45)).cell? ⟨bt, 3, none⟩ = some (.map (some (w.heap.size + 1))) := by rw [<- HBT.out, cell_of_row _ _ 3 _ _ _ HB1.out.tab]; rfl
     have HK5 : Hid (w5.cell? ⟨bt, 3, none⟩ = some (.map (some (w.heap.size + 1))) /\ w5.cell? ⟨wr.heap.size, 0, none⟩ = some (.slice (some ⟨g1, o1, none⟩) 3 d1) /\ w5.cell? ⟨g1, o1, none⟩ = some (.int .i64 x) /\ w5.cell? ⟨g1, o1 + 1, none⟩ = some (.int .i64 y) /\ w5.cell? ⟨g1, o1 + 2, none⟩ = some (.int .i64 z)) := by
      obtain ⟨es, cc, hmap⟩ := HB1.out.m3.isMap
      have off : ∀ {b o : Nat} {u : Value}, (wr.alloc (.cells #[.slice (some ⟨g1, o1, none⟩) 3 d1, .slice A2 e.2.length d2] 45)).cell? ⟨b, o, none⟩ = some u -> w5.cell? ⟨b, o, none⟩ = some u := fun {b o u} hc => by
       refine hg5.cell (a := ⟨b, o, none⟩) hc ?_; intro e0
       injection e0 with e0
       simp only at e0
       subst e0; unfold World.cell? at hc; simp only [hmap] at hc
       cases hc
      exact ⟨off c7, off c6, off c4, off c5, off c9⟩
     clear hxy c2 c3 c8 hm5 hg5 hav
     go_wp2
     go_region_held3 (fun w' => w'.cell? ⟨bt, 3, none⟩ = some (.map (some (w.heap.size + 1))) /\ w'.cell? ⟨wr.heap.size, 0, none⟩ = some (.slice (some ⟨g1, o1, none⟩) 3 d1) /\ w'.cell? ⟨g1, o1, none⟩ = some (.int .i64 x) /\ w'.cell? ⟨g1, o1 + 1, none⟩ = some (.int .i64 y) /\ w'.cell? ⟨g1, o1 + 2, none⟩ = some (.int .i64 z))
      (first
       | exact ⟨c7, c6, c4, c5, c9⟩
       | exact HK5.out)
      (fail)
     go_wp2
     go_roundw
     case rel => exact ⟨k + 1, by omega, by go_num, by rw [HTK.out]; exact HS2.out⟩
     case measure => simp [intOf]; omega
  ·obtain rfl : k = L.length := by omega
   rw [List.take_length] at HB; have HC := zH (ypg HG.out (R4.OwnP.rd HB.out.own)); clear hlt
   go_wp2_with (go_at_call 69; refine (HC.out).mono ?_; rintro e w6 ⟨⟨p, rfl, ht⟩, hb⟩; have HT := zH ht; have H6 := zH (HB.out.more hb); have d1 : w6.cell? ⟨bt, 1, none⟩ = some (.pointer none) := (by rw [<- HBT.out, cell_of_row _ _ 1 _ _ _ H6.out.tab]; rfl); have d2 : w6.frozen? ⟨bt, 1, none⟩ = false := (by rw [<- HBT.out]; exact frozen_of_row _ _ 1 _ _ H6.out.tab); clear ht hb)
   go_ret
   have hg6 := R4.yak w6 ⟨bt, 1, none⟩ (.pointer (some ⟨p, 0, none⟩)); have htab := H6.out.tab; rw [HBT.out] at htab
   have hbl : Below w.heap.size w (w6.setCell ⟨bt, 1, none⟩ (.pointer (some ⟨p, 0, none⟩))) := H6.out.bel.setCell (by show _ <= bt; have := HBT.out; omega) _
   refine ⟨bt, rfl, ⟨HG.out, _, p, w.heap.size, w.heap.size + 1, heap_setCell_same w6 bt 1 _ _ _ htab, HR.out.below hbl (zN _), ylr HT.out hg6 htab (by decide) (by decide) (by decide), H6.out.m2.kept hg6 ?_, H6.out.m3.kept hg6 ?_⟩, hbl⟩
   iterate 2 (·intro e; injection e with e; have := HBT.out; simp only at e; omega)
end Go.Proofs.YtichfdjjbafeiaaGreat
namespace Go.Proofs.YtichfdjjbafeiaaGreat
open Go.RowKit
open R4 (signB ycr rowsF findP TrieAt)
theorem yaa (w : World) (n : Nat) : Below w.heap.size w (w.drewN n) := ⟨rfl, rfl, rfl, zN _, fun _ _ => rfl⟩
theorem yts {L : List PE} (h : GoodT L) {c : Int} {k : Nat} (hp : place L [c] = some k) : 0 <= c /\ c <= 1114367 := by
 obtain ⟨e, h1, h2⟩ := ybl hp
 have := (h.seq e (List.mem_of_getElem? h1)).2.2
 rw [h2] at this; exact ydz (by simpa using this)
theorem yxv {w : World} {p : Nat} {L : List PE} (hg : GoodT L) (h : TrieAt w p (rowsF 17412 (findP (ones 0 L)))) {c y : Int} (hy : findP (ones 0 L) c = y) :
  Calls Tryz.prog 97 #[.pointer (some ⟨p, 0, none⟩), .int .i64 c] w fun e w' => e = .returned (.int .i64 y) /\ ∃ n, w' = w.drewN n := by
 cases hs : signB c with
 | true =>
  obtain ⟨h0, h1⟩ := (ycr c).1 hs; obtain ⟨n, rfl⟩ : ∃ n : Nat, (n : Int) = c := ⟨c.toNat, by omega⟩
  have := R4.get_in h n (by omega)
  rw [R4.yso _ _ _ (by omega), hy] at this
  exact this
 | false =>
  have hz : y = 0 := by
   rw [<- hy, yhr]
   cases hp : place L [c] with
   | none => rfl
   | some k =>
    have h2 := (ycr c).2 (yts hg hp); rw [hs] at h2; cases h2
  rw [hz]; exact R4.yxu hs w _
theorem get_q {w : World} {p : Nat} {L : List PE} (hg : GoodT L) (h : TrieAt w p (rowsF 17412 (findP (ones 0 L)))) {c y : Int} (hy : findP (ones 0 L) c = y) (n : Nat) :
  Calls Tryz.prog 97 #[.pointer (some ⟨p, 0, none⟩), .int .i64 c] (w.drewN n) fun e w' => e = .returned (.int .i64 y) /\ ∃ m, w' = (w.drewN n).drewN m := yxv hg (h.below (yaa w n) (zN _)) hy
def FindIs (L : List PE) (s : List Int) (w : World) (e : Ending) (w' : World) : Prop :=
 (∃ i : Int, ∃ b : Bool, e = .returned (.tuple #[.int .i64 i, .bool b]) /\ (∀ k, place L s = some k -> i = (k : Nat) /\ b = true) /\ (place L s = none -> b = false)) /\ ∃ n, w' = w.drewN n
set_option maxHeartbeats 1000000 in
theorem yve {F G : Nat -> Prop} {w : World} {p : Nat} {L : List PE} {A : Option Addr} {c : Nat} {x : Int} (h : TabAt F w p L) (hs : RdI G w (.slice A 1 c) [x]) :
  Calls Tryz.prog 56 #[.pointer (some ⟨p, 0, none⟩), .slice A 1 c] w (FindIs L [x] w) := by
 obtain ⟨A1, c1, bo, b2, b3, d0, d1, d2, d3, hr, ht, h2, h3⟩ := h.cells; obtain ⟨y, hy⟩ : ∃ y, findP (ones 0 L) x = y := ⟨_, rfl⟩; have HG := zH (fun n => get_q h.good ht hy n)
 have hyy := yhr (L := L) x 0; rw [hy] at hyy; obtain ⟨g, o, rfl, c2⟩ := hs.at (k := 0) rfl; simp only [Nat.add_zero] at c2; have hlen := h.good.len
 have hyb : 0 <= y /\ y <= 501 := by
  cases hp : place L [x] with
  | none => rw [hp] at hyy; simp only at hyy; omega
  | some k => rw [hp] at hyy; have := yih hp; simp only at hyy; omega
 have hy0 : 0 <= y := hyb.1
 have hy1 : y <= 501 := hyb.2
 have r1 : IntKind.i64.wrap (y - 1) = y - 1 := IntWalk.i64_in _ (by omega)
 have HY := zH hyy; clear hr ht h2 h3 h hs hy hyy hyb hlen d0 d2 d3
 go_enter Tryz.func56, Tryz.ntmps56
 go_wp2
 go_quiet ((go_at_call 97; with_reducible exact Calls.quiet_of (HG.out _)))
 go_wp2
 go_ret2
 refine ⟨⟨_, _, rfl, fun k hk => ?_, fun hk => ?_⟩, _, rfl⟩
 ·have h1 := HY.out; rw [hk] at h1
  simp only at h1
  exact ⟨by omega, by simp; omega⟩
 ·have h1 := HY.out; rw [hk] at h1
  simp only at h1
  simp; omega
set_option maxHeartbeats 1000000 in
theorem yvd {F G : Nat -> Prop} {w : World} {p : Nat} {L : List PE} {A : Option Addr} {c : Nat} {x y : Int} (h : TabAt F w p L) (hs : RdI G w (.slice A 2 c) [x, y]) (hI : I64 [x, y]) :
  Calls Tryz.prog 56 #[.pointer (some ⟨p, 0, none⟩), .slice A 2 c] w (FindIs L [x, y] w) := by
 obtain ⟨A1, c1, bo, b2, b3, d0, d1, d2, d3, hr, ht, h2, h3⟩ := h.cells; obtain ⟨g, o, rfl, c2⟩ := hs.at (k := 0) rfl; obtain ⟨g1, o1, e1, c3⟩ := hs.at (k := 1) rfl
 cases e1
 simp only [Nat.add_zero] at c2
 have hat : ∀ W, (Instr.arrayAt 128 (.slice (some ⟨g, o, none⟩) 2 c)).run Tryz.prog W = .ok (.pointer (some ⟨g, o, none⟩)) W := fun W => run_arrayAt W 128 _ 2 _ 2 c Tryz.underlying128 (zN _)
 cases hp : place L [x, y] with
 | some k =>
  have hlk : ∀ n, (Instr.lookup 67 (.map (some b2)) (.agg #[.int .i64 x, .int .i64 y]) true).run Tryz.prog (w.drewN n) = .ok (.tuple #[.int .i64 (k : Nat), .bool true]) (w.drewN n) := fun n =>
   (h2.below (yaa w n) (zN _)).look_old kt2 (s := [x, y]) rfl hI hp
  clear d0 d1 d3 hr ht h2 h3 h hs
  go_enter Tryz.func56, Tryz.ntmps56
  go_wp2
  go_quiet (fail)
  go_wp2
  go_ret2
  exact ⟨⟨_, _, rfl, fun j hj => (by rw [hp] at hj; cases hj; exact ⟨rfl, rfl⟩), fun hj => (by rw [hp] at hj; cases hj)⟩, _, rfl⟩
 | none =>
  have hlk : ∀ n, (Instr.lookup 67 (.map (some b2)) (.agg #[.int .i64 x, .int .i64 y]) true).run Tryz.prog (w.drewN n) = .ok (.tuple #[.int .i64 0, .bool false]) (w.drewN n) := fun n =>
   (h2.below (yaa w n) (zN _)).look_new kt2 (s := [x, y]) rfl hI hp
  clear d0 d1 d3 hr ht h2 h3 h hs
  go_enter Tryz.func56, Tryz.ntmps56
  go_wp2
  go_quiet (fail)
  go_wp2
  go_ret2
  exact ⟨⟨_, _, rfl, fun j hj => (by rw [hp] at hj; cases hj), fun _ => rfl⟩, _, rfl⟩
set_option maxHeartbeats 1000000 in
theorem yoc {F G : Nat -> Prop} {w : World} {p : Nat} {L : List PE} {A : Option Addr} {c : Nat} {x y z : Int} (h : TabAt F w p L) (hs : RdI G w (.slice A 3 c) [x, y, z]) (hI : I64 [x, y, z]) :
  Calls Tryz.prog 56 #[.pointer (some ⟨p, 0, none⟩), .slice A 3 c] w (FindIs L [x, y, z] w) := by
 obtain ⟨A1, c1, bo, b2, b3, d0, d1, d2, d3, hr, ht, h2, h3⟩ := h.cells; obtain ⟨g, o, rfl, c2⟩ := hs.at (k := 0) rfl; obtain ⟨g1, o1, e1, c3⟩ := hs.at (k := 1) rfl
 cases e1
 obtain ⟨g2, o2, e2, c4⟩ := hs.at (k := 2) rfl
 cases e2
 simp only [Nat.add_zero] at c2
 have hat : ∀ W, (Instr.arrayAt 129 (.slice (some ⟨g, o, none⟩) 3 c)).run Tryz.prog W = .ok (.pointer (some ⟨g, o, none⟩)) W := fun W => run_arrayAt W 129 _ 3 _ 3 c Tryz.underlying129 (zN _)
 cases hp : place L [x, y, z] with
 | some k =>
  have hlk : ∀ n, (Instr.lookup 68 (.map (some b3)) (.agg #[.int .i64 x, .int .i64 y, .int .i64 z]) true).run Tryz.prog (w.drewN n) = .ok (.tuple #[.int .i64 (k : Nat), .bool true]) (w.drewN n) := fun n =>
   (h3.below (yaa w n) (zN _)).look_old kt3 (s := [x, y, z]) rfl hI hp
  clear d0 d1 d2 hr ht h2 h3 h hs
  go_enter Tryz.func56, Tryz.ntmps56
  go_wp2
  go_quiet (fail)
  go_wp2
  go_ret2
  exact ⟨⟨_, _, rfl, fun j hj => (by rw [hp] at hj; cases hj; exact ⟨rfl, rfl⟩), fun hj => (by rw [hp] at hj; cases hj)⟩, _, rfl⟩
 | none =>
  have hlk : ∀ n, (Instr.lookup 68 (.map (some b3)) (.agg #[.int .i64 x, .int .i64 y, .int .i64 z]) true).run Tryz.prog (w.drewN n) = .ok (.tuple #[.int .i64 0, .bool false]) (w.drewN n) := fun n =>
   (h3.below (yaa w n) (zN _)).look_new kt3 (s := [x, y, z]) rfl hI hp
  clear d0 d1 d2 hr ht h2 h3 h hs
  go_enter Tryz.func56, Tryz.ntmps56
  go_wp2
  go_quiet (fail)
  go_wp2
  go_ret2
  exact ⟨⟨_, _, rfl, fun j hj => (by rw [hp] at hj; cases hj), fun _ => rfl⟩, _, rfl⟩
theorem yrn {w : World} {v : Value} {L : List PE} (hg : GoodT L) {A : Option Addr} {s : List Int} {c : Nat} (h : ¬ s.length = 1 /\ ¬ s.length = 2 /\ ¬ s.length = 3) (hl : s.length <= 1000000000000000) :
  Calls Tryz.prog 56 #[v, .slice A s.length c] w (FindIs L s w) := by
 have hp : place L s = none := ydf.2 fun e he hc => by
  have := hg.seq e he
  rw [hc] at this
  omega
 obtain ⟨n, hn⟩ : ∃ n, s.length = n := ⟨_, rfl⟩; rw [hn] at h hl |-
 have h1 : ((n : Int) == 1) = false := by rw [beq_eq_false_iff_ne]; omega
 have h2 : ((n : Int) == 2) = false := by rw [beq_eq_false_iff_ne]; omega
 have h3 : ((n : Int) == 3) = false := by rw [beq_eq_false_iff_ne]; omega
 have hl' : (n : Int) <= 1000000000000000 := by omega
 have k1 : (n == 1) = false := by rw [beq_eq_false_iff_ne]; omega
 have k2 : (n == 2) = false := by rw [beq_eq_false_iff_ne]; omega
 have k3 : (n == 3) = false := by rw [beq_eq_false_iff_ne]; omega
 clear hn h
 go_enter Tryz.func56, Tryz.ntmps56
 go_wp2
 go_ret2
 exact ⟨⟨_, _, rfl, fun k hk => (by rw [hp] at hk; cases hk), fun _ => rfl⟩, 0, rfl⟩
theorem ymn {F G : Nat -> Prop} {w : World} {p : Nat} {L : List PE} {v : Value} {s : List Int} (h : TabAt F w p L) (hs : RdI G w v s) (hI : I64 s) (hl : s.length <= 1000000000000000) :
  Calls Tryz.prog 56 #[.pointer (some ⟨p, 0, none⟩), v] w (FindIs L s w) := by
 obtain ⟨A, c, rfl⟩ := hs.form
 by_cases h1 : s.length = 1
 ·obtain ⟨x, rfl⟩ : ∃ x, s = [x] := ⟨hd s, yin h1⟩; exact yve h hs
 ·by_cases h2 : s.length = 2
  ·obtain ⟨x, y, rfl⟩ : ∃ x y, s = [x, y] := by
    match s, h2 with
    | [x, y], _ => exact ⟨x, y, rfl⟩
   exact yvd h hs hI
  ·by_cases h3 : s.length = 3
   ·obtain ⟨x, y, z, rfl⟩ : ∃ x y z, s = [x, y, z] := by
     match s, h3 with
     | [x, y, z], _ => exact ⟨x, y, z, rfl⟩
    exact yoc h hs hI
   ·exact yrn h.good ⟨h1, h2, h3⟩ hl
theorem yis {F G : Nat -> Prop} {w : World} {p : Nat} {L : List PE} {v : Value} {s : List Int} {k : Nat} (hp : place L s = some k) (h : TabAt F w p L) (hs : RdI G w v s) :
  Calls Tryz.prog 56 #[.pointer (some ⟨p, 0, none⟩), v] w fun e w' => e = .returned (.tuple #[.int .i64 (k : Nat), .bool true]) /\ Below w.heap.size w w' := by
 obtain ⟨e, h1, h2⟩ := ybl hp; have hq := h.good.seq e (List.mem_of_getElem? h1); rw [h2] at hq; refine (ymn h hs (sg_i64 hq.2.2) (by omega)).mono fun e w' hf => ?_
 obtain ⟨⟨i, b, rfl, hy, hn⟩, n, rfl⟩ := hf; obtain ⟨rfl, rfl⟩ := hy k hp; exact ⟨rfl, yaa w n⟩
theorem yit {F G : Nat -> Prop} {w : World} {p : Nat} {L : List PE} {v : Value} {s : List Int} (hp : place L s = none) (h : TabAt F w p L) (hs : RdI G w v s) (hI : I64 s) (hl : s.length <= 1000000000000000) :
  Calls Tryz.prog 56 #[.pointer (some ⟨p, 0, none⟩), v] w fun e w' => (∃ i : Int, e = .returned (.tuple #[.int .i64 i, .bool false])) /\ Below w.heap.size w w' := by
 refine (ymn h hs hI hl).mono fun e w' hf => ?_
 obtain ⟨⟨i, b, rfl, hy, hn⟩, n, rfl⟩ := hf; rw [hn hp]; exact ⟨⟨i, rfl⟩, yaa w n⟩
end Go.Proofs.YtichfdjjbafeiaaGreat
