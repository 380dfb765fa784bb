/-
  PACKED for a claim.
-/
import Derived.Laws.Cover3
import Derived.Test.YteibnfeokgibmaaGreatP25
set_option linter.unusedVariables false
set_option linter.unusedSimpArgs false
set_option maxRecDepth 100000
namespace Go.Proofs.YteibnfeokgibmaaGreat
open Go.RowKit
theorem ysr {L : List PE} {k : Nat} {e : PE} (h : L[k]? = some e) : L.take (k + 1) = L.take k ++ [e] := by rw [List.take_add_one, h]; rfl
theorem yxl {L : List PE} {k : Nat} (h : k <= L.length) : (L.take k).length = k := by rw [List.length_take]; omega
theorem yqs {L : List PE} (hs : Srt L) {k : Nat} {e : PE} (h : L[k]? = some e) : place (L.take k) e.1 = none := by
 refine yda.2 fun f hf => ?_
 obtain ⟨i, hi, he⟩ := List.getElem_of_mem hf; rw [List.getElem_take] at he; rw [List.length_take] at hi; have hk := (List.getElem?_eq_some_iff.1 h).1
 have := List.pairwise_iff_getElem.1 hs i k (by omega) hk (by omega)
 rw [he] at this
 have h2 : L[k] = e := (List.getElem?_eq_some_iff.1 h).2
 rw [h2] at this; exact ord_ne this
theorem sg_i64 {s : List Int} (h : s.all T2.isSg = true) : I64 s := fun x hx => by
 have := yfb (List.all_eq_true.1 h x hx)
 omega
theorem yah {w : World} {p : Addr} {u : Value} (h : w.cell? p = some u) (o : Obj) : (w.alloc o).cell? p = some u := by
 rw [World.cell?_of_block (w := w) (Below.heap_alloc _ _ _ (yaj h))]; exact h
theorem ysq {w : World} {v : Value} {L : List PE} (hg : GoodT L) (h : R4.RdP w.heap.size w v (ones 0 L)) :
  Calls Tryz.prog 77 #[v] w fun e w' => (∃ p, e = .returned (.tuple #[.pointer (some ⟨p, 0, none⟩), .int .i64 0]) /\ R4.TrieAt w' p (R4.rowsF 17412 (R4.findP (ones 0 L)))) /\ Below w.heap.size w w' := by
 have hl := yov 0 L; have hl2 := hg.len; refine (R4.yfp h (by omega) (yuh hg)).mono fun e w' hp => ?_
 obtain ⟨hb, h1 | h1 | h1⟩ := hp
 ·exact absurd (yzk hg) h1.1
 ·exact absurd (yui hg.srt 0) h1.2.1
 ·obtain ⟨_, _, p, he, ht⟩ := h1; exact ⟨⟨p, he, ht⟩, hb⟩
def BuildIs (F : Nat -> Prop) (w : World) (L : List PE) (e : Ending) (w' : World) : Prop := ∃ p, e = .returned (.pointer (some ⟨p, 0, none⟩)) /\ TabAt F w' p L /\ Below w.heap.size w w'
attribute [local go_sem ↓] Go.wp_at_zero Go.wp_at_succ
set_option maxHeartbeats 4000000 in
set_option maxRecDepth 200000 in
theorem yfp {F : Nat -> Prop} {w : World} {v : Value} {L : List PE} (h : RdT F w v L) (hg : GoodT L) :
  Calls Tryz.prog 41 #[v] w (BuildIs F w L) := by
 obtain ⟨A, c, rfl⟩ := h.form; have HR := zH h; have HG := zH hg; have HS := zH (BuildSt.start w A L.length c); have hmm := @run_makeMap Tryz.prog
 have hlen : (L.length : Int) <= 500 := by have := hg.len; omega
 clear h hg
 go_enter Tryz.func41, Tryz.ntmps41
 go_wp2
 clear hmm; obtain ⟨bt, hbt⟩ : ∃ b, w.heap.size + 1 + 1 = b := ⟨_, rfl⟩; rw [hbt]
 have HBT : Hid (w.heap.size + 2 = bt) := by show _ = _; omega
 clear hbt
 go_loopw [4, 14] (fun u i wr => ∃ k : Nat, k <= L.length /\ i = .int .i64 (k : Nat) /\ Hid (BuildSt w (.slice A L.length c) u (L.take k) wr)) (fun _ i _ => L.length - (intOf i).toNat)
 case atStart => exact ⟨0, Nat.zero_le _, rfl, HS.out⟩
 case round =>
  clear HS; obtain ⟨k, hk, rfl, HB⟩ := hrel
  by_cases hlt : k < L.length
  ·obtain ⟨e, he⟩ : ∃ e, L[k]? = some e := ⟨_, List.getElem?_eq_getElem hlt⟩; obtain ⟨g, o, vs, vl, rfl, c0, c1, hrs, hrl⟩ := (HR.out.below HB.out.bel (zN _)).at he; obtain ⟨A1, d1, rfl⟩ := hrs.form; obtain ⟨A2, d2, rfl⟩ := hrl.form
   have hkI : (k : Int) < (L.length : Int) := by omega
   have hgood := HG.out.seq e (List.mem_of_getElem? he); have HTK := zH (ysr he); have HPL := zH (yqs HG.out.srt he); have HTL := zH (yxl hk); have HI := zH (sg_i64 hgood.2.2); obtain ⟨n, hn⟩ : ∃ n, e.1.length = n := ⟨_, rfl⟩
   have hn1 : 1 <= n := by omega
   have hn3 : n <= 3 := by omega
   have HN := zH hn; have HRS := zH hrs; rw [hn] at c0; have HB1 := zH (HB.out.more ((zR _ wr).alloc (zN _) (.cells #[.slice A1 n d1, .slice A2 e.2.length d2] 88))); clear hn he hgood hrs hrl hlt
   by_cases n1 : n = 1
   ·subst n1; obtain ⟨x, hx⟩ : ∃ x, hd e.1 = x := ⟨_, rfl⟩; obtain ⟨g1, o1, rfl, c2⟩ := HRS.out.at (hd_at (by have := HN.out; omega))
    rw [hx] at c2; simp only [Nat.add_zero] at c2; have c3 := yah c2 (.cells #[.slice (some ⟨g1, o1, none⟩) 1 d1, .slice A2 e.2.length d2] 88); have HX := zH hx
    have HY : Hid (((L.take k).length : Int) + 1 = (k : Int) + 1) := by show _ = _; rw [HTL.out]
    have HL : Hid ((L.take k).length <= 1000) := by show _ <= _; rw [HTL.out]; omega
    clear hx c2
    go_wp2_with (at_builtin; refine HB1.out.push HN.out HX.out HY.out HL.out rfl (.tmp 24) (.tmp 32) rfl 1 (b := wr.heap.size + 1) (by simp) rfl rfl ?_; intro v2 w2 h2; have H2 := zH h2; clear h2)
    go_roundw
    case rel => exact ⟨k + 1, by omega, by go_num, by rw [HTK.out]; exact H2.out⟩
    case measure => simp [intOf]; omega
   ·by_cases n2 : n = 2
    ·subst n2
     obtain ⟨x, y, hxy⟩ : ∃ x y, e.1 = [x, y] := by
      have := HN.out
      match h : e.1, this with
      | [x, y], _ => exact ⟨x, y, rfl⟩
     obtain ⟨g1, o1, rfl, c2⟩ := HRS.out.at (k := 0) (x := x) (by rw [hxy]; rfl)
     obtain ⟨g1', o1', e1, c3⟩ := HRS.out.at (k := 1) (x := y) (by rw [hxy]; rfl)
     cases e1
     simp only [Nat.add_zero] at c2; obtain ⟨w5, hrun, hm5, hg5⟩ := (KMap.store kt2 (HB1.out.more ((zR _ _).drew)).m2 (e := e) HN.out HI.out HPL.out (by rw [HTL.out]; omega))
     have hav : aval e.1 = .agg #[.int .i64 x, .int .i64 y] := by rw [hxy]; rfl
     rw [hav, HTL.out] at hrun
     have hat : ∀ W, (Instr.arrayAt 126 (.slice (some ⟨g1, o1, none⟩) 2 d1)).run Tryz.prog W = .ok (.pointer (some ⟨g1, o1, none⟩)) W := fun W => run_arrayAt W 126 _ 2 _ 2 d1 Tryz.underlying126 (zN _)
     have HS2 := zH ((HB1.out.more ((zR _ _).drew)).map2 HN.out hg5 hm5); have c4 := yah c2 (.cells #[.slice (some ⟨g1, o1, none⟩) 2 d1, .slice A2 e.2.length d2] 88); have c5 := yah c3 (.cells #[.slice (some ⟨g1, o1, none⟩) 2 d1, .slice A2 e.2.length d2] 88)
     have c6 : (wr.alloc (.cells #[.slice (some ⟨g1, o1, none⟩) 2 d1, .slice A2 e.2.length d2] 88)).cell? ⟨wr.heap.size, 0, none⟩ = some (.slice (some ⟨g1, o1, none⟩) 2 d1) := by rw [World.cell?_alloc_mark]; rfl
     have c7 : (wr.alloc (.cells #[.slice (some ⟨g1, o1, none⟩) 2 d1, .slice A2 e.2.length d2] 88)).cell? ⟨bt, 2, none⟩ = some (.map (some w.heap.size)) := by rw [<- HBT.out, cell_of_row _ _ 2 _ _ _ HB1.out.tab]; rfl
     have HK5 : Hid (w5.cell? ⟨bt, 2, none⟩ = some (.map (some w.heap.size)) /\ w5.cell? ⟨wr.heap.size, 0, none⟩ = some (.slice (some ⟨g1, o1, none⟩) 2 d1) /\ w5.cell? ⟨g1, o1, none⟩ = some (.int .i64 x) /\ w5.cell? ⟨g1, o1 + 1, none⟩ = some (.int .i64 y)) := by
      obtain ⟨es, cc, hmap⟩ := HB1.out.m2.isMap
      have off : ∀ {b o : Nat} {u : Value}, (wr.alloc (.cells #[.slice (some ⟨g1, o1, none⟩) 2 d1, .slice A2 e.2.length d2] 88)).cell? ⟨b, o, none⟩ = some u -> w5.cell? ⟨b, o, none⟩ = some u := fun {b o u} hc => by
       refine hg5.cell (a := ⟨b, o, none⟩) hc ?_; intro e0
       injection e0 with e0
       simp only at e0
       subst e0; unfold World.cell? at hc; simp only [hmap] at hc
       cases hc
      exact ⟨off c7, off c6, off c4, off c5⟩
     clear hxy c2 c3 hm5 hg5 hav
     go_wp2
     go_region_held3 (fun w' => w'.cell? ⟨bt, 2, none⟩ = some (.map (some w.heap.size)) /\ w'.cell? ⟨wr.heap.size, 0, none⟩ = some (.slice (some ⟨g1, o1, none⟩) 2 d1) /\ w'.cell? ⟨g1, o1, none⟩ = some (.int .i64 x) /\ w'.cell? ⟨g1, o1 + 1, none⟩ = some (.int .i64 y))
      (first
       | exact ⟨c7, c6, c4, c5⟩
       | exact HK5.out)
      (fail)
     go_wp2
     go_roundw
     case rel => exact ⟨k + 1, by omega, by go_num, by rw [HTK.out]; exact HS2.out⟩
     case measure => simp [intOf]; omega
    ·obtain rfl : n = 3 := by omega
     obtain ⟨x, y, z, hxy⟩ : ∃ x y z, e.1 = [x, y, z] := by
      have := HN.out
      match h : e.1, this with
      | [x, y, z], _ => exact ⟨x, y, z, rfl⟩
     obtain ⟨g1, o1, rfl, c2⟩ := HRS.out.at (k := 0) (x := x) (by rw [hxy]; rfl)
     obtain ⟨g1', o1', e1, c3⟩ := HRS.out.at (k := 1) (x := y) (by rw [hxy]; rfl)
     cases e1
     obtain ⟨g1', o1', e1, c8⟩ := HRS.out.at (k := 2) (x := z) (by rw [hxy]; rfl)
     cases e1
     simp only [Nat.add_zero] at c2; obtain ⟨w5, hrun, hm5, hg5⟩ := (KMap.store kt3 (HB1.out.more ((zR _ _).drew)).m3 (e := e) HN.out HI.out HPL.out (by rw [HTL.out]; omega))
     have hav : aval e.1 = .agg #[.int .i64 x, .int .i64 y, .int .i64 z] := by rw [hxy]; rfl
     rw [hav, HTL.out] at hrun
     have hat : ∀ W, (Instr.arrayAt 127 (.slice (some ⟨g1, o1, none⟩) 3 d1)).run Tryz.prog W = .ok (.pointer (some ⟨g1, o1, none⟩)) W := fun W => run_arrayAt W 127 _ 3 _ 3 d1 Tryz.underlying127 (zN _)
     have HS2 := zH ((HB1.out.more ((zR _ _).drew)).map3 HN.out hg5 hm5); have c4 := yah c2 (.cells #[.slice (some ⟨g1, o1, none⟩) 3 d1, .slice A2 e.2.length d2] 88); have c5 := yah c3 (.cells #[.slice (some ⟨g1, o1, none⟩) 3 d1, .slice A2 e.2.length d2] 88); have c9 := yah c8 (.cells #[.slice (some ⟨g1, o1, none⟩) 3 d1, .slice A2 e.2.length d2] 88)
     have c6 : (wr.alloc (.cells #[.slice (some ⟨g1, o1, none⟩) 3 d1, .slice A2 e.2.length d2] 88)).cell? ⟨wr.heap.size, 0, none⟩ = some (.slice (some ⟨g1, o1, none⟩) 3 d1) := by rw [World.cell?_alloc_mark]; rfl
     have c7 : (wr.alloc (.cells #[.slice (some ⟨g1, o1, none⟩) 3 d1, .slice A2 e.2.length d2] 88)).cell? ⟨bt, 3, none⟩ = some (.map (some (w.heap.size + 1))) := by rw [<- HBT.out, cell_of_row _ _ 3 _ _ _ HB1.out.tab]; rfl
     have HK5 : Hid (w5.cell? ⟨bt, 3, none⟩ = some (.map (some (w.heap.size + 1))) /\ w5.cell? ⟨wr.heap.size, 0, none⟩ = some (.slice (some ⟨g1, o1, none⟩) 3 d1) /\ w5.cell? ⟨g1, o1, none⟩ = some (.int .i64 x) /\ w5.cell? ⟨g1, o1 + 1, none⟩ = some (.int .i64 y) /\ w5.cell? ⟨g1, o1 + 2, none⟩ = some (.int .i64 z)) := by
      obtain ⟨es, cc, hmap⟩ := HB1.out.m3.isMap
      have off : ∀ {b o : Nat} {u : Value}, (wr.alloc (.cells #[.slice (some ⟨g1, o1, none⟩) 3 d1, .slice A2 e.2.length d2] 88)).cell? ⟨b, o, none⟩ = some u -> w5.cell? ⟨b, o, none⟩ = some u := fun {b o u} hc => by
       refine hg5.cell (a := ⟨b, o, none⟩) hc ?_; intro e0
       injection e0 with e0
       simp only at e0
       subst e0; unfold World.cell? at hc; simp only [hmap] at hc
       cases hc
      exact ⟨off c7, off c6, off c4, off c5, off c9⟩
     clear hxy c2 c3 c8 hm5 hg5 hav
     go_wp2
     go_region_held3 (fun w' => w'.cell? ⟨bt, 3, none⟩ = some (.map (some (w.heap.size + 1))) /\ w'.cell? ⟨wr.heap.size, 0, none⟩ = some (.slice (some ⟨g1, o1, none⟩) 3 d1) /\ w'.cell? ⟨g1, o1, none⟩ = some (.int .i64 x) /\ w'.cell? ⟨g1, o1 + 1, none⟩ = some (.int .i64 y) /\ w'.cell? ⟨g1, o1 + 2, none⟩ = some (.int .i64 z))
      (first
       | exact ⟨c7, c6, c4, c5, c9⟩
       | exact HK5.out)
      (fail)
     go_wp2
     go_roundw
     case rel => exact ⟨k + 1, by omega, by go_num, by rw [HTK.out]; exact HS2.out⟩
     case measure => simp [intOf]; omega
  ·obtain rfl : k = L.length := by omega
   rw [List.take_length] at HB; have HC := zH (ysq HG.out (R4.OwnP.rd HB.out.own)); clear hlt
   go_wp2_with (go_at_call 77; refine (HC.out).mono ?_; rintro e w6 ⟨⟨p, rfl, ht⟩, hb⟩; have HT := zH ht; have H6 := zH (HB.out.more hb); have d1 : w6.cell? ⟨bt, 1, none⟩ = some (.pointer none) := (by rw [<- HBT.out, cell_of_row _ _ 1 _ _ _ H6.out.tab]; rfl); have d2 : w6.frozen? ⟨bt, 1, none⟩ = false := (by rw [<- HBT.out]; exact frozen_of_row _ _ 1 _ _ H6.out.tab); clear ht hb)
   go_ret
   have hg6 := R4.yae w6 ⟨bt, 1, none⟩ (.pointer (some ⟨p, 0, none⟩)); have htab := H6.out.tab; rw [HBT.out] at htab
   have hbl : Below w.heap.size w (w6.setCell ⟨bt, 1, none⟩ (.pointer (some ⟨p, 0, none⟩))) := H6.out.bel.setCell (by show _ <= bt; have := HBT.out; omega) _
   refine ⟨bt, rfl, ⟨HG.out, _, p, w.heap.size, w.heap.size + 1, heap_setCell_same w6 bt 1 _ _ _ htab, HR.out.below hbl (zN _), yoh HT.out hg6 htab (by decide) (by decide) (by decide), H6.out.m2.kept hg6 ?_, H6.out.m3.kept hg6 ?_⟩, hbl⟩
   iterate 2 (·intro e; injection e with e; have := HBT.out; simp only at e; omega)
end Go.Proofs.YteibnfeokgibmaaGreat
namespace Go.Proofs.YteibnfeokgibmaaGreat
open Go.RowKit
open R4 (signB ydt rowsF findP TrieAt)
theorem yac (w : World) (n : Nat) : Below w.heap.size w (w.drewN n) := ⟨rfl, rfl, rfl, zN _, fun _ _ => rfl⟩
theorem yyt {L : List PE} (h : GoodT L) {c : Int} {k : Nat} (hp : place L [c] = some k) : 0 <= c /\ c <= 1114367 := by
 obtain ⟨e, h1, h2⟩ := ybr hp
 have := (h.seq e (List.mem_of_getElem? h1)).2.2
 rw [h2] at this; exact yfb (by simpa using this)
theorem get_all {w : World} {p : Nat} {L : List PE} (hg : GoodT L) (h : TrieAt w p (rowsF 17412 (findP (ones 0 L)))) {c y : Int} (hy : findP (ones 0 L) c = y) :
  Calls Tryz.prog 216 #[.pointer (some ⟨p, 0, none⟩), .int .i64 c] w fun e w' => e = .returned (.int .i64 y) /\ ∃ n, w' = w.drewN n := by
 cases hs : signB c with
 | true =>
  obtain ⟨h0, h1⟩ := (ydt c).1 hs; obtain ⟨n, rfl⟩ : ∃ n : Nat, (n : Int) = c := ⟨c.toNat, by omega⟩
  have := R4.get_in h n (by omega)
  rw [R4.ywy _ _ _ (by omega), hy] at this
  exact this
 | false =>
  have hz : y = 0 := by
   rw [<- hy, yjl]
   cases hp : place L [c] with
   | none => rfl
   | some k =>
    have h2 := (ydt c).2 (yyt hg hp); rw [hs] at h2; cases h2
  rw [hz]; exact R4.get_out hs w _
theorem get_q {w : World} {p : Nat} {L : List PE} (hg : GoodT L) (h : TrieAt w p (rowsF 17412 (findP (ones 0 L)))) {c y : Int} (hy : findP (ones 0 L) c = y) (n : Nat) :
  Calls Tryz.prog 216 #[.pointer (some ⟨p, 0, none⟩), .int .i64 c] (w.drewN n) fun e w' => e = .returned (.int .i64 y) /\ ∃ m, w' = (w.drewN n).drewN m := get_all hg (h.below (yac w n) (zN _)) hy
def FindIs (L : List PE) (s : List Int) (w : World) (e : Ending) (w' : World) : Prop :=
 (∃ i : Int, ∃ b : Bool, e = .returned (.tuple #[.int .i64 i, .bool b]) /\ (∀ k, place L s = some k -> i = (k : Nat) /\ b = true) /\ (place L s = none -> b = false)) /\ ∃ n, w' = w.drewN n
set_option maxHeartbeats 1000000 in
theorem zan {F G : Nat -> Prop} {w : World} {p : Nat} {L : List PE} {A : Option Addr} {c : Nat} {x : Int} (h : TabAt F w p L) (hs : RdI G w (.slice A 1 c) [x]) :
  Calls Tryz.prog 181 #[.pointer (some ⟨p, 0, none⟩), .slice A 1 c] w (FindIs L [x] w) := by
 obtain ⟨A1, c1, bo, b2, b3, d0, d1, d2, d3, hr, ht, h2, h3⟩ := h.cells; obtain ⟨y, hy⟩ : ∃ y, findP (ones 0 L) x = y := ⟨_, rfl⟩; have HG := zH (fun n => get_q h.good ht hy n)
 have hyy := yjl (L := L) x 0; rw [hy] at hyy; obtain ⟨g, o, rfl, c2⟩ := hs.at (k := 0) rfl; simp only [Nat.add_zero] at c2; have hlen := h.good.len
 have hyb : 0 <= y /\ y <= 501 := by
  cases hp : place L [x] with
  | none => rw [hp] at hyy; simp only at hyy; omega
  | some k => rw [hp] at hyy; have := yke hp; simp only at hyy; omega
 have hy0 : 0 <= y := hyb.1
 have hy1 : y <= 501 := hyb.2
 have r1 : IntKind.i64.wrap (y - 1) = y - 1 := IntWalk.i64_in _ (by omega)
 have HY := zH hyy; clear hr ht h2 h3 h hs hy hyy hyb hlen d0 d2 d3
 go_enter Tryz.func181, Tryz.ntmps181
 go_wp2
 go_quiet ((go_at_call 216; with_reducible exact Calls.quiet_of (HG.out _)))
 go_wp2
 go_ret2
 refine ⟨⟨_, _, rfl, fun k hk => ?_, fun hk => ?_⟩, _, rfl⟩
 ·have h1 := HY.out; rw [hk] at h1
  simp only at h1
  exact ⟨by omega, by simp; omega⟩
 ·have h1 := HY.out; rw [hk] at h1
  simp only at h1
  simp; omega
set_option maxHeartbeats 1000000 in
theorem zam {F G : Nat -> Prop} {w : World} {p : Nat} {L : List PE} {A : Option Addr} {c : Nat} {x y : Int} (h : TabAt F w p L) (hs : RdI G w (.slice A 2 c) [x, y]) (hI : I64 [x, y]) :
  Calls Tryz.prog 181 #[.pointer (some ⟨p, 0, none⟩), .slice A 2 c] w (FindIs L [x, y] w) := by
 obtain ⟨A1, c1, bo, b2, b3, d0, d1, d2, d3, hr, ht, h2, h3⟩ := h.cells; obtain ⟨g, o, rfl, c2⟩ := hs.at (k := 0) rfl; obtain ⟨g1, o1, e1, c3⟩ := hs.at (k := 1) rfl
 cases e1
 simp only [Nat.add_zero] at c2
 have hat : ∀ W, (Instr.arrayAt 126 (.slice (some ⟨g, o, none⟩) 2 c)).run Tryz.prog W = .ok (.pointer (some ⟨g, o, none⟩)) W := fun W => run_arrayAt W 126 _ 2 _ 2 c Tryz.underlying126 (zN _)
 cases hp : place L [x, y] with
 | some k =>
  have hlk : ∀ n, (Instr.lookup 118 (.map (some b2)) (.agg #[.int .i64 x, .int .i64 y]) true).run Tryz.prog (w.drewN n) = .ok (.tuple #[.int .i64 (k : Nat), .bool true]) (w.drewN n) := fun n =>
   (h2.below (yac w n) (zN _)).look_old kt2 (s := [x, y]) rfl hI hp
  clear d0 d1 d3 hr ht h2 h3 h hs
  go_enter Tryz.func181, Tryz.ntmps181
  go_wp2
  go_quiet (fail)
  go_wp2
  go_ret2
  exact ⟨⟨_, _, rfl, fun j hj => (by rw [hp] at hj; cases hj; exact ⟨rfl, rfl⟩), fun hj => (by rw [hp] at hj; cases hj)⟩, _, rfl⟩
 | none =>
  have hlk : ∀ n, (Instr.lookup 118 (.map (some b2)) (.agg #[.int .i64 x, .int .i64 y]) true).run Tryz.prog (w.drewN n) = .ok (.tuple #[.int .i64 0, .bool false]) (w.drewN n) := fun n =>
   (h2.below (yac w n) (zN _)).look_new kt2 (s := [x, y]) rfl hI hp
  clear d0 d1 d3 hr ht h2 h3 h hs
  go_enter Tryz.func181, Tryz.ntmps181
  go_wp2
  go_quiet (fail)
  go_wp2
  go_ret2
  exact ⟨⟨_, _, rfl, fun j hj => (by rw [hp] at hj; cases hj), fun _ => rfl⟩, _, rfl⟩
set_option maxHeartbeats 1000000 in
theorem yrf {F G : Nat -> Prop} {w : World} {p : Nat} {L : List PE} {A : Option Addr} {c : Nat} {x y z : Int} (h : TabAt F w p L) (hs : RdI G w (.slice A 3 c) [x, y, z]) (hI : I64 [x, y, z]) :
  Calls Tryz.prog 181 #[.pointer (some ⟨p, 0, none⟩), .slice A 3 c] w (FindIs L [x, y, z] w) := by
 obtain ⟨A1, c1, bo, b2, b3, d0, d1, d2, d3, hr, ht, h2, h3⟩ := h.cells; obtain ⟨g, o, rfl, c2⟩ := hs.at (k := 0) rfl; obtain ⟨g1, o1, e1, c3⟩ := hs.at (k := 1) rfl
 cases e1
 obtain ⟨g2, o2, e2, c4⟩ := hs.at (k := 2) rfl
 cases e2
 simp only [Nat.add_zero] at c2
 have hat : ∀ W, (Instr.arrayAt 127 (.slice (some ⟨g, o, none⟩) 3 c)).run Tryz.prog W = .ok (.pointer (some ⟨g, o, none⟩)) W := fun W => run_arrayAt W 127 _ 3 _ 3 c Tryz.underlying127 (zN _)
 cases hp : place L [x, y, z] with
 | some k =>
  have hlk : ∀ n, (Instr.lookup 119 (.map (some b3)) (.agg #[.int .i64 x, .int .i64 y, .int .i64 z]) true).run Tryz.prog (w.drewN n) = .ok (.tuple #[.int .i64 (k : Nat), .bool true]) (w.drewN n) := fun n =>
   (h3.below (yac w n) (zN _)).look_old kt3 (s := [x, y, z]) rfl hI hp
  clear d0 d1 d2 hr ht h2 h3 h hs
  go_enter Tryz.func181, Tryz.ntmps181
  go_wp2
  go_quiet (fail)
  go_wp2
  go_ret2
  exact ⟨⟨_, _, rfl, fun j hj => (by rw [hp] at hj; cases hj; exact ⟨rfl, rfl⟩), fun hj => (by rw [hp] at hj; cases hj)⟩, _, rfl⟩
 | none =>
  have hlk : ∀ n, (Instr.lookup 119 (.map (some b3)) (.agg #[.int .i64 x, .int .i64 y, .int .i64 z]) true).run Tryz.prog (w.drewN n) = .ok (.tuple #[.int .i64 0, .bool false]) (w.drewN n) := fun n =>
   (h3.below (yac w n) (zN _)).look_new kt3 (s := [x, y, z]) rfl hI hp
  clear d0 d1 d2 hr ht h2 h3 h hs
  go_enter Tryz.func181, Tryz.ntmps181
  go_wp2
  go_quiet (fail)
  go_wp2
  go_ret2
  exact ⟨⟨_, _, rfl, fun j hj => (by rw [hp] at hj; cases hj), fun _ => rfl⟩, _, rfl⟩
theorem yvw {w : World} {v : Value} {L : List PE} (hg : GoodT L) {A : Option Addr} {s : List Int} {c : Nat} (h : ¬ s.length = 1 /\ ¬ s.length = 2 /\ ¬ s.length = 3) (hl : s.length <= 1000000000000000) :
  Calls Tryz.prog 181 #[v, .slice A s.length c] w (FindIs L s w) := by
 have hp : place L s = none := yda.2 fun e he hc => by
  have := hg.seq e he
  rw [hc] at this
  omega
 obtain ⟨n, hn⟩ : ∃ n, s.length = n := ⟨_, rfl⟩; rw [hn] at h hl |-
 have h1 : ((n : Int) == 1) = false := by rw [beq_eq_false_iff_ne]; omega
 have h2 : ((n : Int) == 2) = false := by rw [beq_eq_false_iff_ne]; omega
 have h3 : ((n : Int) == 3) = false := by rw [beq_eq_false_iff_ne]; omega
 have hl' : (n : Int) <= 1000000000000000 := by omega
 have k1 : (n == 1) = false := by rw [beq_eq_false_iff_ne]; omega
 have k2 : (n == 2) = false := by rw [beq_eq_false_iff_ne]; omega
 have k3 : (n == 3) = false := by rw [beq_eq_false_iff_ne]; omega
 clear hn h
 go_enter Tryz.func181, Tryz.ntmps181
 go_wp2
 go_ret2
 exact ⟨⟨_, _, rfl, fun k hk => (by rw [hp] at hk; cases hk), fun _ => rfl⟩, 0, rfl⟩
theorem yph {F G : Nat -> Prop} {w : World} {p : Nat} {L : List PE} {v : Value} {s : List Int} (h : TabAt F w p L) (hs : RdI G w v s) (hI : I64 s) (hl : s.length <= 1000000000000000) :
  Calls Tryz.prog 181 #[.pointer (some ⟨p, 0, none⟩), v] w (FindIs L s w) := by
 obtain ⟨A, c, rfl⟩ := hs.form
 by_cases h1 : s.length = 1
 ·obtain ⟨x, rfl⟩ : ∃ x, s = [x] := ⟨hd s, ykq h1⟩; exact zan h hs
 ·by_cases h2 : s.length = 2
  ·obtain ⟨x, y, rfl⟩ : ∃ x y, s = [x, y] := by
    match s, h2 with
    | [x, y], _ => exact ⟨x, y, rfl⟩
   exact zam h hs hI
  ·by_cases h3 : s.length = 3
   ·obtain ⟨x, y, z, rfl⟩ : ∃ x y z, s = [x, y, z] := by
     match s, h3 with
     | [x, y, z], _ => exact ⟨x, y, z, rfl⟩
    exact yrf h hs hI
   ·exact yvw h.good ⟨h1, h2, h3⟩ hl
theorem ykt {F G : Nat -> Prop} {w : World} {p : Nat} {L : List PE} {v : Value} {s : List Int} {k : Nat} (hp : place L s = some k) (h : TabAt F w p L) (hs : RdI G w v s) :
  Calls Tryz.prog 181 #[.pointer (some ⟨p, 0, none⟩), v] w fun e w' => e = .returned (.tuple #[.int .i64 (k : Nat), .bool true]) /\ Below w.heap.size w w' := by
 obtain ⟨e, h1, h2⟩ := ybr hp; have hq := h.good.seq e (List.mem_of_getElem? h1); rw [h2] at hq; refine (yph h hs (sg_i64 hq.2.2) (by omega)).mono fun e w' hf => ?_
 obtain ⟨⟨i, b, rfl, hy, hn⟩, n, rfl⟩ := hf; obtain ⟨rfl, rfl⟩ := hy k hp; exact ⟨rfl, yac w n⟩
theorem yku {F G : Nat -> Prop} {w : World} {p : Nat} {L : List PE} {v : Value} {s : List Int} (hp : place L s = none) (h : TabAt F w p L) (hs : RdI G w v s) (hI : I64 s) (hl : s.length <= 1000000000000000) :
  Calls Tryz.prog 181 #[.pointer (some ⟨p, 0, none⟩), v] w fun e w' => (∃ i : Int, e = .returned (.tuple #[.int .i64 i, .bool false])) /\ Below w.heap.size w w' := by
 refine (yph h hs hI hl).mono fun e w' hf => ?_
 obtain ⟨⟨i, b, rfl, hy, hn⟩, n, rfl⟩ := hf; rw [hn hp]; exact ⟨⟨i, rfl⟩, yac w n⟩
end Go.Proofs.YteibnfeokgibmaaGreat
namespace Go.Proofs.YteibnfeokgibmaaGreat
open Go.RowKit
theorem RdI.take {G : Nat -> Prop} {w : World} {A : Option Addr} {m c : Nat} {l : List Int} (h : RdI G w (.slice A m c) l) {n : Nat} (hn : n <= l.length) : RdI G w (.slice A n c) (l.take n) := by
 have hm : m = l.length := (RdF.cap h).2
 subst hm
 have := RdF.take h hn n
 unfold RdI; rw [List.length_take, Nat.min_eq_left hn, show iv (l.take n) = (iv l).take n by simp [iv, T2.iv, List.map_take]]
 exact this
theorem RdI.drop {G : Nat -> Prop} {w : World} {A A2 : Option Addr} {m c u : Nat} {l : List Int} (h : RdI G w (.slice A m c) l) (hu : u <= l.length) (hA : ∀ ad : Addr, A = some ad -> (if c = u then some ad else some (ad.add u)) = A2) : RdI G w (.slice A2 (l.length - u) (c - u)) (l.drop u) := by
 have hm : m = l.length := (RdF.cap h).2
 subst hm
 have := RdF.drop h hu hA
 unfold RdI; rw [List.length_drop, show iv (l.drop u) = (iv l).drop u by simp [iv, T2.iv, List.map_drop]]
 exact this
theorem ype {l : List Int} (h : I64 l) (n : Nat) : I64 (l.take n) := fun x hx => h x (List.mem_of_mem_take hx)
def FirstIs (L : List PE) (ss : List Int) (w : World) (e : Ending) (w' : World) : Prop := (∃ A c, e = .returned (.tuple #[.slice A (atP L ss).1.length c, .int .i64 ((atP L ss).2 : Nat)]) /\ RdE anyB w' (.slice A (atP L ss).1.length c) (atP L ss).1) /\ Below w.heap.size w w'
theorem atF_hit {L : List PE} {ss : List Int} {n k : Nat} {e : PE} (hp : place L (ss.take (n + 1)) = some k) (he : L[k]? = some e) : atF L ss (n + 1) = (e.2, n + 1) := by
 rw [atF, ydd hp he]
theorem atF_miss {L : List PE} {ss : List Int} {n : Nat} (hp : place L (ss.take (n + 1)) = none) : atF L ss (n + 1) = atF L ss n := by
 rw [atF, ydx hp]
theorem yij {F G : Nat -> Prop} {w : World} {p : Nat} {L : List PE} {v : Value} {ss : List Int} (h : TabAt F w p L) (hs : RdI G w v ss) (h0 : 0 < ss.length) (hI : I64 ss) (hl : ss.length <= 1000000) :
  Calls Tryz.prog 189 #[.pointer (some ⟨p, 0, none⟩), v] w (FirstIs L ss w) := by
 obtain ⟨A, c, rfl⟩ := hs.form; obtain ⟨A1, c1, bo, b2, b3, d0, -, -, -, hr, -, -, -⟩ := h.cells; obtain ⟨g, o, e0, c2⟩ := hs.at (hd_at h0); simp only [Nat.add_zero] at c2; have hcap := (RdF.cap hs).1; obtain ⟨R, hR⟩ : ∃ R, atP L ss = R := ⟨_, rfl⟩; obtain ⟨l, u⟩ := R; unfold FirstIs; rw [hR]
 have hR' : atF L ss (min 3 ss.length) = (l, u) := hR
 have HR := zH hR'; have HT := zH h; have HS := zH hs; have HE := zH hr; have HI := zH hI
 have hlI : (ss.length : Int) <= 1000000 := by omega
 have h0I : (0 : Int) < (ss.length : Int) := by omega
 obtain ⟨n, hn⟩ : ∃ n, min 3 ss.length = n := ⟨_, rfl⟩
 have hn3 : n <= 3 := by omega
 have hnl : n <= ss.length := by omega
 have HMIN : Hid (min 3 (ss.length : Int) = (n : Int)) := by show _ = _; omega
 rw [hn] at HR; have HC2 := zH c2; have HD0 := zH d0; have HEA := zH e0; clear h hs hr hI hR hR' c2 d0 e0; clear hn
 go_enter Tryz.func189, Tryz.ntmps189
 go_wp2
 go_loopw [6] (fun i wr => ∃ m : Nat, m <= ss.length /\ m <= 3 /\ i = .int .i64 (m : Nat) /\ Hid (atF L ss m = (l, u)) /\ Hid (Below w.heap.size w wr)) (fun i _ => (intOf i).toNat)
 case atStart => exact ⟨n, hnl, hn3, by rw [HMIN.out], HR.out, zR _ _⟩
 case round =>
  clear HR HMIN hnl hn3; obtain ⟨m, hm, hm3, rfl, HF, HB⟩ := hrel
  cases m with
  | zero =>
   have hf := HF.out; unfold atF at hf
   have h1 : impl (hd ss) = l := congrArg Prod.fst hf
   have h2 : 1 = u := congrArg Prod.snd hf
   subst h2; have HL := zH h1; have c3 := HEA.out; subst c3
   have c4 : RdI G wr (.slice (some ⟨g, o, none⟩) ss.length c) ss := RdF.below HS.out HB.out (zN _)
   obtain ⟨g', o', e', c5⟩ := c4.at (hd_at h0)
   cases e'
   simp only [Nat.add_zero] at c5; have HIM := zH (fun w => zab (hd ss) w)
   rw [h1] at HIM; clear hf h1 c4 HF
   go_wp2_with (go_at_call 218; refine (HIM.out _).mono ?_; rintro e w1 ⟨vl, rfl, ho, hb⟩; obtain ⟨A9, c9, rfl⟩ := ho.form; have HO := zH ho; have HB2 := zH (HB.out.trans (hb.mono HB.out.size)); clear ho hb)
   go_ret2
   exact ⟨⟨_, _, rfl, HO.out.rd fun _ _ => trivial⟩, HB2.out⟩
  | succ m =>
   have hmI : ((m + 1 : Nat) : Int) <= (ss.length : Int) := by omega
   have hmJ : (0 : Int) < ((m + 1 : Nat) : Int) := by omega
   have HW := zH (HT.out.below HB.out (zN _)); have HSk := zH ((HS.out.below HB.out (zN _)).take hm)
   have hcI : ((m + 1 : Nat) : Int) <= (c : Int) := by omega
   cases hp : place L (ss.take (m + 1)) with
   | none =>
    have HF2 : Hid (atF L ss m = (l, u)) := by show _ = _; rw [<- atF_miss hp]; exact HF.out
    have HC := zH (yku hp HW.out HSk.out (ype HI.out _) (by rw [List.length_take]; omega))
    clear hp
    go_wp2_with (go_at_call 181; refine (HC.out).mono ?_; rintro e w1 ⟨⟨i, rfl⟩, hb⟩; have HB2 := zH (HB.out.trans (hb.mono HB.out.size)); clear hb)
    go_roundw
    case rel => exact ⟨m, by omega, by omega, by go_num, HF2.out, HB2.out⟩
    case measure => simp [intOf]
   | some k =>
    obtain ⟨e, he, hes⟩ := ybr hp; have hf := HF.out; rw [atF_hit hp he] at hf
    have h1 : e.2 = l := congrArg Prod.fst hf
    have h2 : m + 1 = u := congrArg Prod.snd hf
    subst h2; have HC := zH (ykt hp HW.out HSk.out); have hkL := yke hp
    have hkI : (k : Int) < (L.length : Int) := by omega
    obtain ⟨g1, o1, vs, vl, rfl, -, c3, -, hrl⟩ := (HE.out.below HB.out (zN _)).at he; rw [h1] at hrl; obtain ⟨A8, c8, rfl⟩ := hrl.form; have d1 := (HB.out.cell (p := ⟨p, 0, none⟩) (yaj HD0.out)).trans HD0.out
    have HX : Hid (∀ W, Below wr.heap.size wr W -> W.cell? ⟨p, 0, none⟩ = some (.slice (some ⟨g1, o1, none⟩) L.length c1) /\ W.cell? ⟨g1, o1 + k * 2 + 1, none⟩ = some (.slice A8 l.length c8) /\ RdE F W (.slice A8 l.length c8) l) := fun W hb =>
     ⟨(hb.cell (p := ⟨p, 0, none⟩) (yaj d1)).trans d1, (hb.cell (p := ⟨g1, o1 + k * 2 + 1, none⟩) (yaj c3)).trans c3, hrl.below hb (zN _)⟩
    clear hf h1 he hes hp c3 hrl d1 hkL
    go_wp2_with (go_at_call 181; refine (HC.out).mono ?_; rintro e w1 ⟨rfl, hb⟩; have HB2 := zH (HB.out.trans (hb.mono HB.out.size)); obtain ⟨x1, x2, x3⟩ := HX.out w1 hb; have HX3 := zH x3; clear hb x3)
    go_ret2
    exact ⟨⟨_, _, rfl, HX3.out.any⟩, HB2.out⟩
theorem ydu {w : World} (base : Nat) (t ty e : TypeId) (i : TypeInfo) (size c : Nat) (ht : Tryz.prog.underlying t = some (.slice e)) (hi : Tryz.prog.info? e = some i)
  (v : Value) (n : Nat) (xs : List Value) (hown : w.ownsRow base e size v n xs) :
  (Builtin.append_ #[t, t] ty #[v, .slice none 0 c]).run Tryz.prog w = .ok v w := by
 rcases hown.2 with ⟨rfl, rfl⟩ | ⟨g, cap, cur, rfl, _, _, hnc, _⟩
 ·simp [Builtin.append_, run_underlying ht, sizeOf, typeInfo, hi, Builtin.lenOf, Builtin.firstCells]
 ·simp [Builtin.append_, run_underlying ht, sizeOf, typeInfo, hi, Builtin.lenOf, Builtin.firstCells, hnc, storeCells]
theorem yde : (Tryz.prog.info? 168).map (fun i => (i.zero, i.size, i.bytes)) = some (some (.int .u32 0), 1, 4) := by kernel_rfl
theorem appendE {ops : Array Oper} {rest : List Oper} {o : Oper} {a : Act} {Q : Exit -> Act -> World -> Prop} (hgd : o.guard = none) (s x : Operand)
  (ho : o.op = .call { callee := .builtin .append, args := #[s, x], argTypes := #[86, 86] })
  (w : World) (B : Nat) (v : Value) (l m : List Nat) {A : Option Addr} {C : Nat} {F : Nat -> Prop} (hs : a.eval s = v) (hown : OwnE B w v l) (hx : a.eval x = .slice A m.length C)
  (hsrc : RdE F w (.slice A m.length C) m) (hB : B <= w.heap.size) (hl : l.length + m.length <= 100000000)
  (h : ∀ v' w', OwnE B w' v' (l ++ m) -> Below B w w' -> wpList Tryz.prog ops Q rest (a.put o.dst v') w') : wpList Tryz.prog ops Q (o :: rest) a w := by
 obtain ⟨i0, hi0, hz0, hz1, hz2⟩ := info_parts yde
 cases A with
 | none =>
  have hm : m = [] := by
   rcases Nat.eq_zero_or_pos m.length with h0 | h0
   ·exact List.eq_nil_of_length_eq_zero h0
   ·obtain ⟨g, o, e, _⟩ := RdF.base hsrc h0
    cases e
  subst hm; refine wpList_plain hgd fun K hK => ?_
  have hrun := ydu (w := w) B 86 o.type 168 i0 1 C Tryz.underlying86 hi0 v l.length (ev l) hown
  have hx' : a.eval x = .slice none 0 C := hx
  unfold Oper.wp
  simp [execOp, ho, resolve, invoke, builtin, hs, hx', hrun, Result.andThen]
  exact hK _ _ (h v w (by rw [List.append_nil]; exact hown) (zR _ _))
 | some ad =>
  refine wpList_append_own_at _ hgd s x _ ho B 168 i0 _ 1 4 Tryz.underlying86 hi0 hz0 hz1 hz2 rfl (by omega) v l.length (ev l) hs hown ad m.length C (ev m) hx (by rw [ev_len]; omega)
   ?_ (ev_one m) (by simp only [maxLen]; omega) (by omega) hB ?_
  ·intro j u hu
   have h0 : 0 < m.length := by
    have := (List.getElem?_eq_some_iff.1 hu).1
    rw [ev_len] at this; omega
   obtain ⟨g, o, e, _, hc⟩ := RdF.base hsrc h0
   cases e
   rw [Addr.add_lit]; exact hc j u hu
  ·intro v' w' h2 h3 _ _; refine h v' w' ?_ ((zR B w).grown h3 hB (fun k hk => (World.ownsRow.lt hown k hk).1))
   unfold OwnE; rw [ev_app, List.length_append]; exact h2
theorem all_drop {l : List Int} {q : Int -> Bool} (h : l.all q = true) (n : Nat) : (l.drop n).all q = true := by
 rw [List.all_eq_true] at h |-; exact fun x hx => h x (List.mem_of_mem_drop hx)
theorem ownI_lt {B : Nat} {w : World} {v : Value} {l : List Int} (h : T2.OwnI B w v l) : RdI (fun g => g < w.heap.size) w v l := by
 obtain ⟨A, c, rfl, hc, hr⟩ := R4.yai h; refine ⟨A, c, rfl, hc, fun hn => ?_⟩
 obtain ⟨g, e, h1, h2, h3⟩ := hr hn; exact ⟨g, 0, e, h2, fun j u hu => by rw [Nat.zero_add]; exact h3 j u hu⟩
theorem RdI.keep {B : Nat} {w w' : World} {v : Value} {l : List Int} (h : RdI (fun g => g < B) w v l) (hb : Below B w w') : RdI (fun g => g < B) w' v l := RdF.frame h fun g hg _ => hb.block g hg
theorem I64.drop {l : List Int} (h : I64 l) (n : Nat) : I64 (l.drop n) := fun x hx => h x (List.mem_of_mem_drop hx)
theorem ypg {L : List PE} {ss : List Int} {l : List Nat} {u : Nat} (hr : atP L ss = (l, u)) {F G : Nat -> Prop} {w : World} {p : Nat} {v : Value} (h : TabAt F w p L) (hs : RdI G w v ss) (h0 : 0 < ss.length) (hI : I64 ss) (hl : ss.length <= 1000000) :
  Calls Tryz.prog 189 #[.pointer (some ⟨p, 0, none⟩), v] w fun e w' => (∃ A c, e = .returned (.tuple #[.slice A l.length c, .int .i64 (u : Nat)]) /\ RdE anyB w' (.slice A l.length c) l) /\ Below w.heap.size w w' := by
 have := yij h hs h0 hI hl
 unfold FirstIs at this; rw [hr] at this; exact this
set_option maxHeartbeats 1000000 in
theorem ymb {F : Nat -> Prop} {w : World} {p : Nat} {L : List PE} (h : TabAt F w p L) (b : ByteArray) (hb : b.size <= 100000) :
  Calls Tryz.prog 151 #[.pointer (some ⟨p, 0, none⟩), .string b] w (GotE w.heap.size w (elsP L (T2.sgs b.data.toList))) := by
 have HS := zH (T2.yhm b w (by omega))
 have hsg := T2.sgs_sg b.data.toList; have hln := T2.yeo b.data.toList; have hbl := T2.ba_len b; obtain ⟨ss, hss⟩ : ∃ ss, T2.sgs b.data.toList = ss := ⟨_, rfl⟩; rw [hss] at HS hsg hln |-
 have hsl : ss.length <= 100000 := by omega
 have HT := zH h; have HG := zH hsg; clear h hsg hln hbl hss hb
 go_enter Tryz.func151, Tryz.ntmps151
 go_wp2_with (go_at_call 188; refine (HS.out).mono ?_; rintro e w1 ⟨v1, rfl, ho, hb⟩; obtain ⟨A0, c0, rfl⟩ := (ybi (F := anyB) ho (fun _ _ => trivial)).form; have HRS := zH (ownI_lt ho); have HB1 := zH hb; clear ho hb)
 clear HS
 go_loopw [5, 6] (fun u v wr => ∃ (rest : List Int) (acc : List Nat) (A : Option Addr) (c : Nat), v = .slice A rest.length c /\ Hid (RdI (fun g => g < w1.heap.size) wr (.slice A rest.length c) rest) /\ Hid (rest.all T2.isSg = true) /\ Hid (OwnE w1.heap.size wr u acc) /\ Hid (acc ++ elsP L rest = elsP L ss) /\ acc.length + 8 * rest.length <= 8 * ss.length /\ Hid (Below w1.heap.size w1 wr)) (fun _ v _ => match v with | .slice _ n _ => n | _ => 0)
 case atStart => exact ⟨ss, [], A0, c0, rfl, HRS.out, HG.out, World.ownsRow_nil _ _ _ _, rfl, by simp, zR _ _⟩
 case round =>
  clear HRS HG; obtain ⟨rest, acc, A, c, rfl, HR, HG, HO, HE, hlen, HB⟩ := hrel; have HW := zH (HB1.out.trans (HB.out.mono HB1.out.size))
  by_cases h0 : 0 < rest.length
  ·have HTw := zH (HT.out.below HW.out (zN _)); obtain ⟨R, hR⟩ : ∃ R, atP L rest = R := ⟨_, rfl⟩; obtain ⟨l, u⟩ := R; have hu := yel L h0; have hg := yfq HT.out.good rest; have hst := ycc L h0; rw [hR] at hu hg hst
   simp only at hu hg hst
   have HC := zH (ypg hR HTw.out HR.out h0 (sg_i64 HG.out) (by omega))
   have HE2 : Hid ((acc ++ l) ++ elsP L (rest.drop u) = elsP L ss) := by show _ = _; rw [List.append_assoc, <- hst]; exact HE.out
   have hcap := (RdF.cap HR.out).1; obtain ⟨g, o, rfl, -⟩ := RdF.base HR.out h0; obtain ⟨A2, hA2⟩ : ∃ A2, (if c = u then some (⟨g, o, none⟩ : Addr) else some ⟨g, o + u, none⟩) = A2 := ⟨_, rfl⟩
   have HR2 : Hid (RdI (fun g => g < w1.heap.size) wr (.slice A2 (rest.length - u) (c - u)) (rest.drop u)) := RdI.drop HR.out hu.2.1 (fun ad e => by cases e; rw [Addr.add_lit]; exact hA2)
   have HG2 := zH (all_drop HG.out u)
   have HLD : Hid ((rest.drop u).length = rest.length - u) := List.length_drop
   have u1 : (1 : Int) <= (u : Int) := by omega
   have u2 : (u : Int) <= (rest.length : Int) := by omega
   have u3 : (rest.length : Int) <= (c : Int) := by omega
   have u4 : (0 : Int) < (rest.length : Int) := by omega
   have hll : l.length <= 8 := hg.1
   have hu2 := hu.2.1; have hu1 := hu.1
   have HLL : Hid (acc.length + l.length <= 100000000) := by show _ <= _; omega
   clear hR hu hg hst hcap
   go_wp2_with (first
    | (go_at_call 189; refine (HC.out).mono ?_; rintro e w2 ⟨⟨A3, c3, rfl, hr⟩, hb⟩; have HRL := zH hr; have HB2 := zH hb; have HO2 := zH (HO.out.below hb (zN _)); have HW2 := zH (HB.out.trans (hb.mono HB.out.size)); clear hr hb)
    | (at_builtin; refine appendE rfl (.tmp 20) (.tmp 21) rfl _ w1.heap.size _ acc l rfl HO2.out rfl HRL.out HW2.out.size HLL.out ?_; intro v4 w4 h4 hb4; have HO4 := zH h4; have HW4 := zH (HW2.out.trans hb4); have HR4 := zH (HR2.out.keep ((HB2.out.mono HB.out.size).trans hb4)); clear h4 hb4))
   go_roundw
   case rel => exact ⟨rest.drop u, acc ++ l, A2, c - u, by rw [HLD.out], by rw [HLD.out]; exact HR4.out, HG2.out, HO4.out, HE2.out, by rw [HLD.out, List.length_append]; omega, HW4.out⟩
   case measure => simp; omega
  ·have hr0 : rest = [] := List.eq_nil_of_length_eq_zero (by omega)
   subst hr0
   have HEE : Hid (acc = elsP L ss) := by have := HE.out; rw [ycu, List.append_nil] at this; exact this
   clear h0 HE
   go_wp2
   go_ret
   exact ⟨_, rfl, by rw [<- HEE.out]; exact R4.yau HO.out HB1.out.size, HW.out⟩
theorem ymx {M M' : List ME} (hp : M.Perm M') (e : pls M = rawP) (hs : SortedM M') : pls M' = rootP := by
 have h1 : (pls M').Perm rootP := ((hp.symm.map ME.pl).trans (by unfold pls at e; rw [e])).trans root_perm
 refine yxn h1 ?_ root_srt
 have h2 : (pls M').Pairwise fun a b => a.1 ≠ b.1 := (List.Perm.pairwise_iff (R := fun a b : PE => a.1 ≠ b.1) (fun {x y} h => h.symm) h1).2 (root_srt.imp fun {a b} h => ord_ne h)
 have h3 : (pls M').Pairwise fun a b => ¬ ord b.1 a.1 < 0 := by
  unfold pls; rw [List.pairwise_map]; exact hs
 exact (h2.and h3).imp fun {a b} h => ynk h.2 (fun c => h.1 c.symm)
def RootIs (w : World) (e : Ending) (w' : World) : Prop := ∃ p, e = .returned (.pointer (some ⟨p, 0, none⟩)) /\ TabAt (fun k => w.heap.size <= k) w' p rootP /\ Below w.heap.size w w'
theorem yxo {w w1 : World} {e : Ending} (h : RawIs w e w1) : ∃ A n c, e = .returned (.slice A n c) /\ Calls Tryz.prog 39 #[.slice A n c, .func (.func 40) #[] #[]] w1 fun e w' => e = .returned (.tuple #[]) /\ RdT (fun k => w.heap.size <= k) w' (.slice A n c) rootP /\ Below w.heap.size w w' := by
 obtain ⟨v, M, B, rfl, e, ho, hM, h1, h2, hb⟩ := h; obtain ⟨A, c, rfl⟩ := ho.form; refine ⟨A, M.length, c, rfl, ?_⟩
 have hl : M.length = 132 := by rw [<- yap, e]; exact ytv
 have hmem : ∀ m ∈ M, EntOk (fun g => g < B) w1 m /\ 1 <= m.s.length /\ m.s.length <= 3 := fun m hm => by
  refine ⟨(hM m hm).mono fun k hk => hk.2, ?_⟩
  have h3 : m.pl ∈ rawP := by rw [<- e]; exact List.mem_map.2 ⟨m, hm, rfl⟩
  have h4 := root_good.seq m.pl ((root_perm.mem_iff).1 h3); exact ⟨h4.1, h4.2.1⟩
 refine (yjw ho (by omega) (by omega) h2 hmem).mono fun e' w' => ?_
 rintro ⟨he, M', hp, hs, hr, hb2⟩; refine ⟨he, ⟨M', ymx hp e hs, ?_⟩, hb.trans (hb2.mono h1)⟩; refine ⟨?_, fun m hm => ?_⟩
 ·exact hr
 ·have hk := hM m ((hp.mem_iff).2 hm); exact (hk.frame fun g hg hlt => hb2.block g hg.2).mono fun k hk => hk.1
theorem ykb (w : World) : Calls Tryz.prog 25 #[] w (RootIs w) := by
 go_enter Tryz.func25, Tryz.ntmps25
 go_wp2_with (first
  | (go_at_call 38; refine (yhq _).mono ?_; rintro e w1 h; obtain ⟨A, n, c, rfl, hs⟩ := yxo h; have HS := zH hs; clear h hs)
  | (go_at_call 39; refine (HS.out).mono ?_; rintro e w2 ⟨rfl, hr, hb⟩; have HR := zH hr; have HB := zH hb; clear hr hb)
  | (go_at_call 41; refine (yfp HR.out root_good).mono ?_; rintro e w3 ⟨p, rfl, ht, hb⟩; have HT := zH ht; have HB3 := zH (HB.out.trans (hb.mono HB.out.size)); clear ht hb))
 go_ret
 exact ⟨p, rfl, HT.out, HB3.out⟩
end Go.Proofs.YteibnfeokgibmaaGreat
