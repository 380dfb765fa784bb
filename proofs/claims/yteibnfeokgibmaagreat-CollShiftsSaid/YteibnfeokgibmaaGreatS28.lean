/-
  PACKED for a claim.
-/
import Derived.Laws.Cover3
import Derived.Test.YteibnfeokgibmaaGreatS27
set_option linter.unusedVariables false
set_option linter.unusedSimpArgs false
set_option maxRecDepth 100000
namespace Go.Proofs.YteibnfeokgibmaaGreat
open Go.RowKit
theorem ypr {L : List PE} {k : Nat} {e : PE} (h : L[k]? = some e) : L.take (k + 1) = L.take k ++ [e] := by rw [List.take_add_one, h]; rfl
theorem ytm {L : List PE} {k : Nat} (h : k <= L.length) : (L.take k).length = k := by rw [List.length_take]; omega
theorem yod {L : List PE} (hs : Srt L) {k : Nat} {e : PE} (h : L[k]? = some e) : place (L.take k) e.1 = none := by
 refine ycl.2 fun f hf => ?_
 obtain ⟨i, hi, he⟩ := List.getElem_of_mem hf; rw [List.getElem_take] at he; rw [List.length_take] at hi; have hk := (List.getElem?_eq_some_iff.1 h).1
 have := List.pairwise_iff_getElem.1 hs i k (by omega) hk (by omega)
 rw [he] at this
 have h2 : L[k] = e := (List.getElem?_eq_some_iff.1 h).2
 rw [h2] at this; exact ord_ne this
theorem sg_i64 {s : List Int} (h : s.all T2.isSg = true) : I64 s := fun x hx => by
 have := yea (List.all_eq_true.1 h x hx)
 omega
theorem yag {w : World} {p : Addr} {u : Value} (h : w.cell? p = some u) (o : Obj) : (w.alloc o).cell? p = some u := by
 rw [World.cell?_of_block (w := w) (Below.heap_alloc _ _ _ (yaq h))]; exact h
theorem ypq {w : World} {v : Value} {L : List PE} (hg : GoodT L) (h : R4.RdP w.heap.size w v (ones 0 L)) :
  Calls Tryz.prog 77 #[v] w fun e w' => (∃ p, e = .returned (.tuple #[.pointer (some ⟨p, 0, none⟩), .int .i64 0]) /\ R4.TrieAt w' p (R4.rowsF 17412 (R4.findP (ones 0 L)))) /\ Below w.heap.size w w' := by
 have hl := ymp 0 L; have hl2 := hg.len; refine (R4.yhg h (by omega) (yqx hg)).mono fun e w' hp => ?_
 obtain ⟨hb, h1 | h1 | h1⟩ := hp
 ·exact absurd (yva hg) h1.1
 ·exact absurd (yqy hg.srt 0) h1.2.1
 ·obtain ⟨_, _, p, he, ht⟩ := h1; exact ⟨⟨p, he, ht⟩, hb⟩
def BuildIs (F : Nat -> Prop) (w : World) (L : List PE) (e : Ending) (w' : World) : Prop := ∃ p, e = .returned (.pointer (some ⟨p, 0, none⟩)) /\ TabAt F w' p L /\ Below w.heap.size w w'
attribute [local go_sem ↓] Go.wp_at_zero Go.wp_at_succ
set_option maxHeartbeats 4000000 in
set_option maxRecDepth 200000 in
theorem yhg {F : Nat -> Prop} {w : World} {v : Value} {L : List PE} (h : RdT F w v L) (hg : GoodT L) :
  Calls Tryz.prog 41 #[v] w (BuildIs F w L) := by
 obtain ⟨A, c, rfl⟩ := h.form; have HR := zH h; have HG := zH hg; have HS := zH (BuildSt.start w A L.length c); have hmm := @run_makeMap Tryz.prog
 have hlen : (L.length : Int) <= 500 := by have := hg.len; omega
 clear h hg
 go_enter Tryz.func41, Tryz.ntmps41
 go_wp2
 clear hmm; obtain ⟨bt, hbt⟩ : ∃ b, w.heap.size + 1 + 1 = b := ⟨_, rfl⟩; rw [hbt]
 have HBT : Hid (w.heap.size + 2 = bt) := by show _ = _; omega
 clear hbt
 go_loopw [4, 14] (fun u i wr => ∃ k : Nat, k <= L.length /\ i = .int .i64 (k : Nat) /\ Hid (BuildSt w (.slice A L.length c) u (L.take k) wr)) (fun _ i _ => L.length - (intOf i).toNat)
 case atStart => exact ⟨0, Nat.zero_le _, rfl, HS.out⟩
 case round =>
  clear HS; obtain ⟨k, hk, rfl, HB⟩ := hrel
  by_cases hlt : k < L.length
  ·obtain ⟨e, he⟩ : ∃ e, L[k]? = some e := ⟨_, List.getElem?_eq_getElem hlt⟩; obtain ⟨g, o, vs, vl, rfl, c0, c1, hrs, hrl⟩ := (HR.out.below HB.out.bel (zN _)).at he; obtain ⟨A1, d1, rfl⟩ := hrs.form; obtain ⟨A2, d2, rfl⟩ := hrl.form
   have hkI : (k : Int) < (L.length : Int) := by omega
   have hgood := HG.out.seq e (List.mem_of_getElem? he); have HTK := zH (ypr he); have HPL := zH (yod HG.out.srt he); have HTL := zH (ytm hk); have HI := zH (sg_i64 hgood.2.2); obtain ⟨n, hn⟩ : ∃ n, e.1.length = n := ⟨_, rfl⟩
   have hn1 : 1 <= n := by omega
   have hn3 : n <= 3 := by omega
   have HN := zH hn; have HRS := zH hrs; rw [hn] at c0; have HB1 := zH (HB.out.more ((zR _ wr).alloc (zN _) (.cells #[.slice A1 n d1, .slice A2 e.2.length d2] 88))); clear hn he hgood hrs hrl hlt
   by_cases n1 : n = 1
   ·subst n1; obtain ⟨x, hx⟩ : ∃ x, hd e.1 = x := ⟨_, rfl⟩; obtain ⟨g1, o1, rfl, c2⟩ := HRS.out.at (hd_at (by have := HN.out; omega))
    rw [hx] at c2; simp only [Nat.add_zero] at c2; have c3 := yag c2 (.cells #[.slice (some ⟨g1, o1, none⟩) 1 d1, .slice A2 e.2.length d2] 88); have HX := zH hx
    have HY : Hid (((L.take k).length : Int) + 1 = (k : Int) + 1) := by show _ = _; rw [HTL.out]
    have HL : Hid ((L.take k).length <= 1000) := by show _ <= _; rw [HTL.out]; omega
    clear hx c2
    go_wp2_with (at_builtin; refine HB1.out.push HN.out HX.out HY.out HL.out rfl (.tmp 24) (.tmp 32) rfl 1 (b := wr.heap.size + 1) (by simp) rfl rfl ?_; intro v2 w2 h2; have H2 := zH h2; clear h2)
    go_roundw
    case rel => exact ⟨k + 1, by omega, by go_num, by rw [HTK.out]; exact H2.out⟩
    case measure => simp [intOf]; omega
   ·by_cases n2 : n = 2
    ·subst n2
     obtain ⟨x, y, hxy⟩ : ∃ x y, e.1 = [x, y] := by
      have := HN.out
      match h : e.1, this with
      | [x, y], _ => exact ⟨x, y, rfl⟩
     obtain ⟨g1, o1, rfl, c2⟩ := HRS.out.at (k := 0) (x := x) (by rw [hxy]; rfl)
     obtain ⟨g1', o1', e1, c3⟩ := HRS.out.at (k := 1) (x := y) (by rw [hxy]; rfl)
     cases e1
     simp only [Nat.add_zero] at c2; obtain ⟨w5, hrun, hm5, hg5⟩ := (KMap.store kt2 (HB1.out.more ((zR _ _).drew)).m2 (e := e) HN.out HI.out HPL.out (by rw [HTL.out]; omega))
     have hav : aval e.1 = .agg #[.int .i64 x, .int .i64 y] := by rw [hxy]; rfl
     rw [hav, HTL.out] at hrun
     have hat : ∀ W, (Instr.arrayAt 126 (.slice (some ⟨g1, o1, none⟩) 2 d1)).run Tryz.prog W = .ok (.pointer (some ⟨g1, o1, none⟩)) W := fun W => run_arrayAt W 126 _ 2 _ 2 d1 Tryz.underlying126 (zN _)
     have HS2 := zH ((HB1.out.more ((zR _ _).drew)).map2 HN.out hg5 hm5); have c4 := yag c2 (.cells #[.slice (some ⟨g1, o1, none⟩) 2 d1, .slice A2 e.2.length d2] 88); have c5 := yag c3 (.cells #[.slice (some ⟨g1, o1, none⟩) 2 d1, .slice A2 e.2.length d2] 88)
     have c6 : (wr.alloc (.cells #[.slice (some ⟨g1, o1, none⟩) 2 d1, .slice A2 e.2.length d2] 88)).cell? ⟨wr.heap.size, 0, none⟩ = some (.slice (some ⟨g1, o1, none⟩) 2 d1) := by rw [World.cell?_alloc_mark]; rfl
     have c7 : (wr.alloc (.cells #[.slice (some ⟨g1, o1, none⟩) 2 d1, .slice A2 e.2.length d2] 88)).cell? ⟨bt, 2, none⟩ = some (.map (some w.heap.size)) := by rw [<- HBT.out, cell_of_row _ _ 2 _ _ _ HB1.out.tab]; rfl
     have HK5 : Hid (w5.cell? ⟨bt, 2, none⟩ = some (.map (some w.heap.size)) /\ w5.cell? ⟨wr.heap.size, 0, none⟩ = some (.slice (some ⟨g1, o1, none⟩) 2 d1) /\ w5.cell? ⟨g1, o1, none⟩ = some (.int .i64 x) /\ w5.cell? ⟨g1, o1 + 1, none⟩ = some (.int .i64 y)) := by
      obtain ⟨es, cc, hmap⟩ := HB1.out.m2.isMap
      have off : ∀ {b o : Nat} {u : Value}, (wr.alloc (.cells #[.slice (some ⟨g1, o1, none⟩) 2 d1, .slice A2 e.2.length d2] 88)).cell? ⟨b, o, none⟩ = some u -> w5.cell? ⟨b, o, none⟩ = some u := fun {b o u} hc => by
       refine hg5.cell (a := ⟨b, o, none⟩) hc ?_; intro e0
       injection e0 with e0
       simp only at e0
       subst e0; unfold World.cell? at hc; simp only [hmap] at hc
       cases hc
      exact ⟨off c7, off c6, off c4, off c5⟩
     clear hxy c2 c3 hm5 hg5 hav
     go_wp2
     go_region_held3 (fun w' => w'.cell? ⟨bt, 2, none⟩ = some (.map (some w.heap.size)) /\ w'.cell? ⟨wr.heap.size, 0, none⟩ = some (.slice (some ⟨g1, o1, none⟩) 2 d1) /\ w'.cell? ⟨g1, o1, none⟩ = some (.int .i64 x) /\ w'.cell? ⟨g1, o1 + 1, none⟩ = some (.int .i64 y))
      (first
       | exact ⟨c7, c6, c4, c5⟩
       | exact HK5.out)
      (fail)
     go_wp2
     go_roundw
     case rel => exact ⟨k + 1, by omega, by go_num, by rw [HTK.out]; exact HS2.out⟩
     case measure => simp [intOf]; omega
    ·obtain rfl : n = 3 := by omega
     obtain ⟨x, y, z, hxy⟩ : ∃ x y z, e.1 = [x, y, z] := by
      have := HN.out
      match h : e.1, this with
      | [x, y, z], _ => exact ⟨x, y, z, rfl⟩
     obtain ⟨g1, o1, rfl, c2⟩ := HRS.out.at (k := 0) (x := x) (by rw [hxy]; rfl)
     obtain ⟨g1', o1', e1, c3⟩ := HRS.out.at (k := 1) (x := y) (by rw [hxy]; rfl)
     cases e1
     obtain ⟨g1', o1', e1, c8⟩ := HRS.out.at (k := 2) (x := z) (by rw [hxy]; rfl)
     cases e1
     simp only [Nat.add_zero] at c2; obtain ⟨w5, hrun, hm5, hg5⟩ := (KMap.store kt3 (HB1.out.more ((zR _ _).drew)).m3 (e := e) HN.out HI.out HPL.out (by rw [HTL.out]; omega))
     have hav : aval e.1 = .agg #[.int .i64 x, .int .i64 y, .int .i64 z] := by rw [hxy]; rfl
     rw [hav, HTL.out] at hrun
     have hat : ∀ W, (Instr.arrayAt 127 (.slice (some ⟨g1, o1, none⟩) 3 d1)).run Tryz.prog W = .ok (.pointer (some ⟨g1, o1, none⟩)) W := fun W => run_arrayAt W 127 _ 3 _ 3 d1 Tryz.underlying127 (zN _)
     have HS2 := zH ((HB1.out.more ((zR _ _).drew)).map3 HN.out hg5 hm5); have c4 := yag c2 (.cells #[.slice (some ⟨g1, o1, none⟩) 3 d1, .slice A2 e.2.length d2] 88); have c5 := yag c3 (.cells #[.slice (some ⟨g1, o1, none⟩) 3 d1, .slice A2 e.2.length d2] 88); have c9 := yag c8 (.cells #[.slice (some ⟨g1, o1, none⟩) 3 d1, .slice A2 e.2.length d2] 88)
     have c6 : (wr.alloc (.cells #[.slice (some ⟨g1, o1, none⟩) 3 d1, .slice A2 e.2.length d2] 88)).cell? ⟨wr.heap.size, 0, none⟩ = some (.slice (some ⟨g1, o1, none⟩) 3 d1) := by rw [World.cell?_alloc_mark]; rfl
     have c7 : (wr.alloc (.cells #[.slice (some ⟨g1, o1, none⟩) 3 d1, .slice A2 e.2.length d2] 88)).cell? ⟨bt, 3, none⟩ = some (.map (some (w.heap.size + 1))) := by rw [<- HBT.out, cell_of_row _ _ 3 _ _ _ HB1.out.tab]; rfl
     have HK5 : Hid (w5.cell? ⟨bt, 3, none⟩ = some (.map (some (w.heap.size + 1))) /\ w5.cell? ⟨wr.heap.size, 0, none⟩ = some (.slice (some ⟨g1, o1, none⟩) 3 d1) /\ w5.cell? ⟨g1, o1, none⟩ = some (.int .i64 x) /\ w5.cell? ⟨g1, o1 + 1, none⟩ = some (.int .i64 y) /\ w5.cell? ⟨g1, o1 + 2, none⟩ = some (.int .i64 z)) := by
      obtain ⟨es, cc, hmap⟩ := HB1.out.m3.isMap
      have off : ∀ {b o : Nat} {u : Value}, (wr.alloc (.cells #[.slice (some ⟨g1, o1, none⟩) 3 d1, .slice A2 e.2.length d2] 88)).cell? ⟨b, o, none⟩ = some u -> w5.cell? ⟨b, o, none⟩ = some u := fun {b o u} hc => by
       refine hg5.cell (a := ⟨b, o, none⟩) hc ?_; intro e0
       injection e0 with e0
       simp only at e0
       subst e0; unfold World.cell? at hc; simp only [hmap] at hc
       cases hc
      exact ⟨off c7, off c6, off c4, off c5, off c9⟩
     clear hxy c2 c3 c8 hm5 hg5 hav
     go_wp2
     go_region_held3 (fun w' => w'.cell? ⟨bt, 3, none⟩ = some (.map (some (w.heap.size + 1))) /\ w'.cell? ⟨wr.heap.size, 0, none⟩ = some (.slice (some ⟨g1, o1, none⟩) 3 d1) /\ w'.cell? ⟨g1, o1, none⟩ = some (.int .i64 x) /\ w'.cell? ⟨g1, o1 + 1, none⟩ = some (.int .i64 y) /\ w'.cell? ⟨g1, o1 + 2, none⟩ = some (.int .i64 z))
      (first
       | exact ⟨c7, c6, c4, c5, c9⟩
       | exact HK5.out)
      (fail)
     go_wp2
     go_roundw
     case rel => exact ⟨k + 1, by omega, by go_num, by rw [HTK.out]; exact HS2.out⟩
     case measure => simp [intOf]; omega
  ·obtain rfl : k = L.length := by omega
   rw [List.take_length] at HB; have HC := zH (ypq HG.out (R4.OwnP.rd HB.out.own)); clear hlt
   go_wp2_with (go_at_call 77; refine (HC.out).mono ?_; rintro e w6 ⟨⟨p, rfl, ht⟩, hb⟩; have HT := zH ht; have H6 := zH (HB.out.more hb); have d1 : w6.cell? ⟨bt, 1, none⟩ = some (.pointer none) := (by rw [<- HBT.out, cell_of_row _ _ 1 _ _ _ H6.out.tab]; rfl); have d2 : w6.frozen? ⟨bt, 1, none⟩ = false := (by rw [<- HBT.out]; exact frozen_of_row _ _ 1 _ _ H6.out.tab); clear ht hb)
   go_ret
   have hg6 := R4.yae w6 ⟨bt, 1, none⟩ (.pointer (some ⟨p, 0, none⟩)); have htab := H6.out.tab; rw [HBT.out] at htab
   have hbl : Below w.heap.size w (w6.setCell ⟨bt, 1, none⟩ (.pointer (some ⟨p, 0, none⟩))) := H6.out.bel.setCell (by show _ <= bt; have := HBT.out; omega) _
   refine ⟨bt, rfl, ⟨HG.out, _, p, w.heap.size, w.heap.size + 1, heap_setCell_same w6 bt 1 _ _ _ htab, HR.out.below hbl (zN _), yma HT.out hg6 htab (by decide) (by decide) (by decide), H6.out.m2.kept hg6 ?_, H6.out.m3.kept hg6 ?_⟩, hbl⟩
   iterate 2 (·intro e; injection e with e; have := HBT.out; simp only at e; omega)
end Go.Proofs.YteibnfeokgibmaaGreat
namespace Go.Proofs.YteibnfeokgibmaaGreat
open Go.RowKit
open R4 (signB ycy rowsF findP TrieAt)
theorem yab (w : World) (n : Nat) : Below w.heap.size w (w.drewN n) := ⟨rfl, rfl, rfl, zN _, fun _ _ => rfl⟩
theorem yuo {L : List PE} (h : GoodT L) {c : Int} {k : Nat} (hp : place L [c] = some k) : 0 <= c /\ c <= 1114367 := by
 obtain ⟨e, h1, h2⟩ := ybw hp
 have := (h.seq e (List.mem_of_getElem? h1)).2.2
 rw [h2] at this; exact yea (by simpa using this)
theorem yyo {w : World} {p : Nat} {L : List PE} (hg : GoodT L) (h : TrieAt w p (rowsF 17412 (findP (ones 0 L)))) {c y : Int} (hy : findP (ones 0 L) c = y) :
  Calls Tryz.prog 216 #[.pointer (some ⟨p, 0, none⟩), .int .i64 c] w fun e w' => e = .returned (.int .i64 y) /\ ∃ n, w' = w.drewN n := by
 cases hs : signB c with
 | true =>
  obtain ⟨h0, h1⟩ := (ycy c).1 hs; obtain ⟨n, rfl⟩ : ∃ n : Nat, (n : Int) = c := ⟨c.toNat, by omega⟩
  have := R4.get_in h n (by omega)
  rw [R4.ytd _ _ _ (by omega), hy] at this
  exact this
 | false =>
  have hz : y = 0 := by
   rw [<- hy, yhz]
   cases hp : place L [c] with
   | none => rfl
   | some k =>
    have h2 := (ycy c).2 (yuo hg hp); rw [hs] at h2; cases h2
  rw [hz]; exact R4.yyn hs w _
theorem get_q {w : World} {p : Nat} {L : List PE} (hg : GoodT L) (h : TrieAt w p (rowsF 17412 (findP (ones 0 L)))) {c y : Int} (hy : findP (ones 0 L) c = y) (n : Nat) :
  Calls Tryz.prog 216 #[.pointer (some ⟨p, 0, none⟩), .int .i64 c] (w.drewN n) fun e w' => e = .returned (.int .i64 y) /\ ∃ m, w' = (w.drewN n).drewN m := yyo hg (h.below (yab w n) (zN _)) hy
def FindIs (L : List PE) (s : List Int) (w : World) (e : Ending) (w' : World) : Prop :=
 (∃ i : Int, ∃ b : Bool, e = .returned (.tuple #[.int .i64 i, .bool b]) /\ (∀ k, place L s = some k -> i = (k : Nat) /\ b = true) /\ (place L s = none -> b = false)) /\ ∃ n, w' = w.drewN n
set_option maxHeartbeats 1000000 in
theorem yvz {F G : Nat -> Prop} {w : World} {p : Nat} {L : List PE} {A : Option Addr} {c : Nat} {x : Int} (h : TabAt F w p L) (hs : RdI G w (.slice A 1 c) [x]) :
  Calls Tryz.prog 181 #[.pointer (some ⟨p, 0, none⟩), .slice A 1 c] w (FindIs L [x] w) := by
 obtain ⟨A1, c1, bo, b2, b3, d0, d1, d2, d3, hr, ht, h2, h3⟩ := h.cells; obtain ⟨y, hy⟩ : ∃ y, findP (ones 0 L) x = y := ⟨_, rfl⟩; have HG := zH (fun n => get_q h.good ht hy n)
 have hyy := yhz (L := L) x 0; rw [hy] at hyy; obtain ⟨g, o, rfl, c2⟩ := hs.at (k := 0) rfl; simp only [Nat.add_zero] at c2; have hlen := h.good.len
 have hyb : 0 <= y /\ y <= 501 := by
  cases hp : place L [x] with
  | none => rw [hp] at hyy; simp only at hyy; omega
  | some k => rw [hp] at hyy; have := ymm hp; simp only at hyy; omega
 have hy0 : 0 <= y := hyb.1
 have hy1 : y <= 501 := hyb.2
 have r1 : IntKind.i64.wrap (y - 1) = y - 1 := IntWalk.i64_in _ (by omega)
 have HY := zH hyy; clear hr ht h2 h3 h hs hy hyy hyb hlen d0 d2 d3
 go_enter Tryz.func181, Tryz.ntmps181
 go_wp2
 go_quiet ((go_at_call 216; with_reducible exact Calls.quiet_of (HG.out _)))
 go_wp2
 go_ret2
 refine ⟨⟨_, _, rfl, fun k hk => ?_, fun hk => ?_⟩, _, rfl⟩
 ·have h1 := HY.out; rw [hk] at h1
  simp only at h1
  exact ⟨by omega, by simp; omega⟩
 ·have h1 := HY.out; rw [hk] at h1
  simp only at h1
  simp; omega
set_option maxHeartbeats 1000000 in
theorem yvy {F G : Nat -> Prop} {w : World} {p : Nat} {L : List PE} {A : Option Addr} {c : Nat} {x y : Int} (h : TabAt F w p L) (hs : RdI G w (.slice A 2 c) [x, y]) (hI : I64 [x, y]) :
  Calls Tryz.prog 181 #[.pointer (some ⟨p, 0, none⟩), .slice A 2 c] w (FindIs L [x, y] w) := by
 obtain ⟨A1, c1, bo, b2, b3, d0, d1, d2, d3, hr, ht, h2, h3⟩ := h.cells; obtain ⟨g, o, rfl, c2⟩ := hs.at (k := 0) rfl; obtain ⟨g1, o1, e1, c3⟩ := hs.at (k := 1) rfl
 cases e1
 simp only [Nat.add_zero] at c2
 have hat : ∀ W, (Instr.arrayAt 126 (.slice (some ⟨g, o, none⟩) 2 c)).run Tryz.prog W = .ok (.pointer (some ⟨g, o, none⟩)) W := fun W => run_arrayAt W 126 _ 2 _ 2 c Tryz.underlying126 (zN _)
 cases hp : place L [x, y] with
 | some k =>
  have hlk : ∀ n, (Instr.lookup 118 (.map (some b2)) (.agg #[.int .i64 x, .int .i64 y]) true).run Tryz.prog (w.drewN n) = .ok (.tuple #[.int .i64 (k : Nat), .bool true]) (w.drewN n) := fun n =>
   (h2.below (yab w n) (zN _)).look_old kt2 (s := [x, y]) rfl hI hp
  clear d0 d1 d3 hr ht h2 h3 h hs
  go_enter Tryz.func181, Tryz.ntmps181
  go_wp2
  go_quiet (fail)
  go_wp2
  go_ret2
  exact ⟨⟨_, _, rfl, fun j hj => (by rw [hp] at hj; cases hj; exact ⟨rfl, rfl⟩), fun hj => (by rw [hp] at hj; cases hj)⟩, _, rfl⟩
 | none =>
  have hlk : ∀ n, (Instr.lookup 118 (.map (some b2)) (.agg #[.int .i64 x, .int .i64 y]) true).run Tryz.prog (w.drewN n) = .ok (.tuple #[.int .i64 0, .bool false]) (w.drewN n) := fun n =>
   (h2.below (yab w n) (zN _)).look_new kt2 (s := [x, y]) rfl hI hp
  clear d0 d1 d3 hr ht h2 h3 h hs
  go_enter Tryz.func181, Tryz.ntmps181
  go_wp2
  go_quiet (fail)
  go_wp2
  go_ret2
  exact ⟨⟨_, _, rfl, fun j hj => (by rw [hp] at hj; cases hj), fun _ => rfl⟩, _, rfl⟩
set_option maxHeartbeats 1000000 in
theorem yom {F G : Nat -> Prop} {w : World} {p : Nat} {L : List PE} {A : Option Addr} {c : Nat} {x y z : Int} (h : TabAt F w p L) (hs : RdI G w (.slice A 3 c) [x, y, z]) (hI : I64 [x, y, z]) :
  Calls Tryz.prog 181 #[.pointer (some ⟨p, 0, none⟩), .slice A 3 c] w (FindIs L [x, y, z] w) := by
 obtain ⟨A1, c1, bo, b2, b3, d0, d1, d2, d3, hr, ht, h2, h3⟩ := h.cells; obtain ⟨g, o, rfl, c2⟩ := hs.at (k := 0) rfl; obtain ⟨g1, o1, e1, c3⟩ := hs.at (k := 1) rfl
 cases e1
 obtain ⟨g2, o2, e2, c4⟩ := hs.at (k := 2) rfl
 cases e2
 simp only [Nat.add_zero] at c2
 have hat : ∀ W, (Instr.arrayAt 127 (.slice (some ⟨g, o, none⟩) 3 c)).run Tryz.prog W = .ok (.pointer (some ⟨g, o, none⟩)) W := fun W => run_arrayAt W 127 _ 3 _ 3 c Tryz.underlying127 (zN _)
 cases hp : place L [x, y, z] with
 | some k =>
  have hlk : ∀ n, (Instr.lookup 119 (.map (some b3)) (.agg #[.int .i64 x, .int .i64 y, .int .i64 z]) true).run Tryz.prog (w.drewN n) = .ok (.tuple #[.int .i64 (k : Nat), .bool true]) (w.drewN n) := fun n =>
   (h3.below (yab w n) (zN _)).look_old kt3 (s := [x, y, z]) rfl hI hp
  clear d0 d1 d2 hr ht h2 h3 h hs
  go_enter Tryz.func181, Tryz.ntmps181
  go_wp2
  go_quiet (fail)
  go_wp2
  go_ret2
  exact ⟨⟨_, _, rfl, fun j hj => (by rw [hp] at hj; cases hj; exact ⟨rfl, rfl⟩), fun hj => (by rw [hp] at hj; cases hj)⟩, _, rfl⟩
 | none =>
  have hlk : ∀ n, (Instr.lookup 119 (.map (some b3)) (.agg #[.int .i64 x, .int .i64 y, .int .i64 z]) true).run Tryz.prog (w.drewN n) = .ok (.tuple #[.int .i64 0, .bool false]) (w.drewN n) := fun n =>
   (h3.below (yab w n) (zN _)).look_new kt3 (s := [x, y, z]) rfl hI hp
  clear d0 d1 d2 hr ht h2 h3 h hs
  go_enter Tryz.func181, Tryz.ntmps181
  go_wp2
  go_quiet (fail)
  go_wp2
  go_ret2
  exact ⟨⟨_, _, rfl, fun j hj => (by rw [hp] at hj; cases hj), fun _ => rfl⟩, _, rfl⟩
theorem ysc {w : World} {v : Value} {L : List PE} (hg : GoodT L) {A : Option Addr} {s : List Int} {c : Nat} (h : ¬ s.length = 1 /\ ¬ s.length = 2 /\ ¬ s.length = 3) (hl : s.length <= 1000000000000000) :
  Calls Tryz.prog 181 #[v, .slice A s.length c] w (FindIs L s w) := by
 have hp : place L s = none := ycl.2 fun e he hc => by
  have := hg.seq e he
  rw [hc] at this
  omega
 obtain ⟨n, hn⟩ : ∃ n, s.length = n := ⟨_, rfl⟩; rw [hn] at h hl |-
 have h1 : ((n : Int) == 1) = false := by rw [beq_eq_false_iff_ne]; omega
 have h2 : ((n : Int) == 2) = false := by rw [beq_eq_false_iff_ne]; omega
 have h3 : ((n : Int) == 3) = false := by rw [beq_eq_false_iff_ne]; omega
 have hl' : (n : Int) <= 1000000000000000 := by omega
 have k1 : (n == 1) = false := by rw [beq_eq_false_iff_ne]; omega
 have k2 : (n == 2) = false := by rw [beq_eq_false_iff_ne]; omega
 have k3 : (n == 3) = false := by rw [beq_eq_false_iff_ne]; omega
 clear hn h
 go_enter Tryz.func181, Tryz.ntmps181
 go_wp2
 go_ret2
 exact ⟨⟨_, _, rfl, fun k hk => (by rw [hp] at hk; cases hk), fun _ => rfl⟩, 0, rfl⟩
theorem ync {F G : Nat -> Prop} {w : World} {p : Nat} {L : List PE} {v : Value} {s : List Int} (h : TabAt F w p L) (hs : RdI G w v s) (hI : I64 s) (hl : s.length <= 1000000000000000) :
  Calls Tryz.prog 181 #[.pointer (some ⟨p, 0, none⟩), v] w (FindIs L s w) := by
 obtain ⟨A, c, rfl⟩ := hs.form
 by_cases h1 : s.length = 1
 ·obtain ⟨x, rfl⟩ : ∃ x, s = [x] := ⟨hd s, yiw h1⟩; exact yvz h hs
 ·by_cases h2 : s.length = 2
  ·obtain ⟨x, y, rfl⟩ : ∃ x y, s = [x, y] := by
    match s, h2 with
    | [x, y], _ => exact ⟨x, y, rfl⟩
   exact yvy h hs hI
  ·by_cases h3 : s.length = 3
   ·obtain ⟨x, y, z, rfl⟩ : ∃ x y z, s = [x, y, z] := by
     match s, h3 with
     | [x, y, z], _ => exact ⟨x, y, z, rfl⟩
    exact yom h hs hI
   ·exact ysc h.good ⟨h1, h2, h3⟩ hl
theorem ynb {F G : Nat -> Prop} {w : World} {p : Nat} {L : List PE} {v : Value} {s : List Int} {k : Nat} (hp : place L s = some k) (h : TabAt F w p L) (hs : RdI G w v s) :
  Calls Tryz.prog 181 #[.pointer (some ⟨p, 0, none⟩), v] w fun e w' => e = .returned (.tuple #[.int .i64 (k : Nat), .bool true]) /\ Below w.heap.size w w' := by
 obtain ⟨e, h1, h2⟩ := ybw hp; have hq := h.good.seq e (List.mem_of_getElem? h1); rw [h2] at hq; refine (ync h hs (sg_i64 hq.2.2) (by omega)).mono fun e w' hf => ?_
 obtain ⟨⟨i, b, rfl, hy, hn⟩, n, rfl⟩ := hf; obtain ⟨rfl, rfl⟩ := hy k hp; exact ⟨rfl, yab w n⟩
theorem ysb {F G : Nat -> Prop} {w : World} {p : Nat} {L : List PE} {v : Value} {s : List Int} (hp : place L s = none) (h : TabAt F w p L) (hs : RdI G w v s) (hI : I64 s) (hl : s.length <= 1000000000000000) :
  Calls Tryz.prog 181 #[.pointer (some ⟨p, 0, none⟩), v] w fun e w' => (∃ i : Int, e = .returned (.tuple #[.int .i64 i, .bool false])) /\ Below w.heap.size w w' := by
 refine (ync h hs hI hl).mono fun e w' hf => ?_
 obtain ⟨⟨i, b, rfl, hy, hn⟩, n, rfl⟩ := hf; rw [hn hp]; exact ⟨⟨i, rfl⟩, yab w n⟩
end Go.Proofs.YteibnfeokgibmaaGreat
namespace Go.Proofs.YteibnfeokgibmaaGreat
open Go.RowKit
theorem RdI.take {G : Nat -> Prop} {w : World} {A : Option Addr} {m c : Nat} {l : List Int} (h : RdI G w (.slice A m c) l) {n : Nat} (hn : n <= l.length) : RdI G w (.slice A n c) (l.take n) := by
 have hm : m = l.length := (RdF.cap h).2
 subst hm
 have := RdF.take h hn n
 unfold RdI; rw [List.length_take, Nat.min_eq_left hn, show iv (l.take n) = (iv l).take n by simp [iv, T2.iv, List.map_take]]
 exact this
theorem RdI.drop {G : Nat -> Prop} {w : World} {A A2 : Option Addr} {m c u : Nat} {l : List Int} (h : RdI G w (.slice A m c) l) (hu : u <= l.length) (hA : ∀ ad : Addr, A = some ad -> (if c = u then some ad else some (ad.add u)) = A2) : RdI G w (.slice A2 (l.length - u) (c - u)) (l.drop u) := by
 have hm : m = l.length := (RdF.cap h).2
 subst hm
 have := RdF.drop h hu hA
 unfold RdI; rw [List.length_drop, show iv (l.drop u) = (iv l).drop u by simp [iv, T2.iv, List.map_drop]]
 exact this
theorem ymz {l : List Int} (h : I64 l) (n : Nat) : I64 (l.take n) := fun x hx => h x (List.mem_of_mem_take hx)
def FirstIs (L : List PE) (ss : List Int) (w : World) (e : Ending) (w' : World) : Prop := (∃ A c, e = .returned (.tuple #[.slice A (atP L ss).1.length c, .int .i64 ((atP L ss).2 : Nat)]) /\ RdE anyB w' (.slice A (atP L ss).1.length c) (atP L ss).1) /\ Below w.heap.size w w'
theorem yyy {L : List PE} {ss : List Int} {n k : Nat} {e : PE} (hp : place L (ss.take (n + 1)) = some k) (he : L[k]? = some e) : atF L ss (n + 1) = (e.2, n + 1) := by
 rw [atF, ydm hp he]
theorem ywo {L : List PE} {ss : List Int} {n : Nat} (hp : place L (ss.take (n + 1)) = none) : atF L ss (n + 1) = atF L ss n := by
 rw [atF, yeg hp]
theorem ygz {F G : Nat -> Prop} {w : World} {p : Nat} {L : List PE} {v : Value} {ss : List Int} (h : TabAt F w p L) (hs : RdI G w v ss) (h0 : 0 < ss.length) (hI : I64 ss) (hl : ss.length <= 1000000) :
  Calls Tryz.prog 189 #[.pointer (some ⟨p, 0, none⟩), v] w (FirstIs L ss w) := by
 obtain ⟨A, c, rfl⟩ := hs.form; obtain ⟨A1, c1, bo, b2, b3, d0, -, -, -, hr, -, -, -⟩ := h.cells; obtain ⟨g, o, e0, c2⟩ := hs.at (hd_at h0); simp only [Nat.add_zero] at c2; have hcap := (RdF.cap hs).1; obtain ⟨R, hR⟩ : ∃ R, atP L ss = R := ⟨_, rfl⟩; obtain ⟨l, u⟩ := R; unfold FirstIs; rw [hR]
 have hR' : atF L ss (min 3 ss.length) = (l, u) := hR
 have HR := zH hR'; have HT := zH h; have HS := zH hs; have HE := zH hr; have HI := zH hI
 have hlI : (ss.length : Int) <= 1000000 := by omega
 have h0I : (0 : Int) < (ss.length : Int) := by omega
 obtain ⟨n, hn⟩ : ∃ n, min 3 ss.length = n := ⟨_, rfl⟩
 have hn3 : n <= 3 := by omega
 have hnl : n <= ss.length := by omega
 have HMIN : Hid (min 3 (ss.length : Int) = (n : Int)) := by show _ = _; omega
 rw [hn] at HR; have HC2 := zH c2; have HD0 := zH d0; have HEA := zH e0; clear h hs hr hI hR hR' c2 d0 e0; clear hn
 go_enter Tryz.func189, Tryz.ntmps189
 go_wp2
 go_loopw [6] (fun i wr => ∃ m : Nat, m <= ss.length /\ m <= 3 /\ i = .int .i64 (m : Nat) /\ Hid (atF L ss m = (l, u)) /\ Hid (Below w.heap.size w wr)) (fun i _ => (intOf i).toNat)
 case atStart => exact ⟨n, hnl, hn3, by rw [HMIN.out], HR.out, zR _ _⟩
 case round =>
  clear HR HMIN hnl hn3; obtain ⟨m, hm, hm3, rfl, HF, HB⟩ := hrel
  cases m with
  | zero =>
   have hf := HF.out; unfold atF at hf
   have h1 : impl (hd ss) = l := congrArg Prod.fst hf
   have h2 : 1 = u := congrArg Prod.snd hf
   subst h2; have HL := zH h1; have c3 := HEA.out; subst c3
   have c4 : RdI G wr (.slice (some ⟨g, o, none⟩) ss.length c) ss := RdF.below HS.out HB.out (zN _)
   obtain ⟨g', o', e', c5⟩ := c4.at (hd_at h0)
   cases e'
   simp only [Nat.add_zero] at c5; have HIM := zH (fun w => yvp (hd ss) w)
   rw [h1] at HIM; clear hf h1 c4 HF
   go_wp2_with (go_at_call 218; refine (HIM.out _).mono ?_; rintro e w1 ⟨vl, rfl, ho, hb⟩; obtain ⟨A9, c9, rfl⟩ := ho.form; have HO := zH ho; have HB2 := zH (HB.out.trans (hb.mono HB.out.size)); clear ho hb)
   go_ret2
   exact ⟨⟨_, _, rfl, HO.out.rd fun _ _ => trivial⟩, HB2.out⟩
  | succ m =>
   have hmI : ((m + 1 : Nat) : Int) <= (ss.length : Int) := by omega
   have hmJ : (0 : Int) < ((m + 1 : Nat) : Int) := by omega
   have HW := zH (HT.out.below HB.out (zN _)); have HSk := zH ((HS.out.below HB.out (zN _)).take hm)
   have hcI : ((m + 1 : Nat) : Int) <= (c : Int) := by omega
   cases hp : place L (ss.take (m + 1)) with
   | none =>
    have HF2 : Hid (atF L ss m = (l, u)) := by show _ = _; rw [<- ywo hp]; exact HF.out
    have HC := zH (ysb hp HW.out HSk.out (ymz HI.out _) (by rw [List.length_take]; omega))
    clear hp
    go_wp2_with (go_at_call 181; refine (HC.out).mono ?_; rintro e w1 ⟨⟨i, rfl⟩, hb⟩; have HB2 := zH (HB.out.trans (hb.mono HB.out.size)); clear hb)
    go_roundw
    case rel => exact ⟨m, by omega, by omega, by go_num, HF2.out, HB2.out⟩
    case measure => simp [intOf]
   | some k =>
    obtain ⟨e, he, hes⟩ := ybw hp; have hf := HF.out; rw [yyy hp he] at hf
    have h1 : e.2 = l := congrArg Prod.fst hf
    have h2 : m + 1 = u := congrArg Prod.snd hf
    subst h2; have HC := zH (ynb hp HW.out HSk.out); have hkL := ymm hp
    have hkI : (k : Int) < (L.length : Int) := by omega
    obtain ⟨g1, o1, vs, vl, rfl, -, c3, -, hrl⟩ := (HE.out.below HB.out (zN _)).at he; rw [h1] at hrl; obtain ⟨A8, c8, rfl⟩ := hrl.form; have d1 := (HB.out.cell (p := ⟨p, 0, none⟩) (yaq HD0.out)).trans HD0.out
    have HX : Hid (∀ W, Below wr.heap.size wr W -> W.cell? ⟨p, 0, none⟩ = some (.slice (some ⟨g1, o1, none⟩) L.length c1) /\ W.cell? ⟨g1, o1 + k * 2 + 1, none⟩ = some (.slice A8 l.length c8) /\ RdE F W (.slice A8 l.length c8) l) := fun W hb =>
     ⟨(hb.cell (p := ⟨p, 0, none⟩) (yaq d1)).trans d1, (hb.cell (p := ⟨g1, o1 + k * 2 + 1, none⟩) (yaq c3)).trans c3, hrl.below hb (zN _)⟩
    clear hf h1 he hes hp c3 hrl d1 hkL
    go_wp2_with (go_at_call 181; refine (HC.out).mono ?_; rintro e w1 ⟨rfl, hb⟩; have HB2 := zH (HB.out.trans (hb.mono HB.out.size)); obtain ⟨x1, x2, x3⟩ := HX.out w1 hb; have HX3 := zH x3; clear hb x3)
    go_ret2
    exact ⟨⟨_, _, rfl, HX3.out.any⟩, HB2.out⟩
theorem ykx {M M' : List ME} (hp : M.Perm M') (e : pls M = rawP) (hs : SortedM M') : pls M' = rootP := by
 have h1 : (pls M').Perm rootP := ((hp.symm.map ME.pl).trans (by unfold pls at e; rw [e])).trans root_perm
 refine yto h1 ?_ root_srt
 have h2 : (pls M').Pairwise fun a b => a.1 ≠ b.1 := (List.Perm.pairwise_iff (R := fun a b : PE => a.1 ≠ b.1) (fun {x y} h => h.symm) h1).2 (root_srt.imp fun {a b} h => ord_ne h)
 have h3 : (pls M').Pairwise fun a b => ¬ ord b.1 a.1 < 0 := by
  unfold pls; rw [List.pairwise_map]; exact hs
 exact (h2.and h3).imp fun {a b} h => ylk h.2 (fun c => h.1 c.symm)
def RootIs (w : World) (e : Ending) (w' : World) : Prop := ∃ p, e = .returned (.pointer (some ⟨p, 0, none⟩)) /\ TabAt (fun k => w.heap.size <= k) w' p rootP /\ Below w.heap.size w w'
theorem ytp {w w1 : World} {e : Ending} (h : RawIs w e w1) : ∃ A n c, e = .returned (.slice A n c) /\ Calls Tryz.prog 39 #[.slice A n c, .func (.func 40) #[] #[]] w1 fun e w' => e = .returned (.tuple #[]) /\ RdT (fun k => w.heap.size <= k) w' (.slice A n c) rootP /\ Below w.heap.size w w' := by
 obtain ⟨v, M, B, rfl, e, ho, hM, h1, h2, hb⟩ := h; obtain ⟨A, c, rfl⟩ := ho.form; refine ⟨A, M.length, c, rfl, ?_⟩
 have hl : M.length = 132 := by rw [<- yap, e]; exact yqn
 have hmem : ∀ m ∈ M, EntOk (fun g => g < B) w1 m /\ 1 <= m.s.length /\ m.s.length <= 3 := fun m hm => by
  refine ⟨(hM m hm).mono fun k hk => hk.2, ?_⟩
  have h3 : m.pl ∈ rawP := by rw [<- e]; exact List.mem_map.2 ⟨m, hm, rfl⟩
  have h4 := root_good.seq m.pl ((root_perm.mem_iff).1 h3); exact ⟨h4.1, h4.2.1⟩
 refine (yii ho (by omega) (by omega) h2 hmem).mono fun e' w' => ?_
 rintro ⟨he, M', hp, hs, hr, hb2⟩; refine ⟨he, ⟨M', ykx hp e hs, ?_⟩, hb.trans (hb2.mono h1)⟩; refine ⟨?_, fun m hm => ?_⟩
 ·exact hr
 ·have hk := hM m ((hp.mem_iff).2 hm); exact (hk.frame fun g hg hlt => hb2.block g hg.2).mono fun k hk => hk.1
theorem ymh (w : World) : Calls Tryz.prog 25 #[] w (RootIs w) := by
 go_enter Tryz.func25, Tryz.ntmps25
 go_wp2_with (first
  | (go_at_call 38; refine (ygh _).mono ?_; rintro e w1 h; obtain ⟨A, n, c, rfl, hs⟩ := ytp h; have HS := zH hs; clear h hs)
  | (go_at_call 39; refine (HS.out).mono ?_; rintro e w2 ⟨rfl, hr, hb⟩; have HR := zH hr; have HB := zH hb; clear hr hb)
  | (go_at_call 41; refine (yhg HR.out root_good).mono ?_; rintro e w3 ⟨p, rfl, ht, hb⟩; have HT := zH ht; have HB3 := zH (HB.out.trans (hb.mono HB.out.size)); clear ht hb))
 go_ret
 exact ⟨p, rfl, HT.out, HB3.out⟩
end Go.Proofs.YteibnfeokgibmaaGreat
