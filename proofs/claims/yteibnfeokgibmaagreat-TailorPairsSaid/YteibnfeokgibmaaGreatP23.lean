/-
  PACKED for a claim.
-/
import Derived.Deep.DrawnRows
import Derived.Test.YteibnfeokgibmaaGreatP22
set_option linter.unusedVariables false
set_option linter.unusedSimpArgs false
set_option maxRecDepth 100000
namespace Go.Proofs.YteibnfeokgibmaaGreat
open Go.RowKit
theorem yqc {ops : Array Oper} {o : Oper} {a : Act} {w : World} {K : Act -> World -> Prop} {Q : Exit -> Act -> World -> Prop} {E : Prop} (hgd : o.guard = none) (s x : Operand)
  (ho : o.op = .call { callee := .builtin .append, args := #[s, x], argTypes := #[83, 83] })
  {B : Nat} {w1 : World} {v : Value} {L : List PE} (hmade : Made B w1 w v L) (N : List ME) (hN : ∀ m ∈ N, Ent B w m) (g C : Nat) (hs : a.eval s = v) (hx : a.eval x = .slice (some ⟨g, 0, none⟩) N.length C)
  (hsrc : ∀ j u, (mcells N)[j]? = some u -> w.cell? ((⟨g, 0, none⟩ : Addr).add j) = some u) (hB : B <= w.heap.size) (hl : L.length + N.length <= 1000000)
  (h : ∀ v' w', Made B w1 w' v' (L ++ pls N) -> (∀ k, NotE w k -> w'.heap[k]? = w.heap[k]?) -> K (a.put o.dst v') w') :
  if Region.wanted o (yielded ops a.tmps) = true then Oper.wp Tryz.prog o a w K Q else E := by
 have hw : Region.wanted o (yielded ops a.tmps) = true := by simp [Region.wanted, hgd]
 rw [if_pos hw]; obtain ⟨i0, hi0, hz0, hz1, hz2⟩ := info_parts ybm; obtain ⟨⟨M, rfl, hown, hM⟩, hbel⟩ := hmade; rw [yap] at hl
 have hone : ∀ u ∈ mcells N, u.oneCell' = true := ydb (F := anyB) fun m hm => (hN m hm).ok fun _ _ => trivial
 obtain ⟨v', w', hrun, h2, h3, -, -⟩ := run_append_own_at (P := Tryz.prog) (w := w) B 83 o.type 88 i0 _ 2 48 Tryz.underlying83 hi0 hz0 hz1 hz2 rfl (by omega) v M.length (mcells M) hown
  ⟨g, 0, none⟩ N.length C (mcells N) (by rw [yaq]) hsrc hone (by simp only [maxLen]; omega) (by omega) hB
 unfold Oper.wp
 simp [execOp, ho, resolve, invoke, builtin, hs, hx, hrun, Result.andThen]
 refine h v' w' ⟨⟨M ++ N, yay _ _, ?_, ?_⟩, ?_⟩ ?_
 ·unfold OwnM; rw [yaw, List.length_append]; exact h2
 ·intro m hm
  have he : Ent B w m := by
   rcases List.mem_append.1 hm with hm | hm
   ·exact hM m hm
   ·exact hN m hm
  exact he.grown hown h3
 ·exact hbel.trans ((zR B w).grown h3 hB (fun k hk => (World.ownsRow.lt hown k hk).1))
 ·intro k hk; obtain ⟨cs, T, fr, h1, h4⟩ := hk; exact h3.block k (R4.yad h1) (R4.yao hown h1 h4)
def BoxS (bx : Nat) (x y : Value) (w' : World) : Prop := w'.cell? ⟨bx, 0, none⟩ = some x /\ w'.cell? ⟨bx, 1, none⟩ = some y
theorem BoxS.alloc {bx : Nat} {x y : Value} {w' : World} (h : BoxS bx x y w') (o : Obj) : BoxS bx x y (w'.alloc o) := by
 have k : ∀ {p : Addr} {u : Value}, w'.cell? p = some u -> (w'.alloc o).cell? p = some u := fun {p u} hp => by
  rw [World.cell?_of_block (w := w') (Below.heap_alloc _ _ _ (yaj hp))]; exact hp
 exact ⟨k h.1, k h.2⟩
theorem BoxS.alloc' {bx : Nat} {x y : Value} {X : World} (h : BoxS bx x y X) (o : Obj) : BoxS bx x y (X.alloc o).drew := h.alloc o
theorem BoxS.call {bx : Nat} {x y : Value} {w1 w2 : World} (hb : Below w1.heap.size w1 w2) (h : BoxS bx x y w1) : BoxS bx x y w2 :=
 ⟨(hb.cell (p := ⟨bx, 0, none⟩) (yaj h.1)).trans h.1, (hb.cell (p := ⟨bx, 1, none⟩) (yaj h.2)).trans h.2⟩
structure InB (B : Nat) (W0 : World) (v : Value) (L : List PE) (bx : Nat) (cs : Array Value) (T : TypeId) (w' : World) : Prop where
 made : Made B W0 w' v L
 box : w'.heap[bx]? = some (.cells cs T (0, 0))
 big : B <= W0.heap.size
theorem InB.bigw {B : Nat} {W0 : World} {v : Value} {L : List PE} {bx : Nat} {cs : Array Value} {T : TypeId} {w1 : World} (h : InB B W0 v L bx cs T w1) : B <= w1.heap.size := Nat.le_trans h.big h.made.bel.size
theorem InB.more {B : Nat} {W0 : World} {v : Value} {L : List PE} {bx : Nat} {cs : Array Value} {T : TypeId} {w1 w2 : World} (h : InB B W0 v L bx cs T w1) (hb : Below w1.heap.size w1 w2) : InB B W0 v L bx cs T w2 :=
 ⟨h.made.more hb h.bigw, (hb.block bx (R4.yad h.box)).trans h.box, h.big⟩
theorem InB.alloc {B : Nat} {W0 : World} {v : Value} {L : List PE} {bx : Nat} {cs : Array Value} {T : TypeId} {w1 : World} (h : InB B W0 v L bx cs T w1) (o : Obj) : InB B W0 v L bx cs T (w1.alloc o) := h.more ((zR _ _).alloc (zN _) o)
theorem InB.boxS {B : Nat} {W0 : World} {v : Value} {L : List PE} {bx : Nat} {x y z : Value} {T : TypeId} {w1 : World} (h : InB B W0 v L bx #[x, y, z] T w1) : BoxS bx x y w1 :=
 ⟨by rw [cell_of_row w1 bx 0 _ _ _ h.box]; rfl, by rw [cell_of_row w1 bx 1 _ _ _ h.box]; rfl⟩
theorem yzf (w : World) (l : List Nat) (hl : l.length <= 1000) {B : Nat} (hB : B <= w.heap.size) : OwnE B (w.alloc (.cells (ev l).toArray 168)).drew (.slice (some ⟨w.heap.size, 0, none⟩) l.length l.length) l := ybn w.drew l hl hB
theorem yqe {ops : Array Oper} {o : Oper} {a : Act} {w : World} {K : Act -> World -> Prop} {Q : Exit -> Act -> World -> Prop} {E : Prop} (hgd : o.guard = none) (s x : Operand)
  (ho : o.op = .call { callee := .builtin .append, args := #[s, x], argTypes := #[83, 83] })
  {B : Nat} {W0 : World} {v : Value} {L : List PE} {bx : Nat} {cs : Array Value} {T : TypeId} (hin : InB B W0 v L bx cs T w) (hT : T ≠ 88) (N : List ME) (hN : ∀ m ∈ N, Ent B w m) (hs : a.eval s = v) (C : Nat)
  (hx : a.eval x = .slice (some ⟨w.heap.size, 0, none⟩) N.length C) (hl : L.length + N.length <= 1000000)
  (h : ∀ v' w', InB B W0 v' (L ++ pls N) bx cs T w' -> K (a.put o.dst v') w') :
  if Region.wanted o (yielded ops a.tmps) = true then Oper.wp Tryz.prog o a (w.alloc (.cells (mcells N).toArray 88)) K Q else E := by
 have hi := hin.alloc (.cells (mcells N).toArray 88); refine yqc hgd s x ho hi.made N (fun m hm => (hN m hm).below ((zR _ w).alloc (zN _) _) (zN _)) w.heap.size C hs hx (R4.yax w (mcells N) _) hi.bigw hl fun v' w' h1 h2 => h v' w' ⟨h1, ?_, hin.big⟩
 rw [h2 bx ⟨_, _, _, hi.box, hT⟩]; exact hi.box
def allocs (w : World) (bs : List Obj) : World := bs.foldl (fun w b => w.alloc b) w
theorem yit (bs : List Obj) : ∀ w : World, (allocs w bs).heap = w.heap ++ bs.toArray := by
 induction bs with
 | nil => intro w; simp [allocs]
 | cons b t ih =>
  intro w
  show (allocs (w.alloc b) t).heap = _
  rw [ih]
  show (w.heap.push b) ++ t.toArray = _
  simp
theorem yiu {w : World} {bs : List Obj} {i : Nat} {cs : Array Value} {T : TypeId} {fr : Nat × Nat} (h : bs[i]? = some (.cells cs T fr)) (k : Nat) : (allocs w bs).cell? ⟨w.heap.size + i, k, none⟩ = cs[k]? := by
 unfold World.cell?; rw [yit]
 simp only
 rw [Array.getElem?_append_right (by omega), show w.heap.size + i - w.heap.size = i by omega, List.getElem?_toArray, h]
 rfl
theorem yml (bs : List Obj) : ∀ (w a : World) (B : Nat), B <= a.heap.size -> Below B w a -> Below B w (allocs a bs) := by
 induction bs with
 | nil => intro w a B _ h; exact h
 | cons b t ih =>
  intro w a B hB h; exact ih w (a.alloc b) B (by simp; omega) (h.alloc hB b)
structure RunAt (w : World) (b j : Nat) (f l : Nat) (ms : List Int) : Prop where
 c0 : w.cell? ⟨b, j * 3, none⟩ = some (.int .i64 (f : Int))
 c1 : w.cell? ⟨b, j * 3 + 1, none⟩ = some (.int .i64 (l : Int))
 c2 : ∃ g, w.cell? ⟨b, j * 3 + 2, none⟩ = some (.slice (some ⟨g, 0, none⟩) ms.length ms.length) /\ ∀ (k : Nat) (m : Int), ms[k]? = some m -> w.cell? ⟨g, k, none⟩ = some (.int .i64 m)
 hf : f <= 300
 hl : 65 <= l /\ l <= 90
 hm : ms.length <= 6
def runVals (w : World) : Array Value := #[Value.int .i64 192, Value.int .i64 65, Value.slice (some ⟨w.heap.size, 0, none⟩) 6 6, Value.int .i64 199, Value.int .i64 67, Value.slice (some ⟨w.heap.size + 1, 0, none⟩) 1 1, Value.int .i64 200, Value.int .i64 69, Value.slice (some ⟨w.heap.size + 1 + 1, 0, none⟩) 4 4, Value.int .i64 204, Value.int .i64 73, Value.slice (some ⟨w.heap.size + 1 + 1 + 1, 0, none⟩) 4 4, Value.int .i64 209, Value.int .i64 78, Value.slice (some ⟨w.heap.size + 1 + 1 + 1 + 1, 0, none⟩) 1 1, Value.int .i64 210, Value.int .i64 79, Value.slice (some ⟨w.heap.size + 1 + 1 + 1 + 1 + 1, 0, none⟩) 5 5, Value.int .i64 217, Value.int .i64 85, Value.slice (some ⟨w.heap.size + 1 + 1 + 1 + 1 + 1 + 1, 0, none⟩) 4 4, Value.int .i64 221, Value.int .i64 89, Value.slice (some ⟨w.heap.size + 1 + 1 + 1 + 1 + 1 + 1 + 1, 0, none⟩) 1 1]
def runObjs (w : World) : List Obj := [
 Obj.cells #[Value.int .i64 768, Value.int .i64 769, Value.int .i64 770, Value.int .i64 771, Value.int .i64 776, Value.int .i64 778] 3,
 Obj.cells #[Value.int .i64 807] 3,
 Obj.cells #[Value.int .i64 768, Value.int .i64 769, Value.int .i64 770, Value.int .i64 776] 3,
 Obj.cells #[Value.int .i64 768, Value.int .i64 769, Value.int .i64 770, Value.int .i64 776] 3,
 Obj.cells #[Value.int .i64 771] 3,
 Obj.cells #[Value.int .i64 768, Value.int .i64 769, Value.int .i64 770, Value.int .i64 771, Value.int .i64 776] 3,
 Obj.cells #[Value.int .i64 768, Value.int .i64 769, Value.int .i64 770, Value.int .i64 776] 3,
 Obj.cells #[Value.int .i64 769] 3,
 Obj.cells (runVals w) 171]
theorem run_of {w : World} {j f l : Nat} {ms : List Int} (h0 : ∀ k, (allocs w (runObjs w)).cell? ⟨w.heap.size + 8, k, none⟩ = (runVals w)[k]?)
  (hj : (runObjs w)[j]? = some (.cells (iv ms).toArray 3 (0, 0))) (h1 : (runVals w)[j * 3]? = some (Value.int .i64 (f : Int))) (h2 : (runVals w)[j * 3 + 1]? = some (Value.int .i64 (l : Int)))
  (h3 : (runVals w)[j * 3 + 2]? = some (.slice (some ⟨w.heap.size + j, 0, none⟩) ms.length ms.length)) (hf : f <= 300) (hl : 65 <= l /\ l <= 90) (hm : ms.length <= 6) : RunAt (allocs w (runObjs w)) (w.heap.size + 8) j f l ms where
 c0 := by rw [h0]; exact h1
 c1 := by rw [h0]; exact h2
 c2 := ⟨_, by rw [h0]; exact h3, fun k m hk => by rw [yiu hj, List.getElem?_toArray]; exact iv_at hk⟩
 hf := hf
 hl := hl
 hm := hm
theorem runs_at (w : World) {j : Nat} (h : j < 8) : ∃ r, runs[j]? = some r /\ RunAt (allocs w (runObjs w)) (w.heap.size + 8) j r.1 r.2.1 r.2.2 := by
 have h0 : ∀ k, (allocs w (runObjs w)).cell? ⟨w.heap.size + 8, k, none⟩ = (runVals w)[k]? := fun k => yiu (fr := (0, 0)) rfl k
 match j, h with
 | 0, _ => exact ⟨_, rfl, run_of h0 rfl rfl rfl rfl (by decide) (by decide) (by decide)⟩
 | 1, _ => exact ⟨_, rfl, run_of h0 rfl rfl rfl rfl (by decide) (by decide) (by decide)⟩
 | 2, _ => exact ⟨_, rfl, run_of h0 rfl rfl rfl rfl (by decide) (by decide) (by decide)⟩
 | 3, _ => exact ⟨_, rfl, run_of h0 rfl rfl rfl rfl (by decide) (by decide) (by decide)⟩
 | 4, _ => exact ⟨_, rfl, run_of h0 rfl rfl rfl rfl (by decide) (by decide) (by decide)⟩
 | 5, _ => exact ⟨_, rfl, run_of h0 rfl rfl rfl rfl (by decide) (by decide) (by decide)⟩
 | 6, _ => exact ⟨_, rfl, run_of h0 rfl rfl rfl rfl (by decide) (by decide) (by decide)⟩
 | 7, _ => exact ⟨_, rfl, run_of h0 rfl rfl rfl rfl (by decide) (by decide) (by decide)⟩
theorem zar {f l : Nat} {ms : List Int} {i : Nat} {m : Int} {x y z : Nat} (hm : ms.getD i 0 = m) (hx : letW l = x) (hy : mkW m = y) (hz : letW (l + 32) = z) :
  compE f l ms i = [([(f : Int) + (i : Int)], [x, y]), ([(f : Int) + (i : Int) + 32], [z, y])] := by unfold compE; rw [hm, hx, hy, hz]
theorem yxw : ∀ k, ((runs.take k).flatMap compR).length <= 200 := by
 intro k
 have h : (runs.flatMap compR).length <= 200 := by decide +kernel
 have h2 : (runs.take k).flatMap compR ++ (runs.drop k).flatMap compR = runs.flatMap compR := by rw [<- List.flatMap_append, List.take_append_drop]
 have h3 := congrArg List.length h2; rw [List.length_append] at h3
 omega
attribute [local go_sem ↓] Go.wp_at_zero Go.wp_at_succ
set_option maxHeartbeats 4000000 in
set_option maxRecDepth 200000 in
theorem ymd (w : World) : Calls Tryz.prog 72 #[] w (GotM w.heap.size w (runs.flatMap compR)) := by
 have HW0 := zH (yml (runObjs w) w w w.heap.size (zN _) (zR _ _)); have HRA := zH (fun j (h : j < 8) => runs_at w h)
 have HZ : Hid ((allocs w (runObjs w)).heap.size = w.heap.size + 9) := by show _ = _; rw [yit]; simp [runObjs]
 have HS := zH (Made.nil (w.heap.size + 9) (allocs w (runObjs w)))
 go_enter Tryz.func72, Tryz.ntmps72
 go_wp2
 obtain ⟨b8, hb8⟩ : ∃ b, w.heap.size + 1 + 1 + 1 + 1 + 1 + 1 + 1 + 1 = b := ⟨_, rfl⟩; rw [hb8]
 have HB8 : Hid (w.heap.size + 8 = b8) := by show _ = _; omega
 clear hb8
 go_loopw [2, 26] (fun v i wr => ∃ k : Nat, k <= 8 /\ i = .int .i64 (k : Nat) /\ Hid (Made (w.heap.size + 9) (allocs w (runObjs w)) wr v ((runs.take k).flatMap compR))) (fun _ i _ => 8 - (intOf i).toNat)
 case atStart => exact ⟨0, Nat.zero_le _, rfl, HS.out⟩
 case round =>
  clear HS; obtain ⟨k, hk, rfl, HM⟩ := hrel
  by_cases hlt : k < 8
  ·obtain ⟨⟨f, l, ms⟩, hr, ha⟩ := HRA.out k hlt
   have hkI : (k : Int) < 8 := by omega
   rw [HB8.out] at ha; obtain ⟨g, c2, cm⟩ := ha.c2
   have hcell : ∀ {p : Addr} {u : Value}, (allocs w (runObjs w)).cell? p = some u -> wr.cell? p = some u := fun {p u} hp => (HM.out.bel.cell (p := p) (by have h1 := yaj hp; rw [HZ.out] at h1; exact h1)).trans hp
   have d0 := hcell ha.c0; have d1 := hcell ha.c1; have d2 := hcell c2; have HCM := zH (fun (i : Nat) (m : Int) (h : ms[i]? = some m) => hcell (cm i m h))
   have hf := ha.hf; have hl := ha.hl; have hm := ha.hm
   simp only at d0 d1 d2 hf hl hm
   have htk : (runs.take (k + 1)).flatMap compR = (runs.take k).flatMap compR ++ (List.range ms.length).flatMap (compE f l ms) := by
    rw [List.take_add_one, hr]; simp [compR]
   have HTK := zH htk; have hll := yxw k; obtain ⟨P, hP⟩ : ∃ P, (runs.take k).flatMap compR = P := ⟨_, rfl⟩; rw [hP] at HM HTK hll
   have HB : Hid (w.heap.size + 9 <= wr.heap.size) := by have h1 := HM.out.bel.size; rw [HZ.out] at h1; exact h1
   have HM0 := zH (InB.mk (bx := wr.heap.size) (HM.out.more ((zR _ wr).alloc (zN _) (.cells #[.int .i64 (f : Int), .int .i64 (l : Int), .slice (some ⟨g, 0, none⟩) ms.length ms.length] 171)) HB.out) (heap_alloc_new wr (.cells #[.int .i64 (f : Int), .int .i64 (l : Int), .slice (some ⟨g, 0, none⟩) ms.length ms.length] 171)) (Nat.le_of_eq HZ.out.symm))
   have HCM0 : Hid (∀ (i : Nat) (m : Int), ms[i]? = some m -> (allocs w (runObjs w)).cell? ⟨g, i, none⟩ = some (.int .i64 m) /\ g < w.heap.size + 9) := fun i m h => by
    refine ⟨cm i m h, ?_⟩; have h2 := yaj (cm i m h); rw [HZ.out] at h2; exact h2
   have HT : Hid (171 ≠ 88) := by show _ ≠ _; decide
   clear hr ha c2 cm hcell htk hP HM hlt HCM HB
   go_wp2
   clear d0 d1 d2; obtain ⟨bx, hbx⟩ : ∃ b, wr.heap.size = b := ⟨_, rfl⟩; rw [hbx] at HM0 |-; generalize (wr.alloc (.cells #[.int .i64 (f : Int), .int .i64 (l : Int), .slice (some ⟨g, 0, none⟩) ms.length ms.length] 171)) = wb at HM0 |-; clear hbx; obtain ⟨wo, rfl⟩ : ∃ wo : World, wo = wr := ⟨_, rfl⟩
   go_loopw [2, 33] (fun v i wr => ∃ j : Nat, j <= ms.length /\ i = .int .i64 (j : Nat) /\ Hid (InB (w.heap.size + 9) (allocs w (runObjs w)) v (P ++ (List.range j).flatMap (compE f l ms)) bx #[.int .i64 (f : Int), .int .i64 (l : Int), .slice (some ⟨g, 0, none⟩) ms.length ms.length] 171 wr)) (fun _ i _ => ms.length - (intOf i).toNat)
   case atStart => exact ⟨0, Nat.zero_le _, rfl, by have := HM0.out; show InB _ _ _ _ _ _ _ _; simpa using this⟩
   case round =>
    clear HM0; obtain ⟨j, hj, rfl, HM⟩ := hrel
    by_cases hlt : j < ms.length
    ·obtain ⟨m, hm0⟩ : ∃ m, ms[j]? = some m := ⟨_, List.getElem?_eq_getElem hlt⟩; have c0 := (HM.out.made.bel.cell (p := ⟨g, j, none⟩) (HCM0.out j m hm0).2).trans (HCM0.out j m hm0).1
     have hgm : ms.getD j 0 = m := by rw [List.getD_eq_getElem?_getD, hm0]; rfl
     obtain ⟨x, hx⟩ : ∃ x, letW l = x := ⟨_, rfl⟩; obtain ⟨y, hy⟩ : ∃ y, mkW m = y := ⟨_, rfl⟩; obtain ⟨z, hz⟩ : ∃ z, letW (l + 32) = z := ⟨_, rfl⟩; have CX := zH (fun w => ybt (c := l) (x := (l : Int)) (.inl hl) rfl hx w)
     have CZ := zH (fun w => ybt (c := l + 32) (x := (l : Int) + 32) (.inr ⟨by omega, by omega⟩) (by omega) hz w)
     have CM := zH (fun w => ygw m w)
     rw [hy] at CM; have HE := zH (zar (f := f) (l := l) hgm hx hy hz)
     have HB : Hid (w.heap.size + 9 <= wr.heap.size) := HM.out.bigw
     have HSn := zH (yco (compE f l ms) j)
     have HL : Hid ((P ++ (List.range j).flatMap (compE f l ms)).length + 2 <= 1000000) := by
      have := yei (compE f l ms) 2 (fun k => by simp [compE]) j
      show _ <= _; rw [List.length_append]; omega
     have HK : Hid (BoxS bx (.int .i64 (f : Int)) (.int .i64 (l : Int)) wr.drew) := HM.out.boxS
     have HA := zH (HM.out.alloc (.cells (ev [x, y]).toArray 168))
     have HAd : Hid (InB (w.heap.size + 9) (allocs w (runObjs w)) _ (P ++ (List.range j).flatMap (compE f l ms)) bx #[.int .i64 (f : Int), .int .i64 (l : Int), .slice (some ⟨g, 0, none⟩) ms.length ms.length] 171 (wr.alloc (.cells (ev [x, y]).toArray 168)).drew) := HA.out.more ((zR _ _).drew)
     have r1 : IntKind.i64.wrap ((f : Int) + (j : Int)) = (f : Int) + (j : Int) := IntWalk.i64_in _ (by omega)
     have r2 : IntKind.i64.wrap ((f : Int) + (j : Int) + 32) = (f : Int) + (j : Int) + 32 := IntWalk.i64_in _ (by omega)
     have r3 : IntKind.i64.wrap ((l : Int) + 32) = (l : Int) + 32 := IntWalk.i64_in _ (by omega)
     have r4 : (j : Int) < (ms.length : Int) := by omega
     have tok : True := trivial
     clear hm0 hgm hx hy hz hlt HA
     go_wp2
     go_region_held3 (fun w' => w'.cell? ⟨bx, 0, none⟩ = some (.int .i64 (f : Int)) /\ w'.cell? ⟨bx, 1, none⟩ = some (.int .i64 (l : Int)))
      (first
       | exact HK.out
       | exact HAd.out.boxS
       | exact HA1.out.boxS
       | exact HA2.out.boxS
       | exact HA3.out.boxS
       | exact (HA3.out.alloc _).boxS
       | exact HA4.out.boxS)
      (first
       | (go_at_call 103; (with_reducible refine (CX.out _).mono ?_); rintro e w' ⟨rfl, rfl⟩)
       | (go_at_call 103; (with_reducible refine (CZ.out _).mono ?_); rintro e w' ⟨rfl, rfl⟩)
       | (go_at_call 104; refine (CM.out _).mono ?_; rintro e w' ⟨rfl, rfl⟩)
       | (go_at_call 101; have _t := tok; refine (yck (yzf wr [x, y] (by simp) HB.out) HAd.out.bigw _).mono ?_; rintro e w1 ⟨vs, rfl, he, hb⟩; have HA1 := zH (HAd.out.more hb); have HA2 := zH (HA1.out.alloc (.cells (ev [z, y]).toArray 168)); have HE2 := zH (he.below ((zR _ w1).alloc (zN _) (.cells (ev [z, y]).toArray 168)) (zN _)); clear hb he _t tok)
       | (go_at_call 101; refine (yck (ybn w1 [z, y] (by simp) HA1.out.bigw) HA2.out.bigw _).mono ?_; rintro e w2 ⟨vt, rfl, he, hb⟩; have HA3 := zH (HA2.out.more hb); have HE3 := zH (HE2.out.below hb (zN _)); have HEm := zH he; clear hb he)
       | (refine yqe (by rfl) _ _ (by rfl) HA3.out HT.out [⟨vs, _, [_], [x, y]⟩, ⟨vt, _, [_], [z, y]⟩] (by intro m hm; simp at hm; rcases hm with rfl | rfl; exact HE3.out; exact HEm.out) (by rfl) 2 (by rfl) HL.out ?_; intro v3 w3 hm3; have HA4 := zH hm3; clear hm3))
     go_wp2
     go_roundw
     case rel => exact ⟨j + 1, by omega, by go_num, by rw [HSn.out, HE.out, <- List.append_assoc]; exact HA4.out⟩
     case measure => simp [intOf]; omega
    ·obtain rfl : j = ms.length := by omega
     go_wp2
     go_roundw
     case rel => exact ⟨k + 1, by omega, by go_num, by rw [HTK.out]; exact HM.out.made⟩
     case measure => simp [intOf]; omega
  ·obtain rfl : k = 8 := by omega
   have hE : (runs.take 8).flatMap compR = runs.flatMap compR := rfl
   rw [hE] at HM
   go_wp2
   go_ret
   exact HM.out.weaken HW0.out (by omega)
theorem yew {e n : Nat} {v : Int} (h : (e : Int) / 256 * 256 + v % 128 * 2 + (e : Int) % 2 = n) (he : e < 4294967296) (h1 : 0 <= v) (h2 : v <= 100) (w : World) :
  Calls Tryz.prog 105 #[.int .u32 (e : Int), .int .i64 3, .int .i64 v] w fun r w' => r = .returned (.int .u32 (n : Nat)) /\ w = w' := E3.yjr h he (by omega) (by omega) w
theorem Ent.thru {B : Nat} {w w' : World} {m : ME} (h : Ent B w m) (o : Obj) (hb : Below (w.alloc o).heap.size (w.alloc o) w') : Ent B w' m :=
 (h.below ((zR _ w).alloc (zN _) o) (zN _)).below hb (zN _)
theorem ygm {w0 w w' : World} (h : Below w0.heap.size w0 w) (o : Obj) (hb : Below (w.alloc o).heap.size (w.alloc o) w') : Below w0.heap.size w0 w' :=
 (h.alloc h.size o).trans (hb.mono (by have := h.size; simp; omega))
theorem yze (B : Nat) (w : World) : OwnE B w (.slice none 0 0) [] := World.ownsRow_nil w B _ _
theorem yzd (w : World) (N : List ME) (hl : N.length <= 1000) {B : Nat} (hB : B <= w.heap.size) : OwnM B (w.alloc (.cells (mcells N).toArray 88)) (.slice (some ⟨w.heap.size, 0, none⟩) N.length N.length) N := by
 have := World.ownsRow_lit (base := B) (e := 88) (size := 2) w (mcells N).toArray N.length hB (by simp only [maxLen]; omega) (by simp [yaq])
 unfold OwnM
 simpa using this
set_option maxHeartbeats 2000000 in
theorem yqx (w : World) : Calls Tryz.prog 73 #[] w (GotM w.heap.size w othP) := by
 obtain ⟨a, ha⟩ : ∃ a, letW 97 = a := ⟨_, rfl⟩; obtain ⟨e, he⟩ : ∃ e, letW 101 = e := ⟨_, rfl⟩; obtain ⟨s, hs⟩ : ∃ s, letW 115 = s := ⟨_, rfl⟩
 have ha0 : a = 16785412 := by rw [<- ha]; rfl
 have he0 : e = 18882564 := by rw [<- he]; rfl
 have hs0 : s = 26222596 := by rw [<- hs]; rfl
 have CA := zH (fun w => ybt (c := 97) (x := 97) (.inr ⟨by omega, by omega⟩) rfl ha w)
 have CE := zH (fun w => ybt (c := 101) (x := 101) (.inr ⟨by omega, by omega⟩) rfl he w)
 have CS := zH (fun w => ybt (c := 115) (x := 115) (.inr ⟨by omega, by omega⟩) rfl hs w)
 obtain ⟨s4, hs4⟩ : ∃ s4, E3.mk 400 32 4 0 = s4 := ⟨_, rfl⟩; obtain ⟨a10, ha10⟩ : ∃ a10, E3.mk 256 32 10 0 = a10 := ⟨_, rfl⟩; obtain ⟨e10, he10⟩ : ∃ e10, E3.mk 288 32 10 0 = e10 := ⟨_, rfl⟩; obtain ⟨a4, ha4⟩ : ∃ a4, E3.mk 256 32 4 0 = a4 := ⟨_, rfl⟩; obtain ⟨e4, he4⟩ : ∃ e4, E3.mk 288 32 4 0 = e4 := ⟨_, rfl⟩; have WS := zH (fun w => yew (e := s) (n := s4) (v := 4) (by rw [hs0, <- hs4]; decide) (by omega) (by omega) (by omega) w)
 have WA := zH (fun w => yew (e := a) (n := a10) (v := 10) (by rw [ha0, <- ha10]; decide) (by omega) (by omega) (by omega) w)
 have WE := zH (fun w => yew (e := e) (n := e10) (v := 10) (by rw [he0, <- he10]; decide) (by omega) (by omega) (by omega) w)
 have WA4 := zH (fun w => yew (e := a) (n := a4) (v := 4) (by rw [ha0, <- ha4]; decide) (by omega) (by omega) (by omega) w)
 have WE4 := zH (fun w => yew (e := e) (n := e4) (v := 4) (by rw [he0, <- he4]; decide) (by omega) (by omega) (by omega) w)
 have HP : Hid (othP = [([223], [s4, s4]), ([198], [a10, e10]), ([230], [a4, e4]), ([173], [])]) := by show _ = _; unfold othP; rw [hs4, ha10, he10, ha4, he4]
 have t1 : True := trivial
 have t2 : True := trivial
 have t3 : True := trivial
 clear ha he hs ha0 he0 hs0 hs4 ha10 he10 ha4 he4
 go_enter Tryz.func73, Tryz.ntmps73
 go_wp2_with (first
  | (go_at_call 103; (with_reducible refine (CA.out _).mono ?_); rintro e w' ⟨rfl, rfl⟩)
  | (go_at_call 103; (with_reducible refine (CE.out _).mono ?_); rintro e w' ⟨rfl, rfl⟩)
  | (go_at_call 103; (with_reducible refine (CS.out _).mono ?_); rintro e w' ⟨rfl, rfl⟩)
  | (go_at_call 105; (with_reducible refine (WS.out _).mono ?_); rintro e w' ⟨rfl, rfl⟩)
  | (go_at_call 105; (with_reducible refine (WA.out _).mono ?_); rintro e w' ⟨rfl, rfl⟩)
  | (go_at_call 105; (with_reducible refine (WE.out _).mono ?_); rintro e w' ⟨rfl, rfl⟩)
  | (go_at_call 105; (with_reducible refine (WA4.out _).mono ?_); rintro e w' ⟨rfl, rfl⟩)
  | (go_at_call 105; (with_reducible refine (WE4.out _).mono ?_); rintro e w' ⟨rfl, rfl⟩)
  | (go_at_call 101; have _t := t1; refine (yck (B := w.heap.size) (ybn w [s4, s4] (by simp) (zN _)) (by simp) _).mono ?_; rintro e w1 ⟨v1, rfl, he, hb⟩; have E1 := zH he; have B1 := zH (ygm (zR _ w) _ hb); clear hb he _t t1)
  | (go_at_call 101; have _t := t2; refine (yck (B := w.heap.size) (ybn w1 [a10, e10] (by simp) B1.out.size) (by simp; exact Nat.le_succ_of_le B1.out.size) _).mono ?_; rintro e w2 ⟨v2, rfl, he, hb⟩; have E2 := zH he; have E12 := zH (E1.out.thru _ hb); have B2 := zH (ygm B1.out _ hb); clear hb he _t t2)
  | (go_at_call 101; have _t := t3; refine (yck (B := w.heap.size) (ybn w2 [a4, e4] (by simp) B2.out.size) (by simp; exact Nat.le_succ_of_le B2.out.size) _).mono ?_; rintro e w3 ⟨v3, rfl, he, hb⟩; have E3' := zH he; have E13 := zH (E12.out.thru _ hb); have E23 := zH (E2.out.thru _ hb); have B3 := zH (ygm B2.out _ hb); clear hb he _t t3)
  | (go_at_call 101; refine (yck (B := w.heap.size) (W := w3) (yze w.heap.size w3) B3.out.size _).mono ?_; rintro e w4 ⟨v4, rfl, he, hb⟩; have E4' := zH he; have E14 := zH (E13.out.below hb (zN _)); have E24 := zH (E23.out.below hb (zN _)); have E34 := zH (E3'.out.below hb (zN _)); have B4 := zH (B3.out.trans (hb.mono B3.out.size)); clear hb he))
 go_ret
 rw [HP.out]; refine ⟨_, [⟨v1, _, [223], [s4, s4]⟩, ⟨v2, _, [198], [a10, e10]⟩, ⟨v3, _, [230], [a4, e4]⟩, ⟨v4, _, [173], []⟩], rfl, rfl, yzd w4 _ (by simp) B4.out.size, ?_, B4.out.alloc B4.out.size _⟩
 intro m hm
 have hst : ∀ {m : ME}, Ent w.heap.size w4 m -> Ent w.heap.size (w4.alloc (.cells (mcells [⟨v1, .slice (some ⟨w.heap.size, 0, none⟩) 2 2, [223], [s4, s4]⟩, ⟨v2, .slice (some ⟨w1.heap.size, 0, none⟩) 2 2, [198], [a10, e10]⟩, ⟨v3, .slice (some ⟨w2.heap.size, 0, none⟩) 2 2, [230], [a4, e4]⟩, ⟨v4, .slice none 0 0, [173], []⟩]).toArray 88)) m := fun h => h.below ((zR _ w4).alloc (zN _) _) (zN _)
 simp only [List.mem_cons, List.not_mem_nil, or_false] at hm
 rcases hm with rfl | rfl | rfl | rfl
 ·exact hst E14.out
 ·exact hst E24.out
 ·exact hst E34.out
 ·exact hst E4'.out
end Go.Proofs.YteibnfeokgibmaaGreat
