/-
  PACKED for a claim.
-/
import Derived.Laws.CopyOwn
import Derived.Lib.AppendZerosOnto
import Derived.Lib.Overlaps
import Derived.Lib.JoinLaws
import Derived.Laws.Externs
import Derived.Test.YteibnfeokgibmaaGreatP30
set_option linter.unusedVariables false
set_option linter.unusedSimpArgs false
set_option maxRecDepth 100000
namespace Go.Proofs.YteibnfeokgibmaaGreat
open Go.RowKit Go.Lib
theorem ytc (w : World) (dT sT ty elem : TypeId) (g o dLen dCap : Nat) (a : Addr) (sLen sCap : Nat) (cur : Array Value) (t : TypeId) (cs : List Value) (n : Nat)
  (hu : Tryz.prog.underlying dT = some (.slice elem)) (hs : (Tryz.prog.info? elem).map (·.size) = some 2)
  (hg : w.heap[g]? = some (.cells cur t (0, 0))) (hn : n = Nat.min sLen dLen) (hl : cs.length = n * 2)
  (hsrc : ∀ j v, cs[j]? = some v -> w.cell? (a.add j) = some v) (hfit : o + cs.length <= cur.size) (h1 : ∀ v ∈ cs, v.oneCell' = true) :
  (Builtin.copy_ #[dT, sT] ty #[.slice (some ⟨g, o, none⟩) dLen dCap, .slice (some a) sLen sCap]).run Tryz.prog w =
   .ok (goInt n) (w.setRow g (cur.toList.take o ++ cs ++ cur.toList.drop (o + cs.length)).toArray) := by
 have hl2 := run_loadCells_list (P := Tryz.prog) w a cs hsrc; have hst := run_storeCells_at Tryz.prog g o t cs 0 cur w hg (by simpa using hfit) h1
 cases hq : Tryz.prog.info? elem with
 | none => simp [hq] at hs
 | some i =>
  have hi : i.size = 2 := by simpa [hq] using hs
  rw [hl] at hl2
  simp [Builtin.copy_, run_underlying hu, Builtin.lenOf, Builtin.firstCells, sizeOf, typeInfo, hq, hi, <- hn, hl2, hst]
theorem ycp {w : World} {ops : Array Oper} {rest : List Oper} {o : Oper} {a : Act} {Q : Exit -> Act -> World -> Prop} (hgd : o.guard = none) (d s : Operand) (dT sT : TypeId)
  (ho : o.op = .call { callee := .builtin .copy, args := #[d, s], argTypes := #[dT, sT] }) (elem : TypeId) (hu : Tryz.prog.underlying dT = some (.slice elem)) (hsz : (Tryz.prog.info? elem).map (·.size) = some 2)
  (g off dLen dCap : Nat) (ad : Addr) (sLen sCap : Nat) (hd : a.eval d = .slice (some ⟨g, off, none⟩) dLen dCap) (hs : a.eval s = .slice (some ad) sLen sCap)
  (cur : List Value) (t : TypeId) (hg : w.heap[g]? = some (.cells cur.toArray t (0, 0))) (cs : List Value) (n : Nat) (hn : n = Nat.min sLen dLen) (hl : cs.length = n * 2)
  (hsrc : ∀ j v, cs[j]? = some v -> w.cell? (ad.add j) = some v) (hfit : off + cs.length <= cur.length) (h1 : ∀ v ∈ cs, v.oneCell' = true) (B : Nat) (w0 : World) (hb : Below B w0 w) (hBg : B <= g)
  (h : ∀ w', Hid (w'.heap[g]? = some (.cells (splice cur off cs).toArray t (0, 0))) -> Hid (∀ k, k ≠ g -> w'.heap[k]? = w.heap[k]?) -> Below B w0 w' -> wpList Tryz.prog ops Q rest (a.put o.dst (goInt n)) w') : wpList Tryz.prog ops Q (o :: rest) a w := by
 refine wpList_plain hgd fun K hK => ?_
 have hrun := ytc w dT sT o.type elem g off dLen dCap ad sLen sCap cur.toArray t cs n hu hsz hg hn hl hsrc (by simpa using hfit) h1
 unfold Oper.wp
 simp [execOp, ho, resolve, invoke, builtin, hd, hs, hrun, Result.andThen]
 refine hK _ _ (h _ (show _ = _ by simpa [splice] using setRow_heap w g _ _ t _ hg) (fun k hk => setRow_other w g k _ hk) (below_setRow hb hBg _))
theorem yts {w : World} {g : Nat} {R : List Value} {T : TypeId} {fr : Nat × Nat} {n c : Nat} {xs : List Value} (h : w.heap[g]? = some (.cells R.toArray T fr)) (hR : R.take xs.length = xs) (hn : n <= c) : RdF anyB w (.slice (some ⟨g, 0, none⟩) n c) n xs :=
 ⟨_, c, rfl, hn, fun _ => ⟨g, 0, rfl, trivial, fun j u hu => by
  rw [Nat.zero_add, cell_of_row _ _ j _ _ _ h]; have hj := (List.getElem?_eq_some_iff.1 hu).1; rw [<- hR, List.getElem?_take, if_pos hj] at hu
  simpa using hu⟩⟩
theorem ins_row {cur : List Value} {M : List ME} {x : ME} {i : Nat} (hi : i < M.length) (hc : cur.take (M.length * 2) = mcells M) (hl : (M.length + 1) * 2 <= cur.length) :
  (splice (splice cur ((i + 1) * 2) (mcells (M.drop i))) (i * 2) [x.vs, x.vl]).take (mcells (M.take i ++ [x] ++ M.drop i)).length = mcells (M.take i ++ [x] ++ M.drop i) := by
 have hd : (mcells (M.drop i)).length = (M.length - i) * 2 := by rw [yaq, List.length_drop]
 have ht : (mcells (M.take i)).length = i * 2 := by rw [yaq, List.length_take]; omega
 have e0 : cur.take (i * 2) = mcells (M.take i) := by
  have h2 : (cur.take (M.length * 2)).take (i * 2) = cur.take (i * 2) := by rw [List.take_take]; congr 1; omega
  rw [<- h2, hc]; have h3 := congrArg (List.take (i * 2)) (show mcells M = mcells (M.take i) ++ mcells (M.drop i) by rw [<- yaw, List.take_append_drop])
  rw [h3, <- ht, List.take_left]
 have hs1 : (splice cur ((i + 1) * 2) (mcells (M.drop i))).take (i * 2) = mcells (M.take i) := by
  unfold splice; rw [List.take_append_of_le_length (by rw [List.length_take]; omega), List.take_take, show min (i * 2) ((i + 1) * 2) = i * 2 by omega, e0]
 have hs2 : (splice cur ((i + 1) * 2) (mcells (M.drop i))).drop (i * 2 + 2) = mcells (M.drop i) ++ cur.drop ((i + 1) * 2 + (mcells (M.drop i)).length) := by
  unfold splice
  have h4 : (cur.take ((i + 1) * 2)).length = i * 2 + 2 := by rw [List.length_take]; omega
  rw [<- h4, List.drop_left]
 have e : splice (splice cur ((i + 1) * 2) (mcells (M.drop i))) (i * 2) [x.vs, x.vl] = mcells (M.take i ++ [x] ++ M.drop i) ++ cur.drop ((i + 1) * 2 + (mcells (M.drop i)).length) := by
  rw [splice, hs1, show ([x.vs, x.vl] : List Value).length = 2 from rfl, hs2, yaw, yaw]
  simp [mcells]
 rw [e, List.take_left]
theorem yej : (Tryz.prog.info? 88).map (·.size) = some 2 := by kernel_rfl
theorem yma (w : World) : (Go.sizeOf 88).run Tryz.prog w = .ok 2 w := by
 obtain ⟨i0, hi0, hz0, hz1, hz2⟩ := info_parts ybm
 simp [Go.sizeOf, typeInfo, hi0, hz1]
theorem ylr (w : World) (gx g o : Nat) (lb cb : Nat) (hne : gx ≠ g) {x1 x2 : Value} {R : List Value} (hx : w.heap[gx]? = some (.cells #[x1, x2] 88 (0, 0))) (hg : w.heap[g]? = some (.cells R.toArray 88 (0, 0))) (hR : R.length ≠ 0) :
  (callFunc 226 #[.slice (some ⟨gx, 0, none⟩) 1 1, .slice (some ⟨g, o, none⟩) lb cb]).run Tryz.prog w = .ok (.value (.bool false)) w := by
 rw [run_callFunc_extern Tryz.func226 (by kernel_rfl) (by kernel_rfl) (by kernel_rfl) (e := Extern.SlicesOverlaps.overlaps #[83, 83] #[4]) (by kernel_rfl),
  Lib.run_overlaps_apart w 83 4 88 Tryz.underlying83 2 yma ⟨gx, 0, none⟩ ⟨g, o, none⟩ 1 1 lb cb hne 88 88 2 R.length
   (by simp [World.shape?, hx]) (by simp [World.shape?, hg]) hR (frozen_of_row _ _ 0 _ _ hx) (frozen_of_row _ _ 2 _ _ hx)]
 rfl
set_option maxHeartbeats 4000000 in
theorem yvo {w : World} {B g n c gx i : Nat} {M : List ME} {x : ME} {R : List Value} (hg : w.heap[g]? = some (.cells R.toArray 88 (0, 0))) (hR : R.take (n * 2) = mcells M) (hRl : R.length = c * 2) (hc : c <= maxLen) (hn : M.length = n) (hi : i < n) (hroom : n + 1 <= c) (hx : w.heap[gx]? = some (.cells #[x.vs, x.vl] 88 (0, 0))) (hne : gx ≠ g) (hone : x.vs.oneCell' = true /\ x.vl.oneCell' = true) (hoM : ∀ u ∈ mcells M, u.oneCell' = true) (hB : B <= g) (hBw : B <= w.heap.size) (hn6 : n <= 1000000) :
  Calls Tryz.prog 214 #[.slice (some ⟨g, 0, none⟩) n c, .int .i64 (i : Nat), .slice (some ⟨gx, 0, none⟩) 1 1] w fun e w' => (∃ A' c', e = .returned (.slice A' (n + 1) c') /\ RdF anyB w' (.slice A' (n + 1) c') (n + 1) (mcells (M.take i ++ [x] ++ M.drop i))) /\ Below B w w' := by
 have hc63 : (c : Int) <= 9223372036854775807 := by simp only [maxLen] at hc; omega
 have hov := fun lb cb => ylr w gx g ((i + 1) * 2) lb cb hne hx hg (by omega)
 have HG := zH hg; have HX := zH hx; have HRR := zH hR; have HRL := zH hRl; have HN := zH hn; have HONE := zH hone; have HOM := zH hoM
 have hinI : (i : Int) < (n : Int) := by omega
 have hnI : (n : Int) <= 1000000 := by omega
 have hcI : (n : Int) + 1 <= (c : Int) := by omega
 have hz2 : ((i : Int) == (n : Int)) = false := by rw [beq_eq_false_iff_ne]; omega
 have hw1 : IntKind.i64.wrap ((i : Int) + 1) = (i : Int) + 1 := IntWalk.i64_in _ (by omega)
 have hw2 : IntKind.i64.wrap ((n : Int) + 1) = (n : Int) + 1 := IntWalk.i64_in _ (by omega)
 have hb1 : (0 : Int) <= (i : Int) + 1 := by omega
 have htn : ((i : Int) + 1).toNat = i + 1 := by omega
 have htn2 : ((n : Int) + 1).toNat = n + 1 := by omega
 have hb2 : ¬ (c = i + 1) := by omega
 have hb3 : (i : Int) <= (n : Int) + 1 := by omega
 have hb4 : ¬ (c = i) := by omega
 have hb5 : i <= n := by omega
 have HL1 : Hid ((mcells (M.drop i)).length = (n - i) * 2) := by show _ = _; rw [yaq, List.length_drop, hn]
 have HFIN : Hid ((splice (splice R ((i + 1) * 2) (mcells (M.drop i))) (i * 2) [x.vs, x.vl]).take (mcells (M.take i ++ [x] ++ M.drop i)).length = mcells (M.take i ++ [x] ++ M.drop i)) := ins_row (by omega) (by rw [hn]; exact hR) (by omega)
 have HSP : Hid ((splice R ((i + 1) * 2) (mcells (M.drop i))).length = R.length) := length_splice _ _ _ (by rw [yaq, List.length_drop]; omega)
 have HDR : Hid (∀ j v, (mcells (M.drop i))[j]? = some v -> R[i * 2 + j]? = some v) := fun j v hj => by
  rw [ybs, List.getElem?_drop] at hj; have hlt := (List.getElem?_eq_some_iff.1 hj).1; rw [<- hR, List.getElem?_take] at hj
  split at hj
  ·exact hj
  ·cases hj
 have HOD : Hid (∀ u ∈ mcells (M.drop i), u.oneCell' = true) := fun u hu => hoM u (by rw [ybs] at hu; exact List.mem_of_mem_drop hu)
 obtain ⟨D, hD⟩ : ∃ D, mcells (M.drop i) = D := ⟨_, rfl⟩; rw [hD] at HL1 HFIN HSP HDR HOD; obtain ⟨FI, hFI⟩ : ∃ FI, mcells (M.take i ++ [x] ++ M.drop i) = FI := ⟨_, rfl⟩; rw [hFI] at HFIN; rw [hFI]; have HBW := zH hBw; have HBG := zH hB; have HNE := zH hne; clear hg hx hR hRl hn hone hoM hD hFI hBw hB hne hc
 go_enter Tryz.func214, Tryz.ntmps214
 go_wp2_with (simp only [hov])
 refine yag (m := 8) [69, 70, 71, 72, 73, 74, 75, 76] [SV.eq (.slice (some ⟨g, 0, none⟩) (n + 1) c), SV.eq (.int .i64 (i : Int)), SV.eq (.int .i64 1), SV.eq (.int .i64 ((i : Int) + 1)), SV.eq (.slice (some ⟨g, (i + 1) * 2, none⟩) (n - i) (c - (i + 1))), SV.eq (.slice (some ⟨g, 0, none⟩) (n + 1) c), SV.eq (.int .i64 (i : Int)), SV.eq (.slice (some ⟨g, i * 2, none⟩) (n + 1 - i) (c - i))] (by kernel_rfl) (by kernel_rfl) ?_ ?_
 ·refine ⟨⟨⟨⟨⟨⟨⟨⟨trivial, ?_⟩, ?_⟩, ?_⟩, ?_⟩, ?_⟩, ?_⟩, ?_⟩, ?_⟩
  all_goals (refine OpIs.mk rfl ?_; intro vs w1 hb hd K hK; simp only [frameV, zS, zA, zB, zC, zD] at hK |-)
  iterate 3 (·have HK := zH hK; clear hK; go_simp; exact HK.out _ _ rfl (zR _ _))
  ·have d1 : vs 1 = .int .i64 (i : Int) := hd 1 (by kernel_rfl)
   have d2 : vs 2 = .int .i64 1 := hd 2 (by kernel_rfl)
   simp only [d1, d2] at hK |-; have HK := zH hK; clear hK; go_simp; exact HK.out _ _ rfl (zR _ _)
  ·have d0 : vs 0 = .slice (some ⟨g, 0, none⟩) (n + 1) c := hd 0 (by kernel_rfl)
   have d3 : vs 3 = .int .i64 ((i : Int) + 1) := hd 3 (by kernel_rfl)
   simp only [d0, d3] at hK |-; have HK := zH hK; clear hK; go_simp; exact HK.out _ _ rfl (zR _ _)
  iterate 2 (·have HK := zH hK; clear hK; go_simp; exact HK.out _ _ rfl (zR _ _))
  ·have d5 : vs 5 = .slice (some ⟨g, 0, none⟩) (n + 1) c := hd 5 (by kernel_rfl)
   have d6 : vs 6 = .int .i64 (i : Int) := hd 6 (by kernel_rfl)
   simp only [d5, d6] at hK |-; have HK := zH hK; clear hK; go_simp; exact HK.out _ _ rfl (zR _ _)
 ·intro vs w3 hb hd
  have d4 : vs 4 = .slice (some ⟨g, (i + 1) * 2, none⟩) (n - i) (c - (i + 1)) := hd 4 (by omega)
  have d7 : vs 7 = .slice (some ⟨g, i * 2, none⟩) (n + 1 - i) (c - i) := hd 7 (by omega)
  have HG3 := zH ((hb.block g (R4.yad HG.out)).trans HG.out); have HX3 := zH ((hb.block gx (R4.yad HX.out)).trans HX.out); have HB3 := zH ((hb.mono HBW.out)); simp only [frameV, zS, zA, zB, List.drop_succ_cons, List.drop_zero, d4, d7]; clear hb hd; refine ycp rfl (.tmp 73) (.tmp 76) 83 83 rfl 88 Tryz.underlying83 yej g ((i + 1) * 2) (n - i) (c - (i + 1)) ⟨g, i * 2, none⟩ (n + 1 - i) (c - i) rfl rfl R _ HG3.out D (n - i) (by simp only [Nat.min_def]; split <;> omega) HL1.out (fun j v hj => by rw [Addr.add_lit, cell_of_row _ _ _ _ _ _ HG3.out]; simpa using HDR.out j v hj) (by have := HRL.out; have := HL1.out; omega) HOD.out B w HB3.out HBG.out ?_; intro w4 hg4 hk4 hb4; have HB4 := zH hb4; have HX4 := zH ((hk4.out gx HNE.out).trans HX3.out); clear hk4 hb4
  have hm1 : 1 = Nat.min 1 (n + 1 - i) := by simp only [Nat.min_def]; split <;> omega
  have hm2 : i * 2 + ([x.vs, x.vl] : List Value).length <= (splice R ((i + 1) * 2) D).length := by rw [HSP.out, HRL.out]; show i * 2 + 2 <= _; omega
  have hm3 : ∀ u ∈ ([x.vs, x.vl] : List Value), u.oneCell' = true := by intro u hu; simp at hu; rcases hu with rfl | rfl; exact HONE.out.1; exact HONE.out.2
  have hm4 : ∀ (j : Nat) v, ([x.vs, x.vl] : List Value)[j]? = some v -> w4.cell? ((⟨gx, 0, none⟩ : Addr).add j) = some v := fun j v hj => by rw [Addr.add_lit, cell_of_row _ _ _ _ _ _ HX4.out, Nat.zero_add]; simpa using hj
  have HM1 := zH hm1; have HM2 := zH hm2; have HM3 := zH hm3; have HM4 := zH hm4; clear hm1 hm2 hm3 hm4
  go_wp2_with (refine ycp rfl (.tmp 80) (.tmp 81) 83 83 rfl 88 Tryz.underlying83 yej g (i * 2) (n + 1 - i) (c - i) ⟨gx, 0, none⟩ 1 1 rfl rfl _ _ hg4.out [x.vs, x.vl] 1 HM1.out rfl HM4.out HM2.out HM3.out B w HB4.out HBG.out ?_; intro w5 hg5 hk5 hb5; have HB5 := zH hb5; clear hk5 hb5)
  go_ret
  exact ⟨⟨_, _, rfl, yts hg5.out HFIN.out (by omega)⟩, HB5.out⟩
end Go.Proofs.YteibnfeokgibmaaGreat
namespace Go.Proofs.YteibnfeokgibmaaGreat
open Go.RowKit Go.Lib
theorem yzx {ROW : List Value} {M : List ME} {x : ME} {i : Nat} (hi : i <= M.length) (hR : ROW.take (i * 2) = mcells (M.take i)) (hl : (M.length + 1) * 2 <= ROW.length) :
  (splice (splice ROW (i * 2) [x.vs, x.vl]) ((i + 1) * 2) (mcells (M.drop i))).take (mcells (M.take i ++ [x] ++ M.drop i)).length = mcells (M.take i ++ [x] ++ M.drop i) := by
 have h1 : (splice ROW (i * 2) [x.vs, x.vl]).take ((i + 1) * 2) = mcells (M.take i) ++ [x.vs, x.vl] := by
  unfold splice; rw [<- hR, <- List.append_assoc, show (i + 1) * 2 = (ROW.take (i * 2) ++ [x.vs, x.vl]).length by rw [List.length_append, List.length_take]; simp; omega, List.take_left]
 have e : splice (splice ROW (i * 2) [x.vs, x.vl]) ((i + 1) * 2) (mcells (M.drop i)) = mcells (M.take i ++ [x] ++ M.drop i) ++ (splice ROW (i * 2) [x.vs, x.vl]).drop ((i + 1) * 2 + (mcells (M.drop i)).length) := by
  rw [splice, h1, yaw, yaw]
  simp [mcells]
 rw [e, List.take_left]
set_option maxHeartbeats 4000000 in
theorem yzy {w : World} {B g n c gx i : Nat} {M : List ME} {x : ME} {R : List Value} (hg : w.heap[g]? = some (.cells R.toArray 88 (0, 0))) (hR : R.take (n * 2) = mcells M) (hn : M.length = n) (hi : i < n) (hnc : n <= c) (hroom : c < n + 1) (hx : w.heap[gx]? = some (.cells #[x.vs, x.vl] 88 (0, 0))) (hone : x.vs.oneCell' = true /\ x.vl.oneCell' = true) (hoM : ∀ u ∈ mcells M, u.oneCell' = true) (hBw : B <= w.heap.size) (hn6 : n <= 1000000) :
  Calls Tryz.prog 214 #[.slice (some ⟨g, 0, none⟩) n c, .int .i64 (i : Nat), .slice (some ⟨gx, 0, none⟩) 1 1] w fun e w' => (∃ A' c', e = .returned (.slice A' (n + 1) c') /\ RdF anyB w' (.slice A' (n + 1) c') (n + 1) (mcells (M.take i ++ [x] ++ M.drop i))) /\ Below B w w' := by
 obtain ⟨i0, hi0, hz0, hzs, hzb⟩ := info_parts ybm; have hgw := R4.yad hg; have hxw := R4.yad hx
 have hik : i + (n + 1 - i) = n + 1 := by omega
 have hMt : (mcells (M.take i)).length = i * 2 := by rw [yaq, List.length_take]; omega
 have hRM : ∀ j v, (mcells (M.take i))[j]? = some v -> R[j]? = some v := fun j v hj => by
  have hj2 := (List.getElem?_eq_some_iff.1 hj).1
  have h3 : (mcells M)[j]? = some v := by
   have h4 : mcells M = mcells (M.take i) ++ mcells (M.drop i) := by rw [<- yaw, List.take_append_drop]
   rw [h4, List.getElem?_append_left hj2]; exact hj
  rw [<- hR, List.getElem?_take] at h3
  split at h3
  ·exact h3
  ·cases h3
 have hold : (Builtin.firstCells i0.size i (.slice (some ⟨g, 0, none⟩) i c)).run Tryz.prog w.drew = .ok (mcells (M.take i)).toArray w.drew := by
  rw [hzs]
  exact run_firstCells_some w.drew 2 i ⟨g, 0, none⟩ i c (mcells (M.take i)) hMt (fun j v hj => by
   rw [Addr.add_lit, cell_of_row w.drew _ _ _ _ _ hg, Nat.zero_add]
   simpa using hRM j v hj)
 have hrz : ∀ ty, (Builtin.append_ #[83, 3] ty #[.slice (some ⟨g, 0, none⟩) i c, .int .i64 ((n : Int) + 1 - (i : Int))]).run Tryz.prog w = .ok (.slice (some ⟨w.heap.size, 0, none⟩) (n + 1) (grownCap w (n + 1) c 88)) _ := fun ty => by
  have h := Lib.run_append_grow_zeros w 83 3 ty 88 i0 _ .i64 .i64 Tryz.underlying83 Tryz.underlying3 hi0 hz0 (some ⟨g, 0, none⟩) i c (mcells (M.take i)) hold (n + 1 - i) (by omega) (by omega) (by omega) (by omega) (by rw [hzb]; omega) (by rw [hzb, hik]; exact growslice_fits hroom (by omega))
  rw [hik] at h; rw [show (n : Int) + 1 - (i : Int) = ((n + 1 - i : Nat) : Int) by omega]
  exact h
 obtain ⟨G, hG⟩ : ∃ G, grownCap w (n + 1) c 88 = G := ⟨_, rfl⟩; have hge := grownCap_ge w (n + 1) c 88; have hle := grownCap_le_maxLen w (n + 1) c 88 (by simp only [maxLen]; omega)
 rw [hG] at hrz hge hle; obtain ⟨CS, hCS⟩ : ∃ CS, (mcells (M.take i)).toArray ++ Builtin.zeroCells (Value.agg #[.slice none 0 0, .slice none 0 0]).cells (n + 1 - i) ++ Builtin.zeroCells (Value.agg #[.slice none 0 0, .slice none 0 0]).cells (G - (n + 1)) = CS := ⟨_, rfl⟩; rw [hCS] at hrz; obtain ⟨ROW, hROW⟩ : ∃ ROW : List Value, CS = ROW.toArray := ⟨CS.toList, by simp⟩
 have hrow1 : ROW.take (i * 2) = mcells (M.take i) := by
  have h5 := congrArg Array.toList hCS; rw [hROW] at h5
  simp at h5
  rw [<- h5, <- hMt, List.take_left]
 have hrowl : (n + 1) * 2 <= ROW.length := by
  have h5 := congrArg Array.size hCS; rw [hROW] at h5; simp only [Array.size_append, size_zeroCells, List.size_toArray, hMt] at h5
  have h6 : (Value.agg #[.slice none 0 0, .slice none 0 0]).cells.size = 2 := rfl
  rw [h6] at h5
  omega
 rw [hROW] at hrz; have HRZ := zH hrz
 have hG63 : (G : Int) <= 9223372036854775807 := by simp only [maxLen] at hle; omega
 have HFIN : Hid ((splice (splice ROW (i * 2) [x.vs, x.vl]) ((i + 1) * 2) (mcells (M.drop i))).take (mcells (M.take i ++ [x] ++ M.drop i)).length = mcells (M.take i ++ [x] ++ M.drop i)) := yzx (by omega) hrow1 (by omega)
 have HSP : Hid ((splice ROW (i * 2) [x.vs, x.vl]).length = ROW.length) := length_splice _ _ _ (by simp; omega)
 have HRL := zH hrowl
 have HDR : Hid (∀ j v, (mcells (M.drop i))[j]? = some v -> R[i * 2 + j]? = some v) := fun j v hj => by
  rw [ybs, List.getElem?_drop] at hj; rw [<- hR, List.getElem?_take] at hj
  split at hj
  ·exact hj
  ·cases hj
 have HOD : Hid (∀ u ∈ mcells (M.drop i), u.oneCell' = true) := fun u hu => hoM u (by rw [ybs] at hu; exact List.mem_of_mem_drop hu)
 have HL1 : Hid ((mcells (M.drop i)).length = (n - i) * 2) := by show _ = _; rw [yaq, List.length_drop, hn]
 obtain ⟨D, hD⟩ : ∃ D, mcells (M.drop i) = D := ⟨_, rfl⟩; rw [hD] at HL1 HFIN HDR HOD; obtain ⟨FI, hFI⟩ : ∃ FI, mcells (M.take i ++ [x] ++ M.drop i) = FI := ⟨_, rfl⟩; rw [hFI] at HFIN; rw [hFI]; have HG := zH hg; have HX := zH hx; have HONE := zH hone; have HBW := zH hBw; have HGW := zH hgw; have HXW := zH hxw
 have HM1 : Hid (1 = Nat.min 1 (n + 1 - i)) := by show _ = _; simp only [Nat.min_def]; split <;> omega
 have HM2 : Hid (i * 2 + ([x.vs, x.vl] : List Value).length <= ROW.length) := by show i * 2 + 2 <= _; omega
 have HM3 : Hid (∀ u ∈ ([x.vs, x.vl] : List Value), u.oneCell' = true) := by intro u hu; simp at hu; rcases hu with rfl | rfl; exact hone.1; exact hone.2
 have HBN : Hid (Below w.heap.size w ((w.alloc (.cells ROW.toArray 88)).drew)) := ((zR _ w).alloc (zN _) _).drew
 have HGN : Hid ((w.alloc (.cells ROW.toArray 88)).drew.heap[w.heap.size]? = some (.cells ROW.toArray 88)) := heap_alloc_new w _
 have hinI : (i : Int) < (n : Int) := by omega
 have hnI : (n : Int) <= 1000000 := by omega
 have hcI : (c : Int) < (n : Int) + 1 := by omega
 have hncI : (n : Int) <= (c : Int) := by omega
 have hGI : (n : Int) + 1 <= (G : Int) := by omega
 have hz2 : ((i : Int) == (n : Int)) = false := by rw [beq_eq_false_iff_ne]; omega
 have hw1 : IntKind.i64.wrap ((i : Int) + 1) = (i : Int) + 1 := IntWalk.i64_in _ (by omega)
 have hw2 : IntKind.i64.wrap ((n : Int) + 1) = (n : Int) + 1 := IntWalk.i64_in _ (by omega)
 have hw3 : IntKind.i64.wrap ((n : Int) + 1 - (i : Int)) = (n : Int) + 1 - (i : Int) := IntWalk.i64_in _ (by omega)
 have hb1 : (0 : Int) <= (i : Int) + 1 := by omega
 have htn : ((i : Int) + 1).toNat = i + 1 := by omega
 have hb2 : ¬ (G = i + 1) := by omega
 have hb3 : (i : Int) <= (n : Int) + 1 := by omega
 have hb4 : ¬ (c = i) := by omega
 have hb6 : ¬ (G = i) := by omega
 have hb5 : i <= n := by omega
 have hb7 : (i : Int) <= (c : Int) := by omega
 clear hg hx hR hn hone hoM hD hFI hBw hgw hxw hold hrz hG hge hle hCS hROW hrow1 hrowl hi0 hz0 hzs hzb hRM hMt hik
 go_enter Tryz.func214, Tryz.ntmps214
 go_wp2_with (first
  | (at_builtin; refine Lib.wpList_append_run _ rfl _ _ _ _ rfl _ _ rfl rfl _ _ (HRZ.out _) ?_)
  | (refine ycp rfl (.tmp 43) (.tmp 44) 83 83 rfl 88 Tryz.underlying83 yej w.heap.size (i * 2) (n + 1 - i) (G - i) ⟨gx, 0, none⟩ 1 1 rfl rfl ROW _ HGN.out [x.vs, x.vl] 1 HM1.out rfl (fun j v hj => by rw [Addr.add_lit, cell_of_row _ _ _ _ _ _ ((HBN.out.block gx HXW.out).trans HX.out), Nat.zero_add]; simpa using hj) HM2.out HM3.out w.heap.size w HBN.out (zN _) ?_; intro w4 hg4 hk4 hb4; have HB4 := zH hb4; clear hk4 hb4))
 obtain ⟨gN, hgN⟩ : ∃ g, w.heap.size = g := ⟨_, rfl⟩; have HNN := zH hgN; rw [hgN] at hg4 HB4 |-; clear hgN HGN HBN; refine yag (m := 8) [46, 47, 48, 49, 50, 51, 52, 53] [SV.eq (.slice (some ⟨gN, 0, none⟩) (n + 1) G), SV.eq (.int .i64 (i : Int)), SV.eq (.int .i64 1), SV.eq (.int .i64 ((i : Int) + 1)), SV.eq (.slice (some ⟨gN, (i + 1) * 2, none⟩) (n - i) (G - (i + 1))), SV.eq (.slice (some ⟨g, 0, none⟩) n c), SV.eq (.int .i64 (i : Int)), SV.eq (.slice (some ⟨g, i * 2, none⟩) (n - i) (c - i))] (by kernel_rfl) (by kernel_rfl) ?_ ?_
 ·refine ⟨⟨⟨⟨⟨⟨⟨⟨trivial, ?_⟩, ?_⟩, ?_⟩, ?_⟩, ?_⟩, ?_⟩, ?_⟩, ?_⟩
  all_goals (refine OpIs.mk rfl ?_; intro vs w1 hb hd K hK; simp only [frameV, zS, zA, zB, zC, zD] at hK |-)
  iterate 3 (·have HK := zH hK; clear hK; go_simp; exact HK.out _ _ rfl (zR _ _))
  ·have d1 : vs 1 = .int .i64 (i : Int) := hd 1 (by kernel_rfl)
   have d2 : vs 2 = .int .i64 1 := hd 2 (by kernel_rfl)
   simp only [d1, d2] at hK |-; have HK := zH hK; clear hK; go_simp; exact HK.out _ _ rfl (zR _ _)
  ·have d0 : vs 0 = .slice (some ⟨gN, 0, none⟩) (n + 1) G := hd 0 (by kernel_rfl)
   have d3 : vs 3 = .int .i64 ((i : Int) + 1) := hd 3 (by kernel_rfl)
   simp only [d0, d3] at hK |-; have HK := zH hK; clear hK; go_simp; exact HK.out _ _ rfl (zR _ _)
  iterate 2 (·have HK := zH hK; clear hK; go_simp; exact HK.out _ _ rfl (zR _ _))
  ·have d5 : vs 5 = .slice (some ⟨g, 0, none⟩) n c := hd 5 (by kernel_rfl)
   have d6 : vs 6 = .int .i64 (i : Int) := hd 6 (by kernel_rfl)
   simp only [d5, d6] at hK |-; have HK := zH hK; clear hK; go_simp; exact HK.out _ _ rfl (zR _ _)
 ·intro vs w5 hb hd
  have d4 : vs 4 = .slice (some ⟨gN, (i + 1) * 2, none⟩) (n - i) (G - (i + 1)) := hd 4 (by omega)
  have d7 : vs 7 = .slice (some ⟨g, i * 2, none⟩) (n - i) (c - i) := hd 7 (by omega)
  have HB5 : Hid (Below gN w w5) := HB4.out.trans (hb.mono (by have := HB4.out.size; have := HNN.out; omega))
  have HG5 := zH ((hb.block gN (R4.yad hg4.out)).trans hg4.out); have HO5 := zH ((HB5.out.block g (by have := HGW.out; have := HNN.out; omega)).trans HG.out)
  simp only [frameV, zS, zA, zB, List.drop_succ_cons, List.drop_zero, d4, d7]; clear hb hd; refine ycp rfl (.tmp 50) (.tmp 53) 83 83 rfl 88 Tryz.underlying83 yej gN ((i + 1) * 2) (n - i) (G - (i + 1)) ⟨g, i * 2, none⟩ (n - i) (c - i) rfl rfl _ _ HG5.out D (n - i) (by simp only [Nat.min_def]; split <;> omega) HL1.out (fun j v hj => by rw [Addr.add_lit, cell_of_row _ _ _ _ _ _ HO5.out]; simpa using HDR.out j v hj) (by have := HRL.out; have := HL1.out; rw [HSP.out]; omega) HOD.out gN w HB5.out (zN _) ?_; intro w6 hg6 hk6 hb6; have HB6 := zH hb6; clear hk6 hb6
  go_wp2
  go_ret
  exact ⟨⟨_, _, rfl, yts hg6.out HFIN.out (by omega)⟩, HB6.out.mono (by have := HNN.out; have := HBW.out; omega)⟩
set_option maxHeartbeats 4000000 in
theorem ins_end {w : World} {B n c gx : Nat} {A : Option Addr} {M : List ME} {x : ME} (ho : OwnM B w (.slice A n c) M) (hn : M.length = n) (hx : w.heap[gx]? = some (.cells #[x.vs, x.vl] 88 (0, 0))) (hone : x.vs.oneCell' = true /\ x.vl.oneCell' = true) (hBw : B <= w.heap.size) (hn6 : n <= 1000) :
  Calls Tryz.prog 214 #[.slice A n c, .int .i64 (n : Nat), .slice (some ⟨gx, 0, none⟩) 1 1] w fun e w' => (∃ A' c', e = .returned (.slice A' (n + 1) c') /\ RdF anyB w' (.slice A' (n + 1) c') (n + 1) (mcells (M ++ [x]))) /\ Below B w w' := by
 have HO := zH ho; have HN := zH hn; have HX := zH hx
 have HM3 : Hid (∀ u ∈ mcells [x], u.oneCell' = true) := by intro u hu; simp [mcells] at hu; rcases hu with rfl | rfl; exact hone.1; exact hone.2
 have HB := zH hBw
 have HNI : Hid (n <= 1000) := hn6
 have HSRC : Hid (∀ j u, (mcells [x])[j]? = some u -> w.cell? ((⟨gx, 0, none⟩ : Addr).add j) = some u) := fun j v hj => by rw [Addr.add_lit, cell_of_row _ _ _ _ _ _ hx, Nat.zero_add]; simpa [mcells] using hj
 have HEND : Hid (∀ v2 w2, OwnM B w2 v2 (M ++ [x]) -> ∃ A' c', v2 = .slice A' (n + 1) c' /\ RdF anyB w2 (.slice A' (n + 1) c') (n + 1) (mcells (M ++ [x]))) := fun v2 w2 h2 => by
  have h3 := RdF.of_own (F := anyB) h2 (fun _ _ => trivial)
  rw [show (M ++ [x]).length = n + 1 by rw [List.length_append, hn]; rfl] at h3
  obtain ⟨A', c', rfl⟩ := h3.form; exact ⟨A', c', rfl, h3⟩
 have hcap : n <= c /\ (c : Int) <= 9223372036854775807 /\ (A = none -> n = 0 /\ c = 0) := by
  rcases ho.2 with ⟨e, e2⟩ | ⟨g', cap, cur, e, _, _, h1, h2, _⟩
  ·cases e; exact ⟨by omega, by omega, fun _ => ⟨rfl, rfl⟩⟩
  ·cases e; exact ⟨by omega, by simp only [maxLen] at h2; omega, fun e => by cases e⟩
 obtain ⟨hc1, hc2, hnil⟩ := hcap
 have hcI : (n : Int) <= (c : Int) := by omega
 have hnI : (n : Int) <= 1000 := by omega
 have hz1 : ((n : Int) == (n : Int)) = true := by simp
 rcases A with _ | ⟨g, o, sp⟩
 ·obtain ⟨rfl, rfl⟩ := hnil rfl; clear ho hn hx hone hBw hnil hn6
  go_enter Tryz.func214, Tryz.ntmps214
  go_wp2_with (at_builtin; refine appendM rfl (.tmp 23) (.tmp 24) rfl _ B _ M [x] ⟨gx, 0, none⟩ 1 rfl HO.out rfl HSRC.out HM3.out HB.out (by rw [HN.out]; simp) ?_; intro v2 w2 ho2 hb2; obtain ⟨A', c', rfl, h3⟩ := HEND.out v2 w2 ho2; have H3 := zH h3; have HB2 := zH hb2; clear ho2 hb2 h3)
  go_ret
  exact ⟨⟨_, _, rfl, H3.out⟩, HB2.out⟩
 ·by_cases hcn : c = n
  ·subst hcn; clear ho hn hx hone hBw hnil hn6
   go_enter Tryz.func214, Tryz.ntmps214
   go_wp2_with (at_builtin; refine appendM rfl (.tmp 23) (.tmp 24) rfl _ B _ M [x] ⟨gx, 0, none⟩ 1 rfl HO.out rfl HSRC.out HM3.out HB.out (by rw [HN.out]; simp; have := HNI.out; omega) ?_; intro v2 w2 ho2 hb2; obtain ⟨A', c', rfl, h3⟩ := HEND.out v2 w2 ho2; have H3 := zH h3; have HB2 := zH hb2; clear ho2 hb2 h3)
   go_ret
   exact ⟨⟨_, _, rfl, H3.out⟩, HB2.out⟩
  ·clear ho hn hx hone hBw hnil hn6
   go_enter Tryz.func214, Tryz.ntmps214
   go_wp2_with (at_builtin; refine appendM rfl (.tmp 23) (.tmp 24) rfl _ B _ M [x] ⟨gx, 0, none⟩ 1 rfl HO.out rfl HSRC.out HM3.out HB.out (by rw [HN.out]; simp; have := HNI.out; omega) ?_; intro v2 w2 ho2 hb2; obtain ⟨A', c', rfl, h3⟩ := HEND.out v2 w2 ho2; have H3 := zH h3; have HB2 := zH hb2; clear ho2 hb2 h3)
   go_ret
   exact ⟨⟨_, _, rfl, H3.out⟩, HB2.out⟩
theorem yrb {w : World} {B n c gx i : Nat} {A : Option Addr} {M : List ME} {x : ME} (ho : OwnM B w (.slice A n c) M) (hn : M.length = n) (hi : i <= n) (hx : w.heap[gx]? = some (.cells #[x.vs, x.vl] 88 (0, 0))) (hne : ∀ g, A = some ⟨g, 0, none⟩ -> gx ≠ g) (hone : x.vs.oneCell' = true /\ x.vl.oneCell' = true) (hoM : ∀ u ∈ mcells M, u.oneCell' = true) (hBw : B <= w.heap.size) (hn6 : n <= 1000) :
  Calls Tryz.prog 214 #[.slice A n c, .int .i64 (i : Nat), .slice (some ⟨gx, 0, none⟩) 1 1] w fun e w' => (∃ A' c', e = .returned (.slice A' (n + 1) c') /\ RdF anyB w' (.slice A' (n + 1) c') (n + 1) (mcells (M.take i ++ [x] ++ M.drop i))) /\ Below B w w' := by
 by_cases hin : i = n
 ·subst hin; rw [show M.take i = M by rw [<- hn, List.take_length], show M.drop i = [] by rw [<- hn, List.drop_length], List.append_nil]
  exact ins_end ho hn hx hone hBw hn6
 ·subst hn; have h2 := ho.2
  rcases h2 with ⟨e, e2⟩ | ⟨g, cap, cur, e, hgB, hgg, h1, h2, h3, h4⟩
  ·omega
  ·obtain ⟨rfl, rfl⟩ : A = some ⟨g, 0, none⟩ /\ c = cap := by cases e; exact ⟨rfl, rfl⟩
   have hcur : cur = cur.toList.toArray := by simp
   rw [hcur] at hgg
   by_cases hroom : M.length + 1 <= c
   ·exact yvo hgg h4 (by simpa using h3) h2 rfl (by omega) hroom hx (hne g rfl) hone hoM hgB hBw (by omega)
   ·exact yzy hgg h4 rfl (by omega) h1 (by omega) hx hone hoM hBw (by omega)
end Go.Proofs.YteibnfeokgibmaaGreat
