/-
  PACKED for a claim.
-/
import Derived.Test.YteibnfeokgibmaaGreatP36
set_option linter.unusedVariables false
set_option linter.unusedSimpArgs false
set_option maxRecDepth 100000
namespace Go.Proofs.YteibnfeokgibmaaGreat
open Go.RowKit
theorem tab_px {F : Nat -> Prop} {w : World} {px q i : Nat} {L : List PE} {u v : Value} {b : Bool} {A : Option Addr} (h : TabAt F w q L) (hF : ∀ k, F k -> k ≠ px) (hp : w.heap[px]? = some (.cells #[.pointer A, u, .bool b] 143 (0, 0))) : TabAt F (w.setCell ⟨px, i, none⟩ v) q L := by
 refine h.off hF (R4.yae w ⟨px, i, none⟩ v) hp (by decide) (by decide) (by decide) (by decide) ?_
 intro o u1 u2 s1 s2 c1 c2
 exfalso
 rw [cell_of_row w px o _ _ _ hp] at c1; rw [cell_of_row w px (o + 1) _ _ _ hp] at c2; obtain ⟨A1, n1, k1, rfl⟩ := s1; obtain ⟨A2, n2, k2, rfl⟩ := s2
 rcases o with _ | _ | o
 ·cases c1
 ·cases c2
 ·simp at c2
theorem own_px {B : Nat} {w : World} {px i : Nat} {l : List Nat} {va v : Value} {cs : Array Value} (h : OwnE B w va l) (hp : w.heap[px]? = some (.cells cs 143 (0, 0))) : OwnE B (w.setCell ⟨px, i, none⟩ v) va l := by
 refine World.ownsRow.kept h (R4.yae w ⟨px, i, none⟩ v) (.inr fun e => ?_)
 exact R4.yao h hp (by decide) e.symm
theorem yzb {B : Nat} {w : World} {g n c k : Nat} {l : List Nat} (h : OwnE B w (.slice (some ⟨g, 0, none⟩) n c) l) (hn : l.length = n) (hk : k <= n) : OwnE B w (.slice (some ⟨g, 0, none⟩) k c) (l.take k) := by
 unfold OwnE World.ownsRow at *; obtain ⟨h1, h2 | ⟨g', cap, cur, e, hB, hh, h3, h4, h5, h6⟩⟩ := h
 ·cases h2.1
 ·injection e with e1 e2 e3
  injection e1 with e1
  injection e1 with e1
  subst e1 e3
  have hl : (l.take k).length = k := by rw [List.length_take]; omega
  refine ⟨by rw [ev_len, hl, Nat.mul_one], .inr ⟨g, c, cur, by rw [hl], hB, hh, by omega, h4, h5, ?_⟩⟩
  rw [hl, Nat.mul_one]; rw [hn, Nat.mul_one] at h6
  have : ev (l.take k) = (ev l).take k := by unfold ev; rw [List.map_take]
  rw [this, <- h6, List.take_take, Nat.min_eq_left hk]
theorem own_raw {B : Nat} {w : World} {A : Option Addr} {n c : Nat} {l : List Nat} (h : OwnE B w (.slice A n c) l) (hn : l.length = n) : w.ownsRow B 168 1 (.slice A n c) n (ev l) := by
 subst hn; exact h
structure AR (B : Nat) (w5 : World) (g n c : Nat) (l : List Nat) (wq : World) : Prop where
 gr : w5.grownBy wq (some g)
 keep : ∀ p u, IsSl u -> w5.cell? p = some u -> wq.cell? p = some u
 raw : wq.ownsRow B 168 1 (.slice (some ⟨g, 0, none⟩) n c) n (ev l)
 len : l.length = n
theorem AR.own {B : Nat} {w5 : World} {g n c : Nat} {l : List Nat} {wq : World} (h : AR B w5 g n c l wq) : OwnE B wq (.slice (some ⟨g, 0, none⟩) n c) l := by
 have h1 := h.raw; unfold OwnE; rw [h.len]; exact h1
theorem AR.start {B : Nat} {w5 : World} {g n c : Nat} {l : List Nat} (h : OwnE B w5 (.slice (some ⟨g, 0, none⟩) n c) l) (hn : l.length = n) : AR B w5 g n c l w5 := ⟨World.grownBy.refl _ _, fun _ _ _ h => h, own_raw h hn, hn⟩
theorem AR.put {B : Nat} {w5 : World} {g n c : Nat} {l : List Nat} {wq : World} (h : AR B w5 g n c l wq) {j : Nat} (hj : j < n) (y : Nat) : AR B w5 g n c (l.set j y) (wq.setCell ⟨g, j, none⟩ (.int .u32 (y : Nat))) := by
 obtain ⟨s1, g1⟩ := World.ownsRow.stored h.raw j (.int .u32 (y : Nat)); have hl := h.len; refine ⟨h.gr.trans (R4.yae wq ⟨g, j, none⟩ _), fun p u hu hp => ?_, ?_, by rw [List.length_set]; exact hl⟩
 ·have hq := h.keep p u hu hp
  by_cases e : (⟨g, j, none⟩ : Addr) = p
  ·subst e; have h7 := World.ownsRow.cellAt h.raw j (by omega)
   rw [h7] at hq
   have h8 : (ev l)[j]? = some (.int .u32 ((l[j]'(by omega) : Nat) : Int)) := ev_at (List.getElem?_eq_getElem _)
   rw [h8] at hq; obtain ⟨A, m, k, rfl⟩ := hu
   cases hq
  ·rw [World.cell?_setCell_other _ _ _ _ e]; exact hq
 ·have e : (ev l).set j (.int .u32 (y : Nat)) = ev (l.set j y) := by unfold ev; rw [List.map_set]
  rw [e] at s1; exact s1
theorem AR.more {B : Nat} {w5 : World} {g n c : Nat} {l : List Nat} {wq w' : World} (h : AR B w5 g n c l wq) (hb : Below wq.heap.size wq w') : AR B w5 g n c l w' :=
 ⟨h.gr.trans ⟨hb.os, hb.tape, hb.output, hb.size, fun k hk _ => hb.block k hk⟩, fun p u hu hp => yab hb (h.keep p u hu hp), R4.yan h.raw hb (zN _), h.len⟩
theorem AR.slot {B : Nat} {w5 : World} {g n c : Nat} {l : List Nat} {wq : World} (h : AR B w5 g n c l wq) {j x : Nat} (hj : l[j]? = some x) : wq.cell? ⟨g, j, none⟩ = some (.int .u32 (x : Nat)) /\ wq.frozen? ⟨g, j, none⟩ = false := by
 refine ⟨?_, World.ownsRow.frozenAt h.raw j⟩; have h1 := (List.getElem?_eq_some_iff.1 hj).1; have h2 := h.len; rw [World.ownsRow.cellAt h.raw j (by omega)]
 exact ev_at hj
theorem AR.blk {B : Nat} {w5 : World} {g n c : Nat} {l : List Nat} {wq : World} (h : AR B w5 g n c l wq) : ∃ cs, wq.heap[g]? = some (.cells cs 168 (0, 0)) := R4.yca h.raw rfl
theorem AR.tab {B : Nat} {w5 : World} {g n c : Nat} {l l0 : List Nat} {wq : World} (h : AR B w5 g n c l wq) (h0 : OwnE B w5 (.slice (some ⟨g, 0, none⟩) n c) l0) {F : Nat -> Prop} {p : Nat} {L : List PE} (ht : TabAt F w5 p L) (hF : ∀ k, F k -> k ≠ g) : TabAt F wq p L := by
 obtain ⟨cs, hx⟩ := R4.yca h0 rfl; exact ht.off hF h.gr hx (by decide) (by decide) (by decide) (by decide) fun o u1 u2 s1 s2 c1 c2 => ⟨h.keep _ _ s1 c1, h.keep _ _ s2 c2⟩
theorem AR.other {B : Nat} {w5 : World} {g n c : Nat} {l l0 : List Nat} {wq : World} (h : AR B w5 g n c l wq) (h0 : OwnE B w5 (.slice (some ⟨g, 0, none⟩) n c) l0) {k : Nat} {cs : Array Value} {T : TypeId} {fr : Nat × Nat} (hk : w5.heap[k]? = some (.cells cs T fr)) (hT : T ≠ 168) : wq.heap[k]? = some (.cells cs T fr) :=
 (h.gr.block k (R4.yad hk) (R4.yao h0 hk hT)).trans hk
theorem yqf {w : World} {g k : Nat} {cur : Array Value} {e : TypeId} {fr : Nat × Nat} {v : Value} (hg : w.heap[g]? = some (.cells cur e fr)) (hk : k < cur.size) : w.setRow g (cur.toList.take k ++ [v] ++ cur.toList.drop (k + 1)).toArray = w.setCell ⟨g, k, none⟩ v := by
 unfold World.setRow World.setCell; have hlt := (Array.getElem?_eq_some_iff.1 hg).1; have hv := (Array.getElem?_eq_some_iff.1 hg).2
 congr 1
 apply Array.ext
 ·simp
 ·intro i h1 h2; rw [Array.getElem_modify, Array.getElem_modify]
  by_cases ei : g = i
  ·subst ei; rw [if_pos rfl, if_pos rfl, hv]; simp only [Option.isSome_none, Bool.false_eq_true, if_false]
   congr 1
   apply Array.toList_inj.1
   rw [Array.toList_setIfInBounds, List.append_assoc]; simp only [List.set_eq_take_append_cons_drop]; rw [if_pos (by simpa using hk)]
   rfl
  ·rw [if_neg ei, if_neg ei]
theorem yqb {ops : Array Oper} {o : Oper} {a : Act} {w0 : World} {K : Act -> World -> Prop} {Q : Exit -> Act -> World -> Prop} {E : Prop} (hgd : o.guard = none) (s x : Operand)
  (ho : o.op = .call { callee := .builtin .append, args := #[s, x], argTypes := #[86, 86] })
  {B g k n c z C : Nat} {l : List Nat} (hs : a.eval s = .slice (some ⟨g, 0, none⟩) k c) (hown : OwnE B w0 (.slice (some ⟨g, 0, none⟩) n c) l) (hn : l.length = n) (hk : k < n) (hx : a.eval x = .slice (some ⟨w0.heap.size, 0, none⟩) 1 C)
  (h : K (a.put o.dst (.slice (some ⟨g, 0, none⟩) (k + 1) c)) ((w0.alloc (.cells #[.int .u32 (z : Nat)] 168)).setCell ⟨g, k, none⟩ (.int .u32 (z : Nat)))) :
  if Region.wanted o (yielded ops a.tmps) = true then Oper.wp Tryz.prog o a (w0.alloc (.cells #[.int .u32 (z : Nat)] 168)) K Q else E := by
 have hw : Region.wanted o (yielded ops a.tmps) = true := by simp [Region.wanted, hgd]
 rw [if_pos hw]; obtain ⟨i0, hi0, hz0, hz1, hz2⟩ := info_parts yde; have hown2 := World.ownsRow.alloc hown (.cells #[.int .u32 (z : Nat)] 168); obtain ⟨h1, h2 | ⟨g', cap, cur, e, hB, hh, h3, h4, h5, h6⟩⟩ := hown2
 ·cases h2.1
 ·injection e with e1 e2 e3
  injection e1 with e1
  injection e1 with e1
  subst e1 e3
  have hsz : n <= cur.size := by omega
  have hrun := run_append_room (P := Tryz.prog) (w := w0.alloc (.cells #[.int .u32 (z : Nat)] 168)) 86 o.type 168 i0 Tryz.underlying86 hi0 g k c cur hh ⟨w0.heap.size, 0, none⟩ 1 C [.int .u32 (z : Nat)] (by rw [hz1]; rfl) (R4.yax w0 [.int .u32 (z : Nat)] _) (by intro u hu; simp at hu; subst hu; rfl) (by omega) (by rw [hz1]; simp; omega)
  rw [hz1, Nat.mul_one, show ([Value.int .u32 (z : Nat)] : List Value).length = 1 from rfl, yqf hh (by omega)] at hrun
  unfold Oper.wp
  simp [execOp, ho, resolve, invoke, builtin, hs, hx, hrun, Result.andThen]
  exact h
theorem ylu {f : Nat -> Nat} {A : List Nat} {j k x : Nat} (hk : k <= A.length) (hj : A[j]? = some x) (hjk : j < k) : ((A.take j).map f ++ A.drop j).set j (f x) = (A.take (j + 1)).map f ++ A.drop (j + 1) := by
 have hlt := (List.getElem?_eq_some_iff.1 hj).1
 have hl : ((A.take j).map f).length = j := by rw [List.length_map, List.length_take]; omega
 rw [List.set_append_right _ _ (by omega), hl, Nat.sub_self, List.take_add_one, hj, List.drop_eq_getElem_cons hlt, zA]
 simp
theorem yvq (n : Nat) (h0 : 0 < n) (hn : n <= 1000) (w : World) :
  Calls Tryz.prog 215 #[.slice none 0 0, .int .i64 (n : Int)] w fun e w' => (∃ A c, e = .returned (.slice A 0 c) /\ OwnE w.heap.size w' (.slice A 0 c) []) /\ Below w.heap.size w w' := by
 obtain ⟨i0, hi0, hz0, hz1, hz2⟩ := info_parts yde
 have hrun : ∀ ty, (Builtin.append_ #[86, 3] ty #[.slice none 0 0, .int .i64 (n : Int)]).run Tryz.prog w = _ := fun ty =>
  Lib.run_append_nil_zeros w 86 3 ty 168 i0 _ .i64 .i64 Tryz.underlying86 Tryz.underlying3 hi0 hz0 n h0 (by omega) (by omega) (by rw [hz2]; omega)
 obtain ⟨G, hG⟩ : ∃ G, grownCap w n 0 168 = G := ⟨_, rfl⟩; have hge := grownCap_ge w n 0 168; have hle := grownCap_le_maxLen w n 0 168 (by simp only [maxLen]; omega)
 rw [hG] at hrun hge hle; obtain ⟨CS, hCS⟩ : ∃ CS, Builtin.zeroCells (Value.int .u32 0).cells n ++ Builtin.zeroCells (Value.int .u32 0).cells (G - n) = CS := ⟨_, rfl⟩
 have hsz : CS.size = G * 1 := by
  rw [<- hCS, Array.size_append, size_zeroCells, size_zeroCells]
  have : (Value.int .u32 0).cells.size = 1 := rfl
  rw [this]; omega
 rw [hCS] at hrun; have HR := zH hrun; have HO := zH (World.ownsRow_made (base := w.heap.size) (e := 168) (size := 1) w.drew CS G (zN _) hle hsz)
 have hGI : (0 : Int) <= (G : Int) := by omega
 have hnI : (n : Int) <= 1000 := by omega
 have hnp : (0 : Int) < (n : Int) := by omega
 clear hrun hge hG hCS hsz hi0 hz0 hz1 hz2
 go_enter Tryz.func215, Tryz.ntmps215
 go_wp2_with (at_builtin; refine Lib.wpList_append_run _ rfl _ _ _ _ rfl _ _ rfl rfl _ _ (HR.out _) ?_)
 go_ret
 exact ⟨⟨_, _, rfl, HO.out⟩, ((zR _ w).drew).alloc (zN _) _⟩
theorem yrd (w : World) :
  Calls Tryz.prog 215 #[.slice none 0 0, .int .i64 0] w fun e w' => (∃ A c, e = .returned (.slice A 0 c) /\ OwnE w.heap.size w' (.slice A 0 c) []) /\ Below w.heap.size w w' := by
 go_enter Tryz.func215, Tryz.ntmps215
 go_wp2
 go_ret
 exact ⟨⟨_, _, rfl, World.ownsRow_nil _ _ _ _⟩, zR _ _⟩
theorem yvr (n : Nat) (hn : n <= 1000) (w : World) :
  Calls Tryz.prog 215 #[.slice none 0 0, .int .i64 (n : Int)] w fun e w' => (∃ A c, e = .returned (.slice A 0 c) /\ OwnE w.heap.size w' (.slice A 0 c) []) /\ Below w.heap.size w w' := by
 rcases Nat.eq_zero_or_pos n with h | h
 ·subst h; exact yrd w
 ·exact yvq n h hn w
theorem yre {Ms : List (List Nat)} {k : Nat} {M : List Nat} (h : Ms[k]? = some M) : (Ms.take (k + 1)).flatten = (Ms.take k).flatten ++ M := by
 rw [List.take_add_one, h]; simp
theorem zak (Ms : List (List Nat)) (k : Nat) : (Ms.take k).flatten.length <= Ms.flatten.length := by
 have h := congrArg List.flatten (List.take_append_drop k Ms); rw [List.flatten_append] at h
 have := congrArg List.length h
 rw [List.length_append] at this
 omega
theorem ywi {F : Nat -> Prop} {w : World} {g n : Nat} {Ms : List (List Nat)} {vs : List Value} (hn : Ms.length = n) (hv : vs.length = n) (h6 : 0 < n /\ n <= 100) (hc : ∀ k v, vs[k]? = some v -> w.cell? ⟨g, k, none⟩ = some v)
  (hr : ∀ (k : Nat) v M, vs[k]? = some v -> Ms[k]? = some M -> RdE F w v M) (hN : Ms.flatten.length <= 1000) :
  Calls Tryz.prog 178 #[.slice (some ⟨g, 0, none⟩) n n] w fun e w' => (∃ v, e = .returned v /\ OwnE w.heap.size w' v Ms.flatten) /\ Below w.heap.size w w' := by
 have hg : g < w.heap.size := by
  obtain ⟨v, hv0⟩ : ∃ v, vs[0]? = some v := ⟨_, List.getElem?_eq_getElem (by omega)⟩
  exact yaj (hc 0 v hv0)
 have HC := zH hc; have HR := zH hr; have HFL := zH (fun k => zak Ms k)
 have HFT := zH (fun k M => @yre Ms k M)
 obtain ⟨T, hT⟩ : ∃ T, Ms.flatten.length = T := ⟨_, rfl⟩; have HT := zH hT; rw [hT] at hN
 have HEnd : Hid ((Ms.take n).flatten = Ms.flatten) := by show _ = _; rw [<- hn, List.take_length]
 have hnI : (n : Int) <= 100 := by omega
 have HV := zH hv; have HMn := zH hn; clear hc hr hT hv hn
 go_enter Tryz.func178, Tryz.ntmps178
 go_wp2
 go_loop [3, 11] (fun t i => ∃ k : Nat, k <= n /\ i = .int .i64 (k : Nat) /\ t = .int .i64 ((Ms.take k).flatten.length : Nat)) (fun _ i => n - (intOf i).toNat)
 case atStart => exact ⟨0, Nat.zero_le _, rfl, rfl⟩
 case round =>
  obtain ⟨k, hk, rfl, rfl⟩ := hrel
  by_cases hlt : k < n
  ·obtain ⟨v, hv0⟩ : ∃ v, vs[k]? = some v := ⟨_, List.getElem?_eq_getElem (by have := HV.out; omega)⟩
   obtain ⟨M, hM0⟩ : ∃ M, Ms[k]? = some M := ⟨_, List.getElem?_eq_getElem (by have := HMn.out; omega)⟩
   have c0 := HC.out k v hv0; obtain ⟨A, c, rfl⟩ := RdE.form (HR.out k v M hv0 hM0); have hft := HFT.out k M hM0; have hfl := HFL.out (k + 1); rw [hft, List.length_append, HT.out] at hfl
   have HS : Hid (((Ms.take (k + 1)).flatten.length : Int) = ((Ms.take k).flatten.length : Int) + (M.length : Int)) := by show _ = _; rw [hft, List.length_append]; omega
   have hkI : (k : Int) < (n : Int) := by omega
   obtain ⟨z, hz⟩ : ∃ z, (Ms.take k).flatten.length = z := ⟨_, rfl⟩; rw [hz] at HS hfl |-
   have hzI : (z : Int) + (M.length : Int) <= 1000 := by omega
   have hz0 : (0 : Int) <= (z : Int) + (M.length : Int) := by omega
   have hz2 : ¬ ((z : Int) + (M.length : Int) < 0) := by omega
   clear hv0 hM0 hft hfl hz hlt
   go_wp2
   go_round
   case rel => exact ⟨k + 1, by omega, by go_num, by rw [HS.out]⟩
   case measure => simp [intOf] <;> omega
  ·obtain rfl : k = n := by omega
   rw [HEnd.out, HT.out]
   go_wp2_with (go_at_call 215; refine (yvr T hN _).mono ?_; rintro e w1 ⟨⟨A, c, rfl, ho⟩, hb⟩; have HO1 := zH ho; have HB1 := zH hb; clear ho hb)
   go_loopw [6, 27] (fun v i wr => ∃ j : Nat, j <= k /\ i = .int .i64 (j : Nat) /\ Hid (OwnE w.heap.size wr v (Ms.take j).flatten) /\ Hid (Below w.heap.size w wr)) (fun _ i _ => k - (intOf i).toNat)
   case atStart => exact ⟨0, Nat.zero_le _, rfl, HO1.out, HB1.out⟩
   case round =>
    clear HO1 HB1; obtain ⟨j, hj, rfl, HO, HB⟩ := hrel
    by_cases hlt2 : j < k
    ·obtain ⟨v, hv0⟩ : ∃ v, vs[j]? = some v := ⟨_, List.getElem?_eq_getElem (by have := HV.out; omega)⟩
     obtain ⟨M, hM0⟩ : ∃ M, Ms[j]? = some M := ⟨_, List.getElem?_eq_getElem (by have := HMn.out; omega)⟩
     have c0 := (HB.out.cell (p := ⟨g, j, none⟩) hg).trans (HC.out j v hv0); have hrd := HR.out j v M hv0 hM0; obtain ⟨A, c, rfl⟩ := RdE.form hrd; have HRD := zH (RdF.below hrd HB.out (zN _)); have hfl := HFL.out (j + 1); have HFT2 := zH (HFT.out j M hM0)
     have HL : Hid ((Ms.take j).flatten.length + M.length <= 1000000) := by
      have h1 := HFL.out (j + 1); rw [HFT2.out, List.length_append, HT.out] at h1
      show _ <= _; omega
     have hjI : (j : Int) < (k : Int) := by omega
     clear hv0 hM0 hrd hfl hlt2
     go_wp2_with (at_builtin; refine appendE rfl (.tmp 31) (.tmp 32) rfl _ w.heap.size _ _ M rfl HO.out rfl HRD.out HB.out.size (Nat.le_trans HL.out (by omega)) ?_; intro v2 w2 ho2 hb2; have HO2 := zH ho2; have HB2 := zH (HB.out.trans hb2); clear ho2 hb2)
     go_roundw
     case rel => exact ⟨j + 1, by omega, by go_num, by rw [HFT2.out]; exact HO2.out, HB2.out⟩
     case measure => simp [intOf] <;> omega
    ·obtain rfl : j = k := by omega
     rw [HEnd.out] at HO
     go_wp2
     go_ret
     exact ⟨⟨_, rfl, HO.out⟩, HB.out⟩
theorem RdF.pstep {P Q : Nat -> Prop} {w w' : World} {v : Value} {n : Nat} {xs : List Value} (hr : RdF P w v n xs) (hf : ∀ k, P k -> w'.heap[k]? = w.heap[k]? /\ Q k) : RdF Q w' v n xs := by
 obtain ⟨A, c, rfl, hc, hr⟩ := hr; refine ⟨A, c, rfl, hc, fun h0 => ?_⟩
 obtain ⟨g, o, e, hg, hx⟩ := hr h0; obtain ⟨e2, hq⟩ := hf g hg; refine ⟨g, o, e, hq, fun j u hu => ?_⟩
 rw [World.cell?_of_block (w := w) (a := ⟨g, o + j, none⟩) e2]; exact hx j u hu
theorem KR.lt {w : World} {k : Nat} (h : KR w k) : k < w.heap.size := by
 obtain ⟨cs, T, fr, h1, _⟩ := h; exact R4.yad h1
theorem NotN.lt {w : World} {k : Nat} (h : NotN w k) : k < w.heap.size := by
 obtain ⟨cs, T, fr, h1, _⟩ := h; exact R4.yad h1
theorem KR.to {w w' : World} {k : Nat} (h : KR w k) (e : w'.heap[k]? = w.heap[k]?) : KR w' k := by
 obtain ⟨cs, T, fr, h1, h2⟩ := h; exact ⟨cs, T, fr, e.trans h1, h2⟩
theorem NotN.to {w w' : World} {k : Nat} (h : NotN w k) (e : w'.heap[k]? = w.heap[k]?) : NotN w' k := by
 obtain ⟨cs, T, fr, h1, h2⟩ := h; exact ⟨cs, T, fr, e.trans h1, h2⟩
def EntW (b : Nat) (w : World) (m : ME) : Prop := RdF (fun k => k < b /\ KR w k) w m.vs m.s.length (iv m.s) /\ RdF (fun k => b + 1 <= k /\ NotN w k) w m.vl m.l.length (qcells m.l)
theorem EntW.step {b : Nat} {w w' : World} {m : ME} (h : EntW b w m) (h1 : ∀ k, k < b -> k < w.heap.size -> w'.heap[k]? = w.heap[k]?) (h2 : ∀ k, b + 1 <= k -> NotN w k -> w'.heap[k]? = w.heap[k]?) : EntW b w' m :=
 ⟨RdF.pstep h.1 fun k hk => have e := h1 k hk.1 hk.2.lt; ⟨e, hk.1, hk.2.to e⟩, RdF.pstep h.2 fun k hk => have e := h2 k hk.1 hk.2; ⟨e, hk.1, hk.2.to e⟩⟩
theorem EntW.below {b : Nat} {w w' : World} {m : ME} (h : EntW b w m) (hb : Below w.heap.size w w') : EntW b w' m := h.step (fun k _ hk => hb.block k hk) fun k _ hk => hb.block k hk.lt
theorem EntW.grown {b : Nat} {w w' : World} {v : Value} {M : List ME} {m : ME} (h : EntW b w m) (ho : OwnN (b + 1) w v M) (hg : w.grownBy w' v.ownBlock) : EntW b w' m := h.step
 (fun k hk hl => hg.block k hl (by
  intro e
  have := (World.ownsRow.lt ho k e.symm).1
  omega))
 fun k _ hk => hg.block k hk.lt (by
  obtain ⟨cs, T, fr, h1, h2⟩ := hk; exact R4.yao ho h1 (by rcases h2 with e | e <;> (rw [e]; decide)))
theorem EntW.off {b : Nat} {w w' : World} {m : ME} (h : EntW b w m) (hg : w.grownBy w' (some b)) : EntW b w' m := h.step (fun k hk hl => hg.block k hl (by intro e; injection e with e; omega)) fun k hk hn => hg.block k hn.lt (by intro e; injection e with e; omega)
theorem EntW.ok {b : Nat} {w : World} {m : ME} (h : EntW b w m) : EntU anyB w m := ⟨RdF.mono h.1 fun k hk => ⟨trivial, hk.2⟩, RdF.mono h.2 fun k hk => ⟨trivial, hk.2.kr⟩⟩
structure VS (w0 : World) (b : Nat) (f : Nat -> Nat) (L : List PE) (k : Nat) (wr : World) : Prop where
 own : ∃ v M, wr.heap[b]? = some (.cells #[v] 40 (0, 0)) /\ OwnN (b + 1) wr v M /\ pls M = mapP f (L.take k) /\ ∀ m ∈ M, EntW b wr m
 bel : Below b w0 wr
theorem VS.more {w0 : World} {b : Nat} {f : Nat -> Nat} {L : List PE} {k : Nat} {wr wr' : World} (h : VS w0 b f L k wr) (hb : Below wr.heap.size wr wr') : VS w0 b f L k wr' := by
 obtain ⟨⟨v, M, h1, h2, h3, h4⟩, h5⟩ := h; exact ⟨⟨v, M, (hb.block _ (R4.yad h1)).trans h1, h2.below hb (zN _), h3, fun m hm => (h4 m hm).below hb⟩, h5.trans (hb.mono (Nat.le_of_lt (R4.yad h1)))⟩
theorem VS.start (w0 : World) (f : Nat -> Nat) (L : List PE) : VS w0 w0.heap.size f L 0 (w0.alloc (.cells #[.slice none 0 0] 40)) :=
 ⟨⟨_, [], heap_alloc_new w0 _, World.ownsRow_nil _ _ _ _, rfl, fun m hm => by cases hm⟩, yaa w0 _⟩
theorem VS.form {w0 : World} {b : Nat} {f : Nat -> Nat} {L : List PE} {k : Nat} {wr : World} (h : VS w0 b f L k wr) (hk : k <= L.length) : ∃ A c M, wr.heap[b]? = some (.cells #[.slice A k c] 40 (0, 0)) /\ OwnN (b + 1) wr (.slice A k c) M /\ M.length = k /\ pls M = mapP f (L.take k) /\ ∀ m ∈ M, EntW b wr m := by
 obtain ⟨⟨v, M, h1, h2, h3, h4⟩, h5⟩ := h; obtain ⟨A, c, rfl⟩ := h2.form
 have hl : M.length = k := by rw [<- yap, h3, ycs, List.length_take]; omega
 rw [hl] at h1 h2; exact ⟨A, c, M, h1, h2, hl, h3, h4⟩
theorem VS.put {w0 w6 w7 : World} {b : Nat} {f : Nat -> Nat} {L : List PE} {k : Nat} {v v' : Value} {M : List ME} {m : ME} {e : PE} (hbel : Below b w0 w6) (hv : w6.heap[b]? = some (.cells #[v] 40 (0, 0))) (ho : OwnN (b + 1) w6 v M) (hp : pls M = mapP f (L.take k)) (hE : ∀ q ∈ M, EntW b w6 q) (hm : EntW b w6 m) (hk : L[k]? = some e) (hme : m.pl = mpE f e)
  (ho7 : OwnN (b + 1) w7 v' (M ++ [m])) (hg : w6.grownBy w7 v.ownBlock) : VS w0 b f L (k + 1) (w7.setCell ⟨b, 0, none⟩ v') := by
 have hg2 := R4.yae w7 ⟨b, 0, none⟩ v'; have hbl := R4.yad hv
 have hv7 : w7.heap[b]? = some (.cells #[v] 40 (0, 0)) := (hg.block b hbl (by
  intro e
  have := (World.ownsRow.lt ho b e.symm).1
  omega)).trans hv
 have hv8 := heap_setCell_same w7 b 0 _ _ v' hv7; refine ⟨⟨v', M ++ [m], hv8, yce ho7 hg2 (Nat.lt_succ_self _), ?_, fun q hq => ?_⟩, (hbel.grown hg (Nat.le_of_lt hbl) fun j hj => ?_).setCell (by show _ <= b; exact zN _) _⟩
 ·rw [yay, hp, List.take_add_one, hk]
  simp [mapP, pls, hme]
 ·rcases List.mem_append.1 hq with hq | hq
  ·exact ((hE q hq).grown ho hg).off hg2
  ·simp at hq
   subst hq; exact (hm.grown ho hg).off hg2
 ·have := (World.ownsRow.lt ho j hj).1
  omega
theorem VS.done {w0 : World} {b : Nat} {f : Nat -> Nat} {L : List PE} {wr : World} {n : Nat} (h : VS w0 b f L n wr) (hn : L.length = n) : ∃ A c, wr.heap[b]? = some (.cells #[.slice A n c] 40 (0, 0)) /\ RefT wr (.slice A n c) (mapP f L) := by
 obtain ⟨A, c, M, h1, h2, h3, h4, h5⟩ := h.form (Nat.le_of_eq hn.symm); rw [<- hn, List.take_length] at h4; refine ⟨A, c, h1, M, h4, ?_, fun m hm => (h5 m hm).ok⟩
 rw [h3]; unfold OwnN at h2; rw [h3] at h2; exact RdF.kown h2 (.inl rfl) fun _ _ => trivial
theorem yar {w : World} {b i : Nat} {cs : Array Value} {T : TypeId} {fr : Nat × Nat} {v : Value} (h : w.heap[b]? = some (.cells cs T fr)) (hv : cs[i]? = some v) : w.cell? ⟨b, i, none⟩ = some v := by rw [cell_of_row w b i _ _ _ h]; exact hv
theorem yjy {l0 : List Nat} {k i : Nat} (hk : l0.length = k) (xs : List Value) (v : Value) (hi : i < xs.length) : (qcells l0 ++ xs).set (k * 4 + i) v = qcells l0 ++ xs.set i v := by
 rw [List.set_append_right _ _ (by rw [ycz, hk]; omega), ycz, hk, show k * 4 + i - k * 4 = i by omega]
structure QR (B : Nat) (w : World) (g n c k : Nat) (l0 : List Nat) (P S T V : Value) : Prop where
 row : w.ownsRow B 77 4 (.slice (some ⟨g, 0, none⟩) n c) n (qcells l0 ++ [P, S, T, V])
 len : l0.length = k /\ n = k + 1
theorem QR.cell {B : Nat} {w : World} {g n c k : Nat} {l0 : List Nat} {P S T V : Value} (h : QR B w g n c k l0 P S T V) (i : Nat) (hi : i < 4) {u : Value} (hu : ([P, S, T, V] : List Value)[i]? = some u) : w.cell? ⟨g, k * 4 + i, none⟩ = some u /\ w.frozen? ⟨g, k * 4 + i, none⟩ = false := by
 obtain ⟨h1, h2, h3⟩ := h; refine ⟨?_, h1.frozenAt _⟩; rw [h1.cellAt _ (by omega), List.getElem?_append_right (by rw [ycz, h2]; omega), ycz, h2, show k * 4 + i - k * 4 = i by omega]
 exact hu
theorem QR.set0 {B : Nat} {w : World} {g n c k : Nat} {l0 : List Nat} {P S T V : Value} (h : QR B w g n c k l0 P S T V) (X : Value) : QR B (w.setCell ⟨g, k * 4, none⟩ X) g n c k l0 X S T V := by
 refine ⟨?_, h.len⟩
 have := (h.row.stored (k * 4 + 0) X).1
 rw [yjy h.len.1 _ _ (by simp)] at this
 exact this
theorem QR.set1 {B : Nat} {w : World} {g n c k : Nat} {l0 : List Nat} {P S T V : Value} (h : QR B w g n c k l0 P S T V) (X : Value) : QR B (w.setCell ⟨g, k * 4 + 1, none⟩ X) g n c k l0 P X T V := by
 refine ⟨?_, h.len⟩
 have := (h.row.stored (k * 4 + 1) X).1
 rw [yjy h.len.1 _ _ (by simp)] at this
 exact this
theorem QR.set2 {B : Nat} {w : World} {g n c k : Nat} {l0 : List Nat} {P S T V : Value} (h : QR B w g n c k l0 P S T V) (X : Value) : QR B (w.setCell ⟨g, k * 4 + 2, none⟩ X) g n c k l0 P S X V := by
 refine ⟨?_, h.len⟩
 have := (h.row.stored (k * 4 + 2) X).1
 rw [yjy h.len.1 _ _ (by simp)] at this
 exact this
theorem QR.done {B : Nat} {w : World} {g n c k : Nat} {l0 : List Nat} {P S T V : Value} (h : QR B w g n c k l0 P S T V) {z : Nat} (hz : q4 z = [P, S, T, V]) : OwnQ B w (.slice (some ⟨g, 0, none⟩) n c) (l0 ++ [z]) := by
 unfold OwnQ
 have hq : qcells [z] = q4 z := by unfold qcells; simp
 rw [yjb, hq, hz, List.length_append, h.len.1]; simp only [List.length_cons, List.length_nil]; have h1 := h.row; rw [h.len.2] at h1 |-; exact h1
theorem QR.ref {B b : Nat} {w w3 wq : World} {v : Value} {L : List PE} (h : RefT w v L) (hb : Below w.heap.size w wq) : RefT wq v L := h.below hb (zN _)
def StpIs (L : List PE) (A : List Nat) (E : Int) (w : World) (q : Ending) (w' : World) : Prop :=
 (E = 0 -> ∃ u a : Value, q = .returned (.tuple #[.agg #[u], a, .int .i64 0]) /\ RefT w' u L /\ OwnQ w.heap.size w' a A) /\ (E ≠ 0 -> ∃ (A' : Option Addr) (n' c' : Nat), q = .returned (.tuple #[.agg #[.slice A' n' c'], .slice none 0 0, .int .i64 E])) /\ Below w.heap.size w w'
theorem StpIs.bad {L : List PE} {A : List Nat} {E : Int} {w w' : World} {A' : Option Addr} {n' c' : Nat} (hE : E ≠ 0) (hb : Below w.heap.size w w') : StpIs L A E w (.returned (.tuple #[.agg #[.slice A' n' c'], .slice none 0 0, .int .i64 E])) w' := ⟨fun h => absurd h hE, fun _ => ⟨A', n', c', rfl⟩, hb⟩
end Go.Proofs.YteibnfeokgibmaaGreat
