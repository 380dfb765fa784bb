/-
  PACKED for a claim.
-/
import Derived.Test.YtichfdjjbafeiaaGreatP49
set_option linter.unusedVariables false
set_option linter.unusedSimpArgs false
set_option maxRecDepth 100000
namespace Go.Proofs.YtichfdjjbafeiaaGreat
open Go.RowKit
def nzW (lv : Nat) : List Nat -> List Int
 | [] => []
 | x :: l => if wgt lv x = 0 then nzW lv l else ((wgt lv x : Nat) : Int) :: nzW lv l
def cmpW : List Int -> List Int -> Int
 | [], [] => 0
 | [], _ :: _ => -1
 | _ :: _, [] => 1
 | a :: p, b :: q => if a = b then cmpW p q else if a < b then -1 else 1
theorem yme (lv x : Nat) (l : List Nat) : nzW lv (x :: l) = if wgt lv x = 0 then nzW lv l else ((wgt lv x : Nat) : Int) :: nzW lv l := rfl
theorem yky (lv : Nat) : ∀ (a b : List Nat), nzW lv (a ++ b) = nzW lv a ++ nzW lv b
 | [], b => rfl
 | x :: a, b => by
  rw [List.cons_append, yme, yme]
  split
  ·exact yky lv a b
  ·rw [yky lv a b]; rfl
theorem ykx (lv x : Nat) : nzW lv [x] = if wgt lv x = 0 then [] else [((wgt lv x : Nat) : Int)] := by
 unfold nzW; rfl
theorem ymd {lv k x : Nat} {l : List Nat} (h : l[k]? = some x) : nzW lv (l.take (k + 1)) = nzW lv (l.take k) ++ (if wgt lv x = 0 then [] else [((wgt lv x : Nat) : Int)]) := by
 rw [List.take_add_one, h, yky, <- ykx]; rfl
theorem ygh (lv : Nat) : ∀ l : List Nat, (nzW lv l).length <= l.length
 | [] => zN _
 | x :: l => by
  unfold nzW
  have := ygh lv l
  split
  iterate 2 (·simp only [List.length_cons]; omega)
theorem ysd {p q : List Int} {k : Nat} {a b : Int} (ha : p[k]? = some a) (hb : q[k]? = some b) : cmpW (p.drop k) (q.drop k) = if a = b then cmpW (p.drop (k + 1)) (q.drop (k + 1)) else if a < b then -1 else 1 := by
 obtain ⟨h1, rfl⟩ := List.getElem?_eq_some_iff.1 ha; obtain ⟨h2, rfl⟩ := List.getElem?_eq_some_iff.1 hb; rw [List.drop_eq_getElem_cons h1, List.drop_eq_getElem_cons h2]
 rfl
theorem yvk {p q : List Int} {k : Nat} (h : p.length <= k \/ q.length <= k) (hp : k <= p.length) (hq : k <= q.length) : cmpW (p.drop k) (q.drop k) = if p.length < q.length then -1 else if q.length < p.length then 1 else 0 := by
 rcases h with h | h
 ·rw [List.drop_of_length_le h]
  have : p.length = k := by omega
  by_cases h2 : q.length = k
  ·rw [List.drop_of_length_le (Nat.le_of_eq h2), if_neg (by omega), if_neg (by omega)]; rfl
  ·rw [List.drop_eq_getElem_cons (by omega), if_pos (by omega)]; rfl
 ·rw [List.drop_of_length_le (l := q) h]
  have : q.length = k := by omega
  by_cases h2 : p.length = k
  ·rw [List.drop_of_length_le (Nat.le_of_eq h2), if_neg (by omega), if_neg (by omega)]; rfl
  ·rw [List.drop_eq_getElem_cons (by omega), if_neg (by omega), if_pos (by omega)]; rfl
def DrewQ (w wr : World) : Prop := ∃ n, wr = w.drewN n
theorem DrewQ.refl (w : World) : DrewQ w w := ⟨0, rfl⟩
theorem DrewQ.bel {w wr : World} (h : DrewQ w wr) (n : Nat) : Below w.heap.size w (wr.drewN n) := by
 obtain ⟨m, rfl⟩ := h
 have : (w.drewN m).drewN n = w.drewN (m + n) := by simp [World.drewN, Nat.add_assoc]
 rw [this]; exact yaa w _
theorem DrewQ.bel0 {w wr : World} (h : DrewQ w wr) : Below w.heap.size w wr := by
 obtain ⟨m, rfl⟩ := h; exact yaa w m
theorem DrewQ.cell {w wr : World} (h : DrewQ w wr) {p : Addr} {u : Value} (c : w.cell? p = some u) : wr.cell? p = some u := (h.bel0.cell (yag c)).trans c
theorem DrewQ.more {w wr : World} (h : DrewQ w wr) (n : Nat) : DrewQ w (wr.drewN n) := by
 obtain ⟨m, rfl⟩ := h; exact ⟨m + n, by simp [World.drewN, Nat.add_assoc]⟩
set_option maxHeartbeats 8000000 in
theorem yun {F : Nat -> Prop} {w : World} {p : Nat} {L : List PE} (h : TabAt F w p L) (a b : ByteArray) (ha : a.size <= 100000) (hb : b.size <= 100000) {lv : Nat} (hl : Lv lv) :
  Calls Tryz.prog 10 #[.pointer (some ⟨p, 0, none⟩), .string a, .string b, .int .i64 (lv : Nat)] w fun e w' => e = .returned (.int .i64 (cmpW (nzW lv (elsP L (T2.sgs a.data.toList))) (nzW lv (elsP L (T2.sgs b.data.toList))))) /\ Below w.heap.size w w' := by
 have HT := zH h; have HLV := zH hl; have hA := els_lt h.good (T2.sgs a.data.toList); have hB := els_lt h.good (T2.sgs b.data.toList); have nA := yiw h.good (T2.sgs a.data.toList); have nB := yiw h.good (T2.sgs b.data.toList); have mA := T2.yer a.data.toList; have mB := T2.yer b.data.toList; rw [T2.ba_len] at mA mB; have EA := zH (fun (w1 : World) (h1 : TabAt F w1 p L) => yda h1 a ha)
 have EB := zH (fun (w1 : World) (h1 : TabAt F w1 p L) => yda h1 b hb)
 obtain ⟨x, hx⟩ : ∃ x, elsP L (T2.sgs a.data.toList) = x := ⟨_, rfl⟩; obtain ⟨y, hy⟩ : ∃ x, elsP L (T2.sgs b.data.toList) = x := ⟨_, rfl⟩; rw [hx] at hA nA EA |-; rw [hy] at hB nB EB |-; have HA := zH hA; have HB := zH hB; obtain ⟨nx, hnx⟩ : ∃ n, x.length = n := ⟨_, rfl⟩; obtain ⟨ny, hny⟩ : ∃ n, y.length = n := ⟨_, rfl⟩; have HNX := zH hnx; have HNY := zH hny
 have bx : nx <= 800000 := by omega
 have bY : ny <= 800000 := by omega
 have tok : True := trivial
 obtain ⟨C, hC⟩ : ∃ C, cmpW (nzW lv x) (nzW lv y) = C := ⟨_, rfl⟩; have HC := zH hC; rw [hC]; clear h hl hA hB nA nB mA mB ha hb hx hy hnx hny hC
 go_enter Tryz.func10, Tryz.ntmps10
 go_wp2_with (first
  | (go_at_call 23; have _t := tok; refine (EA.out _ HT.out).mono ?_; rintro e w1 ⟨v1, rfl, ho, hb⟩; obtain ⟨Ax, cx, f1⟩ := ho.form; rw [HNX.out] at f1; subst f1; have HX1 := zH (ho.rd (F := anyB) (fun _ _ => trivial)); have HT1 := zH (HT.out.below hb (zN _)); have HB1 := zH hb; clear ho hb _t tok)
  | (go_at_call 23; refine (EB.out _ HT1.out).mono ?_; rintro e w2 ⟨v2, rfl, ho, hb⟩; obtain ⟨Ay, cy, f2⟩ := ho.form; rw [HNY.out] at f2; subst f2; have HY2 := zH (ho.rd (F := anyB) (fun _ _ => trivial)); have HX2 := zH (HX1.out.below hb (zN _)); have HB2 := zH (HB1.out.trans (hb.mono HB1.out.size)); clear ho hb))
 go_loopw [11, 13] (fun v i wr => ∃ k : Nat, k <= nx /\ i = .int .i64 (k : Nat) /\ Hid (T2.OwnI w2.heap.size wr v (nzW lv (x.take k))) /\ Hid (Below w2.heap.size w2 wr)) (fun _ i _ => nx - (intOf i).toNat)
 case atStart => exact ⟨0, Nat.zero_le _, rfl, World.ownsRow_nil _ _ _ _, zR _ _⟩
 case round =>
  obtain ⟨k, hk, rfl, HO, HW⟩ := hrel; obtain ⟨wo, rfl⟩ : ∃ wo, wo = wr := ⟨_, rfl⟩
  by_cases hlt : k < nx
  ·obtain ⟨e, he⟩ : ∃ e, x[k]? = some e := ⟨_, List.getElem?_eq_getElem (by rw [HNX.out]; exact hlt)⟩
   obtain ⟨g, o, rfl, c0⟩ := (HX2.out.below HW.out (zN _)).at he
   have hkc : (k : Int) < (cx : Int) := by have := RdF.cap HX2.out; have := this.1; omega
   have hltI : (k : Int) < (nx : Int) := by omega
   obtain ⟨q, hq⟩ : ∃ q, wgt lv e = q := ⟨_, rfl⟩; have CW := zH (fun w => ybd HLV.out hq (HA.out e (List.mem_of_getElem? he)) w)
   have hstep := ymd (lv := lv) he; rw [hq] at hstep
   have HLN : Hid ((nzW lv (x.take k)).length + 1 <= 10000000) := by
    have := ygh lv (x.take k)
    rw [List.length_take] at this
    show _ + 1 <= _; omega
   have HWS := zH HW.out.size
   by_cases hq0 : q = 0
   ·subst hq0; rw [if_pos rfl, List.append_nil] at hstep; have HS := zH hstep; clear hstep hq he hlt
    go_wp2_with (go_at_call 17; refine (CW.out _).mono ?_; rintro e w' ⟨rfl, rfl⟩)
    go_roundw
    case rel => exact ⟨k + 1, by omega, by go_num, by rw [HS.out]; exact HO.out, HW.out⟩
    case measure => simp [intOf] <;> omega
   ·rw [if_neg hq0] at hstep; have HS := zH hstep
    have hqn : ((q : Int) != 0) = true := by simpa using hq0
    clear hstep hq he hlt hq0
    go_wp2_with (first
     | (go_at_call 17; refine (CW.out _).mono ?_; rintro e w' ⟨rfl, rfl⟩)
     | (at_builtin; refine T2.pushI rfl (.tmp 38) (.tmp 40) rfl _ w2.heap.size _ _ [(q : Int)] 1 rfl HO.out rfl HWS.out HLN.out ?_; intro v3 w3 ho3 hb3))
    go_roundw
    case rel => exact ⟨k + 1, by omega, by go_num, by rw [HS.out]; exact ho3, HW.out.trans hb3⟩
    case measure => simp [intOf] <;> omega
  ·have hkn : x.take k = x := List.take_of_length_le (by rw [HNX.out]; omega)
   rw [hkn] at HO
   have hltI : ¬ (k : Int) < (nx : Int) := by omega
   clear hkn hlt
   go_wp2
   have HYW := zH (HY2.out.below HW.out (zN _)); obtain ⟨w5, hw5⟩ : ∃ w5, wo = w5 := ⟨_, rfl⟩; rw [hw5] at HO HW HYW |-; have HO5 := HO; have HW5 := HW; clear HO HW hw5
   go_loopw [12, 15] (fun v i wr => ∃ k : Nat, k <= ny /\ i = .int .i64 (k : Nat) /\ Hid (T2.OwnI w5.heap.size wr v (nzW lv (y.take k))) /\ Hid (Below w5.heap.size w5 wr)) (fun _ i _ => ny - (intOf i).toNat)
   case atStart => exact ⟨0, Nat.zero_le _, rfl, World.ownsRow_nil _ _ _ _, zR _ _⟩
   case round =>
    obtain ⟨j, hj, rfl, HO, HW⟩ := hrel; obtain ⟨wo2, rfl⟩ : ∃ wo, wo = wr := ⟨_, rfl⟩
    by_cases hlt : j < ny
    ·obtain ⟨e, he⟩ : ∃ e, y[j]? = some e := ⟨_, List.getElem?_eq_getElem (by rw [HNY.out]; exact hlt)⟩
     obtain ⟨g, o, rfl, c0⟩ := (HYW.out.below HW.out (zN _)).at he
     have hkc : (j : Int) < (cy : Int) := by have := RdF.cap HYW.out; have := this.1; omega
     have hltI : (j : Int) < (ny : Int) := by omega
     obtain ⟨q, hq⟩ : ∃ q, wgt lv e = q := ⟨_, rfl⟩; have CW := zH (fun w => ybd HLV.out hq (HB.out e (List.mem_of_getElem? he)) w)
     have hstep := ymd (lv := lv) he; rw [hq] at hstep
     have HLN : Hid ((nzW lv (y.take j)).length + 1 <= 10000000) := by
      have := ygh lv (y.take j)
      rw [List.length_take] at this
      show _ + 1 <= _; omega
     have HWS := zH HW.out.size
     by_cases hq0 : q = 0
     ·subst hq0; rw [if_pos rfl, List.append_nil] at hstep; have HS := zH hstep; clear hstep hq he hlt
      go_wp2_with (go_at_call 17; refine (CW.out _).mono ?_; rintro e w' ⟨rfl, rfl⟩)
      go_roundw
      case rel => exact ⟨j + 1, by omega, by go_num, by rw [HS.out]; exact HO.out, HW.out⟩
      case measure => simp [intOf] <;> omega
     ·rw [if_neg hq0] at hstep; have HS := zH hstep
      have hqn : ((q : Int) != 0) = true := by simpa using hq0
      clear hstep hq he hlt hq0
      go_wp2_with (first
       | (go_at_call 17; refine (CW.out _).mono ?_; rintro e w' ⟨rfl, rfl⟩)
       | (at_builtin; refine T2.pushI rfl (.tmp 56) (.tmp 58) rfl _ w5.heap.size _ _ [(q : Int)] 1 rfl HO.out rfl HWS.out HLN.out ?_; intro v3 w3 ho3 hb3))
      go_roundw
      case rel => exact ⟨j + 1, by omega, by go_num, by rw [HS.out]; exact ho3, HW.out.trans hb3⟩
      case measure => simp [intOf] <;> omega
    ·have hkn : y.take j = y := List.take_of_length_le (by rw [HNY.out]; omega)
     rw [hkn] at HO
     have hltI : ¬ (j : Int) < (ny : Int) := by omega
     have HP := zH (ybr (F := anyB) (OwnI.below HO5.out HW.out (zN _)) fun _ _ => trivial)
     have HQ := zH (ybr (F := anyB) HO.out fun _ _ => trivial)
     have HBW : Hid (Below w.heap.size w wo2) := HB2.out.trans ((HW5.out.mono HB2.out.size).trans (HW.out.mono (Nat.le_trans HB2.out.size HW5.out.size)))
     obtain ⟨P, hP⟩ : ∃ P, nzW lv x = P := ⟨_, rfl⟩; obtain ⟨Q, hQ⟩ : ∃ P, nzW lv y = P := ⟨_, rfl⟩; have hp1 := ygh lv x; have hq1 := ygh lv y; rw [HNX.out, hP] at hp1; rw [HNY.out, hQ] at hq1; rw [hP] at HP; rw [hQ] at HQ; rw [hP, hQ] at HC; obtain ⟨Ap, cp, rfl⟩ := HP.out.form; obtain ⟨Aq, cq, rfl⟩ := HQ.out.form; obtain ⟨lp, hlp⟩ : ∃ n, P.length = n := ⟨_, rfl⟩; obtain ⟨lq, hlq⟩ : ∃ n, Q.length = n := ⟨_, rfl⟩; have HLP := zH hlp; have HLQ := zH hlq; rw [hlp] at HP hp1 |-; rw [hlq] at HQ hq1 |-; have cap1 := (RdF.cap HP.out).1; rw [HLP.out] at cap1; have cap2 := (RdF.cap HQ.out).1; rw [HLQ.out] at cap2; clear hkn hlt HO HW HO5 HW5 hP hQ hlp hlq HYW
     go_wp2
     go_loopw [17] (fun i wr => ∃ m : Nat, m <= lp /\ m <= lq /\ i = .int .i64 (m : Nat) /\ Hid (cmpW (P.drop m) (Q.drop m) = C) /\ DrewQ wo2 wr) (fun i _ => lp - (intOf i).toNat)
     case atStart => exact ⟨0, by omega, by omega, rfl, HC.out, DrewQ.refl _⟩
     case round =>
      obtain ⟨m, hm1, hm2, rfl, HS, HD⟩ := hrel
      by_cases hin : m < lp /\ m < lq
      ·obtain ⟨h1, h2⟩ := hin; obtain ⟨u, hu⟩ : ∃ u, P[m]? = some u := ⟨_, List.getElem?_eq_getElem (by rw [HLP.out]; exact h1)⟩
       obtain ⟨v, hv⟩ : ∃ u, Q[m]? = some u := ⟨_, List.getElem?_eq_getElem (by rw [HLQ.out]; exact h2)⟩
       obtain ⟨g1, o1, rfl, c1⟩ := HP.out.at hu; obtain ⟨g2, o2, rfl, c2⟩ := HQ.out.at hv
       replace c1 := HD.cell c1
       replace c2 := HD.cell c2
       have hst := ysd hu hv; rw [HS.out] at hst
       have h1I : (m : Int) < (lp : Int) := by omega
       have h2I : (m : Int) < (lq : Int) := by omega
       have h1c : (m : Int) < (cp : Int) := by omega
       have h2c : (m : Int) < (cq : Int) := by omega
       by_cases e : u = v
       ·subst e; rw [if_pos rfl] at hst; have HS2 := zH hst; clear hst hu hv
        go_wp2
        go_quiet (fail)
        go_wp2
        go_roundw
        case rel => exact ⟨m + 1, by omega, by omega, by go_num, HS2.out.symm, HD.more _⟩
        case measure => simp [intOf] <;> omega
       ·have hne : (u != v) = true := by simpa using e
        rw [if_neg e] at hst
        by_cases f : u < v
        ·rw [if_pos f] at hst
         have fb : decide (u < v) = true := decide_eq_true f
         have HS2 := zH hst; clear hst hu hv
         go_wp2
         go_quiet (fail)
         go_wp2
         go_quiet (fail)
         go_wp2
         go_ret
         exact ⟨by rw [HS2.out]; rfl, HBW.out.trans ((((HD.more _).bel _)).mono HBW.out.size)⟩
        ·rw [if_neg f] at hst
         have fb : decide (u < v) = false := decide_eq_false f
         have HS2 := zH hst; clear hst hu hv
         go_wp2
         go_quiet (fail)
         go_wp2
         go_quiet (fail)
         go_wp2
         go_ret
         exact ⟨by rw [HS2.out]; rfl, HBW.out.trans ((((HD.more _).bel _)).mono HBW.out.size)⟩
      ·have hend := yvk (p := P) (q := Q) (k := m) (by rw [HLP.out, HLQ.out]; omega) (by rw [HLP.out]; exact hm1) (by rw [HLQ.out]; exact hm2)
       rw [HS.out, HLP.out, HLQ.out] at hend; have HE := zH hend; clear hend
       by_cases h1 : m < lp
       ·have h2 : ¬ m < lq := fun h => hin ⟨h1, h⟩
        have h1I : (m : Int) < (lp : Int) := by omega
        have h2I : ¬ (m : Int) < (lq : Int) := by omega
        have a1 : ¬ (lp : Int) < (lq : Int) := by omega
        have a2 : (lq : Int) < (lp : Int) := by omega
        have HF : Hid (C = 1) := by show _ = _; rw [HE.out, if_neg (by omega), if_pos (by omega)]
        clear hin
        go_wp2
        go_ret
        exact ⟨by rw [HF.out]; rfl, HBW.out.trans ((HD.bel0).mono HBW.out.size)⟩
       ·have h1I : ¬ (m : Int) < (lp : Int) := by omega
        by_cases h2 : m < lq
        ·have a1 : (lp : Int) < (lq : Int) := by omega
         have HF : Hid (C = -1) := by show _ = _; rw [HE.out, if_pos (by omega)]
         clear hin
         go_wp2
         go_ret
         exact ⟨by rw [HF.out]; rfl, HBW.out.trans ((HD.bel0).mono HBW.out.size)⟩
        ·have a1 : ¬ (lp : Int) < (lq : Int) := by omega
         have a2 : ¬ (lq : Int) < (lp : Int) := by omega
         have HF : Hid (C = 0) := by show _ = _; rw [HE.out, if_neg (by omega), if_neg (by omega)]
         clear hin
         go_wp2
         go_ret
         exact ⟨by rw [HF.out]; rfl, HBW.out.trans ((HD.bel0).mono HBW.out.size)⟩
end Go.Proofs.YtichfdjjbafeiaaGreat
