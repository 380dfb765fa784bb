/-
  PACKED for a claim.
-/
import Derived.Test.YteibnfeokgibmaaGreatS28
set_option linter.unusedVariables false
set_option linter.unusedSimpArgs false
set_option maxRecDepth 100000
namespace Go.Proofs.YteibnfeokgibmaaGreat
open Go.RowKit
theorem ycz {w : World} (base : Nat) (t ty e : TypeId) (i : TypeInfo) (size c : Nat) (ht : Tryz.prog.underlying t = some (.slice e)) (hi : Tryz.prog.info? e = some i)
  (v : Value) (n : Nat) (xs : List Value) (hown : w.ownsRow base e size v n xs) :
  (Builtin.append_ #[t, t] ty #[v, .slice none 0 c]).run Tryz.prog w = .ok v w := by
 rcases hown.2 with ⟨rfl, rfl⟩ | ⟨g, cap, cur, rfl, _, _, hnc, _⟩
 ·simp [Builtin.append_, run_underlying ht, sizeOf, typeInfo, hi, Builtin.lenOf, Builtin.firstCells]
 ·simp [Builtin.append_, run_underlying ht, sizeOf, typeInfo, hi, Builtin.lenOf, Builtin.firstCells, hnc, storeCells]
theorem yka : (Tryz.prog.info? 168).map (fun i => (i.zero, i.size, i.bytes)) = some (some (.int .u32 0), 1, 4) := by kernel_rfl
theorem appendE {ops : Array Oper} {rest : List Oper} {o : Oper} {a : Act} {Q : Exit -> Act -> World -> Prop} (hgd : o.guard = none) (s x : Operand)
  (ho : o.op = .call { callee := .builtin .append, args := #[s, x], argTypes := #[86, 86] })
  (w : World) (B : Nat) (v : Value) (l m : List Nat) {A : Option Addr} {C : Nat} {F : Nat -> Prop} (hs : a.eval s = v) (hown : OwnE B w v l) (hx : a.eval x = .slice A m.length C)
  (hsrc : RdE F w (.slice A m.length C) m) (hB : B <= w.heap.size) (hl : l.length + m.length <= 100000000)
  (h : ∀ v' w', OwnE B w' v' (l ++ m) -> Below B w w' -> wpList Tryz.prog ops Q rest (a.put o.dst v') w') : wpList Tryz.prog ops Q (o :: rest) a w := by
 obtain ⟨i0, hi0, hz0, hz1, hz2⟩ := info_parts yka
 cases A with
 | none =>
  have hm : m = [] := by
   rcases Nat.eq_zero_or_pos m.length with h0 | h0
   ·exact List.eq_nil_of_length_eq_zero h0
   ·obtain ⟨g, o, e, _⟩ := RdF.base hsrc h0
    cases e
  subst hm; refine wpList_plain hgd fun K hK => ?_
  have hrun := ycz (w := w) B 86 o.type 168 i0 1 C Tryz.underlying86 hi0 v l.length (ev l) hown
  have hx' : a.eval x = .slice none 0 C := hx
  unfold Oper.wp
  simp [execOp, ho, resolve, invoke, builtin, hs, hx', hrun, Result.andThen]
  exact hK _ _ (h v w (by rw [List.append_nil]; exact hown) (zR _ _))
 | some ad =>
  refine wpList_append_own_at _ hgd s x _ ho B 168 i0 _ 1 4 Tryz.underlying86 hi0 hz0 hz1 hz2 rfl (by omega) v l.length (ev l) hs hown ad m.length C (ev m) hx (by rw [ev_len]; omega)
   ?_ (ev_one m) (by simp only [maxLen]; omega) (by omega) hB ?_
  ·intro j u hu
   have h0 : 0 < m.length := by
    have := (List.getElem?_eq_some_iff.1 hu).1
    rw [ev_len] at this; omega
   obtain ⟨g, o, e, _, hc⟩ := RdF.base hsrc h0
   cases e
   rw [Addr.add_lit]; exact hc j u hu
  ·intro v' w' h2 h3 _ _; refine h v' w' ?_ ((zR B w).grown h3 hB (fun k hk => (World.ownsRow.lt hown k hk).1))
   unfold OwnE; rw [ev_app, List.length_append]; exact h2
theorem yws {l : List Int} {q : Int -> Bool} (h : l.all q = true) (n : Nat) : (l.drop n).all q = true := by
 rw [List.all_eq_true] at h |-; exact fun x hx => h x (List.mem_of_mem_drop hx)
theorem yxp {B : Nat} {w : World} {v : Value} {l : List Int} (h : T2.OwnI B w v l) : RdI (fun g => g < w.heap.size) w v l := by
 obtain ⟨A, c, rfl, hc, hr⟩ := R4.yah h; refine ⟨A, c, rfl, hc, fun hn => ?_⟩
 obtain ⟨g, e, h1, h2, h3⟩ := hr hn; exact ⟨g, 0, e, h2, fun j u hu => by rw [Nat.zero_add]; exact h3 j u hu⟩
theorem RdI.keep {B : Nat} {w w' : World} {v : Value} {l : List Int} (h : RdI (fun g => g < B) w v l) (hb : Below B w w') : RdI (fun g => g < B) w' v l := RdF.frame h fun g hg _ => hb.block g hg
theorem I64.drop {l : List Int} (h : I64 l) (n : Nat) : I64 (l.drop n) := fun x hx => h x (List.mem_of_mem_drop hx)
theorem yvx {L : List PE} {ss : List Int} {l : List Nat} {u : Nat} (hr : atP L ss = (l, u)) {F G : Nat -> Prop} {w : World} {p : Nat} {v : Value} (h : TabAt F w p L) (hs : RdI G w v ss) (h0 : 0 < ss.length) (hI : I64 ss) (hl : ss.length <= 1000000) :
  Calls Tryz.prog 189 #[.pointer (some ⟨p, 0, none⟩), v] w fun e w' => (∃ A c, e = .returned (.tuple #[.slice A l.length c, .int .i64 (u : Nat)]) /\ RdE anyB w' (.slice A l.length c) l) /\ Below w.heap.size w w' := by
 have := ygz h hs h0 hI hl
 unfold FirstIs at this; rw [hr] at this; exact this
set_option maxHeartbeats 1000000 in
theorem yjz {F : Nat -> Prop} {w : World} {p : Nat} {L : List PE} (h : TabAt F w p L) (b : ByteArray) (hb : b.size <= 100000) :
  Calls Tryz.prog 151 #[.pointer (some ⟨p, 0, none⟩), .string b] w (GotE w.heap.size w (elsP L (T2.sgs b.data.toList))) := by
 have HS := zH (T2.ygd b w (by omega))
 have hsg := T2.sgs_sg b.data.toList; have hln := T2.ydq b.data.toList; have hbl := T2.ba_len b; obtain ⟨ss, hss⟩ : ∃ ss, T2.sgs b.data.toList = ss := ⟨_, rfl⟩; rw [hss] at HS hsg hln |-
 have hsl : ss.length <= 100000 := by omega
 have HT := zH h; have HG := zH hsg; clear h hsg hln hbl hss hb
 go_enter Tryz.func151, Tryz.ntmps151
 go_wp2_with (go_at_call 188; refine (HS.out).mono ?_; rintro e w1 ⟨v1, rfl, ho, hb⟩; obtain ⟨A0, c0, rfl⟩ := (ybu (F := anyB) ho (fun _ _ => trivial)).form; have HRS := zH (yxp ho); have HB1 := zH hb; clear ho hb)
 clear HS
 go_loopw [5, 6] (fun u v wr => ∃ (rest : List Int) (acc : List Nat) (A : Option Addr) (c : Nat), v = .slice A rest.length c /\ Hid (RdI (fun g => g < w1.heap.size) wr (.slice A rest.length c) rest) /\ Hid (rest.all T2.isSg = true) /\ Hid (OwnE w1.heap.size wr u acc) /\ Hid (acc ++ elsP L rest = elsP L ss) /\ acc.length + 8 * rest.length <= 8 * ss.length /\ Hid (Below w1.heap.size w1 wr)) (fun _ v _ => match v with | .slice _ n _ => n | _ => 0)
 case atStart => exact ⟨ss, [], A0, c0, rfl, HRS.out, HG.out, World.ownsRow_nil _ _ _ _, rfl, by simp, zR _ _⟩
 case round =>
  clear HRS HG; obtain ⟨rest, acc, A, c, rfl, HR, HG, HO, HE, hlen, HB⟩ := hrel; have HW := zH (HB1.out.trans (HB.out.mono HB1.out.size))
  by_cases h0 : 0 < rest.length
  ·have HTw := zH (HT.out.below HW.out (zN _)); obtain ⟨R, hR⟩ : ∃ R, atP L rest = R := ⟨_, rfl⟩; obtain ⟨l, u⟩ := R; have hu := yel L h0; have hg := yjf HT.out.good rest; have hst := ydf L h0; rw [hR] at hu hg hst
   simp only at hu hg hst
   have HC := zH (yvx hR HTw.out HR.out h0 (sg_i64 HG.out) (by omega))
   have HE2 : Hid ((acc ++ l) ++ elsP L (rest.drop u) = elsP L ss) := by show _ = _; rw [List.append_assoc, <- hst]; exact HE.out
   have hcap := (RdF.cap HR.out).1; obtain ⟨g, o, rfl, -⟩ := RdF.base HR.out h0; obtain ⟨A2, hA2⟩ : ∃ A2, (if c = u then some (⟨g, o, none⟩ : Addr) else some ⟨g, o + u, none⟩) = A2 := ⟨_, rfl⟩
   have HR2 : Hid (RdI (fun g => g < w1.heap.size) wr (.slice A2 (rest.length - u) (c - u)) (rest.drop u)) := RdI.drop HR.out hu.2.1 (fun ad e => by cases e; rw [Addr.add_lit]; exact hA2)
   have HG2 := zH (yws HG.out u)
   have HLD : Hid ((rest.drop u).length = rest.length - u) := List.length_drop
   have u1 : (1 : Int) <= (u : Int) := by omega
   have u2 : (u : Int) <= (rest.length : Int) := by omega
   have u3 : (rest.length : Int) <= (c : Int) := by omega
   have u4 : (0 : Int) < (rest.length : Int) := by omega
   have hll : l.length <= 8 := hg.1
   have hu2 := hu.2.1; have hu1 := hu.1
   have HLL : Hid (acc.length + l.length <= 100000000) := by show _ <= _; omega
   clear hR hu hg hst hcap
   go_wp2_with (first
    | (go_at_call 189; refine (HC.out).mono ?_; rintro e w2 ⟨⟨A3, c3, rfl, hr⟩, hb⟩; have HRL := zH hr; have HB2 := zH hb; have HO2 := zH (HO.out.below hb (zN _)); have HW2 := zH (HB.out.trans (hb.mono HB.out.size)); clear hr hb)
    | (at_builtin; refine appendE rfl (.tmp 20) (.tmp 21) rfl _ w1.heap.size _ acc l rfl HO2.out rfl HRL.out HW2.out.size HLL.out ?_; intro v4 w4 h4 hb4; have HO4 := zH h4; have HW4 := zH (HW2.out.trans hb4); have HR4 := zH (HR2.out.keep ((HB2.out.mono HB.out.size).trans hb4)); clear h4 hb4))
   go_roundw
   case rel => exact ⟨rest.drop u, acc ++ l, A2, c - u, by rw [HLD.out], by rw [HLD.out]; exact HR4.out, HG2.out, HO4.out, HE2.out, by rw [HLD.out, List.length_append]; omega, HW4.out⟩
   case measure => simp; omega
  ·have hr0 : rest = [] := List.eq_nil_of_length_eq_zero (by omega)
   subst hr0
   have HEE : Hid (acc = elsP L ss) := by have := HE.out; rw [ycu, List.append_nil] at this; exact this
   clear h0 HE
   go_wp2
   go_ret
   exact ⟨_, rfl, by rw [<- HEE.out]; exact R4.yar HO.out HB1.out.size, HW.out⟩
def begTo (L : List PE) (s : List Int) (m : Nat) : Bool := (List.range m).all fun n => n == 0 || (place L (s.take n)).isSome
theorem ylu (L : List PE) (s : List Int) : begs L s = begTo L s s.length := rfl
theorem yid (L : List PE) (s : List Int) (m : Nat) : begTo L s (m + 1) = (begTo L s m && (m == 0 || (place L (s.take m)).isSome)) := by
 unfold begTo; rw [List.range_succ, List.all_append]
 simp
theorem ywk {L : List PE} {s : List Int} {m n : Nat} (h : m <= n) (ht : begTo L s n = true) : begTo L s m = true := by
 unfold begTo at ht |-; rw [List.all_eq_true] at ht |-; exact fun x hx => ht x (by simp at hx |-; omega)
theorem ysy {L : List PE} {s : List Int} {m : Nat} (h1 : 1 <= m) (hm : m < s.length) (hp : place L (s.take m) = none) : begs L s = false := by
 rw [ylu]; unfold begTo; rw [List.all_eq_false]; refine ⟨m, by simpa using hm, ?_⟩
 rw [hp]
 simp; omega
theorem ylo {F G : Nat -> Prop} {w : World} {p : Nat} {L : List PE} {v : Value} {s : List Int} (h : TabAt F w p L) (hs : RdI G w v s) (hI : I64 s) (hl : s.length <= 1000) {b : Bool} (hb : begs L s = b) :
  Calls Tryz.prog 135 #[.pointer (some ⟨p, 0, none⟩), v] w fun e w' => e = .returned (.bool b) /\ Below w.heap.size w w' := by
 obtain ⟨A, c, rfl⟩ := hs.form; have hcap := (RdF.cap hs).1; have HT := zH h; have HS := zH hs; have HI := zH hI; have HB0 := zH hb
 have hlI : (s.length : Int) <= 1000 := by omega
 clear h hs hI hb
 go_enter Tryz.func135, Tryz.ntmps135
 go_wp2
 go_loopw [5] (fun i wr => ∃ m : Nat, 1 <= m /\ m <= s.length + 1 /\ i = .int .i64 (m : Nat) /\ Hid (begTo L s m = true) /\ Hid (Below w.heap.size w wr)) (fun i _ => s.length + 1 - (intOf i).toNat)
 case atStart => exact ⟨1, zN _, by omega, rfl, rfl, zR _ _⟩
 case round =>
  obtain ⟨m, hm1, hm, rfl, HB, HW⟩ := hrel
  by_cases hlt : m < s.length
  ·have hmI : (m : Int) < (s.length : Int) := by omega
   have hmJ : (m : Int) <= (c : Int) := by omega
   have hm0 : (0 : Int) <= (m : Int) := by omega
   have HTw := zH (HT.out.below HW.out (zN _)); have HSm := zH ((HS.out.below HW.out (zN _)).take (Nat.le_of_lt hlt))
   cases hp : place L (s.take m) with
   | none =>
    have HC := zH (ysb hp HTw.out HSm.out (ymz HI.out _) (by rw [List.length_take]; omega))
    have HN : Hid (false = b) := by show _ = _; rw [<- HB0.out]; exact (ysy hm1 hlt hp).symm
    clear hp hlt
    go_wp2_with (go_at_call 181; refine (HC.out).mono ?_; rintro e w1 ⟨⟨i, rfl⟩, hb⟩; have HB2 := zH (HW.out.trans (hb.mono HW.out.size)); clear hb)
    go_ret
    exact ⟨by rw [<- HN.out]; rfl, HB2.out⟩
   | some k =>
    have HC := zH (ynb hp HTw.out HSm.out)
    have HN : Hid (begTo L s (m + 1) = true) := by show _ = _; rw [yid, HB.out, hp]; simp
    clear hp hlt
    go_wp2_with (go_at_call 181; refine (HC.out).mono ?_; rintro e w1 ⟨rfl, hb⟩; have HB2 := zH (HW.out.trans (hb.mono HW.out.size)); clear hb)
    go_roundw
    case rel => exact ⟨m + 1, by omega, by omega, by go_num, HN.out, HB2.out⟩
    case measure => simp [intOf]; omega
  ·have HN : Hid (true = b) := by show _ = _; rw [<- HB0.out, ylu]; exact (ywk (by omega) HB.out).symm
   have hmI : ¬ (m : Int) < (s.length : Int) := by omega
   clear hlt
   go_wp2
   go_ret
   exact ⟨by rw [<- HN.out]; rfl, HW.out⟩
theorem yek {L : List PE} {e : PE} {k : Nat} (he : L[k]? = some e) (h : goodE L e = false) : checkP L = 3 := by
 unfold checkP; rw [if_neg]; rw [List.all_eq_true]; exact fun hh => by have := hh e (List.mem_of_getElem? he); rw [h] at this; cases this
set_option maxHeartbeats 1000000 in
theorem ysu {F : Nat -> Prop} {w : World} {p : Nat} {L : List PE} (h : TabAt F w p L) {r : Int} (hr : checkP L = r) :
  Calls Tryz.prog 86 #[.pointer (some ⟨p, 0, none⟩)] w fun e w' => e = .returned (.int .i64 r) /\ Below w.heap.size w w' := by
 obtain ⟨A1, c1, bo, b2, b3, d0, -, -, -, hrt, -, -, -⟩ := h.cells; have HT := zH h; have HE := zH hrt; have HR := zH hr
 have hlen : (L.length : Int) <= 500 := by have := h.good.len; omega
 clear h hrt hr
 go_enter Tryz.func86, Tryz.ntmps86
 go_wp2
 clear d0
 go_loopw [10] (fun i wr => ∃ k : Nat, k <= L.length /\ i = .int .i64 (k : Nat) /\ Hid ((L.take k).all (goodE L) = true) /\ Hid (Below w.heap.size w wr)) (fun i _ => L.length - (intOf i).toNat)
 case atStart => exact ⟨0, Nat.zero_le _, rfl, rfl, zR _ _⟩
 case round =>
  obtain ⟨k, hk, rfl, HA, HW⟩ := hrel
  by_cases hlt : k < L.length
  ·obtain ⟨e, he⟩ : ∃ e, L[k]? = some e := ⟨_, List.getElem?_eq_getElem hlt⟩; obtain ⟨g, o, vs, vl, rfl, c0, c2, hrs, hrl⟩ := (HE.out.below HW.out (zN _)).at he; obtain ⟨a1, n1, rfl⟩ := hrs.form; obtain ⟨a2, n2, rfl⟩ := hrl.form
   have hkI : (k : Int) < (L.length : Int) := by omega
   have hq := HT.out.good.seq e (List.mem_of_getElem? he); have hw := HT.out.good.els e (List.mem_of_getElem? he)
   have hA : Below wr.heap.size wr (wr.alloc (.cells #[.slice a1 e.1.length n1, .slice a2 e.2.length n2] 88)) := (zR _ wr).alloc (zN _) _
   have HWA := zH (HW.out.trans (hA.mono HW.out.size))
   have htk : (L.take (k + 1)).all (goodE L) = ((L.take k).all (goodE L) && goodE L e) := by rw [List.take_add_one, he, List.all_append]; simp
   obtain ⟨t1, ht1⟩ : ∃ t1, e.2.all okW = t1 := ⟨_, rfl⟩; obtain ⟨t2, ht2⟩ : ∃ t2, begs L e.1 = t2 := ⟨_, rfl⟩
   have hge : goodE L e = (t1 && t2) := by unfold goodE; rw [ht1, ht2]
   have HC := zH (ykb (hrl.below hA (zN _)) (by omega) hw.2)
   have HH := zH (ylo (HT.out.below HWA.out (zN _)) (hrs.below hA (zN _)) (sg_i64 hq.2.2) (by omega) ht2)
   rw [ht1] at HC; obtain ⟨x1, hx1⟩ : ∃ x1, e.1.length = x1 := ⟨_, rfl⟩; obtain ⟨x2, hx2⟩ : ∃ x2, e.2.length = x2 := ⟨_, rfl⟩; rw [hx1] at c0 HWA HC HH; rw [hx2] at c2 HWA HC HH
   cases t1 with
   | false =>
    have HN : Hid (3 = r) := by show _ = _; rw [<- HR.out]; exact (yek he (by rw [hge]; rfl)).symm
    clear he hrs hrl hq hw hA htk ht1 ht2 hge hx1 hx2 hlt
    go_wp2_with (go_at_call 133; refine (HC.out).mono ?_; rintro e w' ⟨rfl, rfl⟩)
    go_ret
    exact ⟨by rw [<- HN.out]; rfl, HWA.out⟩
   | true =>
    cases t2 with
    | false =>
     have HN : Hid (3 = r) := by show _ = _; rw [<- HR.out]; exact (yek he (by rw [hge]; rfl)).symm
     clear he hrs hrl hq hw hA htk ht1 ht2 hge hx1 hx2 hlt
     go_wp2_with (first
      | (go_at_call 133; refine (HC.out).mono ?_; rintro e w' ⟨rfl, rfl⟩)
      | (go_at_call 135; refine (HH.out).mono ?_; rintro e w1 ⟨rfl, hb⟩; have HB2 := zH (HWA.out.trans (hb.mono HWA.out.size)); clear hb))
     go_ret
     exact ⟨by rw [<- HN.out]; rfl, HB2.out⟩
    | true =>
     have HN : Hid ((L.take (k + 1)).all (goodE L) = true) := by show _ = _; rw [htk, HA.out, hge]; rfl
     clear he hrs hrl hq hw hA htk ht1 ht2 hge hx1 hx2 hlt
     go_wp2_with (first
      | (go_at_call 133; refine (HC.out).mono ?_; rintro e w' ⟨rfl, rfl⟩)
      | (go_at_call 135; refine (HH.out).mono ?_; rintro e w1 ⟨rfl, hb⟩; have HB2 := zH (HWA.out.trans (hb.mono HWA.out.size)); clear hb))
     go_roundw
     case rel => exact ⟨k + 1, by omega, by go_num, HN.out, HB2.out⟩
     case measure => simp [intOf]; omega
  ·obtain rfl : k = L.length := by omega
   have HN : Hid (0 = r) := by
    have := HA.out
    rw [List.take_length] at this
    show _ = _
    rw [<- HR.out]; unfold checkP; rw [if_pos this]
   clear hlt
   go_wp2
   go_ret
   exact ⟨by rw [<- HN.out]; rfl, HW.out⟩
end Go.Proofs.YteibnfeokgibmaaGreat
