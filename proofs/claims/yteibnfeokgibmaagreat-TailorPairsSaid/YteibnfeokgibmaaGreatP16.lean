/-
  PACKED for a claim.
-/
import Derived.Deep.CutRange
import Derived.Test.YteibnfeokgibmaaGreatP13
import Derived.Test.YteibnfeokgibmaaGreatP15
set_option linter.unusedVariables false
set_option linter.unusedSimpArgs false
set_option maxRecDepth 100000
namespace Go.Proofs.YteibnfeokgibmaaGreat
open Go.RowKit
theorem cellAt {w : World} {b : Nat} {cs : Array Value} {t : TypeId} {fr : Nat × Nat} {i : Nat} {v : Value} (h : w.heap[b]? = some (.cells cs t fr)) (hv : cs[i]? = some v) : w.cell? ⟨b, i, none⟩ = some v := by
 rw [cell_of_row w b i cs t fr h]; exact hv
theorem belAlloc (w : World) (o : Obj) : Below w.heap.size w (w.alloc o) := (zR _ w).alloc (zN _) o
theorem rev_any {B : Nat} {w : World} {v : Value} {l : List Int} (h : T2.OwnI B w v l) (hl : l.length <= 10000000) (hB : B <= w.heap.size) :
  Calls Tryz.prog 149 #[v] w fun e w' => e = .returned (.tuple #[]) /\ RdI (fun k => B <= k) w' v l.reverse /\ Below B w w' := by
 rcases Nat.eq_zero_or_pos l.length with h0 | h0
 ·have hl0 : l = [] := List.eq_nil_of_length_eq_zero h0
  subst hl0; obtain ⟨A, c, rfl, -, -⟩ := R4.yai h; exact (Tryz.slices_Reverse_int_empty A c w).mono fun e w' ⟨he, hw⟩ => ⟨he, by subst hw; exact ybi h fun _ hk => hk, by subst hw; exact zR _ _⟩
 ·rcases h.2 with ⟨_, hn⟩ | ⟨g, cap, cur, rfl, hg, hgg, hlc, _⟩
  ·omega
  ·have hc := World.ownsRow.cells h (g := g) rfl
   have hH : Go.Sort.Holds (Value.int .i64) w g 0 l.toArray := by
    intro j hj
    have hj' : j < l.length := by simpa using hj
    rw [Nat.zero_add]; refine ⟨?_, frozen_of_row w g j _ _ hgg⟩
    have := hc j (.int .i64 l[j]) (by simp [T2.iv, hj'])
    rw [Addr.add_lit, Nat.zero_add] at this; rw [this]; simp [hj']
   refine (Tryz.slices_Reverse_int g 0 cap l w hH (by omega)).mono fun e w' => ?_
   rintro ⟨he, n, rfl⟩; have hH2 := Go.Sort.holds_putRow (Value.int .i64) (Go.Sort.ahead w n) g 0 l.toArray l.reverse.toArray (Go.Sort.holds_ahead _ w n g 0 _ hH) (by simp)
   refine ⟨he, ⟨_, cap, by rw [List.length_reverse], by rw [List.length_reverse]; exact hlc, fun _ => ⟨g, 0, rfl, hg, fun j u hu => ?_⟩⟩, ?_⟩
   ·have hj : j < l.reverse.length := by
     have := (List.getElem?_eq_some_iff.1 hu).1
     rwa [iv_len] at this
    have := (hH2 j (by simpa using hj)).1
    rw [this]
    have hu2 : (T2.iv l.reverse)[j]? = some (.int .i64 l.reverse[j]) := by simp only [T2.iv, List.getElem?_map, List.getElem?_eq_getElem hj]; rfl
    rw [hu2] at hu; rw [<- Option.some.inj hu]
    have hj2 : j < l.reverse.toArray.size := by simpa using hj
    rw [getElem!_pos l.reverse.toArray j hj2]
    simp
   ·refine ⟨rfl, rfl, rfl, by simp, fun k hk => ?_⟩
    have hkg : g ≠ k := by omega
    show (w.heap.modify g _)[k]? = w.heap[k]?
    rw [Array.getElem?_modify, if_neg hkg]
def wsG (W : Nat -> Nat) (sh : Bool) : List Nat -> List Int
 | [] => []
 | x :: l => if W x = 0 \/ (sh = true /\ x % 2 = 1) then wsG W sh l else ((W x : Nat) : Int) :: wsG W sh l
theorem wsG_F (lv : Nat) (sh : Bool) : ∀ l, wsG (wgt lv) sh l = wsF lv sh l
 | [] => rfl
 | x :: l => by rw [wsG, wsF, wsG_F lv sh l]
theorem ysd (W : Nat -> Nat) (sh : Bool) : ∀ (a b : List Nat), wsG W sh (a ++ b) = wsG W sh a ++ wsG W sh b
 | [], b => rfl
 | x :: a, b => by
  rw [List.cons_append, wsG, wsG, ysd W sh a b]
  split <;> rfl
theorem ymo (W : Nat -> Nat) (sh : Bool) : ∀ l : List Nat, (wsG W sh l).length <= l.length
 | [] => zN _
 | x :: l => by
  rw [wsG]
  have := ymo W sh l
  split <;> (simp only [List.length_cons]; omega)
theorem yxd {W : Nat -> Nat} {sh : Bool} {k x : Nat} {l : List Nat} (h : l[k]? = some x) : wsG W sh (l.take (k + 1)) = wsG W sh (l.take k) ++ (if W x = 0 \/ (sh = true /\ x % 2 = 1) then [] else [((W x : Nat) : Int)]) := by
 rw [List.take_add_one, h, ysd]
 congr 1
def wsR (b : Bool) (l : List Int) : List Int := if b = true then l.reverse else l
set_option maxHeartbeats 8000000 in
theorem ysj {F : Nat -> Prop} {w : World} {ev : Value} {E : List Nat} (h : RdE F w ev E) (hlen : E.length <= 1000000) (hE : ∀ x ∈ E, x < 4294967296) {W : Nat -> Nat} {lv : Int} (hW : ∀ x : Nat, x < 4294967296 -> ∀ w : World, Calls Tryz.prog 147 #[.int .u32 (x : Int), .int .i64 lv] w fun e w' => e = .returned (.int .i64 ((W x : Nat) : Int)) /\ w = w')
  (k l : Int) (sh bk : Bool) (p : Value) {b2 : Bool} (hb2 : (bk && (lv == 2)) = b2) :
  Calls Tryz.prog 95 #[.agg #[.int .i64 k, .int .i64 l, .bool sh, .bool bk, p], ev, .int .i64 lv] w fun e w' => (∃ u, e = .returned u /\ RdI (fun k => w.heap.size <= k) w' u (wsR b2 (wsG W sh E))) /\ Below w.heap.size w w' := by
 obtain ⟨Ae, ce, rfl⟩ := h.form; have HE := zH h; have HW := zH hW; have HL := zH hE; obtain ⟨n, hn⟩ : ∃ n, E.length = n := ⟨_, rfl⟩; have HN := zH hn; have hcap := (RdF.cap HE.out).1; rw [hn] at HE hlen hcap |-; have hb := belAlloc w (.cells #[.int .i64 k, .int .i64 l, .bool sh, .bool bk, p] 25); have hx := heap_alloc_new w (.cells #[.int .i64 k, .int .i64 l, .bool sh, .bool bk, p] 25); have HX := zH hx
 have HE1 : Hid (RdE F (w.alloc (.cells #[.int .i64 k, .int .i64 l, .bool sh, .bool bk, p] 25)) (.slice Ae n ce) E) := RdF.below HE.out hb (zN _)
 have HB1 := zH hb; clear h hW hE hn hb hx
 go_enter Tryz.func95, Tryz.ntmps95
 go_upto_region 1 with (fail)
 generalize (w.alloc (.cells #[.int .i64 k, .int .i64 l, .bool sh, .bool bk, p] 25)) = w1 at HX HE1 HB1 |-; obtain ⟨bx, hbx⟩ : ∃ b, w.heap.size = b := ⟨_, rfl⟩; have HBX := zH hbx; rw [hbx] at HX; rw [show (({ block := w.heap.size, off := 0 } : Addr)) = ⟨bx, 0, none⟩ by rw [hbx]]
 have HBS : Hid (bx < w1.heap.size) := R4.yad HX.out
 clear hbx
 go_wp2_with (refine T2.makeI rfl _ _ rfl w1 w1.heap.size n rfl rfl (by omega) (zN _) ?_; intro v2 w2 ho2 hb2; have HO2 := zH ho2; have HB2 := zH hb2; clear ho2 hb2)
 go_loopw [7, 16] (fun v i wr => ∃ m : Nat, m <= n /\ i = .int .i64 (m : Nat) /\ Hid (T2.OwnI w1.heap.size wr v (wsG W sh (E.take m))) /\ Hid (Below w1.heap.size w1 wr)) (fun _ i _ => n - (intOf i).toNat)
 case atStart => exact ⟨0, Nat.zero_le _, rfl, HO2.out, HB2.out⟩
 case round =>
  obtain ⟨m, hm, rfl, HO, HB⟩ := hrel; obtain ⟨wo, rfl⟩ : ∃ wo, wo = wr := ⟨_, rfl⟩; have hx := (HB.out.block bx HBS.out).trans HX.out; have c2 := cellAt (i := 2) (v := .bool sh) hx rfl; have c3 := cellAt (i := 3) (v := .bool bk) hx rfl
  by_cases hlt : m < n
  ·obtain ⟨e, he⟩ : ∃ e, E[m]? = some e := ⟨_, List.getElem?_eq_getElem (by rw [HN.out]; exact hlt)⟩
   obtain ⟨g, o, rfl, c0⟩ := (show RdE F wo (.slice Ae n ce) E from RdF.below HE1.out HB.out (zN _)).at he
   have hkc : (m : Int) < (ce : Int) := by omega
   have hltI : (m : Int) < (n : Int) := by omega
   have he32 := HL.out e (List.mem_of_getElem? he); obtain ⟨q, hq⟩ : ∃ q, W e = q := ⟨_, rfl⟩; have CW := zH (fun w => HW.out e he32 w)
   rw [hq] at CW; have hstep := yxd (W := W) (sh := sh) he; rw [hq] at hstep
   have HLN : Hid ((wsG W sh (E.take m)).length + 1 <= 10000000) := by
    have := ymo W sh (E.take m)
    rw [List.length_take] at this
    show _ + 1 <= _; omega
   have HWS := zH HB.out.size; obtain ⟨b, hb⟩ : ∃ b : Bool, (e % 2 = 1) = (b = true) := ⟨decide (e % 2 = 1), by simp⟩
   have CV := zH (fun w => E3.ysk e b he32 hb w)
   by_cases hq0 : q = 0
   ·subst hq0; rw [if_pos (.inl rfl), List.append_nil] at hstep; have HS := zH hstep; clear hstep hq he hlt hb
    go_wp2_with (go_at_call 147; refine (CW.out _).mono ?_; rintro e w' ⟨rfl, rfl⟩)
    go_roundw
    case rel => exact ⟨m + 1, by omega, by go_num, by rw [HS.out]; exact HO.out, HB.out⟩
    case measure => simp [intOf] <;> omega
   ·have hqn : ((q : Int) != 0) = true := by simpa using hq0
    cases sh with
    | false =>
     rw [if_neg (by simp [hq0])] at hstep
     have HS := zH hstep; clear hstep hq he hlt hq0 hb
     go_wp2_with (first
      | (go_at_call 147; refine (CW.out _).mono ?_; rintro e w' ⟨rfl, rfl⟩)
      | (at_builtin; refine T2.pushI rfl (.tmp 34) (.tmp 36) rfl _ w1.heap.size _ _ [(q : Int)] 1 rfl HO.out rfl HWS.out HLN.out ?_; intro v3 w3 ho3 hb3))
     go_roundw
     case rel => exact ⟨m + 1, by omega, by go_num, by rw [HS.out]; exact ho3, HB.out.trans hb3⟩
     case measure => simp [intOf] <;> omega
    | true =>
     cases b with
     | true =>
      have hv : e % 2 = 1 := by rw [hb]
      rw [if_pos (.inr ⟨rfl, hv⟩), List.append_nil] at hstep; have HS := zH hstep; clear hstep hq he hlt hq0 hb hv
      go_wp2_with (first
       | (go_at_call 147; refine (CW.out _).mono ?_; rintro e w' ⟨rfl, rfl⟩)
       | (go_at_call 148; refine (CV.out _).mono ?_; rintro e w' ⟨rfl, rfl⟩))
      go_roundw
      case rel => exact ⟨m + 1, by omega, by go_num, by rw [HS.out]; exact HO.out, HB.out⟩
      case measure => simp [intOf] <;> omega
     | false =>
      have hv : ¬ e % 2 = 1 := by rw [hb]; simp
      rw [if_neg (by simp [hq0, hv])] at hstep
      have HS := zH hstep; clear hstep hq he hlt hq0 hb hv
      go_wp2_with (first
       | (go_at_call 147; refine (CW.out _).mono ?_; rintro e w' ⟨rfl, rfl⟩)
       | (go_at_call 148; refine (CV.out _).mono ?_; rintro e w' ⟨rfl, rfl⟩)
       | (at_builtin; refine T2.pushI rfl (.tmp 34) (.tmp 36) rfl _ w1.heap.size _ _ [(q : Int)] 1 rfl HO.out rfl HWS.out HLN.out ?_; intro v3 w3 ho3 hb3))
      go_roundw
      case rel => exact ⟨m + 1, by omega, by go_num, by rw [HS.out]; exact ho3, HB.out.trans hb3⟩
      case measure => simp [intOf] <;> omega
  ·have hkn : E.take m = E := List.take_of_length_le (by rw [HN.out]; omega)
   rw [hkn] at HO
   have hltI : ¬ (m : Int) < (n : Int) := by omega
   have HLN : Hid ((wsG W sh E).length <= 10000000) := by
    have := ymo W sh E
    rw [HN.out] at this
    show _ <= _; omega
   have HBW : Hid (Below w.heap.size w wo) := HB1.out.trans (HB.out.mono HB1.out.size)
   clear hkn hlt
   cases bk with
   | false =>
    obtain rfl : b2 = false := hb2.symm
    go_wp2
    go_ret
    exact ⟨⟨_, rfl, ybi HO.out fun _ hk => Nat.le_trans HB1.out.size hk⟩, HBW.out⟩
   | true =>
    cases b2 with
    | false =>
     have hne : (lv == 2) = false := hb2
     go_wp2
     go_ret
     exact ⟨⟨_, rfl, ybi HO.out fun _ hk => Nat.le_trans HB1.out.size hk⟩, HBW.out⟩
    | true =>
     have hne : (lv == 2) = true := hb2
     have CR := zH (rev_any HO.out HLN.out HB.out.size)
     go_wp2_with (go_at_call 149; refine (CR.out).mono ?_; rintro e w4 ⟨rfl, hr4, hb4⟩; have HR4 := zH hr4; have HB4 := zH hb4; clear hr4 hb4)
     go_ret
     exact ⟨⟨_, rfl, RdF.mono HR4.out fun _ hk => Nat.le_trans HB1.out.size hk⟩, HBW.out.trans (HB4.out.mono HB1.out.size)⟩
theorem yxk {F : Nat -> Prop} {w : World} {ev : Value} {E : List Nat} (h : RdE F w ev E) (hlen : E.length <= 1000000) (hE : ∀ x ∈ E, x < 4294967296) {lv : Nat} (hl : Lv lv) (k l : Int) (sh bk : Bool) (p : Value) {R : List Int} (hR : wsP lv sh bk E = R) :
  Calls Tryz.prog 95 #[.agg #[.int .i64 k, .int .i64 l, .bool sh, .bool bk, p], ev, .int .i64 (lv : Nat)] w fun e w' => (∃ u, e = .returned u /\ RdI (fun k => w.heap.size <= k) w' u R) /\ Below w.heap.size w w' := by
 have := ysj h hlen hE (W := wgt lv) (lv := (lv : Nat)) (fun x hx w => ybx hl rfl hx w) k l sh bk p (b2 := bk && decide (lv = 2)) (by
  have : ((lv : Int) == 2) = decide (lv = 2) := by
   rw [Bool.eq_iff_iff, beq_iff_eq, decide_eq_true_eq]; omega
  rw [this])
 rw [wsG_F] at this; rw [<- hR]
 have e : wsR (bk && decide (lv = 2)) (wsF lv sh E) = wsP lv sh bk E := by
  unfold wsR wsP
  by_cases h2 : lv = 2 <;> cases bk <;> simp [h2]
 rw [e] at this; exact this
end Go.Proofs.YteibnfeokgibmaaGreat
