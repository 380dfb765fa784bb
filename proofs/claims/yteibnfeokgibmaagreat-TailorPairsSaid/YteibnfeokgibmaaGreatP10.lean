/-
  PACKED for a claim.
-/
import Derived.Deep.QuietTactic
import Derived.BigQuiet
import Derived.Lib.Strings
import Derived.Test.YteibnfeokgibmaaGreatP08
set_option linter.unusedVariables false
set_option linter.unusedSimpArgs false
set_option maxRecDepth 100000
section
namespace Go.Proofs.YteibnfeokgibmaaGreat.T2
open Go.RowKit
theorem yjz {l : List UInt8} (k : Nat) (w : World) : Calls Tryz.prog 143 #[.int .u8 (gb l k)] w fun e w' => e = .returned (.bool (isT (gb l k))) /\ w = w' := ytg _ w (gb_lt _ _)
end Go.Proofs.YteibnfeokgibmaaGreat.T2
namespace Go.Proofs.YteibnfeokgibmaaGreat.T2
open Go.RowKit
def GotI (B : Nat) (w : World) (l : List Int) (e : Ending) (w' : World) : Prop := ∃ v, e = .returned v /\ OwnI B w' v l /\ Below B w w'
theorem yss {l : List UInt8} {k : Nat} {D : Nat × Nat} (hk : pos k l < l.length) (hD : dec (l.drop (pos k l)) = D) : (sgs l).take k ++ [(D.1 : Int)] = (sgs l).take (k + 1) := by
 have hkl := (ygb k l).1 hk
 have he : (sgs l)[k] = ((dec (l.drop (pos k l))).1 : Int) := by
  have := sgs_at k l hk
  rw [List.getElem_of_eq this, List.getElem_append_right (by rw [List.length_take]; omega)]
  simp [List.length_take, Nat.min_eq_left (Nat.le_of_lt hkl)]
 rw [List.take_succ_eq_append_getElem hkl, he, hD]
set_option maxRecDepth 200000 in
theorem yhm (s : ByteArray) (w : World) (hs : s.size <= 1000000) :
  Calls Tryz.prog 188 #[.string s] w (GotI w.heap.size w (sgs s.data.toList)) := by
 have PN := zH (fun k => yfe k s.data.toList)
 have PL := zH (fun k => ygb k s.data.toList)
 have PE := zH (fun k => pos_le k s.data.toList)
 have TA := zH (fun k D => @yss s.data.toList k D)
 have SL := zH (yeo s.data.toList); obtain ⟨B, hB⟩ : ∃ B, w.heap.size = B := ⟨_, rfl⟩; have HB := zH hB
 have CT := zH (ywh s w (by have : maxLen = 9223372036854775807 := by decide
                            omega))
 have hm : s.size <= 9223372036854775807 := by omega
 have hm' : s.size <= maxLen := by have : maxLen = 9223372036854775807 := by decide
                                   omega
 obtain ⟨N, hN⟩ : ∃ N, (sgs s.data.toList).length = N := ⟨_, rfl⟩; rw [hN] at PL SL CT; rw [hB]; simp only [ba_len] at PN PL PE SL TA; have HN := zH hN; clear hB hN
 go_enter Tryz.func188, Tryz.ntmps188
 go_wp2_with (first
  | (go_at_call 217; refine CT.out.mono ?_; rintro e w1 ⟨rfl, rfl⟩)
  | (refine makeI rfl _ _ rfl w B N rfl rfl (by have := SL.out; omega) (by have := HB.out; omega) ?_; intro v1 w1 ho1 hb1))
 have HO1 := zH ho1; have HW1 := zH hb1; clear ho1 hb1
 go_loopw [3, 4] (fun v i wr => ∃ (k p : Nat), i = .int .i64 p /\ Hid (pos k s.data.toList = p) /\ Hid (OwnI B wr v ((sgs s.data.toList).take k)) /\ Hid (Below B w wr)) (fun _ i _ => s.size - (intOf i).toNat)
 case atStart => exact ⟨0, 0, rfl, rfl, HO1.out, HW1.out⟩
 case round =>
  obtain ⟨k, p, rfl, hp, HO, HW⟩ := hrel; have h1 := PN.out k; have h3 := PE.out (k + 1); have h4 := PE.out k; have h5 := SL.out; have h7 := PL.out k; have hT := TA.out k; rw [hp.out] at h1 h4 h7 hT
  by_cases hlt : p < s.size
  ·have h1' := h1 hlt; obtain ⟨D, hD⟩ : ∃ D, dec (s.data.toList.drop p) = D := ⟨_, rfl⟩; have hpos := ycw (s.data.toList.drop p); have hT' := hT D hlt hD; rw [hD] at h1' hpos; have HD := zH hD; have H1 := zH h1'; have HTT := zH hT'; rw [h1'] at h3; have hkN := h7.1 hlt
   have HBB : Hid (B <= wr.heap.size) := by have := HW.out.size; rw [HB.out] at this; exact this
   have HSL : Hid (((sgs s.data.toList).take k).length + 1 <= 10000000) := by
    show _ <= _
    rw [List.length_take, HN.out]; omega
   clear h1 h1' h7 hD hp hT hT' hkN h5
   go_wp2_with (first
    | (go_at_call 144; refine (ygz hlt hm' HD.out _).mono ?_; rintro e w' ⟨rfl, rfl⟩)
    | (at_builtin; refine pushI rfl (.tmp 21) (.tmp 23) rfl _ B _ _ [(D.1 : Int)] 1 rfl HO.out rfl HBB.out HSL.out ?_; intro v2 w2 ho2 hb2))
   go_roundw
   case rel => exact ⟨k + 1, p + D.2, rfl, H1.out, by rw [<- HTT.out]; exact ho2, HW.out.trans hb2⟩
   case measure => simp [intOf]; omega
  ·have hT2 : (sgs s.data.toList).take k = sgs s.data.toList := List.take_of_length_le (by rw [HN.out]; have := mt h7.2 hlt; omega)
   have HTT := zH hT2; clear h1 h3 h4 h5 h7 hT hT2
   go_wp2
   go_ret
   exact ⟨_, rfl, by rw [<- HTT.out]; exact HO.out, HW.out⟩
end Go.Proofs.YteibnfeokgibmaaGreat.T2
namespace Go.Proofs.YteibnfeokgibmaaGreat.T2
open Go.RowKit
theorem yci (B : Nat) (w : World) (n : Nat) : Below B w (w.drewN n) := ⟨rfl, rfl, rfl, zN _, fun _ _ => rfl⟩
theorem iv_at {l : List Int} {j : Nat} (h : j < l.length) : (iv l)[j]? = some (.int .i64 l[j]) := by simp [iv, List.getElem?_eq_getElem h]
theorem Rd.at_ {B : Nat} {w : World} {A : Option Addr} {n c : Nat} {l : List Int} (h : Rd B w (.slice A n c) (iv l)) : n = l.length /\ ∀ j (hj : j < l.length), ∃ ad, A = some ad /\ ad.block < B /\ w.cell? (ad.add j) = some (.int .i64 l[j]) := by
 obtain ⟨A', c', e, h⟩ := h
 cases e
 rw [iv_len] at h |-; refine ⟨rfl, fun j hj => ?_⟩
 obtain ⟨ad, e, hb, hc⟩ := h (by omega)
 exact ⟨ad, e, hb, hc j _ (iv_at hj)⟩
theorem ywc {a b : List Int} (hn : a.length = b.length) {k : Nat} (hk : k < a.length) (h : a.take k = b.take k) (hx : a[k] = b[k]'(by omega)) : a.take (k + 1) = b.take (k + 1) := by
 rw [List.take_succ_eq_append_getElem hk, List.take_succ_eq_append_getElem (by omega), h, hx]
theorem yup {a b : List Int} {k : Nat} (hk : k < a.length) (hk' : k < b.length) (hx : a[k] ≠ b[k]) : (a == b) = false := by
 rw [beq_eq_false_iff_ne]; intro e; subst e; exact hx rfl
set_option maxRecDepth 200000 in
theorem yxv (u v : Value) (a b : List Int) (w : World) (ha : Rd w.heap.size w u (iv a)) (hb : Rd w.heap.size w v (iv b)) (hm : a.length <= 10000000) :
  Calls Tryz.prog 21 #[u, v] w fun e w' => e = .returned (.bool (a == b)) /\ Below w.heap.size w w' := by
 obtain ⟨A, c, rfl, ha⟩ := ha; obtain ⟨A', c', rfl, hb⟩ := hb; rw [iv_len] at ha hb; rw [iv_len, iv_len]
 by_cases hn : a.length = b.length
 ·have HA := zH ha; have HB := zH hb; have HN := zH hn
  have hq : ((a.length : Int) != (b.length : Int)) = false := by rw [bne_eq_false_iff_eq]; omega
  clear ha hb hn
  go_enter Tryz.func21, Tryz.ntmps21
  go_wp2
  go_loopw [5] (fun i wr => ∃ k : Nat, k <= a.length /\ i = .int .i64 k /\ Hid (a.take k = b.take k) /\ ∃ n, wr = w.drewN n) (fun i _ => a.length - (intOf i).toNat)
  case atStart => exact ⟨0, by omega, rfl, rfl, 0, rfl⟩
  case round =>
   obtain ⟨k, hk, rfl, HT, m, rfl⟩ := hrel
   by_cases hlt : k < a.length
   ·obtain ⟨ad, rfl, _, hc⟩ := HA.out (by omega)
    obtain ⟨ad', rfl, _, hc'⟩ := HB.out (by have := HN.out; omega)
    have c1 := hc k _ (iv_at hlt)
    have hlt' : k < b.length := by have := HN.out; omega
    have c2 := hc' k _ (iv_at hlt'); obtain ⟨x, hx⟩ : ∃ x, a[k] = x := ⟨_, rfl⟩; obtain ⟨y, hy⟩ : ∃ y, b[k] = y := ⟨_, rfl⟩; rw [hx] at c1; rw [hy] at c2
    have i1 : (k : Int) < (a.length : Int) := by omega
    have i2 : (k : Int) < (b.length : Int) := by omega
    have HX := zH hx; have HY := zH hy; clear hx hy hc hc'
    go_wp2
    go_quiet (fail)
    go_wp2
    ·have hne : (a == b) = false := yup hlt hlt' (by rw [HX.out, HY.out]; simp only [bne_iff_ne] at *; assumption)
     rw [hne]
     go_ret
     exact ⟨rfl, (yci _ _ m).trans (yci _ _ nq)⟩
    ·refine ⟨⟨k + 1, by omega, rfl, ?_, _, rfl⟩, by simp [intOf]; omega⟩
     exact ywc HN.out hlt HT.out (by rw [HX.out, HY.out]; simp only [bne_eq_false_iff_eq] at *; assumption)
   ·go_wp2
    go_ret
    have hkn : k = a.length := by omega
    have hr : a = b := by
     have := HT.out
     rw [List.take_of_length_le (by omega), List.take_of_length_le (by have := HN.out; omega)] at this
     exact this
    rw [hr]; exact ⟨by simp, yci _ _ _⟩
 ·have hq : ((a.length : Int) != (b.length : Int)) = true := by rw [bne_iff_ne]; omega
  have hr : (a == b) = false := by rw [beq_eq_false_iff_ne]; intro e; exact hn (by rw [e])
  rw [hr]; clear ha hb hn
  go_enter Tryz.func21, Tryz.ntmps21
  go_wp2
  go_ret
  exact ⟨rfl, zR _ _⟩
set_option maxRecDepth 200000 in
theorem ywb (u v : Value) (a b : List Int) (w : World) (ha : Rd w.heap.size w u (iv a)) (hb : Rd w.heap.size w v (iv b)) (hm : a.length <= 10000000) :
  Calls Tryz.prog 231 #[u, v] w fun e w' => e = .returned (.bool (a == b)) /\ Below w.heap.size w w' := by
 obtain ⟨A, c, rfl, ha⟩ := ha; obtain ⟨A', c', rfl, hb⟩ := hb; rw [iv_len] at ha hb; rw [iv_len, iv_len]
 by_cases hn : a.length = b.length
 ·have HA := zH ha; have HB := zH hb; have HN := zH hn
  have hq : ((a.length : Int) != (b.length : Int)) = false := by rw [bne_eq_false_iff_eq]; omega
  clear ha hb hn
  go_enter Tryz.func231, Tryz.ntmps231
  go_wp2
  go_loopw [13] (fun i wr => ∃ k : Nat, k <= a.length /\ i = .int .i64 k /\ Hid (a.take k = b.take k) /\ ∃ n, wr = w.drewN n) (fun i _ => a.length - (intOf i).toNat)
  case atStart => exact ⟨0, by omega, rfl, rfl, 0, rfl⟩
  case round =>
   obtain ⟨k, hk, rfl, HT, m, rfl⟩ := hrel
   by_cases hlt : k < a.length
   ·obtain ⟨ad, rfl, _, hc⟩ := HA.out (by omega)
    obtain ⟨ad', rfl, _, hc'⟩ := HB.out (by have := HN.out; omega)
    have c1 := hc k _ (iv_at hlt)
    have hlt' : k < b.length := by have := HN.out; omega
    have c2 := hc' k _ (iv_at hlt'); obtain ⟨x, hx⟩ : ∃ x, a[k] = x := ⟨_, rfl⟩; obtain ⟨y, hy⟩ : ∃ y, b[k] = y := ⟨_, rfl⟩; rw [hx] at c1; rw [hy] at c2
    have i1 : (k : Int) < (a.length : Int) := by omega
    have i2 : (k : Int) < (b.length : Int) := by omega
    have HX := zH hx; have HY := zH hy; clear hx hy hc hc'
    go_wp2
    go_quiet (fail)
    go_wp2
    ·have hne : (a == b) = false := yup hlt hlt' (by rw [HX.out, HY.out]; simp only [bne_iff_ne] at *; assumption)
     rw [hne]
     go_ret
     exact ⟨rfl, (yci _ _ m).trans (yci _ _ nq)⟩
    ·refine ⟨⟨k + 1, by omega, rfl, ?_, _, rfl⟩, by simp [intOf]; omega⟩
     exact ywc HN.out hlt HT.out (by rw [HX.out, HY.out]; simp only [bne_eq_false_iff_eq] at *; assumption)
   ·go_wp2
    go_ret
    have hkn : k = a.length := by omega
    have hr : a = b := by
     have := HT.out
     rw [List.take_of_length_le (by omega), List.take_of_length_le (by have := HN.out; omega)] at this
     exact this
    rw [hr]; exact ⟨by simp, yci _ _ _⟩
 ·have hq : ((a.length : Int) != (b.length : Int)) = true := by rw [bne_iff_ne]; omega
  have hr : (a == b) = false := by rw [beq_eq_false_iff_ne]; intro e; exact hn (by rw [e])
  rw [hr]; clear ha hb hn
  go_enter Tryz.func231, Tryz.ntmps231
  go_wp2
  go_ret
  exact ⟨rfl, zR _ _⟩
end Go.Proofs.YteibnfeokgibmaaGreat.T2
end
section
namespace Go.Proofs.YteibnfeokgibmaaGreat.T2
open Go.RowKit
def GotB (B : Nat) (w : World) (l : List UInt8) (e : Ending) (w' : World) : Prop := ∃ v, e = .returned v /\ OwnB B w' v l /\ Below B w w'
theorem pushC {ops : Array Oper} {rest : List Oper} {o : Oper} {a : Act} {Q : Exit -> Act -> World -> Prop} (hgd : o.guard = none) (s x : Operand)
  (ho : o.op = .call { callee := .builtin .append, args := #[s, x], argTypes := #[32, 32] })
  (w0 : World) (B : Nat) (v : Value) (l m : List UInt8) (n C : Nat) (cs : Array Value) (hcs : Hid (cs = (bv m).toArray /\ n = m.length)) (hs : a.eval s = v) (hown : OwnB B w0 v l) (hx : a.eval x = .slice (some ⟨w0.heap.size, 0, none⟩) n C)
  (hB : B <= w0.heap.size) (hl : l.length + m.length <= 10000000)
  (h : ∀ v' w', OwnB B w' v' (l ++ m) -> Below B w0 w' -> wpList Tryz.prog ops Q rest (a.put o.dst v') w') : wpList Tryz.prog ops Q (o :: rest) a (w0.alloc (.cells cs 5)) := by
 obtain ⟨rfl, rfl⟩ := hcs.out; exact pushB hgd s x ho w0 B v l m C hs hown hx hB hl h
theorem yjx {c n : Int} (h : Hid (szP c = n)) (w : World) : Calls Tryz.prog 186 #[.int .i64 c] w fun e w' => e = .returned (.int .i64 n) /\ w = w' := by
 rw [<- h.out]; exact yoj c w
theorem yff {c : Int} {b : Bool} (h : Hid (isPt c = b)) (w : World) : Calls Tryz.prog 185 #[.int .i64 c] w fun e w' => e = .returned (.bool b) /\ w = w' := by
 rw [<- h.out]; exact yht c w
theorem app_w1 (c : Int) (v : Value) (l m : List UInt8) (w : World) (B : Nat) (hp : Hid (isPt c = false)) (ho : Hid (OwnB B w v l)) (hB : B <= w.heap.size) (hl : l.length + m.length <= 10000000)
  (hc : Hid (#[Value.int .u8 (c % 256)] = (bv m).toArray /\ 1 = m.length)) : Calls Tryz.prog 145 #[v, .int .i64 c] w (GotB B w (l ++ m)) := by
 go_enter Tryz.func145, Tryz.ntmps145
 go_wp2_with (first
  | (go_at_call 185; refine (yff hp _).mono ?_; rintro e w' ⟨rfl, rfl⟩)
  | (at_builtin; refine pushC rfl (.tmp 8) (.tmp 11) rfl _ B _ _ m 1 1 _ hc rfl ho.out rfl hB hl ?_; intro v2 w2 ho2 hb2))
 go_ret
 exact ⟨_, rfl, ho2, hb2⟩
theorem app_w2 (c : Int) (v : Value) (l m : List UInt8) (w : World) (B : Nat) (hp : Hid (isPt c = true)) (hz : Hid (szP c = 1)) (h0 : 0 <= c) (h1 : c < 128) (ho : Hid (OwnB B w v l)) (hB : B <= w.heap.size) (hl : l.length + m.length <= 10000000)
  (hc : Hid (#[Value.int .u8 c] = (bv m).toArray /\ 1 = m.length)) : Calls Tryz.prog 145 #[v, .int .i64 c] w (GotB B w (l ++ m)) := by
 go_enter Tryz.func145, Tryz.ntmps145
 go_wp2_with (first
  | (go_at_call 185; refine (yff hp _).mono ?_; rintro e w' ⟨rfl, rfl⟩)
  | (go_at_call 186; refine (yjx hz _).mono ?_; rintro e w' ⟨rfl, rfl⟩)
  | (at_builtin; refine pushC rfl (.tmp 17) (.tmp 20) rfl _ B _ _ m 1 1 _ hc rfl ho.out rfl hB hl ?_; intro v2 w2 ho2 hb2))
 go_ret
 exact ⟨_, rfl, ho2, hb2⟩
theorem app_w3 (c : Int) (v : Value) (l m : List UInt8) (w : World) (B : Nat) (hp : Hid (isPt c = true)) (hz : Hid (szP c = 2)) (h0 : 128 <= c) (h1 : c < 2048) (ho : Hid (OwnB B w v l)) (hB : B <= w.heap.size) (hl : l.length + m.length <= 10000000)
  (hc : Hid (#[Value.int .u8 (192 + c / 64), .int .u8 (128 + c % 64)] = (bv m).toArray /\ 2 = m.length)) : Calls Tryz.prog 145 #[v, .int .i64 c] w (GotB B w (l ++ m)) := by
 have e1 := or192 (b := c / 64) (by omega) (by omega)
 go_enter Tryz.func145, Tryz.ntmps145
 go_wp2_with (first
  | (go_at_call 185; refine (yff hp _).mono ?_; rintro e w' ⟨rfl, rfl⟩)
  | (go_at_call 186; refine (yjx hz _).mono ?_; rintro e w' ⟨rfl, rfl⟩)
  | (go_at_call 187; refine (yjv _ _).mono ?_; rintro e w' ⟨rfl, rfl⟩)
  | (at_builtin; refine pushC rfl (.tmp 24) (.tmp 31) rfl _ B _ _ m 2 2 _ hc rfl ho.out rfl hB hl ?_; intro v2 w2 ho2 hb2))
 go_ret
 exact ⟨_, rfl, ho2, hb2⟩
theorem app_w4 (c : Int) (v : Value) (l m : List UInt8) (w : World) (B : Nat) (hp : Hid (isPt c = true)) (hz : Hid (szP c = 3)) (h0 : 2048 <= c) (h1 : c < 65536) (ho : Hid (OwnB B w v l)) (hB : B <= w.heap.size) (hl : l.length + m.length <= 10000000)
  (hc : Hid (#[Value.int .u8 (224 + c / 4096), .int .u8 (128 + c / 64 % 64), .int .u8 (128 + c % 64)] = (bv m).toArray /\ 3 = m.length)) : Calls Tryz.prog 145 #[v, .int .i64 c] w (GotB B w (l ++ m)) := by
 have e1 := or224 (b := c / 4096) (by omega) (by omega)
 go_enter Tryz.func145, Tryz.ntmps145
 go_wp2_with (first
  | (go_at_call 185; refine (yff hp _).mono ?_; rintro e w' ⟨rfl, rfl⟩)
  | (go_at_call 186; refine (yjx hz _).mono ?_; rintro e w' ⟨rfl, rfl⟩)
  | (go_at_call 187; refine (yjv _ _).mono ?_; rintro e w' ⟨rfl, rfl⟩)
  | (at_builtin; refine pushC rfl (.tmp 35) (.tmp 45) rfl _ B _ _ m 3 3 _ hc rfl ho.out rfl hB hl ?_; intro v2 w2 ho2 hb2))
 go_ret
 exact ⟨_, rfl, ho2, hb2⟩
theorem app_w5 (c : Int) (v : Value) (l m : List UInt8) (w : World) (B : Nat) (hp : Hid (isPt c = true)) (hz : Hid (szP c = 4)) (h0 : 65536 <= c) (h1 : c <= 1114111) (ho : Hid (OwnB B w v l)) (hB : B <= w.heap.size) (hl : l.length + m.length <= 10000000)
  (hc : Hid (#[Value.int .u8 (240 + c / 262144), .int .u8 (128 + c / 4096 % 64), .int .u8 (128 + c / 64 % 64), .int .u8 (128 + c % 64)] = (bv m).toArray /\ 4 = m.length)) : Calls Tryz.prog 145 #[v, .int .i64 c] w (GotB B w (l ++ m)) := by
 have e1 := or240 (b := c / 262144) (by omega) (by omega)
 go_enter Tryz.func145, Tryz.ntmps145
 go_wp2_with (first
  | (go_at_call 185; refine (yff hp _).mono ?_; rintro e w' ⟨rfl, rfl⟩)
  | (go_at_call 186; refine (yjx hz _).mono ?_; rintro e w' ⟨rfl, rfl⟩)
  | (go_at_call 187; refine (yjv _ _).mono ?_; rintro e w' ⟨rfl, rfl⟩)
  | (at_builtin; refine pushC rfl (.tmp 47) (.tmp 60) rfl _ B _ _ m 4 4 _ hc rfl ho.out rfl hB hl ?_; intro v2 w2 ho2 hb2))
 go_ret
 exact ⟨_, rfl, ho2, hb2⟩
theorem int_u8 {a b : Int} (h : a = b) : Value.int .u8 a = .int .u8 b := by rw [h]
theorem ywz (c : Int) (v : Value) (l : List UInt8) (w : World) (B : Nat) (hs : isSg c = true) (ho : OwnB B w v l) (hB : B <= w.heap.size) (hl : l.length <= 9000000) :
  Calls Tryz.prog 145 #[v, .int .i64 c] w (GotB B w (l ++ one c.toNat)) := by
 have hlen := yjc c.toNat
 by_cases hp : isPt c = true
 ·have hb := yav.1 hp; obtain ⟨n, rfl⟩ := Int.eq_ofNat_of_zero_le hb.1; have hz := yhk (n : Int); simp only [Int.toNat_natCast] at hlen |-
  by_cases h1 : n < 128
  ·refine app_w2 n v l _ w B hp (show _ = _ by omega) hb.1 (by omega) ho hB (by omega) ?_
   rw [one_1 h1]; exact ⟨by simp only [bv, List.map_cons, List.map_nil]; rw [yak (by omega)], rfl⟩
  by_cases h2 : n < 2048
  ·refine app_w3 n v l _ w B hp (show _ = _ by omega) (by omega) (by omega) ho hB (by omega) ?_
   rw [one_2 h1 h2]; exact ⟨by simp only [bv, List.map_cons, List.map_nil]; rw [yak (by omega), yak (by omega)]; rfl, rfl⟩
  by_cases h3 : n < 65536
  ·refine app_w4 n v l _ w B hp (show _ = _ by omega) (by omega) (by omega) ho hB (by omega) ?_
   rw [one_3 h2 h3]; exact ⟨by simp only [bv, List.map_cons, List.map_nil]; rw [yak (by omega), yak (by omega), yak (by omega)]; rfl, rfl⟩
  ·refine app_w5 n v l _ w B hp (show _ = _ by omega) (by omega) (by omega) ho hB (by omega) ?_
   rw [one_4 h3 (by omega)]
   exact ⟨by simp only [bv, List.map_cons, List.map_nil]; rw [yak (by omega), yak (by omega), yak (by omega), yak (by omega)]; rfl, rfl⟩
 ·have hb : 1114240 <= c /\ c <= 1114367 := by simpa [isSg, hp] using hs
  obtain ⟨n, rfl⟩ := Int.eq_ofNat_of_zero_le (show 0 <= c by omega)
  simp only [Int.toNat_natCast] at hlen |-; refine app_w1 n v l _ w B (zH (by simpa using hp)) ho hB (by omega) ?_
  rw [yhz (by omega)]
  exact ⟨by simp only [bv, List.map_cons, List.map_nil]; rw [yak (by omega), int_u8 (show (n : Int) % 256 = ((n - 1114112 : Nat) : Int) by omega)], rfl⟩
end Go.Proofs.YteibnfeokgibmaaGreat.T2
namespace Go.Proofs.YteibnfeokgibmaaGreat.T2
open Go.RowKit
theorem fold_sg {c : Int} (h : isSg c = true) : isSg (fold c) = true := by
 by_cases hp : isPt c = true
 ·simp [isSg, fold_pt hp]
 ·have hb : 1114240 <= c /\ c <= 1114367 := by simpa [isSg, hp] using h
  rw [fold_hi (by omega)]; exact h
theorem ne_drop {l : List UInt8} {p : Nat} (h : p < l.length) : l.drop p ≠ [] := by
 intro e; have := congrArg List.length e; rw [List.length_drop, List.length_nil] at this; omega
theorem ywg {l : List UInt8} {p : Nat} {D : Nat × Nat} (h : p < l.length) (hD : dec (l.drop p) = D) : isSg (D.1 : Int) = true := by
 rw [<- hD]; exact dec_sg (ne_drop h)
theorem ft_at {l : List UInt8} {k : Nat} {D : Nat × Nat} (hk : pos k l < l.length) (hD : dec (l.drop (pos k l)) = D) :
  joinS (((sgs l).take k).map fold) ++ one (fold (D.1 : Int)).toNat = joinS (((sgs l).take (k + 1)).map fold) := by
 rw [<- yss hk hD, List.map_append, ylw]; simp [joinS]
theorem ynr (l : List UInt8) (k : Nat) : (joinS (((sgs l).take k).map fold)).length <= 4 * l.length := by
 have h1 := yid (((sgs l).take k).map fold); have h2 := yeo l; rw [List.length_map, List.length_take] at h1; omega
theorem ft_all {l : List UInt8} {k : Nat} (hk : ¬ pos k l < l.length) : joinS (((sgs l).take k).map fold) = ft l := by
 rw [List.take_of_length_le (by have := mt (ygb k l).2 hk; omega)]; rfl
set_option maxRecDepth 200000 in
theorem ylx (s : ByteArray) (w : World) (hs : s.size <= 1000000) :
  Calls Tryz.prog 94 #[.string s] w fun e w' => e = .returned (.string ⟨(ft s.data.toList).toArray⟩) /\ Below w.heap.size w w' := by
 have PN := zH (fun k => yfe k s.data.toList)
 have PE := zH (fun k => pos_le k s.data.toList)
 have FA := zH (fun k D => @ft_at s.data.toList k D)
 have FL := zH (ynr s.data.toList); have FE := zH (fun k => @ft_all s.data.toList k)
 have DS := zH (fun p D => @ywg s.data.toList p D)
 obtain ⟨B, hB⟩ : ∃ B, w.heap.size = B := ⟨_, rfl⟩; have HB := zH hB
 have hm : s.size <= 9223372036854775807 := by omega
 have hm' : s.size <= maxLen := by have : maxLen = 9223372036854775807 := by decide
                                   omega
 obtain ⟨R, hR⟩ : ∃ R, ft s.data.toList = R := ⟨_, rfl⟩; rw [hB, hR]; rw [hR] at FE; simp only [ba_len] at PN PE FA FL FE DS; clear hB hR
 go_enter Tryz.func94, Tryz.ntmps94
 go_wp2_with (first
  | (refine makeB rfl _ _ rfl w B s.size rfl rfl (by omega) (by have := HB.out; omega) ?_; intro v1 w1 ho1 hb1))
 have HO1 := zH ho1; have HW1 := zH hb1; clear ho1 hb1
 go_loopw [3, 4] (fun v i wr => ∃ (k p : Nat), i = .int .i64 p /\ Hid (pos k s.data.toList = p) /\ Hid (OwnB B wr v (joinS (((sgs s.data.toList).take k).map fold))) /\ Hid (Below B w wr)) (fun _ i _ => s.size - (intOf i).toNat)
 case atStart => exact ⟨0, 0, rfl, rfl, HO1.out, HW1.out⟩
 case round =>
  obtain ⟨k, p, rfl, hp, HO, HW⟩ := hrel; have h1 := PN.out k; have h3 := PE.out (k + 1); have h4 := PE.out k; have hT := FA.out k; have hE := FE.out k; rw [hp.out] at h1 h4 hT hE
  by_cases hlt : p < s.size
  ·have h1' := h1 hlt; obtain ⟨D, hD⟩ : ∃ D, dec (s.data.toList.drop p) = D := ⟨_, rfl⟩; have hpos := ycw (s.data.toList.drop p); have hT' := hT D hlt hD; have hsg := DS.out p D hlt hD; rw [hD] at h1' hpos; have HD := zH hD; have H1 := zH h1'; have HTT := zH hT'; have HSG := zH (fold_sg hsg); rw [h1'] at h3
   have HBB : Hid (B <= wr.heap.size) := by have := HW.out.size; rw [HB.out] at this; exact this
   have HSL : Hid ((joinS (((sgs s.data.toList).take k).map fold)).length <= 9000000) := by
    have := FL.out k
    show _ <= _
    omega
   clear h1 h1' hD hp hT hT' hsg hE
   go_wp2_with (first
    | (go_at_call 144; refine (ygz hlt hm' HD.out _).mono ?_; rintro e w' ⟨rfl, rfl⟩)
    | (go_at_call 146; refine (zaj _ _).mono ?_; rintro e w' ⟨rfl, rfl⟩)
    | (go_at_call 145; refine (ywz _ _ _ _ B HSG.out HO.out HBB.out HSL.out).mono ?_; rintro e w2 ⟨v2, rfl, ho2, hb2⟩))
   go_roundw
   case rel => exact ⟨k + 1, p + D.2, rfl, H1.out, by rw [<- HTT.out]; exact ho2, HW.out.trans hb2⟩
   case measure => simp [intOf]; omega
  ·have hF := hE hlt; have ho := HO.out; rw [hF] at ho; have k1 := str_of ho.rd; clear h1 h3 h4 hT hE hF ho
   go_wp2
   go_ret
   exact ⟨rfl, HW.out⟩
end Go.Proofs.YteibnfeokgibmaaGreat.T2
namespace Go.Proofs.YteibnfeokgibmaaGreat.T2
open Go.RowKit
theorem join_at {l : List Int} {k : Nat} {c : Int} (hk : k < l.length) (hc : l[k] = c) : joinS (l.take k) ++ one c.toNat = joinS (l.take (k + 1)) := by
 rw [List.take_succ_eq_append_getElem hk, ylw, hc]; simp [joinS]
theorem ykr (l : List Int) (k : Nat) : (joinS (l.take k)).length <= 4 * l.length := by
 have h1 := yid (l.take k); rw [List.length_take] at h1; omega
end Go.Proofs.YteibnfeokgibmaaGreat.T2
namespace Go.Proofs.YteibnfeokgibmaaGreat.T2
open Go.RowKit
theorem OwnI.shape {B : Nat} {w : World} {v : Value} {l : List Int} (h : OwnI B w v l) :
  ∃ A c, v = .slice A l.length c /\ (0 < l.length -> ∃ ad : Addr, A = some ad /\ ad.block < w.heap.size /\ ∀ j u, (iv l)[j]? = some u -> w.cell? (ad.add j) = some u) := by
 obtain ⟨A, c, e, hr⟩ := h.rd; rw [iv_len] at e hr; exact ⟨A, c, e, hr⟩
end Go.Proofs.YteibnfeokgibmaaGreat.T2
namespace Go.Proofs.YteibnfeokgibmaaGreat.T2
open Go.RowKit
theorem byt_arg {l : List Int} {k : Nat} (hk : k < l.length) (h : isSg l[k] = false) : bytL l = [] /\ bytE l = 1 := by
 have : l.all isSg = false := by
  rw [List.all_eq_false]; exact ⟨_, List.getElem_mem hk, by simp [h]⟩
 unfold bytL bytE; rw [this]; exact ⟨rfl, rfl⟩
theorem zav {l : List Int} (ha : l.all isSg = true) (h : (sgs (joinS l) == l) = false) : bytL l = [] /\ bytE l = 3 := by
 have : ¬ sgs (joinS l) = l := by simpa using h
 unfold bytL bytE; rw [ha, if_neg this, if_neg this]; exact ⟨rfl, rfl⟩
theorem zau {l : List Int} (ha : l.all isSg = true) (h : (sgs (joinS l) == l) = true) : bytL l = joinS l /\ bytE l = 0 := by
 have : sgs (joinS l) = l := by simpa using h
 unfold bytL bytE; rw [ha, if_pos this, if_pos this]; exact ⟨rfl, rfl⟩
theorem all_step {l : List Int} {k : Nat} (hk : k < l.length) (ha : (l.take k).all isSg = true) (h : isSg l[k] = true) : (l.take (k + 1)).all isSg = true := by
 rw [List.take_succ_eq_append_getElem hk, List.all_append, ha, List.all_cons, h]; rfl
theorem yen {c : Int} {b : Bool} (h : Hid (isSg c = b)) (w : World) : Calls Tryz.prog 230 #[.int .i64 c] w fun e w' => e = .returned (.bool b) /\ w = w' := by
 rw [<- h.out]; exact yfa c w
theorem Rd.mk {B : Nat} {w : World} {A : Option Addr} {n c : Nat} {xs : List Value} (hn : n = xs.length) (h : 0 < xs.length -> ∃ ad : Addr, A = some ad /\ ad.block < B /\ ∀ j u, xs[j]? = some u -> w.cell? (ad.add j) = some u) : Rd B w (.slice A n c) xs := ⟨A, c, by rw [hn], h⟩
theorem ypj {L : List UInt8} {t : ByteArray} {l : List Int} {b : Bool} (h : (sgs L == l) = b) (ht : t.data.toList = L) (u v : Value) (w : World) {B : Nat} (hu : Rd w.heap.size w u (iv (sgs t.data.toList))) (hv : Rd B w v (iv l)) (hB : B <= w.heap.size) (hm : L.length <= 10000000) :
  Calls Tryz.prog 231 #[u, v] w fun e w' => e = .returned (.bool b) /\ Below w.heap.size w w' := by
 rw [ht] at hu; rw [<- h]; exact ywb u v _ l w hu (hv.more hB) (Nat.le_trans (yeo L) hm)
set_option maxRecDepth 200000 in
theorem ywp (v : Value) (l : List Int) (w : World) (hr : Rd w.heap.size w v (iv l)) (hm : l.length <= 200000) :
  Calls Tryz.prog 225 #[v] w fun e w' => e = .returned (.tuple #[.string ⟨(bytL l).toArray⟩, .int .i64 (bytE l)]) /\ Below w.heap.size w w' := by
 have HV := zH hr; obtain ⟨A, c, rfl, hr⟩ := hr; rw [iv_len] at hr HV |-; have HR := zH hr; have AR := zH (fun k => @byt_arg l k)
 have FO := zH (@zav l); have GO := zH (@zau l); have ST := zH (fun k => @all_step l k)
 have JL := zH (yid l); have JT := zH (ykr l); have JA := zH (fun k c => @join_at l k c)
 obtain ⟨S, hS⟩ : ∃ S, bytL l = S := ⟨_, rfl⟩; obtain ⟨E, hE⟩ : ∃ E, bytE l = E := ⟨_, rfl⟩; rw [hS, hE] at AR FO GO |-; clear hr hS hE
 go_enter Tryz.func225, Tryz.ntmps225
 go_wp2
 go_loopw [4, 10] (fun u i wr => ∃ (k : Nat), k <= l.length /\ i = .int .i64 k /\ Hid ((l.take k).all isSg = true) /\ Hid (OwnB w.heap.size wr u (joinS (l.take k))) /\ Hid (Below w.heap.size w wr)) (fun _ i _ => l.length - (intOf i).toNat)
 case atStart => exact ⟨0, by omega, rfl, rfl, OwnB.nil _ _, zR _ _⟩
 case round =>
  obtain ⟨k, hk, rfl, HA, HO, HW⟩ := hrel
  by_cases hlt : k < l.length
  ·obtain ⟨ad, rfl, hab, hc⟩ := HR.out (by omega)
   have c1 := hc k _ (iv_at hlt); have hst := ST.out k hlt HA.out; have har := AR.out k hlt; have hja := JA.out k _ hlt rfl; obtain ⟨x, hx⟩ : ∃ x, l[k] = x := ⟨_, rfl⟩; rw [hx] at c1 hst har hja; have c2 := (HW.out.cell (p := ad.add k) (by rw [yfs]; exact hab)).trans c1
   obtain ⟨b, hb⟩ : ∃ b, isSg x = b := ⟨_, rfl⟩; have HB := zH hb; rw [hb] at hst har; have HST := zH hst; have HAR := zH har; have HJA := zH hja
   have HJT : Hid ((joinS (l.take k)).length <= 9000000) := by have := JT.out k; show _ <= _; omega
   have i1 : (k : Int) < (l.length : Int) := by omega
   clear hc hx c1 hst har hb hja
   cases b
   ·have HAR' := zH (HAR.out rfl)
    go_wp2_with (go_at_call 230; refine (yen HB _).mono ?_; rintro e w' ⟨rfl, rfl⟩)
    go_ret2
    exact ⟨by rw [HAR'.out.1, HAR'.out.2]; rfl, HW.out⟩
   ·have HST' := zH (HST.out rfl)
    go_wp2_with (first
     | (go_at_call 230; refine (yen HB _).mono ?_; rintro e w' ⟨rfl, rfl⟩)
     | (go_at_call 145; refine (ywz _ _ _ _ _ HB.out HO.out HW.out.size HJT.out).mono ?_; rintro e w2 ⟨v2, rfl, ho2, hb2⟩))
    go_roundw
    case rel => exact ⟨k + 1, by omega, by go_num, HST'.out, by rw [<- HJA.out]; exact ho2, HW.out.trans hb2⟩
    case measure => simp [intOf]; omega
  ·obtain rfl : k = l.length := by omega
   have ha := HA.out; have ho := HO.out; rw [List.take_length] at ha ho; have HA' := zH ha; have hrd := HV.out.below HW.out; have k1 := str_of ho.rd; obtain ⟨t, ht⟩ : ∃ t : ByteArray, (⟨(joinS l).toArray⟩ : ByteArray) = t := ⟨_, rfl⟩
   have htl : t.data.toList = joinS l := by rw [<- ht]
   have hts : t.size <= 1000000 := by rw [<- ba_len, htl]; have := JL.out; omega
   rw [ht] at k1; have FO' := FO.out ha; have GO' := GO.out ha; obtain ⟨b, hb⟩ : ∃ b, (sgs (joinS l) == l) = b := ⟨_, rfl⟩; rw [hb] at FO' GO'; have HB := zH hb; have HF := zH FO'; have HG := zH GO'; have HT := zH ht; have HTL := zH htl; have HRD := zH hrd; have CS := zH (fun w => yhm t w hts)
   clear ha FO' GO' hb ht htl hrd ho
   have HJ : Hid ((joinS l).length <= 10000000) := by have := JL.out; show _ <= _; omega
   cases b
   ·have HF' := zH (HF.out rfl)
    go_wp2_with (first
     | (go_at_call 188; refine (CS.out _).mono ?_; rintro e w2 ⟨v2, rfl, ho2, hb2⟩)
     | (go_at_call 231; refine (ypj HB.out HTL.out _ _ _ ho2.rd (HRD.out.below (hb2.mono HW.out.size)) (Nat.le_trans HW.out.size hb2.size) HJ.out).mono ?_; rintro e w3 ⟨rfl, hb3⟩))
    go_ret2
    exact ⟨by rw [HF'.out.1, HF'.out.2]; rfl, HW.out.trans ((hb2.trans (hb3.mono hb2.size)).mono HW.out.size)⟩
   ·have HG' := zH (HG.out rfl)
    go_wp2_with (first
     | (go_at_call 188; refine (CS.out _).mono ?_; rintro e w2 ⟨v2, rfl, ho2, hb2⟩)
     | (go_at_call 231; refine (ypj HB.out HTL.out _ _ _ ho2.rd (HRD.out.below (hb2.mono HW.out.size)) (Nat.le_trans HW.out.size hb2.size) HJ.out).mono ?_; rintro e w3 ⟨rfl, hb3⟩))
    go_ret2
    exact ⟨by rw [HG'.out.1, HG'.out.2, HT.out]; rfl, HW.out.trans ((hb2.trans (hb3.mono hb2.size)).mono HW.out.size)⟩
end Go.Proofs.YteibnfeokgibmaaGreat.T2
end
namespace Go.Proofs.YteibnfeokgibmaaGreat.T2
open Go.RowKit
set_option maxRecDepth 200000 in
theorem yyc (s : ByteArray) (w : World) (h0 : 0 < s.size) (hs : s.size <= maxLen) (hx : gb s.data.toList 0 < 224 \/ 244 < gb s.data.toList 0) :
  Calls Tryz.prog 93 #[.string s] w fun e w' => e = .returned (.tuple #[.int .i64 (dec s.data.toList).1, .int .i64 (dec s.data.toList).2]) /\ ∃ m, w' = w.drewN m := by
 obtain ⟨l, hl⟩ : ∃ l, s.data.toList = l := ⟨_, rfl⟩
 have HG : ∀ (k : Nat) (h : k < s.size), (s[k]'h).toNat = gb l k := fun k h => by rw [<- hl]; exact (gb_ba s h).symm
 have hll : l.length = s.size := by rw [<- hl, ba_len]
 rw [hl] at hx |-; clear hl
 have hl : 0 < l.length := by omega
 have b0 := gb_lt l 0; have b1 := gb_lt l 1; have DC := zH (ycd (l := l) (by intro e; subst e; simp at hl))
 obtain ⟨D, hD⟩ : ∃ D, dec l = D := ⟨_, rfl⟩; rw [hD] at DC |-; clear hD hl
 go_enter Tryz.func93, Tryz.ntmps93
 go_wp2_with (go_at_call 143; refine (yjz _ _).mono ?_; rintro e w' ⟨rfl, rfl⟩)
 all_goals go_ret2
 all_goals (have dc := DC.out; clear DC)
 all_goals refine ⟨?_, ⟨0, rfl⟩⟩
 all_goals (simp only [ybl, ybo, ybu, Bool.eq_false_iff, ne_eq, yif, v2_eq] at *)
 all_goals (rcases dc with ⟨h, e⟩ | ⟨h, e⟩ | ⟨h, e⟩ | ⟨h, e⟩ | ⟨h, g2, g3, g4, e⟩ <;> rw [e] <;> clear e <;> first | omega | (refine two_of ?_ ?_ <;> simp only [wrap64] <;> omega))
set_option maxRecDepth 200000 in
theorem yyb (s : ByteArray) (w : World) (h0 : 0 < s.size) (hs : s.size <= maxLen) (hx : 224 <= gb s.data.toList 0 /\ gb s.data.toList 0 <= 239) :
  Calls Tryz.prog 93 #[.string s] w fun e w' => e = .returned (.tuple #[.int .i64 (dec s.data.toList).1, .int .i64 (dec s.data.toList).2]) /\ ∃ m, w' = w.drewN m := by
 obtain ⟨l, hl⟩ : ∃ l, s.data.toList = l := ⟨_, rfl⟩
 have HG : ∀ (k : Nat) (h : k < s.size), (s[k]'h).toNat = gb l k := fun k h => by rw [<- hl]; exact (gb_ba s h).symm
 have hll : l.length = s.size := by rw [<- hl, ba_len]
 rw [hl] at hx |-; clear hl
 have hl : 0 < l.length := by omega
 have b0 := gb_lt l 0; have b1 := gb_lt l 1; have b2 := gb_lt l 2; have DC := zH (ycd (l := l) (by intro e; subst e; simp at hl))
 obtain ⟨D, hD⟩ : ∃ D, dec l = D := ⟨_, rfl⟩; rw [hD] at DC |-; clear hD hl
 go_enter Tryz.func93, Tryz.ntmps93
 go_wp2_with (go_at_call 143; refine (yjz _ _).mono ?_; rintro e w' ⟨rfl, rfl⟩)
 all_goals first
  | (go_ret2; (have dc := DC.out; clear DC); refine ⟨?_, ⟨0, rfl⟩⟩
     (simp only [ybl, ybo, ybu, Bool.eq_false_iff, ne_eq, yif] at *)
     (rcases dc with ⟨h, e⟩ | ⟨h, e⟩ | ⟨h, e⟩ | ⟨h, e⟩ | ⟨h, g2, g3, g4, e⟩ <;> rw [e] <;> clear e <;> first | omega | (refine two_of ?_ ?_ <;> simp only [wrap64] <;> omega)))
  | skip
 go_quiet (fail)
 go_wp2
 all_goals go_ret2
 all_goals (have dc := DC.out; clear DC)
 all_goals refine ⟨?_, ⟨_, rfl⟩⟩
 all_goals (simp only [ybl, ybo, ybu, Bool.eq_false_iff, ne_eq, yif, v3_eq, v4_eq] at *)
 all_goals (rcases dc with ⟨h, e⟩ | ⟨h, e⟩ | ⟨h, e⟩ | ⟨h, e⟩ | ⟨h, g2, g3, g4, e⟩ <;> rw [e] <;> clear e <;> first | omega | (refine two_of ?_ ?_ <;> simp only [wrap64] <;> omega))
set_option maxRecDepth 200000 in
theorem yya (s : ByteArray) (w : World) (h0 : 0 < s.size) (hs : s.size <= maxLen) (hx : 240 <= gb s.data.toList 0 /\ gb s.data.toList 0 <= 244) :
  Calls Tryz.prog 93 #[.string s] w fun e w' => e = .returned (.tuple #[.int .i64 (dec s.data.toList).1, .int .i64 (dec s.data.toList).2]) /\ ∃ m, w' = w.drewN m := by
 obtain ⟨l, hl⟩ : ∃ l, s.data.toList = l := ⟨_, rfl⟩
 have HG : ∀ (k : Nat) (h : k < s.size), (s[k]'h).toNat = gb l k := fun k h => by rw [<- hl]; exact (gb_ba s h).symm
 have hll : l.length = s.size := by rw [<- hl, ba_len]
 rw [hl] at hx |-; clear hl
 have hl : 0 < l.length := by omega
 have b0 := gb_lt l 0; have b1 := gb_lt l 1; have b2 := gb_lt l 2; have b3 := gb_lt l 3; have DC := zH (ycd (l := l) (by intro e; subst e; simp at hl))
 obtain ⟨D, hD⟩ : ∃ D, dec l = D := ⟨_, rfl⟩; rw [hD] at DC |-; clear hD hl
 go_enter Tryz.func93, Tryz.ntmps93
 go_wp2_with (go_at_call 143; refine (yjz _ _).mono ?_; rintro e w' ⟨rfl, rfl⟩)
 all_goals first
  | (go_ret2; (have dc := DC.out; clear DC); refine ⟨?_, ⟨0, rfl⟩⟩
     (simp only [ybl, ybo, ybu, Bool.eq_false_iff, ne_eq, yif] at *)
     (rcases dc with ⟨h, e⟩ | ⟨h, e⟩ | ⟨h, e⟩ | ⟨h, e⟩ | ⟨h, g2, g3, g4, e⟩ <;> rw [e] <;> clear e <;> first | omega | (refine two_of ?_ ?_ <;> simp only [wrap64] <;> omega)))
  | skip
 go_quiet (fail)
 go_wp2
 all_goals go_ret2
 all_goals (have dc := DC.out; clear DC)
 all_goals refine ⟨?_, ⟨_, rfl⟩⟩
 all_goals (simp only [ybl, ybo, ybu, Bool.eq_false_iff, ne_eq, yif, v3_eq, v4_eq] at *)
 all_goals (rcases dc with ⟨h, e⟩ | ⟨h, e⟩ | ⟨h, e⟩ | ⟨h, e⟩ | ⟨h, g2, g3, g4, e⟩ <;> rw [e] <;> clear e <;> first | omega | (refine two_of ?_ ?_ <;> simp only [wrap64] <;> omega))
theorem yna (s : ByteArray) (w : World) (h0 : 0 < s.size) (hs : s.size <= maxLen) :
  Calls Tryz.prog 93 #[.string s] w fun e w' => e = .returned (.tuple #[.int .i64 (dec s.data.toList).1, .int .i64 (dec s.data.toList).2]) /\ ∃ m, w' = w.drewN m := by
 by_cases h3 : 224 <= gb s.data.toList 0 /\ gb s.data.toList 0 <= 239
 ·exact yyb s w h0 hs h3
 ·by_cases h4 : 240 <= gb s.data.toList 0 /\ gb s.data.toList 0 <= 244
  ·exact yya s w h0 hs h4
  ·exact yyc s w h0 hs (by omega)
end Go.Proofs.YteibnfeokgibmaaGreat.T2
