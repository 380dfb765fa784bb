/-
  PACKED for a claim.
-/
import Derived.Test.YtichfdjjbafeiaaGreatJ51
import Derived.Test.YtichfdjjbafeiaaGreatJ52
import Derived.Test.YtichfdjjbafeiaaGreatJ53
set_option linter.unusedVariables false
set_option linter.unusedSimpArgs false
set_option maxRecDepth 100000
namespace Go.Proofs.YtichfdjjbafeiaaGreat
open Go.RowKit
def aw7 : ByteArray := ⟨#[38, 32, 99, 32, 60, 32, 99, 104]⟩
theorem aw7_E : rdE aw7 = 0 := by decide +kernel
theorem aw7_K : rdK aw7 = 0 := by decide +kernel
theorem aw7_ch : elsP (rdL aw7) (T2.sgs (⟨#[99, 104]⟩ : ByteArray).data.toList) = [17899524] := by decide +kernel
theorem aw7_d : elsP (rdL aw7) (T2.sgs (⟨#[100]⟩ : ByteArray).data.toList) = [18423812] := by decide +kernel
theorem yuw {F : Nat -> Prop} {w : World} {p : Nat} {L : List PE} (h : TabAt F w p L) (b : ByteArray) (hb : b.size <= 100000) {x : Nat} (he : elsP L (T2.sgs b.data.toList) = [x]) :
  Calls Tryz.prog 23 #[.pointer (some ⟨p, 0, none⟩), .string b] w fun e w' => ∃ g c, e = .returned (.slice (some ⟨g, 0, none⟩) 1 c) /\ w'.cell? ⟨g, 0, none⟩ = some (.int .u32 (x : Int)) /\ Below w.heap.size w w' := by
 have := ymb h b hb
 rw [he] at this; refine this.mono fun e w' => ?_
 rintro ⟨v, rfl, ho, hb⟩; obtain ⟨A, c, rfl, _, hr⟩ := R4.yaj ho; obtain ⟨g, rfl, h1, h2, h3⟩ := hr (by simp)
 exact ⟨g, c, rfl, h3 0 _ rfl, hb⟩
theorem aw7_w1 (w : World) : Calls Tryz.prog 17 #[.int .u32 17899524, .int .i64 1] w fun r w' => r = .returned (.int .i64 273) /\ w = w' := yfv (x := 17899524) (p := 273) (by omega) (by omega) w
theorem aw7_w2 (w : World) : Calls Tryz.prog 17 #[.int .u32 18423812, .int .i64 1] w fun r w' => r = .returned (.int .i64 281) /\ w = w' := yfv (x := 18423812) (p := 281) (by omega) (by omega) w
set_option maxHeartbeats 2000000 in
theorem yrl (w : World) : Calls Tryz.prog 12 #[] w fun e w' => e = .returned (.bool true) /\ Below w.heap.size w w' := by
 have EA := zH aw7_ch; have EE := zH aw7_d
 have RD : Hid (∀ w : World, Calls Tryz.prog 9 #[.string ⟨#[38, 32, 99, 32, 60, 32, 99, 104]⟩] w fun e w' => (∃ p : Nat, e = .returned (.tuple #[.pointer (some ⟨p, 0, none⟩), .int .i64 0, .int .i64 0]) /\ TabAt anyB w' p (rdL aw7)) /\ Below w.heap.size w w') := fun w => (yzd (s := aw7) w (by decide)).mono fun e w' hh => by
  obtain ⟨h1, -, h3⟩ := hh; obtain ⟨p, h1, h2⟩ := h1 aw7_E; rw [aw7_K] at h1; exact ⟨⟨p, h1, h2⟩, h3⟩
 have t1 : True := trivial
 have t2 : True := trivial
 have s1 : Hid ((⟨#[99, 104]⟩ : ByteArray).size <= 100000) := by show _ <= _; decide
 have s2 : Hid ((⟨#[100]⟩ : ByteArray).size <= 100000) := by show _ <= _; decide
 go_enter Tryz.func12, Tryz.ntmps12
 go_wp2_with (first
  | (go_at_call 9; refine (RD.out _).mono ?_; rintro e w1 ⟨⟨p, rfl, ht⟩, hb⟩; have HT := zH ht; have HB := zH hb; clear ht hb)
  | (go_at_call 23; have _t := t1; refine (yuw HT.out _ s1.out EA.out).mono ?_; rintro e w2 ⟨g1, c1, rfl, x1, hb⟩; have HT2 := zH (HT.out.below hb (zN _)); have HB2 := zH (HB.out.trans (hb.mono HB.out.size)); clear hb _t t1)
  | (go_at_call 23; refine (yuw HT2.out _ s2.out EE.out).mono ?_; rintro e w3 ⟨g2, c2, rfl, y1, hb⟩; have z1 := yab hb x1; have HB3 := zH (HB2.out.trans (hb.mono HB2.out.size)); clear hb x1)
  | (go_at_call 17; (with_reducible refine (aw7_w1 _).mono ?_); rintro e w4 ⟨rfl, rfl⟩)
  | (go_at_call 17; (with_reducible refine (aw7_w2 _).mono ?_); rintro e w5 ⟨rfl, rfl⟩))
 go_ret
 exact ⟨rfl, HB3.out⟩
theorem yln : Lim 0 rootP := by
 have h : (rootP.all fun e => e.2.all fun x => decide (wgt 2 x <= 150) && decide (wgt 3 x <= 60)) = true := by decide +kernel
 intro e he x hx; have h2 := List.all_eq_true.1 (List.all_eq_true.1 h e he) x hx; simp only [Bool.and_eq_true, decide_eq_true_eq] at h2; exact ⟨h2.1, h2.2⟩
def DrewS (w wr : World) : Prop := ∃ n, wr = w.drewN n
theorem DrewS.refl (w : World) : DrewS w w := ⟨0, rfl⟩
theorem DrewS.bel {w wr : World} (h : DrewS w wr) (n : Nat) : Below w.heap.size w (wr.drewN n) := by
 obtain ⟨m, rfl⟩ := h
 have : (w.drewN m).drewN n = w.drewN (m + n) := by simp [World.drewN, Nat.add_assoc]
 rw [this]; exact yae w _
theorem DrewS.cell {w wr : World} (h : DrewS w wr) {p : Addr} {u : Value} (c : w.cell? p = some u) : wr.cell? p = some u := by
 obtain ⟨m, rfl⟩ := h; exact ((yae w m).cell (yah c)).trans c
theorem DrewS.more {w wr : World} (h : DrewS w wr) (n : Nat) : DrewS w (wr.drewN n) := by
 obtain ⟨m, rfl⟩ := h; exact ⟨m + n, by simp [World.drewN, Nat.add_assoc]⟩
def small7 (x : S6.RV) : Bool := decide (x.seq.length + x.exp.length <= 12)
theorem ylg {p : S6.RV -> Bool} {l : List S6.RV} {k : Nat} {x : S6.RV} (h : l[k]? = some x) (hp : p x = true) (ha : (l.take k).all p = true) : (l.take (k + 1)).all p = true := by
 rw [List.take_add_one, h, List.all_append, ha]; simp [hp]
theorem yio {l : List S6.RV} (h : l.length <= 12) (ha : l.all small7 = true) : S6.RVs l := ⟨by omega, fun x hx => by
 have := List.all_eq_true.1 ha x hx
 unfold small7 at this
 have := of_decide_eq_true this
 omega⟩
theorem yob {l : List S6.RV} (h : S6.RVs l) (hw : ∀ x ∈ l, x.seq.length <= reachBytes /\ x.exp.length <= reachBytes /\ I64 x.seq /\ I64 x.exp) : ∀ r ∈ l, RuOk r := fun r hr => by
 have h1 := h.2 r hr; have h2 := hw r hr; exact ⟨h2.2.2.1, h2.2.2.2, by omega, by omega⟩
theorem rls_ok : ∀ (l : List S6.RV) (t : ST) (c : Nat), GoodT t.L -> AnS t -> LimS c t -> 0 < t.L.length -> c + l.length <= 60 -> rlsE t l = 0 -> GoodT (rlsS t l).L /\ LimS (c + l.length) (rlsS t l) /\ 0 < (rlsS t l).L.length
 | [], t, c, hg, ha, hl, hp, hc, hE => ⟨hg, hl, hp⟩
 | r :: l, t, c, hg, ha, hl, hp, hc, hE => by
  unfold rlsE at hE; simp only [List.length_cons] at hc
  by_cases h0 : rulE t r = 0
  ·rw [if_neg (by simp [h0])] at hE
   have := rls_ok l (rulS t r) (c + 1) (ylj hg ha h0) (ygt hg ha h0) (yjt hg ha hl (by omega) h0) (yoe hp) (by omega) hE
   rw [List.length_cons, show c + (l.length + 1) = c + 1 + l.length by omega]
   exact this
  ·rw [if_pos h0] at hE; exact absurd hE h0
theorem app_ok {L : List PE} {l : List S6.RV} {c : Nat} (hg : GoodT L) (hl : Lim c L) (hp : 0 < L.length) (hc : c + l.length <= 60) (hE : appE L l = 0) : GoodT (appL L l) /\ Lim (c + l.length) (appL L l) /\ 0 < (appL L l).length := by
 unfold appE at hE
 by_cases h0 : rlsE ⟨L, none⟩ l = 0
 ·have h := rls_ok l ⟨L, none⟩ c hg (fun A e => by cases e) ⟨hl, fun A e => by cases e⟩ hp hc h0
  exact ⟨h.1, h.2.1.1, h.2.2⟩
 ·rw [if_pos h0] at hE; exact absurd hE h0
theorem ykz (w : World) (A : Option Addr) (n c : Nat) : (w.alloc (.cells #[.slice A n c] 52)).cell? ⟨w.heap.size, 0, none⟩ = some (.slice A n c) := yad (i := 0) (v := .slice A n c) (heap_alloc_new w _) rfl
set_option maxHeartbeats 16000000 in
theorem yfc (v0 : Value) (l : List S6.RV) (v1 : Value) (m : List S6.RV) (w : World) (h0 : S6.RdRs w v0 l) (hw0 : ∀ x ∈ l, x.seq.length <= reachBytes /\ x.exp.length <= reachBytes /\ I64 x.seq /\ I64 x.exp) (hl0 : l.length <= maxLen) (h1 : S6.RdRs w v1 m) (hw1 : ∀ x ∈ m, x.seq.length <= reachBytes /\ x.exp.length <= reachBytes /\ I64 x.seq /\ I64 x.exp) (hl1 : m.length <= maxLen) :
  Calls Tryz.prog 5 #[v0, v1] w fun e w' => e = .returned (.bool true) /\ Below w.heap.size w w' := by
 obtain ⟨A, c, rfl⟩ := h0.form; obtain ⟨A', c', rfl⟩ := h1.form; have HV := zH h0; have HV' := zH h1; have HWI := zH hw0; have HWI' := zH hw1; obtain ⟨n, hn⟩ : ∃ n, l.length = n := ⟨_, rfl⟩; obtain ⟨n', hn'⟩ : ∃ n, m.length = n := ⟨_, rfl⟩; rw [hn] at HV hl0 |-; rw [hn'] at HV' hl1 |-; have hcap := S6.RdRs.cap HV.out; have hcap' := S6.RdRs.cap HV'.out; have HN := zH hn; have HN' := zH hn'; have HAW := zH yrl; simp only [maxLen] at hl0 hl1; clear h0 h1 hn hn' hw0 hw1
 go_enter Tryz.func5, Tryz.ntmps5
 go_wp2
 go_loopg [5] n (fun f i wr => ∃ k : Nat, k <= n /\ i = .int .i64 (k : Nat) /\ f = n - k /\ Hid (0 < k -> n <= 12) /\ Hid ((l.take k).all small7 = true) /\ DrewS w wr)
 case atStart => exact ⟨0, Nat.zero_le _, rfl, rfl, fun h => absurd h (by omega), rfl, DrewS.refl w⟩
 case round =>
  obtain ⟨k, hk, rfl, rfl, H60, HALL, HD⟩ := hrel
  by_cases hlt : k < n
  ·obtain ⟨x, hx⟩ : ∃ x, l[k]? = some x := ⟨_, List.getElem?_eq_getElem (by rw [HN.out]; exact hlt)⟩
   obtain ⟨g, o, A1, n1, p1, A2, n2, p2, rfl, c0, c1, c2, r1, r2, rfl, rfl⟩ := S6.RdRs.at' HV.out hx
   replace c1 := HD.cell c1
   replace c2 := HD.cell c2
   have hltI : (k : Int) < (n : Int) := by omega
   have hkc : (k : Int) < (c : Int) := by omega
   have hxw := HWI.out x (List.mem_of_getElem? hx); simp only [reachBytes] at hxw; obtain ⟨hxa, hxb, -, -⟩ := hxw; obtain ⟨es, hes⟩ : ∃ z, x.seq.length = z := ⟨_, rfl⟩; obtain ⟨ee, hee⟩ : ∃ z, x.exp.length = z := ⟨_, rfl⟩; rw [hes] at c1 hxa; rw [hee] at c2 hxb
   have hsum : IntKind.i64.wrap ((es : Int) + (ee : Int)) = (es : Int) + (ee : Int) := IntWalk.i64_in _ (by omega)
   have HX := zH hx; have HES := zH hes; have HEE := zH hee; clear c0 r1 r2 hes hee hx hxa hxb hlt
   by_cases h60 : 12 < n
   ·have h60I : (12 : Int) < (n : Int) := by omega
    go_wp2
    go_quiet (fail)
    go_wp2_with (go_at_call 12; refine (HAW.out _).mono ?_; rintro e w1 ⟨rfl, hb⟩)
    go_ret
    have hbq := HD.bel nq; exact ⟨rfl, hbq.trans (hb.mono hbq.size)⟩
   ·have h60I : ¬ (12 : Int) < (n : Int) := by omega
    by_cases h20 : 12 < es + ee
    ·have h20I : (12 : Int) < (es : Int) + (ee : Int) := by omega
     go_wp2
     go_quiet (fail)
     go_wp2_with (go_at_call 12; refine (HAW.out _).mono ?_; rintro e w1 ⟨rfl, hb⟩)
     go_ret
     have hbq := HD.bel nq; exact ⟨rfl, hbq.trans (hb.mono hbq.size)⟩
    ·have h20I : ¬ (12 : Int) < (es : Int) + (ee : Int) := by omega
     have HALL2 := zH (ylg HX.out (by unfold small7; rw [HES.out, HEE.out]; exact decide_eq_true (by omega)) HALL.out)
     have H60' : Hid (0 < k + 1 -> n <= 12) := fun _ => by omega
     go_wp2
     go_quiet (fail)
     go_wp2
     go_roundg (n - (k + 1))
     case measure => omega
     case rel => exact ⟨k + 1, by omega, by first | rfl | (congr 1), rfl, H60'.out, HALL2.out, HD.more _⟩
  ·have hltI : ¬ (k : Int) < (n : Int) := by omega
   have hkn : l.take k = l := List.take_of_length_le (by rw [HN.out]; omega)
   have hal := HALL.out; rw [hkn] at hal
   have hn12 : n <= 12 := by
    rcases Nat.eq_zero_or_pos n with h0 | h0
    ·omega
    ·exact H60.out (by omega)
   have hrs : S6.RVs l := yio (by rw [HN.out]; exact hn12) hal
   have hru := yob hrs HWI.out; have HRS1 := zH hrs; have HRU1 := zH hru; have HL12 := zH hn12
   have hkeq : (k : Int) = (n : Int) := by omega
   clear hkn hal HALL H60 hrs hru hn12
   go_wp2
   go_loopg [6] n' (fun f i wr => ∃ k : Nat, k <= n' /\ i = .int .i64 (k : Nat) /\ f = n' - k /\ Hid (0 < k -> n' <= 12) /\ Hid ((m.take k).all small7 = true) /\ DrewS w wr)
   case atStart => exact ⟨0, Nat.zero_le _, rfl, rfl, fun h => absurd h (by omega), rfl, HD⟩
   case round =>
    obtain ⟨k, hk, rfl, rfl, H60, HALL, HD⟩ := hrel
    by_cases hlt : k < n'
    ·obtain ⟨x, hx⟩ : ∃ x, m[k]? = some x := ⟨_, List.getElem?_eq_getElem (by rw [HN'.out]; exact hlt)⟩
     obtain ⟨g, o, A1, n1, p1, A2, n2, p2, rfl, c0, c1, c2, r1, r2, rfl, rfl⟩ := S6.RdRs.at' HV'.out hx
     replace c1 := HD.cell c1
     replace c2 := HD.cell c2
     have hltI : (k : Int) < (n' : Int) := by omega
     have hkc : (k : Int) < (c' : Int) := by omega
     have hxw := HWI'.out x (List.mem_of_getElem? hx); simp only [reachBytes] at hxw; obtain ⟨hxa, hxb, -, -⟩ := hxw; obtain ⟨es, hes⟩ : ∃ z, x.seq.length = z := ⟨_, rfl⟩; obtain ⟨ee, hee⟩ : ∃ z, x.exp.length = z := ⟨_, rfl⟩; rw [hes] at c1 hxa; rw [hee] at c2 hxb
     have hsum : IntKind.i64.wrap ((es : Int) + (ee : Int)) = (es : Int) + (ee : Int) := IntWalk.i64_in _ (by omega)
     have HX := zH hx; have HES := zH hes; have HEE := zH hee; clear c0 r1 r2 hes hee hx hxa hxb hlt
     by_cases h60 : 12 < n'
     ·have h60I : (12 : Int) < (n' : Int) := by omega
      go_wp2
      go_quiet (fail)
      go_wp2_with (go_at_call 12; refine (HAW.out _).mono ?_; rintro e w1 ⟨rfl, hb⟩)
      go_ret
      have hbq := HD.bel nq; exact ⟨rfl, hbq.trans (hb.mono hbq.size)⟩
     ·have h60I : ¬ (12 : Int) < (n' : Int) := by omega
      by_cases h20 : 12 < es + ee
      ·have h20I : (12 : Int) < (es : Int) + (ee : Int) := by omega
       go_wp2
       go_quiet (fail)
       go_wp2_with (go_at_call 12; refine (HAW.out _).mono ?_; rintro e w1 ⟨rfl, hb⟩)
       go_ret
       have hbq := HD.bel nq; exact ⟨rfl, hbq.trans (hb.mono hbq.size)⟩
      ·have h20I : ¬ (12 : Int) < (es : Int) + (ee : Int) := by omega
       have HALL2 := zH (ylg HX.out (by unfold small7; rw [HES.out, HEE.out]; exact decide_eq_true (by omega)) HALL.out)
       have H60' : Hid (0 < k + 1 -> n' <= 12) := fun _ => by omega
       go_wp2
       go_quiet (fail)
       go_wp2
       go_roundg (n' - (k + 1))
       case measure => omega
       case rel => exact ⟨k + 1, by omega, by first | rfl | (congr 1), rfl, H60'.out, HALL2.out, HD.more _⟩
    ·have hltI : ¬ (k : Int) < (n' : Int) := by omega
     have hkn : m.take k = m := List.take_of_length_le (by rw [HN'.out]; omega)
     have hal := HALL.out; rw [hkn] at hal
     have hn12 : n' <= 12 := by
      rcases Nat.eq_zero_or_pos n' with h0 | h0
      ·omega
      ·exact H60.out (by omega)
     have hrs : S6.RVs m := yio (by rw [HN'.out]; exact hn12) hal
     have hru := yob hrs HWI'.out; have HRS2 := zH hrs; have HRU2 := zH hru; have HL12' := zH hn12
     have HB0 : Hid (Below w.heap.size w wr) := by
      obtain ⟨q, e⟩ := HD; rw [e]; exact yae w q
     have HV0 := zH (S6.RdRs.below HV.out HB0.out (zN _)); have HV0' := zH (S6.RdRs.below HV'.out HB0.out (zN _)); obtain ⟨E, hE⟩ : ∃ E, appE rootP l = E := ⟨_, rfl⟩; obtain ⟨L1, hL1⟩ : ∃ L, appL rootP l = L := ⟨_, rfl⟩
     have hll : l.length <= 12 := HRS1.out.1 |> fun _ => by rw [HN.out]; exact HL12.out
     have hlm : m.length <= 12 := by rw [HN'.out]; exact HL12'.out
     have HOK := zH (fun h0 : E = 0 => app_ok (c := 0) (l := l) root_good yln (by decide +kernel) (by omega) (hE.trans h0))
     rw [hL1] at HOK; have CO1 := zH (fun (w1 : World) (v : Value) (h : S6.RdRs w1 v l) => S6.of_any h HRS1.out)
     have CO2 := zH (fun (w1 : World) (v : Value) (h : S6.RdRs w1 v m) => S6.of_any h HRS2.out)
     have CA1 := zH (fun (w1 : World) (p : Nat) (F : Nat -> Prop) (rv : Value) (ht : TabAt F w1 p rootP) (hr : S6.RdRs w1 rv l) => yil ht hr (by omega) HRU1.out hE hL1)
     have CR1 := zH (fun (w1 : World) (u rv : Value) (ht : RefT w1 u rootP) (hr : S6.RdRs w1 rv l) => yit ht root_good (by decide +kernel) hr (by omega) HRU1.out yln (by omega) hE hL1)
     obtain ⟨E2, hE2⟩ : ∃ E, appE L1 m = E := ⟨_, rfl⟩; obtain ⟨L2, hL2⟩ : ∃ L, appL L1 m = L := ⟨_, rfl⟩; have CA2 := zH (fun (w1 : World) (p : Nat) (F : Nat -> Prop) (rv : Value) (ht : TabAt F w1 p L1) (hr : S6.RdRs w1 rv m) => yil ht hr (by omega) HRU2.out hE2 hL2)
     have CR2 := zH (fun (h0 : E = 0) (w1 : World) (u rv : Value) (ht : RefT w1 u L1) (hr : S6.RdRs w1 rv m) => yit ht (HOK.out h0).1 (HOK.out h0).2.2 hr (by omega) HRU2.out (HOK.out h0).2.1 (by omega) hE2 hL2)
     have tk1 : True := trivial
     have tk2 : True := trivial
     have tk3 : True := trivial
     have tk4 : True := trivial
     have tk5 : True := trivial
     have tk6 : True := trivial
     clear hkn hal HALL H60 hrs hru hn12 hE hL1 hE2 hL2 hll hlm
     by_cases hE0 : E = 0
     ·subst hE0; have CR3 := zH (CR2.out rfl); clear CR2 HOK
      by_cases hE20 : E2 = 0
      ·subst hE20
       have tk7 : True := trivial
       go_wp2_with (first
        | (go_at_call 13; refine (yff _).mono ?_; rintro e w1 ⟨p, rfl, ht, hb⟩; have HT := zH ht; have HB1 := zH (HB0.out.trans (hb.mono HB0.out.size)); have HV1 := zH (S6.RdRs.below HV0.out hb (zN _)); have HV1' := zH (S6.RdRs.below HV0'.out hb (zN _)); clear ht hb)
        | (go_at_call 15; have _t := tk1; refine (CO1.out _ _ HV1.out).mono ?_; rintro e w2 ⟨⟨v2, rfl, hr⟩, hb⟩; have HR2 := zH hr; have HT2 := zH (HT.out.below hb (zN _)); have HB2 := zH (HB1.out.trans (hb.mono HB1.out.size)); have HV2 := zH (S6.RdRs.below HV1.out hb (zN _)); have HV2' := zH (S6.RdRs.below HV1'.out hb (zN _)); clear hr hb _t tk1)
        | (go_at_call 14; have _t := tk2; refine (CA1.out _ _ _ _ HT2.out HR2.out).mono ?_; rintro e w3 ⟨h1, -, hb⟩; have h2 := h1 rfl; obtain ⟨p3, rfl, ht⟩ := h2; have HA3 := zH ht; have HT3 := zH (HT2.out.below hb (zN _)); have HB3 := zH (HB2.out.trans (hb.mono HB2.out.size)); have HV3 := zH (S6.RdRs.below HV2.out hb (zN _)); have HV3' := zH (S6.RdRs.below HV2'.out hb (zN _)); clear h1 ht hb _t tk2)
        | (go_at_call 18; have _t := tk3; refine (ycy _).mono ?_; rintro e w4 ⟨⟨u4, rfl, hu⟩, hb⟩; have HU4 := zH hu; have HT4 := zH (HT3.out.below hb (zN _)); have HB4 := zH (HB3.out.trans (hb.mono HB3.out.size)); have HV4 := zH (S6.RdRs.below HV3.out hb (zN _)); have HV4' := zH (S6.RdRs.below HV3'.out hb (zN _)); have HA4 := zH (HA3.out.below hb (zN _)); clear hu hb _t tk3)
        | (go_at_call 19; have _t := tk4; refine (CR1.out _ _ _ HU4.out HV4.out).mono ?_; rintro e w5 ⟨h1, -, hb⟩; have h2 := h1 rfl; obtain ⟨u5, rfl, hu⟩ := h2; obtain ⟨A5, c5, rfl⟩ := hu.form; obtain ⟨n5, hn5⟩ : ∃ q, L1.length = q := ⟨_, rfl⟩; rw [hn5] at hu |-; have hal := yaa w5 (.cells #[.slice A5 n5 c5] 52); have hbb := hb.trans (hal.mono hb.size); have x10 := ykz w5 A5 n5 c5; have HU5 := zH (hu.below hal (zN _)); have HT5 := zH (HT4.out.below hbb (zN _)); have HA5 := zH (HA4.out.below hbb (zN _)); have HB5 := zH (HB4.out.trans (hbb.mono HB4.out.size)); have HV5' := zH (S6.RdRs.below HV4'.out hbb (zN _)); clear h1 hu hb hal hbb hn5 _t tk4)
        | (go_at_call 18; have _t := tk5; refine (ycy _).mono ?_; rintro e w6 ⟨⟨u6, rfl, hu⟩, hb⟩; have HU6 := zH hu; have HT6 := zH (HT5.out.below hb (zN _)); have HB6 := zH (HB5.out.trans (hb.mono HB5.out.size)); have x10b := yab hb x10; have HR6 := zH (HU5.out.below hb (zN _)); have HA6 := zH (HA5.out.below hb (zN _)); have HV6' := zH (S6.RdRs.below HV5'.out hb (zN _)); clear x10; clear hu hb _t tk5)
        | (go_at_call 20; have _t := tk6; refine (yed HT6.out HU6.out).mono ?_; rintro e w7 ⟨rfl, hb⟩; have HB7 := zH (HB6.out.trans (hb.mono HB6.out.size)); have x10c := yab hb x10b; have HR7 := zH (HR6.out.below hb (zN _)); have HA7 := zH (HA6.out.below hb (zN _)); have HV7' := zH (S6.RdRs.below HV6'.out hb (zN _)); clear x10b; clear hb _t tk6)
        | (go_at_call 15; refine (CO2.out _ _ HV7'.out).mono ?_; rintro e w8 ⟨⟨v8, rfl, hr⟩, hb⟩; have HR8 := zH hr; have x10d := yab hb x10c; have HU8 := zH (HR7.out.below hb (zN _)); have HA8 := zH (HA7.out.below hb (zN _)); have HB8 := zH (HB7.out.trans (hb.mono HB7.out.size)); have HV8' := zH (S6.RdRs.below HV7'.out hb (zN _)); clear hr hb x10c)
        | (go_at_call 14; refine (CA2.out _ _ _ _ HA8.out HR8.out).mono ?_; rintro e w9 ⟨h1, -, hb⟩; have h2 := h1 rfl; obtain ⟨p9, rfl, ht⟩ := h2; have x10e := yab hb x10d; have HC9 := zH ht; clear ht; have HU9 := zH (HU8.out.below hb (zN _)); have HA9 := zH (HA8.out.below hb (zN _)); have HB9 := zH (HB8.out.trans (hb.mono HB8.out.size)); have HV9' := zH (S6.RdRs.below HV8'.out hb (zN _)); clear h1 hb x10d)
        | (go_at_call 19; refine (CR3.out _ _ _ HU9.out HV9'.out).mono ?_; rintro e w10 ⟨h1, -, hb⟩; have h2 := h1 rfl; obtain ⟨u10, rfl, hu⟩ := h2; obtain ⟨A10, c10, rfl⟩ := hu.form; obtain ⟨n10, hn10⟩ : ∃ q, L2.length = q := ⟨_, rfl⟩; rw [hn10] at hu |-; have hal := yaa w10 (.cells #[.slice A10 n10 c10] 52); have hbb := hb.trans (hal.mono hb.size); have x10f := yab hbb x10e; have HU10 := zH (HU9.out.below hbb (zN _)); have HA10 := zH (HA9.out.below hbb (zN _)); have x14 := ykz w10 A10 n10 c10; have HC10 := zH (HC9.out.below hbb (zN _)); have HW10 := zH (hu.below hal (zN _)); clear hu hn10; have HB10 := zH (HB9.out.trans (hbb.mono HB9.out.size)); clear h1 hb hal hbb x10e)
        | (go_at_call 20; have _t := tk7; refine (yed HA10.out HU10.out).mono ?_; rintro e w11 ⟨rfl, hb⟩; have HB11 := zH (HB10.out.trans (hb.mono HB10.out.size)); have x14b := yab hb x14; have HC11 := zH (HC10.out.below hb (zN _)); have HW11 := zH (HW10.out.below hb (zN _)); clear hb x10f x14 _t tk7)
        | (go_at_call 20; refine (yed HC11.out HW11.out).mono ?_; rintro e w12 ⟨rfl, hb⟩; have HB12 := zH (HB11.out.trans (hb.mono HB11.out.size)); clear hb x14b)
        | (go_at_call 12; refine (HAW.out _).mono ?_; rintro e w13 ⟨rfl, hb⟩; have HB13 := zH (HB12.out.trans (hb.mono HB12.out.size)); clear hb))
       go_ret
       exact ⟨rfl, HB13.out⟩
      ·have HE20 := zH hE20
       have hen2 : (E2 != 0) = true := by simpa using hE20
       have hef2 : (E2 == 0) = false := by simpa using hE20
       clear hE20
       go_wp2_with (first
        | (go_at_call 13; refine (yff _).mono ?_; rintro e w1 ⟨p, rfl, ht, hb⟩; have HT := zH ht; have HB1 := zH (HB0.out.trans (hb.mono HB0.out.size)); have HV1 := zH (S6.RdRs.below HV0.out hb (zN _)); have HV1' := zH (S6.RdRs.below HV0'.out hb (zN _)); clear ht hb)
        | (go_at_call 15; have _t := tk1; refine (CO1.out _ _ HV1.out).mono ?_; rintro e w2 ⟨⟨v2, rfl, hr⟩, hb⟩; have HR2 := zH hr; have HT2 := zH (HT.out.below hb (zN _)); have HB2 := zH (HB1.out.trans (hb.mono HB1.out.size)); have HV2 := zH (S6.RdRs.below HV1.out hb (zN _)); have HV2' := zH (S6.RdRs.below HV1'.out hb (zN _)); clear hr hb _t tk1)
        | (go_at_call 14; have _t := tk2; refine (CA1.out _ _ _ _ HT2.out HR2.out).mono ?_; rintro e w3 ⟨h1, -, hb⟩; have h2 := h1 rfl; obtain ⟨p3, rfl, ht⟩ := h2; have HA3 := zH ht; have HT3 := zH (HT2.out.below hb (zN _)); have HB3 := zH (HB2.out.trans (hb.mono HB2.out.size)); have HV3 := zH (S6.RdRs.below HV2.out hb (zN _)); have HV3' := zH (S6.RdRs.below HV2'.out hb (zN _)); clear h1 ht hb _t tk2)
        | (go_at_call 18; have _t := tk3; refine (ycy _).mono ?_; rintro e w4 ⟨⟨u4, rfl, hu⟩, hb⟩; have HU4 := zH hu; have HT4 := zH (HT3.out.below hb (zN _)); have HB4 := zH (HB3.out.trans (hb.mono HB3.out.size)); have HV4 := zH (S6.RdRs.below HV3.out hb (zN _)); have HV4' := zH (S6.RdRs.below HV3'.out hb (zN _)); have HA4 := zH (HA3.out.below hb (zN _)); clear hu hb _t tk3)
        | (go_at_call 19; have _t := tk4; refine (CR1.out _ _ _ HU4.out HV4.out).mono ?_; rintro e w5 ⟨h1, -, hb⟩; have h2 := h1 rfl; obtain ⟨u5, rfl, hu⟩ := h2; obtain ⟨A5, c5, rfl⟩ := hu.form; obtain ⟨n5, hn5⟩ : ∃ q, L1.length = q := ⟨_, rfl⟩; rw [hn5] at hu |-; have hal := yaa w5 (.cells #[.slice A5 n5 c5] 52); have hbb := hb.trans (hal.mono hb.size); have x10 := ykz w5 A5 n5 c5; have HU5 := zH (hu.below hal (zN _)); have HT5 := zH (HT4.out.below hbb (zN _)); have HA5 := zH (HA4.out.below hbb (zN _)); have HB5 := zH (HB4.out.trans (hbb.mono HB4.out.size)); have HV5' := zH (S6.RdRs.below HV4'.out hbb (zN _)); clear h1 hu hb hal hbb hn5 _t tk4)
        | (go_at_call 18; have _t := tk5; refine (ycy _).mono ?_; rintro e w6 ⟨⟨u6, rfl, hu⟩, hb⟩; have HU6 := zH hu; have HT6 := zH (HT5.out.below hb (zN _)); have HB6 := zH (HB5.out.trans (hb.mono HB5.out.size)); have x10b := yab hb x10; have HR6 := zH (HU5.out.below hb (zN _)); have HA6 := zH (HA5.out.below hb (zN _)); have HV6' := zH (S6.RdRs.below HV5'.out hb (zN _)); clear x10; clear hu hb _t tk5)
        | (go_at_call 20; have _t := tk6; refine (yed HT6.out HU6.out).mono ?_; rintro e w7 ⟨rfl, hb⟩; have HB7 := zH (HB6.out.trans (hb.mono HB6.out.size)); have x10c := yab hb x10b; have HR7 := zH (HR6.out.below hb (zN _)); have HA7 := zH (HA6.out.below hb (zN _)); have HV7' := zH (S6.RdRs.below HV6'.out hb (zN _)); clear x10b; clear hb _t tk6)
        | (go_at_call 15; refine (CO2.out _ _ HV7'.out).mono ?_; rintro e w8 ⟨⟨v8, rfl, hr⟩, hb⟩; have HR8 := zH hr; have x10d := yab hb x10c; have HU8 := zH (HR7.out.below hb (zN _)); have HA8 := zH (HA7.out.below hb (zN _)); have HB8 := zH (HB7.out.trans (hb.mono HB7.out.size)); have HV8' := zH (S6.RdRs.below HV7'.out hb (zN _)); clear hr hb x10c)
        | (go_at_call 14; refine (CA2.out _ _ _ _ HA8.out HR8.out).mono ?_; rintro e w9 ⟨-, h1, hb⟩; have h2 := h1 HE20.out; subst h2; have x10e := yab hb x10d; have HU9 := zH (HU8.out.below hb (zN _)); have HA9 := zH (HA8.out.below hb (zN _)); have HB9 := zH (HB8.out.trans (hb.mono HB8.out.size)); have HV9' := zH (S6.RdRs.below HV8'.out hb (zN _)); clear h1 hb x10d)
        | (go_at_call 19; refine (CR3.out _ _ _ HU9.out HV9'.out).mono ?_; rintro e w10 ⟨-, h1, hb⟩; have h2 := h1 HE20.out; subst h2; have hal := yaa w10 (.cells #[.slice none 0 0] 52); have hbb := hb.trans (hal.mono hb.size); have x10f := yab hbb x10e; have HU10 := zH (HU9.out.below hbb (zN _)); have HA10 := zH (HA9.out.below hbb (zN _)); have HB10 := zH (HB9.out.trans (hbb.mono HB9.out.size)); clear h1 hb hal hbb x10e)
        | (go_at_call 20; refine (yed HA10.out HU10.out).mono ?_; rintro e w11 ⟨rfl, hb⟩; have HB11 := zH (HB10.out.trans (hb.mono HB10.out.size)); clear hb x10f)
        | (go_at_call 12; refine (HAW.out _).mono ?_; rintro e w13 ⟨rfl, hb⟩; have HB13 := zH (HB11.out.trans (hb.mono HB11.out.size)); clear hb))
       go_ret
       exact ⟨rfl, HB13.out⟩
     ·have HE0 := zH hE0
      have hen : (E != 0) = true := by simpa using hE0
      have hef : (E == 0) = false := by simpa using hE0
      clear hE0 CA2 CR2 CO2
      go_wp2_with (first
       | (go_at_call 13; refine (yff _).mono ?_; rintro e w1 ⟨p, rfl, ht, hb⟩; have HT := zH ht; have HB1 := zH (HB0.out.trans (hb.mono HB0.out.size)); have HV1 := zH (S6.RdRs.below HV0.out hb (zN _)); have HV1' := zH (S6.RdRs.below HV0'.out hb (zN _)); clear ht hb)
       | (go_at_call 15; have _t := tk1; refine (CO1.out _ _ HV1.out).mono ?_; rintro e w2 ⟨⟨v2, rfl, hr⟩, hb⟩; have HR2 := zH hr; have HT2 := zH (HT.out.below hb (zN _)); have HB2 := zH (HB1.out.trans (hb.mono HB1.out.size)); have HV2 := zH (S6.RdRs.below HV1.out hb (zN _)); have HV2' := zH (S6.RdRs.below HV1'.out hb (zN _)); clear hr hb _t tk1)
       | (go_at_call 14; have _t := tk2; refine (CA1.out _ _ _ _ HT2.out HR2.out).mono ?_; rintro e w3 ⟨-, h1, hb⟩; have h2 := h1 HE0.out; subst h2; have HT3 := zH (HT2.out.below hb (zN _)); have HB3 := zH (HB2.out.trans (hb.mono HB2.out.size)); have HV3 := zH (S6.RdRs.below HV2.out hb (zN _)); have HV3' := zH (S6.RdRs.below HV2'.out hb (zN _)); clear h1 hb _t tk2)
       | (go_at_call 18; have _t := tk3; refine (ycy _).mono ?_; rintro e w4 ⟨⟨u4, rfl, hu⟩, hb⟩; have HU4 := zH hu; have HT4 := zH (HT3.out.below hb (zN _)); have HB4 := zH (HB3.out.trans (hb.mono HB3.out.size)); have HV4 := zH (S6.RdRs.below HV3.out hb (zN _)); have HV4' := zH (S6.RdRs.below HV3'.out hb (zN _)); clear hu hb _t tk3)
       | (go_at_call 19; have _t := tk4; refine (CR1.out _ _ _ HU4.out HV4.out).mono ?_; rintro e w5 ⟨-, h1, hb⟩; have h2 := h1 HE0.out; subst h2; have hal := yaa w5 (.cells #[.slice none 0 0] 52); have hbb := hb.trans (hal.mono hb.size); have HT5 := zH (HT4.out.below hbb (zN _)); have HB5 := zH (HB4.out.trans (hbb.mono HB4.out.size)); clear h1 hb hal hbb _t tk4)
       | (go_at_call 18; have _t := tk5; refine (ycy _).mono ?_; rintro e w6 ⟨⟨u6, rfl, hu⟩, hb⟩; have HU6 := zH hu; have HT6 := zH (HT5.out.below hb (zN _)); have HB6 := zH (HB5.out.trans (hb.mono HB5.out.size)); clear hu hb _t tk5)
       | (go_at_call 20; have _t := tk6; refine (yed HT6.out HU6.out).mono ?_; rintro e w7 ⟨rfl, hb⟩; have HB7 := zH (HB6.out.trans (hb.mono HB6.out.size)); clear hb _t tk6)
       | (go_at_call 12; refine (HAW.out _).mono ?_; rintro e w8 ⟨rfl, hb⟩; have HB8 := zH (HB7.out.trans (hb.mono HB7.out.size)); clear hb))
      go_ret
      exact ⟨rfl, HB8.out⟩
end Go.Proofs.YtichfdjjbafeiaaGreat
