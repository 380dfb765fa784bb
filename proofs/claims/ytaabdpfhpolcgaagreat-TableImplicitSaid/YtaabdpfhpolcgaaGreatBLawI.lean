/-
  THE WALK of the law TableImplicit.
-/
import Derived.Test.YtaabdpfhpolcgaaGreatBSameC
import Derived.Deep.QuietTactic
import Derived.BigQuiet
namespace Go.Proofs.YtaabdpfhpolcgaaGreat
open Go.RowKit
set_option linter.unusedVariables false
set_option linter.unusedSimpArgs false
theorem impl_form {c : Int} {l : List Nat} (h : impl c = l) (w : World) : Calls Tryz.prog 33 #[.int .i64 c] w fun e w' => (∃ A d, e = .returned (.slice A l.length d) ∧ OwnE w.heap.size w' (.slice A l.length d) l) ∧ Below w.heap.size w w' := by
  have := impl_any c w
  rw [h] at this
  refine this.mono fun e w' => ?_
  rintro ⟨v, rfl, ho, hb⟩
  obtain ⟨A, d, rfl⟩ := ho.form
  exact ⟨⟨A, d, rfl, ho⟩, hb⟩
theorem rimpl_form {c : Int} {l : List Nat} (h : impl c = l) (w : World) : Calls Tryz.prog 34 #[.int .i64 c] w fun e w' => (∃ A d, e = .returned (.slice A l.length d) ∧ RdQ anyB w' (.slice A l.length d) l) ∧ Below w.heap.size w w' := by
  have := rimpl_any c w
  rw [h] at this
  refine this.mono fun e w' => ?_
  rintro ⟨v, rfl, ho, hb⟩
  obtain ⟨A, d, rfl⟩ := ho.form
  exact ⟨⟨A, d, rfl, ho.rd fun _ _ => trivial⟩, hb⟩
theorem impl_sg {c : Int} (h : T2.isSg c = true) : ∃ n : Nat, c = (n : Int) ∧ n ≤ 1114367 ∧ impl c = [E3.mk (64256 + n / 32768) 32 2 0, E3.mk (32768 + n % 32768) 32 2 0] := by
  obtain ⟨h0, h1⟩ := sg_range h
  refine ⟨c.toNat, by omega, by omega, ?_⟩
  unfold impl; rw [if_pos h]
theorem impl_not {c : Int} (h : T2.isSg c = false) : impl c = [] := by unfold impl; rw [h]; rfl
theorem mk_lt {p s t : Nat} (hp : p < 65536) (hs : s < 256) (ht : t < 128) : E3.mk p s t 0 < 4294967296 := by unfold E3.mk; omega
theorem mk_w1 {p s t : Nat} (hs : s < 256) (ht : t < 128) : E3.mk p s t 0 / 65536 = p := by unfold E3.mk; omega
theorem same_self {F G : Nat → Prop} {w : World} {u v : Value} {l : List Nat} (hu : RdE F w u l) (hv : RdQ G w v l) (hl : l.length ≤ 8) (hw : ∀ x ∈ l, x < 4294967296) :
    Calls Tryz.prog 24 #[u, v] w fun e w' => e = .returned (.bool true) ∧ Below w.heap.size w w' := same_any hu hv (by omega) (by omega) hw (by simp)
set_option maxHeartbeats 1000000 in
set_option maxRecDepth 100000 in
theorem impl_nn {a b : Int} (ha : T2.isSg a = false) (hb : T2.isSg b = false) (w : World) :
    Calls Tryz.prog 8 #[.int .i64 a, .int .i64 b] w fun e w' => e = .returned (.bool true) ∧ Below w.heap.size w w' := by
  have hla := impl_not ha
  have hlb := impl_not hb
  have CX := Lib.hid (fun w => impl_form hla w)
  have CY := Lib.hid (fun w => impl_form hlb w)
  have RX := Lib.hid (fun w => rimpl_form hla w)
  have RY := Lib.hid (fun w => rimpl_form hlb w)
  have WX := Lib.hid (impl_lt a)
  have WY := Lib.hid (impl_lt b)
  have NX := Lib.hid (impl_len a)
  have NY := Lib.hid (impl_len b)
  rw [hla] at WX NX
  rw [hlb] at WY NY
  have SA := Lib.hid (fun w => rsign_is ha w)
  have SB := Lib.hid (fun w => rsign_is hb w)
  have t1 : True := trivial
  clear hla hlb ha hb
  go_enter Tryz.func8, Tryz.ntmps8
  go_wp2_with (first
    | (go_at_call 33; (with_reducible refine (CX.out _).mono ?_); rintro e w1 ⟨⟨A1, d1, rfl, ho⟩, hb⟩; have X1 := Lib.hid ho; have B1 := Lib.hid hb; clear ho hb)
    | (go_at_call 33; (with_reducible refine (CY.out _).mono ?_); rintro e w2 ⟨⟨A2, d2, rfl, ho⟩, hb⟩; have Y2 := Lib.hid ho; have X2 := Lib.hid (X1.out.below hb (Nat.le_refl _)); have B2 := Lib.hid (B1.out.trans (hb.mono B1.out.size)); clear ho hb)
    | (go_at_call 34; (with_reducible refine (RX.out _).mono ?_); rintro e w3 ⟨⟨A3, d3, rfl, hr⟩, hb⟩; have Q3 := Lib.hid hr; have X3 := Lib.hid (X2.out.below hb (Nat.le_refl _)); have Y3 := Lib.hid (Y2.out.below hb (Nat.le_refl _)); have B3 := Lib.hid (B2.out.trans (hb.mono B2.out.size)); clear hr hb)
    | (go_at_call 24; have _t := t1; refine (same_self (X3.out.rd (F := anyB) fun _ _ => trivial) Q3.out NX.out WX.out).mono ?_; rintro e w4 ⟨rfl, hb⟩; have X4 := Lib.hid (X3.out.below hb (Nat.le_refl _)); have Y4 := Lib.hid (Y3.out.below hb (Nat.le_refl _)); have B4 := Lib.hid (B3.out.trans (hb.mono B3.out.size)); clear hb _t t1)
    | (go_at_call 34; (with_reducible refine (RY.out _).mono ?_); rintro e w5 ⟨⟨A5, d5, rfl, hr⟩, hb⟩; have Q5 := Lib.hid hr; have X5 := Lib.hid (X4.out.below hb (Nat.le_refl _)); have Y5 := Lib.hid (Y4.out.below hb (Nat.le_refl _)); have B5 := Lib.hid (B4.out.trans (hb.mono B4.out.size)); clear hr hb)
    | (go_at_call 24; refine (same_self (Y5.out.rd (F := anyB) fun _ _ => trivial) Q5.out NY.out WY.out).mono ?_; rintro e w6 ⟨rfl, hb⟩; have X6 := Lib.hid (X5.out.below hb (Nat.le_refl _)); have Y6 := Lib.hid (Y5.out.below hb (Nat.le_refl _)); have B6 := Lib.hid (B5.out.trans (hb.mono B5.out.size)); clear hb)
    | (go_at_call 35; (with_reducible refine (SA.out _).mono ?_); rintro e w' ⟨rfl, rfl⟩)
    | (go_at_call 35; (with_reducible refine (SB.out _).mono ?_); rintro e w' ⟨rfl, rfl⟩)
    | (go_at_call 16; refine (awake_any _).mono ?_; rintro e w9 ⟨rfl, hb⟩; have B9 := Lib.hid (B6.out.trans (hb.mono B6.out.size)); clear hb))
  go_ret
  exact ⟨rfl, B9.out⟩
set_option maxHeartbeats 1000000 in
set_option maxRecDepth 100000 in
theorem impl_ny {a b : Int} (ha : T2.isSg a = false) (hb : T2.isSg b = true) (w : World) :
    Calls Tryz.prog 8 #[.int .i64 a, .int .i64 b] w fun e w' => e = .returned (.bool true) ∧ Below w.heap.size w w' := by
  have hla := impl_not ha
  obtain ⟨n, eb, hn, hlb⟩ := impl_sg hb
  obtain ⟨y0, hy0⟩ : ∃ x, E3.mk (64256 + n / 32768) 32 2 0 = x := ⟨_, rfl⟩
  obtain ⟨y1, hy1⟩ : ∃ x, E3.mk (32768 + n % 32768) 32 2 0 = x := ⟨_, rfl⟩
  rw [hy0, hy1] at hlb
  clear hy0 hy1 eb hn
  have CX := Lib.hid (fun w => impl_form hla w)
  have CY := Lib.hid (fun w => impl_form hlb w)
  have RX := Lib.hid (fun w => rimpl_form hla w)
  have RY := Lib.hid (fun w => rimpl_form hlb w)
  have WX := Lib.hid (impl_lt a)
  have WY := Lib.hid (impl_lt b)
  have NX := Lib.hid (impl_len a)
  have NY := Lib.hid (impl_len b)
  rw [hla] at WX NX
  rw [hlb] at WY NY
  have SA := Lib.hid (fun w => rsign_is ha w)
  have SB := Lib.hid (fun w => rsign_is hb w)
  have t1 : True := trivial
  clear hla hlb ha hb
  go_enter Tryz.func8, Tryz.ntmps8
  go_wp2_with (first
    | (go_at_call 33; (with_reducible refine (CX.out _).mono ?_); rintro e w1 ⟨⟨A1, d1, rfl, ho⟩, hb⟩; have X1 := Lib.hid ho; have B1 := Lib.hid hb; clear ho hb)
    | (go_at_call 33; (with_reducible refine (CY.out _).mono ?_); rintro e w2 ⟨⟨A2, d2, rfl, ho⟩, hb⟩; have Y2 := Lib.hid ho; have X2 := Lib.hid (X1.out.below hb (Nat.le_refl _)); have B2 := Lib.hid (B1.out.trans (hb.mono B1.out.size)); clear ho hb)
    | (go_at_call 34; (with_reducible refine (RX.out _).mono ?_); rintro e w3 ⟨⟨A3, d3, rfl, hr⟩, hb⟩; have Q3 := Lib.hid hr; have X3 := Lib.hid (X2.out.below hb (Nat.le_refl _)); have Y3 := Lib.hid (Y2.out.below hb (Nat.le_refl _)); have B3 := Lib.hid (B2.out.trans (hb.mono B2.out.size)); clear hr hb)
    | (go_at_call 24; have _t := t1; refine (same_self (X3.out.rd (F := anyB) fun _ _ => trivial) Q3.out NX.out WX.out).mono ?_; rintro e w4 ⟨rfl, hb⟩; have X4 := Lib.hid (X3.out.below hb (Nat.le_refl _)); have Y4 := Lib.hid (Y3.out.below hb (Nat.le_refl _)); have B4 := Lib.hid (B3.out.trans (hb.mono B3.out.size)); clear hb _t t1)
    | (go_at_call 34; (with_reducible refine (RY.out _).mono ?_); rintro e w5 ⟨⟨A5, d5, rfl, hr⟩, hb⟩; have Q5 := Lib.hid hr; have X5 := Lib.hid (X4.out.below hb (Nat.le_refl _)); have Y5 := Lib.hid (Y4.out.below hb (Nat.le_refl _)); have B5 := Lib.hid (B4.out.trans (hb.mono B4.out.size)); clear hr hb)
    | (go_at_call 24; refine (same_self (Y5.out.rd (F := anyB) fun _ _ => trivial) Q5.out NY.out WY.out).mono ?_; rintro e w6 ⟨rfl, hb⟩; have X6 := Lib.hid (X5.out.below hb (Nat.le_refl _)); have Y6 := Lib.hid (Y5.out.below hb (Nat.le_refl _)); have B6 := Lib.hid (B5.out.trans (hb.mono B5.out.size)); clear hb)
    | (go_at_call 35; (with_reducible refine (SA.out _).mono ?_); rintro e w' ⟨rfl, rfl⟩)
    | (go_at_call 35; (with_reducible refine (SB.out _).mono ?_); rintro e w' ⟨rfl, rfl⟩)
    | (go_at_call 16; refine (awake_any _).mono ?_; rintro e w9 ⟨rfl, hb⟩; have B9 := Lib.hid (B6.out.trans (hb.mono B6.out.size)); clear hb))
  go_ret
  exact ⟨rfl, B9.out⟩
set_option maxHeartbeats 1000000 in
set_option maxRecDepth 100000 in
theorem impl_yn {a b : Int} (ha : T2.isSg a = true) (hb : T2.isSg b = false) (w : World) :
    Calls Tryz.prog 8 #[.int .i64 a, .int .i64 b] w fun e w' => e = .returned (.bool true) ∧ Below w.heap.size w w' := by
  obtain ⟨n, ea, hn, hla⟩ := impl_sg ha
  obtain ⟨x0, hx0⟩ : ∃ x, E3.mk (64256 + n / 32768) 32 2 0 = x := ⟨_, rfl⟩
  obtain ⟨x1, hx1⟩ : ∃ x, E3.mk (32768 + n % 32768) 32 2 0 = x := ⟨_, rfl⟩
  rw [hx0, hx1] at hla
  clear hx0 hx1 ea hn
  have hlb := impl_not hb
  have CX := Lib.hid (fun w => impl_form hla w)
  have CY := Lib.hid (fun w => impl_form hlb w)
  have RX := Lib.hid (fun w => rimpl_form hla w)
  have RY := Lib.hid (fun w => rimpl_form hlb w)
  have WX := Lib.hid (impl_lt a)
  have WY := Lib.hid (impl_lt b)
  have NX := Lib.hid (impl_len a)
  have NY := Lib.hid (impl_len b)
  rw [hla] at WX NX
  rw [hlb] at WY NY
  have SA := Lib.hid (fun w => rsign_is ha w)
  have SB := Lib.hid (fun w => rsign_is hb w)
  have t1 : True := trivial
  clear hla hlb ha hb
  go_enter Tryz.func8, Tryz.ntmps8
  go_wp2_with (first
    | (go_at_call 33; (with_reducible refine (CX.out _).mono ?_); rintro e w1 ⟨⟨A1, d1, rfl, ho⟩, hb⟩; have X1 := Lib.hid ho; have B1 := Lib.hid hb; clear ho hb)
    | (go_at_call 33; (with_reducible refine (CY.out _).mono ?_); rintro e w2 ⟨⟨A2, d2, rfl, ho⟩, hb⟩; have Y2 := Lib.hid ho; have X2 := Lib.hid (X1.out.below hb (Nat.le_refl _)); have B2 := Lib.hid (B1.out.trans (hb.mono B1.out.size)); clear ho hb)
    | (go_at_call 34; (with_reducible refine (RX.out _).mono ?_); rintro e w3 ⟨⟨A3, d3, rfl, hr⟩, hb⟩; have Q3 := Lib.hid hr; have X3 := Lib.hid (X2.out.below hb (Nat.le_refl _)); have Y3 := Lib.hid (Y2.out.below hb (Nat.le_refl _)); have B3 := Lib.hid (B2.out.trans (hb.mono B2.out.size)); clear hr hb)
    | (go_at_call 24; have _t := t1; refine (same_self (X3.out.rd (F := anyB) fun _ _ => trivial) Q3.out NX.out WX.out).mono ?_; rintro e w4 ⟨rfl, hb⟩; have X4 := Lib.hid (X3.out.below hb (Nat.le_refl _)); have Y4 := Lib.hid (Y3.out.below hb (Nat.le_refl _)); have B4 := Lib.hid (B3.out.trans (hb.mono B3.out.size)); clear hb _t t1)
    | (go_at_call 34; (with_reducible refine (RY.out _).mono ?_); rintro e w5 ⟨⟨A5, d5, rfl, hr⟩, hb⟩; have Q5 := Lib.hid hr; have X5 := Lib.hid (X4.out.below hb (Nat.le_refl _)); have Y5 := Lib.hid (Y4.out.below hb (Nat.le_refl _)); have B5 := Lib.hid (B4.out.trans (hb.mono B4.out.size)); clear hr hb)
    | (go_at_call 24; refine (same_self (Y5.out.rd (F := anyB) fun _ _ => trivial) Q5.out NY.out WY.out).mono ?_; rintro e w6 ⟨rfl, hb⟩; have X6 := Lib.hid (X5.out.below hb (Nat.le_refl _)); have Y6 := Lib.hid (Y5.out.below hb (Nat.le_refl _)); have B6 := Lib.hid (B5.out.trans (hb.mono B5.out.size)); clear hb)
    | (go_at_call 35; (with_reducible refine (SA.out _).mono ?_); rintro e w' ⟨rfl, rfl⟩)
    | (go_at_call 35; (with_reducible refine (SB.out _).mono ?_); rintro e w' ⟨rfl, rfl⟩)
    | (go_at_call 16; refine (awake_any _).mono ?_; rintro e w9 ⟨rfl, hb⟩; have B9 := Lib.hid (B6.out.trans (hb.mono B6.out.size)); clear hb))
  go_ret
  exact ⟨rfl, B9.out⟩
theorem ownE_base {B : Nat} {w : World} {A : Option Addr} {d : Nat} {x y : Nat} (h : OwnE B w (.slice A 2 d) [x, y]) : ∃ g, A = some ⟨g, 0, none⟩ := by
  obtain ⟨g, c, e, _⟩ := ownE_two h
  cases e
  exact ⟨g, rfl⟩
theorem weight1_q {x p : Nat} (h : x < 4294967296) (hp : x / 65536 = p) (w : World) : Calls Tryz.prog 14 #[.int .u32 x, .int .i64 1] w fun r w' => r = .returned (.int .i64 p) ∧ w' = w := (weight1_is h hp w).mono fun _ _ ⟨he, hw⟩ => ⟨he, hw.symm⟩
theorem two_at {B : Nat} {w : World} {g d : Nat} {x y : Nat} (h : OwnE B w (.slice (some ⟨g, 0, none⟩) 2 d) [x, y]) : w.cell? ⟨g, 0, none⟩ = some (.int .u32 (x : Int)) ∧ w.cell? ⟨g, 1, none⟩ = some (.int .u32 (y : Int)) := by
  obtain ⟨g', c, e, h1, h2, _⟩ := ownE_two h
  cases e
  exact ⟨h1, h2⟩
set_option maxHeartbeats 2000000 in
set_option maxRecDepth 100000 in
theorem impl_lt1 {a b : Int} {x0 x1 y0 y1 P Q R S : Nat} (hla : impl a = [x0, x1]) (hlb : impl b = [y0, y1]) (HP : Hid (∀ w, Calls Tryz.prog 14 #[.int .u32 (x0 : Int), .int .i64 1] w fun r w' => r = .returned (.int .i64 (P : Int)) ∧ w' = w)) (HQ : Hid (∀ w, Calls Tryz.prog 14 #[.int .u32 (y0 : Int), .int .i64 1] w fun r w' => r = .returned (.int .i64 (Q : Int)) ∧ w' = w))
    (HR : Hid (∀ w, Calls Tryz.prog 14 #[.int .u32 (x1 : Int), .int .i64 1] w fun r w' => r = .returned (.int .i64 (R : Int)) ∧ w' = w)) (HS : Hid (∀ w, Calls Tryz.prog 14 #[.int .u32 (y1 : Int), .int .i64 1] w fun r w' => r = .returned (.int .i64 (S : Int)) ∧ w' = w)) (h1 : P < Q) (hab : a < b) (w : World) :
    Calls Tryz.prog 8 #[.int .i64 a, .int .i64 b] w fun e w' => e = .returned (.bool true) ∧ Below w.heap.size w w' := by
  have CX := Lib.hid (fun w => impl_form hla w)
  have CY := Lib.hid (fun w => impl_form hlb w)
  have RX := Lib.hid (fun w => rimpl_form hla w)
  have RY := Lib.hid (fun w => rimpl_form hlb w)
  have WX := Lib.hid (impl_lt a)
  have WY := Lib.hid (impl_lt b)
  have NX := Lib.hid (impl_len a)
  have NY := Lib.hid (impl_len b)
  rw [hla] at WX NX
  rw [hlb] at WY NY
  have q1 : decide ((P : Int) < (Q : Int)) = true := by simp; omega
  have q1' : (P : Int) < (Q : Int) := by omega
  have q2 : decide (a < b) = true := by simp; omega
  have t1 : True := trivial
  clear hla hlb
  go_enter Tryz.func8, Tryz.ntmps8
  go_wp2_with (first
    | (go_at_call 33; (with_reducible refine (CX.out _).mono ?_); rintro e w1 ⟨⟨A1, d1, rfl, ho⟩, hb⟩; have X1 := Lib.hid ho; have B1 := Lib.hid hb; clear ho hb)
    | (go_at_call 33; (with_reducible refine (CY.out _).mono ?_); rintro e w2 ⟨⟨A2, d2, rfl, ho⟩, hb⟩; have Y2 := Lib.hid ho; have X2 := Lib.hid (X1.out.below hb (Nat.le_refl _)); have B2 := Lib.hid (B1.out.trans (hb.mono B1.out.size)); obtain ⟨g2, rfl⟩ := ownE_base ho; obtain ⟨g1, rfl⟩ := ownE_base X1.out; clear ho hb)
    | (go_at_call 34; (with_reducible refine (RX.out _).mono ?_); rintro e w3 ⟨⟨A3, d3, rfl, hr⟩, hb⟩; have Q3 := Lib.hid hr; have X3 := Lib.hid (X2.out.below hb (Nat.le_refl _)); have Y3 := Lib.hid (Y2.out.below hb (Nat.le_refl _)); have B3 := Lib.hid (B2.out.trans (hb.mono B2.out.size)); clear hr hb)
    | (go_at_call 24; have _t := t1; refine (same_self (X3.out.rd (F := anyB) fun _ _ => trivial) Q3.out NX.out WX.out).mono ?_; rintro e w4 ⟨rfl, hb⟩; have X4 := Lib.hid (X3.out.below hb (Nat.le_refl _)); have Y4 := Lib.hid (Y3.out.below hb (Nat.le_refl _)); have B4 := Lib.hid (B3.out.trans (hb.mono B3.out.size)); clear hb _t t1)
    | (go_at_call 34; (with_reducible refine (RY.out _).mono ?_); rintro e w5 ⟨⟨A5, d5, rfl, hr⟩, hb⟩; have Q5 := Lib.hid hr; have X5 := Lib.hid (X4.out.below hb (Nat.le_refl _)); have Y5 := Lib.hid (Y4.out.below hb (Nat.le_refl _)); have B5 := Lib.hid (B4.out.trans (hb.mono B4.out.size)); clear hr hb)
    | (go_at_call 24; refine (same_self (Y5.out.rd (F := anyB) fun _ _ => trivial) Q5.out NY.out WY.out).mono ?_; rintro e w6 ⟨rfl, hb⟩; have z1 := two_at (X5.out.below hb (Nat.le_refl _)); have z2 := two_at (Y5.out.below hb (Nat.le_refl _)); obtain ⟨c0, c1⟩ := z1; obtain ⟨c2, c3⟩ := z2; have B6 := Lib.hid (B5.out.trans (hb.mono B5.out.size)); clear hb))
  go_quiet ((first
    | (go_at_call 14; with_reducible exact Calls.quiet_of_same (HP.out _))
    | (go_at_call 14; with_reducible exact Calls.quiet_of_same (HQ.out _))
    | (go_at_call 14; with_reducible exact Calls.quiet_of_same (HR.out _))
    | (go_at_call 14; with_reducible exact Calls.quiet_of_same (HS.out _))))
  go_wp2_with (go_at_call 16; refine (awake_any _).mono ?_; rintro e w9 ⟨rfl, hb⟩; have B9 := Lib.hid ((B6.out.trans ((below_drewN w6 _).mono B6.out.size)).trans (hb.mono B6.out.size)); clear hb)
  go_ret
  exact ⟨rfl, B9.out⟩
set_option maxHeartbeats 2000000 in
set_option maxRecDepth 100000 in
theorem impl_gt1 {a b : Int} {x0 x1 y0 y1 P Q R S : Nat} (hla : impl a = [x0, x1]) (hlb : impl b = [y0, y1]) (HP : Hid (∀ w, Calls Tryz.prog 14 #[.int .u32 (x0 : Int), .int .i64 1] w fun r w' => r = .returned (.int .i64 (P : Int)) ∧ w' = w)) (HQ : Hid (∀ w, Calls Tryz.prog 14 #[.int .u32 (y0 : Int), .int .i64 1] w fun r w' => r = .returned (.int .i64 (Q : Int)) ∧ w' = w))
    (HR : Hid (∀ w, Calls Tryz.prog 14 #[.int .u32 (x1 : Int), .int .i64 1] w fun r w' => r = .returned (.int .i64 (R : Int)) ∧ w' = w)) (HS : Hid (∀ w, Calls Tryz.prog 14 #[.int .u32 (y1 : Int), .int .i64 1] w fun r w' => r = .returned (.int .i64 (S : Int)) ∧ w' = w)) (h1 : Q < P) (hab : b < a) (w : World) :
    Calls Tryz.prog 8 #[.int .i64 a, .int .i64 b] w fun e w' => e = .returned (.bool true) ∧ Below w.heap.size w w' := by
  have CX := Lib.hid (fun w => impl_form hla w)
  have CY := Lib.hid (fun w => impl_form hlb w)
  have RX := Lib.hid (fun w => rimpl_form hla w)
  have RY := Lib.hid (fun w => rimpl_form hlb w)
  have WX := Lib.hid (impl_lt a)
  have WY := Lib.hid (impl_lt b)
  have NX := Lib.hid (impl_len a)
  have NY := Lib.hid (impl_len b)
  rw [hla] at WX NX
  rw [hlb] at WY NY
  have q0 : decide (P < Q) = false := by simp; omega
  have q1 : decide ((P : Int) < (Q : Int)) = false := by simp; omega
  have q1' : ¬ (P : Int) < (Q : Int) := by omega
  have q2 : decide (a < b) = false := by simp; omega
  have q3 : ((P : Int) == (Q : Int)) = false := by rw [beq_eq_false_iff_ne]; omega
  have q4 : (P == Q) = false := by rw [beq_eq_false_iff_ne]; omega
  have t1 : True := trivial
  clear hla hlb
  go_enter Tryz.func8, Tryz.ntmps8
  go_wp2_with (first
    | (go_at_call 33; (with_reducible refine (CX.out _).mono ?_); rintro e w1 ⟨⟨A1, d1, rfl, ho⟩, hb⟩; have X1 := Lib.hid ho; have B1 := Lib.hid hb; clear ho hb)
    | (go_at_call 33; (with_reducible refine (CY.out _).mono ?_); rintro e w2 ⟨⟨A2, d2, rfl, ho⟩, hb⟩; have Y2 := Lib.hid ho; have X2 := Lib.hid (X1.out.below hb (Nat.le_refl _)); have B2 := Lib.hid (B1.out.trans (hb.mono B1.out.size)); obtain ⟨g2, rfl⟩ := ownE_base ho; obtain ⟨g1, rfl⟩ := ownE_base X1.out; clear ho hb)
    | (go_at_call 34; (with_reducible refine (RX.out _).mono ?_); rintro e w3 ⟨⟨A3, d3, rfl, hr⟩, hb⟩; have Q3 := Lib.hid hr; have X3 := Lib.hid (X2.out.below hb (Nat.le_refl _)); have Y3 := Lib.hid (Y2.out.below hb (Nat.le_refl _)); have B3 := Lib.hid (B2.out.trans (hb.mono B2.out.size)); clear hr hb)
    | (go_at_call 24; have _t := t1; refine (same_self (X3.out.rd (F := anyB) fun _ _ => trivial) Q3.out NX.out WX.out).mono ?_; rintro e w4 ⟨rfl, hb⟩; have X4 := Lib.hid (X3.out.below hb (Nat.le_refl _)); have Y4 := Lib.hid (Y3.out.below hb (Nat.le_refl _)); have B4 := Lib.hid (B3.out.trans (hb.mono B3.out.size)); clear hb _t t1)
    | (go_at_call 34; (with_reducible refine (RY.out _).mono ?_); rintro e w5 ⟨⟨A5, d5, rfl, hr⟩, hb⟩; have Q5 := Lib.hid hr; have X5 := Lib.hid (X4.out.below hb (Nat.le_refl _)); have Y5 := Lib.hid (Y4.out.below hb (Nat.le_refl _)); have B5 := Lib.hid (B4.out.trans (hb.mono B4.out.size)); clear hr hb)
    | (go_at_call 24; refine (same_self (Y5.out.rd (F := anyB) fun _ _ => trivial) Q5.out NY.out WY.out).mono ?_; rintro e w6 ⟨rfl, hb⟩; have z1 := two_at (X5.out.below hb (Nat.le_refl _)); have z2 := two_at (Y5.out.below hb (Nat.le_refl _)); obtain ⟨c0, c1⟩ := z1; obtain ⟨c2, c3⟩ := z2; have B6 := Lib.hid (B5.out.trans (hb.mono B5.out.size)); clear hb))
  go_quiet ((first
    | (go_at_call 14; with_reducible exact Calls.quiet_of_same (HP.out _))
    | (go_at_call 14; with_reducible exact Calls.quiet_of_same (HQ.out _))
    | (go_at_call 14; with_reducible exact Calls.quiet_of_same (HR.out _))
    | (go_at_call 14; with_reducible exact Calls.quiet_of_same (HS.out _))))
  go_wp2_with (go_at_call 16; refine (awake_any _).mono ?_; rintro e w9 ⟨rfl, hb⟩; have B9 := Lib.hid ((B6.out.trans ((below_drewN w6 _).mono B6.out.size)).trans (hb.mono B6.out.size)); clear hb)
  go_ret
  exact ⟨rfl, B9.out⟩
set_option maxHeartbeats 2000000 in
set_option maxRecDepth 100000 in
theorem impl_eq1 {a b : Int} {x0 x1 y0 y1 P Q R S : Nat} (hla : impl a = [x0, x1]) (hlb : impl b = [y0, y1]) (HP : Hid (∀ w, Calls Tryz.prog 14 #[.int .u32 (x0 : Int), .int .i64 1] w fun r w' => r = .returned (.int .i64 (P : Int)) ∧ w' = w)) (HQ : Hid (∀ w, Calls Tryz.prog 14 #[.int .u32 (y0 : Int), .int .i64 1] w fun r w' => r = .returned (.int .i64 (Q : Int)) ∧ w' = w))
    (HR : Hid (∀ w, Calls Tryz.prog 14 #[.int .u32 (x1 : Int), .int .i64 1] w fun r w' => r = .returned (.int .i64 (R : Int)) ∧ w' = w)) (HS : Hid (∀ w, Calls Tryz.prog 14 #[.int .u32 (y1 : Int), .int .i64 1] w fun r w' => r = .returned (.int .i64 (S : Int)) ∧ w' = w)) (h1 : P = Q) (h2 : R < S) (hab : a < b) (w : World) :
    Calls Tryz.prog 8 #[.int .i64 a, .int .i64 b] w fun e w' => e = .returned (.bool true) ∧ Below w.heap.size w w' := by
  have CX := Lib.hid (fun w => impl_form hla w)
  have CY := Lib.hid (fun w => impl_form hlb w)
  have RX := Lib.hid (fun w => rimpl_form hla w)
  have RY := Lib.hid (fun w => rimpl_form hlb w)
  have WX := Lib.hid (impl_lt a)
  have WY := Lib.hid (impl_lt b)
  have NX := Lib.hid (impl_len a)
  have NY := Lib.hid (impl_len b)
  rw [hla] at WX NX
  rw [hlb] at WY NY
  subst h1
  have q2 : decide (a < b) = true := by simp; omega
  have q5 : decide ((R : Int) < (S : Int)) = true := by simp; omega
  have q5' : (R : Int) < (S : Int) := by omega
  have t1 : True := trivial
  clear hla hlb
  go_enter Tryz.func8, Tryz.ntmps8
  go_wp2_with (first
    | (go_at_call 33; (with_reducible refine (CX.out _).mono ?_); rintro e w1 ⟨⟨A1, d1, rfl, ho⟩, hb⟩; have X1 := Lib.hid ho; have B1 := Lib.hid hb; clear ho hb)
    | (go_at_call 33; (with_reducible refine (CY.out _).mono ?_); rintro e w2 ⟨⟨A2, d2, rfl, ho⟩, hb⟩; have Y2 := Lib.hid ho; have X2 := Lib.hid (X1.out.below hb (Nat.le_refl _)); have B2 := Lib.hid (B1.out.trans (hb.mono B1.out.size)); obtain ⟨g2, rfl⟩ := ownE_base ho; obtain ⟨g1, rfl⟩ := ownE_base X1.out; clear ho hb)
    | (go_at_call 34; (with_reducible refine (RX.out _).mono ?_); rintro e w3 ⟨⟨A3, d3, rfl, hr⟩, hb⟩; have Q3 := Lib.hid hr; have X3 := Lib.hid (X2.out.below hb (Nat.le_refl _)); have Y3 := Lib.hid (Y2.out.below hb (Nat.le_refl _)); have B3 := Lib.hid (B2.out.trans (hb.mono B2.out.size)); clear hr hb)
    | (go_at_call 24; have _t := t1; refine (same_self (X3.out.rd (F := anyB) fun _ _ => trivial) Q3.out NX.out WX.out).mono ?_; rintro e w4 ⟨rfl, hb⟩; have X4 := Lib.hid (X3.out.below hb (Nat.le_refl _)); have Y4 := Lib.hid (Y3.out.below hb (Nat.le_refl _)); have B4 := Lib.hid (B3.out.trans (hb.mono B3.out.size)); clear hb _t t1)
    | (go_at_call 34; (with_reducible refine (RY.out _).mono ?_); rintro e w5 ⟨⟨A5, d5, rfl, hr⟩, hb⟩; have Q5 := Lib.hid hr; have X5 := Lib.hid (X4.out.below hb (Nat.le_refl _)); have Y5 := Lib.hid (Y4.out.below hb (Nat.le_refl _)); have B5 := Lib.hid (B4.out.trans (hb.mono B4.out.size)); clear hr hb)
    | (go_at_call 24; refine (same_self (Y5.out.rd (F := anyB) fun _ _ => trivial) Q5.out NY.out WY.out).mono ?_; rintro e w6 ⟨rfl, hb⟩; have z1 := two_at (X5.out.below hb (Nat.le_refl _)); have z2 := two_at (Y5.out.below hb (Nat.le_refl _)); obtain ⟨c0, c1⟩ := z1; obtain ⟨c2, c3⟩ := z2; have B6 := Lib.hid (B5.out.trans (hb.mono B5.out.size)); clear hb))
  go_quiet ((first
    | (go_at_call 14; with_reducible exact Calls.quiet_of_same (HP.out _))
    | (go_at_call 14; with_reducible exact Calls.quiet_of_same (HQ.out _))
    | (go_at_call 14; with_reducible exact Calls.quiet_of_same (HR.out _))
    | (go_at_call 14; with_reducible exact Calls.quiet_of_same (HS.out _))))
  go_wp2_with (go_at_call 16; refine (awake_any _).mono ?_; rintro e w9 ⟨rfl, hb⟩; have B9 := Lib.hid ((B6.out.trans ((below_drewN w6 _).mono B6.out.size)).trans (hb.mono B6.out.size)); clear hb)
  go_ret
  exact ⟨rfl, B9.out⟩
set_option maxHeartbeats 2000000 in
set_option maxRecDepth 100000 in
theorem impl_eq2 {a b : Int} {x0 x1 y0 y1 P Q R S : Nat} (hla : impl a = [x0, x1]) (hlb : impl b = [y0, y1]) (HP : Hid (∀ w, Calls Tryz.prog 14 #[.int .u32 (x0 : Int), .int .i64 1] w fun r w' => r = .returned (.int .i64 (P : Int)) ∧ w' = w)) (HQ : Hid (∀ w, Calls Tryz.prog 14 #[.int .u32 (y0 : Int), .int .i64 1] w fun r w' => r = .returned (.int .i64 (Q : Int)) ∧ w' = w))
    (HR : Hid (∀ w, Calls Tryz.prog 14 #[.int .u32 (x1 : Int), .int .i64 1] w fun r w' => r = .returned (.int .i64 (R : Int)) ∧ w' = w)) (HS : Hid (∀ w, Calls Tryz.prog 14 #[.int .u32 (y1 : Int), .int .i64 1] w fun r w' => r = .returned (.int .i64 (S : Int)) ∧ w' = w)) (h1 : P = Q) (h2 : ¬ R < S) (hab : ¬ a < b) (w : World) :
    Calls Tryz.prog 8 #[.int .i64 a, .int .i64 b] w fun e w' => e = .returned (.bool true) ∧ Below w.heap.size w w' := by
  have CX := Lib.hid (fun w => impl_form hla w)
  have CY := Lib.hid (fun w => impl_form hlb w)
  have RX := Lib.hid (fun w => rimpl_form hla w)
  have RY := Lib.hid (fun w => rimpl_form hlb w)
  have WX := Lib.hid (impl_lt a)
  have WY := Lib.hid (impl_lt b)
  have NX := Lib.hid (impl_len a)
  have NY := Lib.hid (impl_len b)
  rw [hla] at WX NX
  rw [hlb] at WY NY
  subst h1
  have q2 : decide (a < b) = false := by simp; omega
  have q5 : decide ((R : Int) < (S : Int)) = false := by simp; omega
  have q5' : ¬ (R : Int) < (S : Int) := by omega
  have t1 : True := trivial
  clear hla hlb
  go_enter Tryz.func8, Tryz.ntmps8
  go_wp2_with (first
    | (go_at_call 33; (with_reducible refine (CX.out _).mono ?_); rintro e w1 ⟨⟨A1, d1, rfl, ho⟩, hb⟩; have X1 := Lib.hid ho; have B1 := Lib.hid hb; clear ho hb)
    | (go_at_call 33; (with_reducible refine (CY.out _).mono ?_); rintro e w2 ⟨⟨A2, d2, rfl, ho⟩, hb⟩; have Y2 := Lib.hid ho; have X2 := Lib.hid (X1.out.below hb (Nat.le_refl _)); have B2 := Lib.hid (B1.out.trans (hb.mono B1.out.size)); obtain ⟨g2, rfl⟩ := ownE_base ho; obtain ⟨g1, rfl⟩ := ownE_base X1.out; clear ho hb)
    | (go_at_call 34; (with_reducible refine (RX.out _).mono ?_); rintro e w3 ⟨⟨A3, d3, rfl, hr⟩, hb⟩; have Q3 := Lib.hid hr; have X3 := Lib.hid (X2.out.below hb (Nat.le_refl _)); have Y3 := Lib.hid (Y2.out.below hb (Nat.le_refl _)); have B3 := Lib.hid (B2.out.trans (hb.mono B2.out.size)); clear hr hb)
    | (go_at_call 24; have _t := t1; refine (same_self (X3.out.rd (F := anyB) fun _ _ => trivial) Q3.out NX.out WX.out).mono ?_; rintro e w4 ⟨rfl, hb⟩; have X4 := Lib.hid (X3.out.below hb (Nat.le_refl _)); have Y4 := Lib.hid (Y3.out.below hb (Nat.le_refl _)); have B4 := Lib.hid (B3.out.trans (hb.mono B3.out.size)); clear hb _t t1)
    | (go_at_call 34; (with_reducible refine (RY.out _).mono ?_); rintro e w5 ⟨⟨A5, d5, rfl, hr⟩, hb⟩; have Q5 := Lib.hid hr; have X5 := Lib.hid (X4.out.below hb (Nat.le_refl _)); have Y5 := Lib.hid (Y4.out.below hb (Nat.le_refl _)); have B5 := Lib.hid (B4.out.trans (hb.mono B4.out.size)); clear hr hb)
    | (go_at_call 24; refine (same_self (Y5.out.rd (F := anyB) fun _ _ => trivial) Q5.out NY.out WY.out).mono ?_; rintro e w6 ⟨rfl, hb⟩; have z1 := two_at (X5.out.below hb (Nat.le_refl _)); have z2 := two_at (Y5.out.below hb (Nat.le_refl _)); obtain ⟨c0, c1⟩ := z1; obtain ⟨c2, c3⟩ := z2; have B6 := Lib.hid (B5.out.trans (hb.mono B5.out.size)); clear hb))
  go_quiet ((first
    | (go_at_call 14; with_reducible exact Calls.quiet_of_same (HP.out _))
    | (go_at_call 14; with_reducible exact Calls.quiet_of_same (HQ.out _))
    | (go_at_call 14; with_reducible exact Calls.quiet_of_same (HR.out _))
    | (go_at_call 14; with_reducible exact Calls.quiet_of_same (HS.out _))))
  go_wp2_with (go_at_call 16; refine (awake_any _).mono ?_; rintro e w9 ⟨rfl, hb⟩; have B9 := Lib.hid ((B6.out.trans ((below_drewN w6 _).mono B6.out.size)).trans (hb.mono B6.out.size)); clear hb)
  go_ret
  exact ⟨rfl, B9.out⟩
theorem tableImplicit_walk (a b : Int) (w : World) (w0 : -9223372036854775808 ≤ a ∧ a ≤ 9223372036854775807) (w1 : -9223372036854775808 ≤ b ∧ b ≤ 9223372036854775807) :
    Calls Tryz.prog 8 #[.int .i64 a, .int .i64 b] w fun e w' => e = .returned (.bool true) ∧ Below w.heap.size w w' := by
  cases ha : T2.isSg a with
  | false => cases hb : T2.isSg b with
    | false => exact impl_nn ha hb w
    | true => exact impl_ny ha hb w
  | true => cases hb : T2.isSg b with
    | false => exact impl_yn ha hb w
    | true =>
      obtain ⟨n, rfl, hn, hla⟩ := impl_sg ha
      obtain ⟨m, rfl, hm, hlb⟩ := impl_sg hb
      have HP := Lib.hid (fun w => weight1_q (x := E3.mk (64256 + n / 32768) 32 2 0) (p := 64256 + n / 32768) (mk_lt (by omega) (by omega) (by omega)) (mk_w1 (by omega) (by omega)) w)
      have HQ := Lib.hid (fun w => weight1_q (x := E3.mk (64256 + m / 32768) 32 2 0) (p := 64256 + m / 32768) (mk_lt (by omega) (by omega) (by omega)) (mk_w1 (by omega) (by omega)) w)
      have HR := Lib.hid (fun w => weight1_q (x := E3.mk (32768 + n % 32768) 32 2 0) (p := 32768 + n % 32768) (mk_lt (by omega) (by omega) (by omega)) (mk_w1 (by omega) (by omega)) w)
      have HS := Lib.hid (fun w => weight1_q (x := E3.mk (32768 + m % 32768) 32 2 0) (p := 32768 + m % 32768) (mk_lt (by omega) (by omega) (by omega)) (mk_w1 (by omega) (by omega)) w)
      by_cases h1 : 64256 + n / 32768 < 64256 + m / 32768
      · exact impl_lt1 hla hlb HP HQ HR HS h1 (by omega) w
      · by_cases h2 : 64256 + m / 32768 < 64256 + n / 32768
        · exact impl_gt1 hla hlb HP HQ HR HS h2 (by omega) w
        · by_cases h3 : 32768 + n % 32768 < 32768 + m % 32768
          · exact impl_eq1 hla hlb HP HQ HR HS (by omega) h3 (by omega) w
          · exact impl_eq2 hla hlb HP HQ HR HS (by omega) h3 (by omega) w
end Go.Proofs.YtaabdpfhpolcgaaGreat
