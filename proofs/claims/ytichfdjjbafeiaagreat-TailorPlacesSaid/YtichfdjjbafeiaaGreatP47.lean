/-
  PACKED for a claim.
-/
import Derived.Test.YtichfdjjbafeiaaGreatP41
import Derived.Test.YtichfdjjbafeiaaGreatP46
set_option linter.unusedVariables false
set_option linter.unusedSimpArgs false
set_option maxRecDepth 100000
namespace Go.Proofs.YtichfdjjbafeiaaGreat
open Go.RowKit
set_option maxHeartbeats 2000000 in
theorem yon {B : Nat} {w : World} {px : Nat} {t : ST} (hT : TA B w px t) {A : List Nat} (hA : t.A = some A) (h8 : Anc A) {r E : Int} (hE : chgE r t.L A = E) :
  Calls Tryz.prog 74 #[.pointer (some ⟨px, 0, none⟩), .int .i64 r] w (MovIs B px ⟨chgL r t.L A, some (chgA r A)⟩ E w) := by
 have HB := zH (Nat.le_trans hT.bel (Nat.le_of_lt hT.lt))
 have ht : t = ⟨t.L, some A⟩ := by rw [<- hA]
 by_cases e2 : r = 2
 ·subst e2
  have CM : Hid (Calls Tryz.prog 122 #[.pointer (some ⟨px, 0, none⟩), .int .i64 1] w (MovIs B px ⟨chgL 2 t.L A, some (chgA 2 A)⟩ E w)) := yim hT hA h8 (.inl rfl) hE
  clear hT hA h8 hE ht
  go_enter Tryz.func74, Tryz.ntmps74
  go_wp2_with (go_at_call 122; refine (CM.out).mono ?_; rintro q w1 ⟨rfl, h1, h2, h3⟩; have H1 := zH h1; have H2 := zH h2; have H3 := zH h3; clear h1 h2 h3)
  go_ret
  exact ⟨rfl, H1.out, H2.out, H3.out⟩
 ·by_cases e3 : r = 3
  ·subst e3
   have CM : Hid (Calls Tryz.prog 122 #[.pointer (some ⟨px, 0, none⟩), .int .i64 2] w (MovIs B px ⟨chgL 3 t.L A, some (chgA 3 A)⟩ E w)) := yim hT hA h8 (.inr (.inl rfl)) hE
   clear hT hA h8 hE ht e2
   go_enter Tryz.func74, Tryz.ntmps74
   go_wp2_with (go_at_call 122; refine (CM.out).mono ?_; rintro q w1 ⟨rfl, h1, h2, h3⟩; have H1 := zH h1; have H2 := zH h2; have H3 := zH h3; clear h1 h2 h3)
   go_ret
   exact ⟨rfl, H1.out, H2.out, H3.out⟩
  ·by_cases e4 : r = 4
   ·subst e4
    have CM : Hid (Calls Tryz.prog 122 #[.pointer (some ⟨px, 0, none⟩), .int .i64 3] w (MovIs B px ⟨chgL 4 t.L A, some (chgA 4 A)⟩ E w)) := yim hT hA h8 (.inr (.inr rfl)) hE
    clear hT hA h8 hE ht e2 e3
    go_enter Tryz.func74, Tryz.ntmps74
    go_wp2_with (go_at_call 122; refine (CM.out).mono ?_; rintro q w1 ⟨rfl, h1, h2, h3⟩; have H1 := zH h1; have H2 := zH h2; have H3 := zH h3; clear h1 h2 h3)
    go_ret
    exact ⟨rfl, H1.out, H2.out, H3.out⟩
   ·have b2 : (r == 2) = false := by rw [beq_eq_false_iff_ne]; exact e2
    have b3 : (r == 3) = false := by rw [beq_eq_false_iff_ne]; exact e3
    have b4 : (r == 4) = false := by rw [beq_eq_false_iff_ne]; exact e4
    unfold chgE at hE; unfold chgL chgA; simp only [if_neg e2, if_neg e3, if_neg e4] at hE |-
    by_cases e5 : r = 5
    ·subst e5; rw [if_pos rfl] at hE; subst hE
     have HT : Hid (TA B w px ⟨t.L, some A⟩) := by show TA _ _ _ _; rw [<- ht]; exact hT
     clear hT hA h8 ht e2 e3 e4 b2 b3 b4
     go_enter Tryz.func74, Tryz.ntmps74
     go_wp2
     go_ret
     exact ⟨rfl, fun _ => HT.out, zR _ _, Kp.of_below (zR _ _)⟩
    ·have b5 : (r == 5) = false := by rw [beq_eq_false_iff_ne]; exact e5
     rw [if_neg e5] at hE; subst hE; clear hT hA h8 ht e2 e3 e4 e5
     go_enter Tryz.func74, Tryz.ntmps74
     go_wp2
     go_ret
     exact ⟨rfl, fun e => absurd e (by decide), zR _ _, Kp.of_below (zR _ _)⟩
def rstE (L : List PE) (ss : List Int) : Int := if 8 < (elsP L ss).length then 1 else 0
theorem ypu {B : Nat} {w w1 : World} {px q : Nat} {va v1 : Value} {b : Bool} {L : List PE} {l : List Nat} (h1 : w.heap[px]? = some (.cells #[.pointer (some ⟨q, 0, none⟩), va, .bool b] 80 (0, 0))) (h2 : TabAt (fun k => va.ownBlock ≠ some k /\ k ≠ px) w q L) (hB : B <= px) (hBw : B <= w.heap.size) (hb : Below w.heap.size w w1) (ho : OwnE w.heap.size w1 v1 l) :
  w1.cell? ⟨px, 1, none⟩ = some va /\ w1.frozen? ⟨px, 1, none⟩ = false /\ (w1.setCell ⟨px, 1, none⟩ v1).cell? ⟨px, 2, none⟩ = some (.bool b) /\ (w1.setCell ⟨px, 1, none⟩ v1).frozen? ⟨px, 2, none⟩ = false ∧
  TA B ((w1.setCell ⟨px, 1, none⟩ v1).setCell ⟨px, 2, none⟩ (.bool true)) px ⟨L, some l⟩ /\ Below B w ((w1.setCell ⟨px, 1, none⟩ v1).setCell ⟨px, 2, none⟩ (.bool true)) /\ Kp w ((w1.setCell ⟨px, 1, none⟩ v1).setCell ⟨px, 2, none⟩ (.bool true)) := by
 have p1 := (hb.block px (R4.yac h1)).trans h1
 have p2 : (w1.setCell ⟨px, 1, none⟩ v1).heap[px]? = some (.cells #[.pointer (some ⟨q, 0, none⟩), v1, .bool b] 80 (0, 0)) := heap_setCell_same w1 px 1 _ _ v1 p1
 have p3 : ((w1.setCell ⟨px, 1, none⟩ v1).setCell ⟨px, 2, none⟩ (.bool true)).heap[px]? = some (.cells #[.pointer (some ⟨q, 0, none⟩), v1, .bool true] 80 (0, 0)) := heap_setCell_same _ px 2 _ _ (.bool true) p2
 have ht : TabAt (fun k => v1.ownBlock ≠ some k /\ k ≠ px) w1 q L := (h2.tight.below hb (zN _)).mono fun k hk => ⟨fun e => by
  have h3 := (World.ownsRow.lt ho k e).1; have h4 := hk.2
  omega, hk.1.2⟩
 refine ⟨yan p1 rfl, frozen_of_row _ px 1 _ _ p1, yan p2 rfl, frozen_of_row _ px 2 _ _ p2, ⟨⟨q, v1, p3, tab_px (tab_px ht (fun k h => h.2) p1) (fun k h => h.2) p2, ?_⟩, hB⟩, ((hb.mono hBw).setCell (by show B <= px; exact hB) _).setCell (by show B <= px; exact hB) _, ((Kp.of_below hb).trans (Kp.px p1)).trans (Kp.px p2)⟩
 exact own_px (own_px (R4.yaw ho hBw) p1) p2
set_option maxHeartbeats 2000000 in
theorem ypv {B : Nat} {w : World} {px : Nat} {t : ST} (hT : TA B w px t) {sv : Value} {ss : List Int} (hs : RdI anyB w sv ss) (hI : I64 ss) (hl : ss.length <= 100000) {E : Int} (hE : rstE t.L ss = E) :
  Calls Tryz.prog 73 #[.pointer (some ⟨px, 0, none⟩), sv] w (MovIs B px ⟨t.L, some (elsP t.L ss)⟩ E w) := by
 have CE := zH (yep hT rfl hs hI hl); have HBW := zH (Nat.le_trans hT.bel (Nat.le_of_lt hT.lt)); have HPB := zH hT.bel; obtain ⟨⟨q, va, h1, h2, h3⟩, -⟩ := hT; have H1 := zH h1; have H2 := zH h2; obtain ⟨n, hn⟩ : ∃ n, (elsP t.L ss).length = n := ⟨_, rfl⟩; have HN := zH hn; unfold rstE at hE; rw [hn] at hE
 by_cases h8 : 8 < n
 ·rw [if_pos h8] at hE; subst hE
  have h8I : (8 : Int) < (n : Int) := by omega
  clear h1 h2 h3 hs hI hl hn h8
  go_enter Tryz.func73, Tryz.ntmps73
  go_wp2_with (go_at_call 121; refine (CE.out).mono ?_; rintro r w1 ⟨v1, rfl, ho, hb⟩; obtain ⟨A1, c1, e1⟩ := (OwnE.rd (F := anyB) ho (fun _ _ => trivial)).form; rw [HN.out] at e1; subst e1; have HB := zH hb; clear ho hb)
  go_ret
  exact MovIs.bad HB.out HBW.out (by decide)
 ·rw [if_neg h8] at hE; subst hE
  have h8I : ¬ (8 : Int) < (n : Int) := by omega
  have h8b : decide ((8 : Int) < (n : Int)) = false := decide_eq_false h8I
  clear h1 h2 h3 hs hI hl hn h8
  go_enter Tryz.func73, Tryz.ntmps73
  go_wp2_with (go_at_call 121; refine (CE.out).mono ?_; rintro r w1 ⟨v1, rfl, ho, hb⟩; have HRM := zH (ypu H1.out H2.out HPB.out HBW.out hb ho); obtain ⟨d1, d2, d3, d4, -, -, -⟩ := HRM.out; obtain ⟨A1, c1, e1⟩ := (OwnE.rd (F := anyB) ho (fun _ _ => trivial)).form; rw [HN.out] at e1; subst e1; clear ho hb)
  go_ret
  exact ⟨rfl, fun _ => HRM.out.2.2.2.2.1, HRM.out.2.2.2.2.2⟩
def RuOk (r : S6.RV) : Prop := I64 r.seq /\ I64 r.exp /\ r.seq.length <= 100 /\ r.exp.length <= 100
theorem ykp {t : ST} {r : S6.RV} {A : List Nat} (h1 : ¬ r.rel = 1) (hA : t.A = some A) : rulE t r = if chgE r.rel t.L A ≠ 0 then chgE r.rel t.L A else withE (chgL r.rel t.L A) r.seq (chgA r.rel A ++ elsP (chgL r.rel t.L A) r.exp) := by
 unfold rulE; rw [if_neg h1, hA]
theorem yko {t : ST} {r : S6.RV} {A : List Nat} (h1 : ¬ r.rel = 1) (hA : t.A = some A) : rulS t r = ⟨putP (chgL r.rel t.L A) (r.seq, chgA r.rel A ++ elsP (chgL r.rel t.L A) r.exp), some (chgA r.rel A)⟩ := by
 unfold rulS; rw [if_neg h1, hA]
set_option maxHeartbeats 4000000 in
theorem ynd {B : Nat} {w : World} {px : Nat} {t : ST} (hT : TA B w px t) (h8 : ∀ A, t.A = some A -> Anc A) {r : S6.RV} {vs ve : Value} (hs : RdI (fun g => g < B) w vs r.seq) (he : RdI (fun g => g < B) w ve r.exp) (hr : RuOk r) {E : Int} (hE : rulE t r = E) :
  Calls Tryz.prog 33 #[.pointer (some ⟨px, 0, none⟩), .agg #[.int .i64 r.rel, vs, ve]] w (MovIs B px (rulS t r) E w) := by
 obtain ⟨As, cs, rfl⟩ := hs.form; obtain ⟨Ae, ce, rfl⟩ := he.form; have hba := yab w (.cells #[.int .i64 r.rel, .slice As r.seq.length cs, .slice Ae r.exp.length ce] 81); have hT2 := hT.below hba; have hs2 := RdF.any (RdF.below hs hba (zN _)); have HBW := zH (Nat.le_trans hT.bel (Nat.le_of_lt hT.lt)); have HBA := zH (hba.mono HBW.out); have HKA := zH (Kp.of_below hba)
 have c0 : (w.alloc (.cells #[.int .i64 r.rel, .slice As r.seq.length cs, .slice Ae r.exp.length ce] 81)).cell? ⟨w.heap.size, 0, none⟩ = some (.int .i64 r.rel) := yan (heap_alloc_new w _) rfl
 have c1 : (w.alloc (.cells #[.int .i64 r.rel, .slice As r.seq.length cs, .slice Ae r.exp.length ce] 81)).cell? ⟨w.heap.size, 1, none⟩ = some (.slice As r.seq.length cs) := yan (heap_alloc_new w _) rfl
 have c2 : (w.alloc (.cells #[.int .i64 r.rel, .slice As r.seq.length cs, .slice Ae r.exp.length ce] 81)).cell? ⟨w.heap.size, 2, none⟩ = some (.slice Ae r.exp.length ce) := yan (heap_alloc_new w _) rfl
 have hlt : w.heap.size < (w.alloc (.cells #[.int .i64 r.rel, .slice As r.seq.length cs, .slice Ae r.exp.length ce] 81)).heap.size := by simp
 by_cases h1 : r.rel = 1
 ·have hE2 : rstE t.L r.seq = E := by rw [<- hE]; unfold rulE rstE; rw [if_pos h1]
  have hS : rulS t r = ⟨t.L, some (elsP t.L r.seq)⟩ := by unfold rulS; rw [if_pos h1]
  rw [hS]; have CR := zH (ypv hT2 hs2 hr.1 (Nat.le_trans hr.2.2.1 (by omega)) hE2)
  rw [h1] at c0 c1 c2 HBA HKA CR |-; clear hba hT hT2 hs hs2 he hE hE2 hS h8 hr c2 h1 hlt
  go_enter Tryz.func33, Tryz.ntmps33
  go_wp2_with (go_at_call 73; refine (CR.out).mono ?_; rintro q w1 ⟨rfl, k1, k2, k3⟩; have K1 := zH k1; have K2 := zH k2; have K3 := zH k3; clear k1 k2 k3 c0 c1)
  go_ret
  exact ⟨rfl, K1.out, HBA.out.trans K2.out, HKA.out.trans K3.out⟩
 ·have b1 : (r.rel == 1) = false := by rw [beq_eq_false_iff_ne]; exact h1
  cases hA : t.A with
  | none =>
   have hE2 : E = 1 := by rw [<- hE]; unfold rulE; rw [if_neg h1, hA]
   subst hE2; obtain ⟨q, Aa, c, -, -, d2, -, -, -, -, -, -⟩ := hT2.cells rfl; rw [hA] at d2; have d2' := d2; simp only [Option.isSome_none] at d2'; clear hba hT hT2 hs hs2 he hE h8 hr c2 h1 hlt d2
   go_enter Tryz.func33, Tryz.ntmps33
   go_wp2
   go_ret
   exact ⟨rfl, fun e => absurd e (by decide), HBA.out, HKA.out⟩
  | some A =>
   have h8A := h8 A hA; obtain ⟨q, Aa, c, -, -, d2, -, -, -, -, -, -⟩ := hT2.cells rfl; rw [hA] at d2; have d2' := d2; simp only [Option.isSome_some] at d2'; obtain ⟨E1, hE1⟩ : ∃ E1, chgE r.rel t.L A = E1 := ⟨_, rfl⟩; have CC := zH (yon hT2 hA h8A hE1); rw [ykp h1 hA, hE1] at hE; rw [yko h1 hA]
   by_cases hE0 : E1 = 0
   ·subst hE0; rw [if_neg (by simp)] at hE
    have HS1 := zH hs; have HE1 := zH he
    have CG : Hid (∀ w1, Below B w w1 -> TA B w1 px ⟨chgL r.rel t.L A, some (chgA r.rel A)⟩ -> Calls Tryz.prog 75 #[.pointer (some ⟨px, 0, none⟩), .slice As r.seq.length cs, .slice Ae r.exp.length ce] w1 (MovIs B px ⟨putP (chgL r.rel t.L A) (r.seq, chgA r.rel A ++ elsP (chgL r.rel t.L A) r.exp), some (chgA r.rel A)⟩ E w1)) :=
     fun w1 hb hT1 => yuz hT1 (ymu h8A hE1) (RdF.any (RdI.keep HS1.out hb)) (RdF.any (RdI.keep HE1.out hb)) hr.2.1 hr.2.2.2 hE
    have HN0 := zH (heap_alloc_new w (.cells #[.int .i64 r.rel, .slice As r.seq.length cs, .slice Ae r.exp.length ce] 81)); clear hba hT hT2 hs hs2 he h8 hr c2 h1 hlt d2 hE1 hA hE h8A
    go_enter Tryz.func33, Tryz.ntmps33
    go_wp2_with (first
     | (go_at_call 74; refine (CC.out).mono ?_; rintro q w1 ⟨rfl, k1, k2, k3⟩; have K1 := zH (k1 rfl); have K2 := zH (HBA.out.trans k2); have K3 := zH (HKA.out.trans k3); have hn := k3 _ _ _ _ HN0.out (by decide) (by decide); have e1 : w1.cell? ⟨w.heap.size, 1, none⟩ = some (.slice As r.seq.length cs) := yan hn rfl; have e2 : w1.cell? ⟨w.heap.size, 2, none⟩ = some (.slice Ae r.exp.length ce) := yan hn rfl; clear k1 k2 k3 c0 c1 d2' hn)
     | (go_at_call 75; refine (CG.out _ K2.out K1.out).mono ?_; rintro q w2 ⟨rfl, k1, k2, k3⟩; have L1 := zH k1; have L2 := zH (K2.out.trans k2); have L3 := zH (K3.out.trans k3); clear k1 k2 k3 e1 e2))
    go_ret
    exact ⟨rfl, L1.out, L2.out, L3.out⟩
   ·rw [if_pos hE0] at hE; subst hE
    have hEn : (E1 != 0) = true := by simpa using hE0
    have HE0 := zH hE0; clear hba hT hT2 hs hs2 he h8 hr c2 h1 hlt d2 hE1 hA hE0
    go_enter Tryz.func33, Tryz.ntmps33
    go_wp2_with (go_at_call 74; refine (CC.out).mono ?_; rintro q w1 ⟨rfl, -, k2, k3⟩; have K2 := zH k2; have K3 := zH k3; clear k2 k3 c0 c1 d2')
    go_ret
    exact ⟨rfl, fun e => absurd e HE0.out, HBA.out.trans K2.out, HKA.out.trans K3.out⟩
end Go.Proofs.YtichfdjjbafeiaaGreat
