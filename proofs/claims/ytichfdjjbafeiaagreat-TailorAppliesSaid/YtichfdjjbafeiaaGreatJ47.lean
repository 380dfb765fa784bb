/-
  PACKED for a claim.
-/
import Derived.Test.YtichfdjjbafeiaaGreatJ41
import Derived.Test.YtichfdjjbafeiaaGreatJ46
set_option linter.unusedVariables false
set_option linter.unusedSimpArgs false
set_option maxRecDepth 100000
namespace Go.Proofs.YtichfdjjbafeiaaGreat
open Go.RowKit
set_option maxHeartbeats 2000000 in
theorem yrf {B : Nat} {w : World} {px : Nat} {t : ST} (hT : TA B w px t) {A : List Nat} (hA : t.A = some A) (h8 : Anc A) {r E : Int} (hE : chgE r t.L A = E) :
  Calls Tryz.prog 74 #[.pointer (some ⟨px, 0, none⟩), .int .i64 r] w (MovIs B px ⟨chgL r t.L A, some (chgA r A)⟩ E w) := by
 have HB := zH (Nat.le_trans hT.bel (Nat.le_of_lt hT.lt))
 have ht : t = ⟨t.L, some A⟩ := by rw [<- hA]
 by_cases e2 : r = 2
 ·subst e2
  have CM : Hid (Calls Tryz.prog 122 #[.pointer (some ⟨px, 0, none⟩), .int .i64 1] w (MovIs B px ⟨chgL 2 t.L A, some (chgA 2 A)⟩ E w)) := ykg hT hA h8 (.inl rfl) hE
  clear hT hA h8 hE ht
  go_enter Tryz.func74, Tryz.ntmps74
  go_wp2_with (go_at_call 122; refine (CM.out).mono ?_; rintro q w1 ⟨rfl, h1, h2, h3⟩; have H1 := zH h1; have H2 := zH h2; have H3 := zH h3; clear h1 h2 h3)
  go_ret
  exact ⟨rfl, H1.out, H2.out, H3.out⟩
 ·by_cases e3 : r = 3
  ·subst e3
   have CM : Hid (Calls Tryz.prog 122 #[.pointer (some ⟨px, 0, none⟩), .int .i64 2] w (MovIs B px ⟨chgL 3 t.L A, some (chgA 3 A)⟩ E w)) := ykg hT hA h8 (.inr (.inl rfl)) hE
   clear hT hA h8 hE ht e2
   go_enter Tryz.func74, Tryz.ntmps74
   go_wp2_with (go_at_call 122; refine (CM.out).mono ?_; rintro q w1 ⟨rfl, h1, h2, h3⟩; have H1 := zH h1; have H2 := zH h2; have H3 := zH h3; clear h1 h2 h3)
   go_ret
   exact ⟨rfl, H1.out, H2.out, H3.out⟩
  ·by_cases e4 : r = 4
   ·subst e4
    have CM : Hid (Calls Tryz.prog 122 #[.pointer (some ⟨px, 0, none⟩), .int .i64 3] w (MovIs B px ⟨chgL 4 t.L A, some (chgA 4 A)⟩ E w)) := ykg hT hA h8 (.inr (.inr rfl)) hE
    clear hT hA h8 hE ht e2 e3
    go_enter Tryz.func74, Tryz.ntmps74
    go_wp2_with (go_at_call 122; refine (CM.out).mono ?_; rintro q w1 ⟨rfl, h1, h2, h3⟩; have H1 := zH h1; have H2 := zH h2; have H3 := zH h3; clear h1 h2 h3)
    go_ret
    exact ⟨rfl, H1.out, H2.out, H3.out⟩
   ·have b2 : (r == 2) = false := by rw [beq_eq_false_iff_ne]; exact e2
    have b3 : (r == 3) = false := by rw [beq_eq_false_iff_ne]; exact e3
    have b4 : (r == 4) = false := by rw [beq_eq_false_iff_ne]; exact e4
    unfold chgE at hE; unfold chgL chgA; simp only [if_neg e2, if_neg e3, if_neg e4] at hE |-
    by_cases e5 : r = 5
    ·subst e5; rw [if_pos rfl] at hE; subst hE
     have HT : Hid (TA B w px ⟨t.L, some A⟩) := by show TA _ _ _ _; rw [<- ht]; exact hT
     clear hT hA h8 ht e2 e3 e4 b2 b3 b4
     go_enter Tryz.func74, Tryz.ntmps74
     go_wp2
     go_ret
     exact ⟨rfl, fun _ => HT.out, zR _ _, Kp.of_below (zR _ _)⟩
    ·have b5 : (r == 5) = false := by rw [beq_eq_false_iff_ne]; exact e5
     rw [if_neg e5] at hE; subst hE; clear hT hA h8 ht e2 e3 e4 e5
     go_enter Tryz.func74, Tryz.ntmps74
     go_wp2
     go_ret
     exact ⟨rfl, fun e => absurd e (by decide), zR _ _, Kp.of_below (zR _ _)⟩
def rstE (L : List PE) (ss : List Int) : Int := if 8 < (elsP L ss).length then 1 else 0
theorem yss {B : Nat} {w w1 : World} {px q : Nat} {va v1 : Value} {b : Bool} {L : List PE} {l : List Nat} (h1 : w.heap[px]? = some (.cells #[.pointer (some ⟨q, 0, none⟩), va, .bool b] 80 (0, 0))) (h2 : TabAt (fun k => va.ownBlock ≠ some k /\ k ≠ px) w q L) (hB : B <= px) (hBw : B <= w.heap.size) (hb : Below w.heap.size w w1) (ho : OwnE w.heap.size w1 v1 l) :
  w1.cell? ⟨px, 1, none⟩ = some va /\ w1.frozen? ⟨px, 1, none⟩ = false /\ (w1.setCell ⟨px, 1, none⟩ v1).cell? ⟨px, 2, none⟩ = some (.bool b) /\ (w1.setCell ⟨px, 1, none⟩ v1).frozen? ⟨px, 2, none⟩ = false ∧
  TA B ((w1.setCell ⟨px, 1, none⟩ v1).setCell ⟨px, 2, none⟩ (.bool true)) px ⟨L, some l⟩ /\ Below B w ((w1.setCell ⟨px, 1, none⟩ v1).setCell ⟨px, 2, none⟩ (.bool true)) /\ Kp w ((w1.setCell ⟨px, 1, none⟩ v1).setCell ⟨px, 2, none⟩ (.bool true)) := by
 have p1 := (hb.block px (R4.yac h1)).trans h1
 have p2 : (w1.setCell ⟨px, 1, none⟩ v1).heap[px]? = some (.cells #[.pointer (some ⟨q, 0, none⟩), v1, .bool b] 80 (0, 0)) := heap_setCell_same w1 px 1 _ _ v1 p1
 have p3 : ((w1.setCell ⟨px, 1, none⟩ v1).setCell ⟨px, 2, none⟩ (.bool true)).heap[px]? = some (.cells #[.pointer (some ⟨q, 0, none⟩), v1, .bool true] 80 (0, 0)) := heap_setCell_same _ px 2 _ _ (.bool true) p2
 have ht : TabAt (fun k => v1.ownBlock ≠ some k /\ k ≠ px) w1 q L := (h2.tight.below hb (zN _)).mono fun k hk => ⟨fun e => by
  have h3 := (World.ownsRow.lt ho k e).1; have h4 := hk.2
  omega, hk.1.2⟩
 refine ⟨yau p1 rfl, frozen_of_row _ px 1 _ _ p1, yau p2 rfl, frozen_of_row _ px 2 _ _ p2, ⟨⟨q, v1, p3, tab_px (tab_px ht (fun k h => h.2) p1) (fun k h => h.2) p2, ?_⟩, hB⟩, ((hb.mono hBw).setCell (by show B <= px; exact hB) _).setCell (by show B <= px; exact hB) _, ((Kp.of_below hb).trans (Kp.px p1)).trans (Kp.px p2)⟩
 exact own_px (own_px (R4.yaq ho hBw) p1) p2
set_option maxHeartbeats 2000000 in
theorem yst {B : Nat} {w : World} {px : Nat} {t : ST} (hT : TA B w px t) {sv : Value} {ss : List Int} (hs : RdI anyB w sv ss) (hI : I64 ss) (hl : ss.length <= 100000) {E : Int} (hE : rstE t.L ss = E) :
  Calls Tryz.prog 73 #[.pointer (some ⟨px, 0, none⟩), sv] w (MovIs B px ⟨t.L, some (elsP t.L ss)⟩ E w) := by
 have CE := zH (yfw hT rfl hs hI hl); have HBW := zH (Nat.le_trans hT.bel (Nat.le_of_lt hT.lt)); have HPB := zH hT.bel; obtain ⟨⟨q, va, h1, h2, h3⟩, -⟩ := hT; have H1 := zH h1; have H2 := zH h2; obtain ⟨n, hn⟩ : ∃ n, (elsP t.L ss).length = n := ⟨_, rfl⟩; have HN := zH hn; unfold rstE at hE; rw [hn] at hE
 by_cases h8 : 8 < n
 ·rw [if_pos h8] at hE; subst hE
  have h8I : (8 : Int) < (n : Int) := by omega
  clear h1 h2 h3 hs hI hl hn h8
  go_enter Tryz.func73, Tryz.ntmps73
  go_wp2_with (go_at_call 121; refine (CE.out).mono ?_; rintro r w1 ⟨v1, rfl, ho, hb⟩; obtain ⟨A1, c1, e1⟩ := (OwnE.rd (F := anyB) ho (fun _ _ => trivial)).form; rw [HN.out] at e1; subst e1; have HB := zH hb; clear ho hb)
  go_ret
  exact MovIs.bad HB.out HBW.out (by decide)
 ·rw [if_neg h8] at hE; subst hE
  have h8I : ¬ (8 : Int) < (n : Int) := by omega
  have h8b : decide ((8 : Int) < (n : Int)) = false := decide_eq_false h8I
  clear h1 h2 h3 hs hI hl hn h8
  go_enter Tryz.func73, Tryz.ntmps73
  go_wp2_with (go_at_call 121; refine (CE.out).mono ?_; rintro r w1 ⟨v1, rfl, ho, hb⟩; have HRM := zH (yss H1.out H2.out HPB.out HBW.out hb ho); obtain ⟨d1, d2, d3, d4, -, -, -⟩ := HRM.out; obtain ⟨A1, c1, e1⟩ := (OwnE.rd (F := anyB) ho (fun _ _ => trivial)).form; rw [HN.out] at e1; subst e1; clear ho hb)
  go_ret
  exact ⟨rfl, fun _ => HRM.out.2.2.2.2.1, HRM.out.2.2.2.2.2⟩
def RuOk (r : S6.RV) : Prop := I64 r.seq /\ I64 r.exp /\ r.seq.length <= 100 /\ r.exp.length <= 100
theorem ymt {t : ST} {r : S6.RV} {A : List Nat} (h1 : ¬ r.rel = 1) (hA : t.A = some A) : rulE t r = if chgE r.rel t.L A ≠ 0 then chgE r.rel t.L A else withE (chgL r.rel t.L A) r.seq (chgA r.rel A ++ elsP (chgL r.rel t.L A) r.exp) := by
 unfold rulE; rw [if_neg h1, hA]
theorem yju {t : ST} {r : S6.RV} {A : List Nat} (h1 : ¬ r.rel = 1) (hA : t.A = some A) : rulS t r = ⟨putP (chgL r.rel t.L A) (r.seq, chgA r.rel A ++ elsP (chgL r.rel t.L A) r.exp), some (chgA r.rel A)⟩ := by
 unfold rulS; rw [if_neg h1, hA]
set_option maxHeartbeats 4000000 in
theorem ypu {B : Nat} {w : World} {px : Nat} {t : ST} (hT : TA B w px t) (h8 : ∀ A, t.A = some A -> Anc A) {r : S6.RV} {vs ve : Value} (hs : RdI (fun g => g < B) w vs r.seq) (he : RdI (fun g => g < B) w ve r.exp) (hr : RuOk r) {E : Int} (hE : rulE t r = E) :
  Calls Tryz.prog 33 #[.pointer (some ⟨px, 0, none⟩), .agg #[.int .i64 r.rel, vs, ve]] w (MovIs B px (rulS t r) E w) := by
 obtain ⟨As, cs, rfl⟩ := hs.form; obtain ⟨Ae, ce, rfl⟩ := he.form; have hba := yaa w (.cells #[.int .i64 r.rel, .slice As r.seq.length cs, .slice Ae r.exp.length ce] 81); have hT2 := hT.below hba; have hs2 := RdF.any (RdF.below hs hba (zN _)); have HBW := zH (Nat.le_trans hT.bel (Nat.le_of_lt hT.lt)); have HBA := zH (hba.mono HBW.out); have HKA := zH (Kp.of_below hba)
 have c0 : (w.alloc (.cells #[.int .i64 r.rel, .slice As r.seq.length cs, .slice Ae r.exp.length ce] 81)).cell? ⟨w.heap.size, 0, none⟩ = some (.int .i64 r.rel) := yau (heap_alloc_new w _) rfl
 have c1 : (w.alloc (.cells #[.int .i64 r.rel, .slice As r.seq.length cs, .slice Ae r.exp.length ce] 81)).cell? ⟨w.heap.size, 1, none⟩ = some (.slice As r.seq.length cs) := yau (heap_alloc_new w _) rfl
 have c2 : (w.alloc (.cells #[.int .i64 r.rel, .slice As r.seq.length cs, .slice Ae r.exp.length ce] 81)).cell? ⟨w.heap.size, 2, none⟩ = some (.slice Ae r.exp.length ce) := yau (heap_alloc_new w _) rfl
 have hlt : w.heap.size < (w.alloc (.cells #[.int .i64 r.rel, .slice As r.seq.length cs, .slice Ae r.exp.length ce] 81)).heap.size := by simp
 by_cases h1 : r.rel = 1
 ·have hE2 : rstE t.L r.seq = E := by rw [<- hE]; unfold rulE rstE; rw [if_pos h1]
  have hS : rulS t r = ⟨t.L, some (elsP t.L r.seq)⟩ := by unfold rulS; rw [if_pos h1]
  rw [hS]; have CR := zH (yst hT2 hs2 hr.1 (Nat.le_trans hr.2.2.1 (by omega)) hE2)
  rw [h1] at c0 c1 c2 HBA HKA CR |-; clear hba hT hT2 hs hs2 he hE hE2 hS h8 hr c2 h1 hlt
  go_enter Tryz.func33, Tryz.ntmps33
  go_wp2_with (go_at_call 73; refine (CR.out).mono ?_; rintro q w1 ⟨rfl, k1, k2, k3⟩; have K1 := zH k1; have K2 := zH k2; have K3 := zH k3; clear k1 k2 k3 c0 c1)
  go_ret
  exact ⟨rfl, K1.out, HBA.out.trans K2.out, HKA.out.trans K3.out⟩
 ·have b1 : (r.rel == 1) = false := by rw [beq_eq_false_iff_ne]; exact h1
  cases hA : t.A with
  | none =>
   have hE2 : E = 1 := by rw [<- hE]; unfold rulE; rw [if_neg h1, hA]
   subst hE2; obtain ⟨q, Aa, c, -, -, d2, -, -, -, -, -, -⟩ := hT2.cells rfl; rw [hA] at d2; have d2' := d2; simp only [Option.isSome_none] at d2'; clear hba hT hT2 hs hs2 he hE h8 hr c2 h1 hlt d2
   go_enter Tryz.func33, Tryz.ntmps33
   go_wp2
   go_ret
   exact ⟨rfl, fun e => absurd e (by decide), HBA.out, HKA.out⟩
  | some A =>
   have h8A := h8 A hA; obtain ⟨q, Aa, c, -, -, d2, -, -, -, -, -, -⟩ := hT2.cells rfl; rw [hA] at d2; have d2' := d2; simp only [Option.isSome_some] at d2'; obtain ⟨E1, hE1⟩ : ∃ E1, chgE r.rel t.L A = E1 := ⟨_, rfl⟩; have CC := zH (yrf hT2 hA h8A hE1); rw [ymt h1 hA, hE1] at hE; rw [yju h1 hA]
   by_cases hE0 : E1 = 0
   ·subst hE0; rw [if_neg (by simp)] at hE
    have HS1 := zH hs; have HE1 := zH he
    have CG : Hid (∀ w1, Below B w w1 -> TA B w1 px ⟨chgL r.rel t.L A, some (chgA r.rel A)⟩ -> Calls Tryz.prog 75 #[.pointer (some ⟨px, 0, none⟩), .slice As r.seq.length cs, .slice Ae r.exp.length ce] w1 (MovIs B px ⟨putP (chgL r.rel t.L A) (r.seq, chgA r.rel A ++ elsP (chgL r.rel t.L A) r.exp), some (chgA r.rel A)⟩ E w1)) :=
     fun w1 hb hT1 => yya hT1 (yhc h8A hE1) (RdF.any (RdI.keep HS1.out hb)) (RdF.any (RdI.keep HE1.out hb)) hr.2.1 hr.2.2.2 hE
    have HN0 := zH (heap_alloc_new w (.cells #[.int .i64 r.rel, .slice As r.seq.length cs, .slice Ae r.exp.length ce] 81)); clear hba hT hT2 hs hs2 he h8 hr c2 h1 hlt d2 hE1 hA hE h8A
    go_enter Tryz.func33, Tryz.ntmps33
    go_wp2_with (first
     | (go_at_call 74; refine (CC.out).mono ?_; rintro q w1 ⟨rfl, k1, k2, k3⟩; have K1 := zH (k1 rfl); have K2 := zH (HBA.out.trans k2); have K3 := zH (HKA.out.trans k3); have hn := k3 _ _ _ _ HN0.out (by decide) (by decide); have e1 : w1.cell? ⟨w.heap.size, 1, none⟩ = some (.slice As r.seq.length cs) := yau hn rfl; have e2 : w1.cell? ⟨w.heap.size, 2, none⟩ = some (.slice Ae r.exp.length ce) := yau hn rfl; clear k1 k2 k3 c0 c1 d2' hn)
     | (go_at_call 75; refine (CG.out _ K2.out K1.out).mono ?_; rintro q w2 ⟨rfl, k1, k2, k3⟩; have L1 := zH k1; have L2 := zH (K2.out.trans k2); have L3 := zH (K3.out.trans k3); clear k1 k2 k3 e1 e2))
    go_ret
    exact ⟨rfl, L1.out, L2.out, L3.out⟩
   ·rw [if_pos hE0] at hE; subst hE
    have hEn : (E1 != 0) = true := by simpa using hE0
    have HE0 := zH hE0; clear hba hT hT2 hs hs2 he h8 hr c2 h1 hlt d2 hE1 hA hE0
    go_enter Tryz.func33, Tryz.ntmps33
    go_wp2_with (go_at_call 74; refine (CC.out).mono ?_; rintro q w1 ⟨rfl, -, k2, k3⟩; have K2 := zH k2; have K3 := zH k3; clear k2 k3 c0 c1 d2')
    go_ret
    exact ⟨rfl, fun e => absurd e HE0.out, HBA.out.trans K2.out, HKA.out.trans K3.out⟩
def AnS (t : ST) : Prop := ∀ A, t.A = some A -> Anc A
theorem ygt {t : ST} (hg : GoodT t.L) (h8 : AnS t) {r : S6.RV} (hE : rulE t r = 0) : AnS (rulS t r) := by
 intro A' hA'; unfold rulE at hE; unfold rulS at hA'
 by_cases h1 : r.rel = 1
 ·rw [if_pos h1] at hE hA'
  injection hA' with hA'
  subst hA'
  have hlt : ¬ 8 < (elsP t.L r.seq).length := by intro h; rw [if_pos h] at hE; cases hE
  exact ⟨by omega, els_lt hg r.seq⟩
 ·rw [if_neg h1] at hE hA'
  cases hA : t.A with
  | none => rw [hA] at hE; cases hE
  | some A =>
   rw [hA] at hE hA'
   simp only at hE hA'
   have hc : chgE r.rel t.L A = 0 := by
    apply Classical.byContradiction
    intro hc; rw [if_pos hc] at hE; exact hc hE
   injection hA' with hA'
   subst hA'; exact yhc (h8 A hA) hc
def AppIs (L : List PE) (E : Int) (w : World) (q : Ending) (w' : World) : Prop :=
 (E = 0 -> ∃ p : Nat, q = .returned (.tuple #[.pointer (some ⟨p, 0, none⟩), .int .i64 0]) /\ TabAt anyB w' p L) /\ (E ≠ 0 -> q = .returned (.tuple #[.pointer none, .int .i64 E])) /\ Below w.heap.size w w'
theorem ta_new {B : Nat} {w : World} {q : Nat} {L : List PE} {F : Nat -> Prop} (h : TabAt F w q L) (hB : B <= w.heap.size) : TA B (w.alloc (.cells #[.pointer (some ⟨q, 0, none⟩), .slice none 0 0, .bool false] 80)) w.heap.size ⟨L, none⟩ := by
 refine ⟨⟨q, _, heap_alloc_new w _, (h.tight.below (yaa w _) (zN _)).mono fun k hk => ⟨(fun e => by cases e), (by have := hk.2; omega)⟩, World.ownsRow_nil _ _ _ _⟩, hB⟩
theorem ysi {w : World} {A : Option Addr} {n c : Nat} {l : List S6.RV} (h : S6.RdRs w (.slice A n c) l) {k : Nat} {x : S6.RV} (hk : l[k]? = some x) :
  ∃ (g o : Nat) (vs ve : Value), A = some ⟨g, o, none⟩ /\ w.cell? ⟨g, o + k * 3, none⟩ = some (.int .i64 x.rel) /\ w.cell? ⟨g, o + k * 3 + 1, none⟩ = some vs /\ w.cell? ⟨g, o + k * 3 + 2, none⟩ = some ve /\ RdI (fun g => g < w.heap.size) w vs x.seq /\ RdI (fun g => g < w.heap.size) w ve x.exp := by
 obtain ⟨g, o, vs, ve, h1, h2, h3, h4, h5, h6⟩ := h.at hk; exact ⟨g, o, vs, ve, h1, h2, h3, h4, RdF.mono (RdF.lt h5 (iv_len _)) fun g hg => hg.2, RdF.mono (RdF.lt h6 (iv_len _)) fun g hg => hg.2⟩
theorem yof {t : ST} {l : List S6.RV} {k : Nat} {r : S6.RV} (hk : l[k]? = some r) : rlsE t (l.drop k) = (if rulE t r ≠ 0 then rulE t r else rlsE (rulS t r) (l.drop (k + 1))) /\ rlsS t (l.drop k) = rlsS (rulS t r) (l.drop (k + 1)) := by
 have hlt := (List.getElem?_eq_some_iff.1 hk).1; have e := (List.getElem?_eq_some_iff.1 hk).2; rw [List.drop_eq_getElem_cons hlt, e]; exact ⟨rfl, rfl⟩
set_option maxHeartbeats 8000000 in
theorem yil {F : Nat -> Prop} {w : World} {p : Nat} {L : List PE} (hT : TabAt F w p L) {rv : Value} {l : List S6.RV} (hr : S6.RdRs w rv l) (hl : l.length <= 1000) (hok : ∀ r ∈ l, RuOk r) {E : Int} (hE : appE L l = E) {L' : List PE} (hL' : appL L l = L') :
  Calls Tryz.prog 14 #[.pointer (some ⟨p, 0, none⟩), rv] w (AppIs L' E w) := by
 obtain ⟨A, c, rfl⟩ := hr.form; have CM := zH (yxn (F := anyB) (fun _ _ => trivial) (hT.mono fun _ _ => trivial))
 rw [zas] at CM; have HR := zH hr; have HOK := zH hok; obtain ⟨n, hn⟩ : ∃ n, l.length = n := ⟨_, rfl⟩; have HN := zH hn; rw [hn] at HR hl |-
 have hnI : (n : Int) <= 1000 := by omega
 unfold appE at hE; unfold appL at hL'; have HEE := zH hE; have HLL := zH hL'; clear hT hr hok hn hE hL'
 go_enter Tryz.func14, Tryz.ntmps14
 go_wp2_with (go_at_call 31; refine (CM.out).mono ?_; rintro q w1 ⟨⟨q1, rfl, ht1⟩, hb1⟩; have HTA := zH (ta_new ht1 hb1.size); have HB1 := zH (hb1.trans ((yaa w1 (.cells #[.pointer (some ⟨q1, 0, none⟩), .slice none 0 0, .bool false] 80)).mono hb1.size)); clear ht1 hb1)
 generalize hw2 : (w1.alloc (.cells #[.pointer (some ⟨q1, 0, none⟩), .slice none 0 0, .bool false] 80)) = w2 at HTA HB1 |-; clear hw2; obtain ⟨px, hpx⟩ : ∃ px, w1.heap.size = px := ⟨_, rfl⟩; rw [hpx] at HTA; rw [show (({ block := w1.heap.size, off := 0 } : Addr)) = ⟨px, 0, none⟩ by rw [hpx]]
 clear hpx CM
 go_loopw [17] (fun i wr => ∃ (k : Nat) (t : ST), k <= n /\ i = .int .i64 (k : Nat) /\ Hid (TA w.heap.size wr px t) /\ Hid (AnS t) /\ Hid (rlsE t (l.drop k) = rlsE ⟨L, none⟩ l) /\ Hid (rlsS t (l.drop k) = rlsS ⟨L, none⟩ l) /\ Hid (Below w.heap.size w wr)) (fun i _ => n - (intOf i).toNat)
 case atStart => exact ⟨0, ⟨L, none⟩, Nat.zero_le _, rfl, HTA.out, (fun A h => by cases h), rfl, rfl, HB1.out⟩
 case round =>
  clear HTA HB1; obtain ⟨k, t, hk, rfl, HT, HA, HE, HS, HB⟩ := hrel; obtain ⟨wo, rfl⟩ : ∃ wo, wo = wr := ⟨_, rfl⟩
  by_cases hlt : k < n
  ·obtain ⟨r, hr⟩ : ∃ r, l[k]? = some r := ⟨_, List.getElem?_eq_getElem (by rw [HN.out]; exact hlt)⟩
   obtain ⟨g, o, vs, ve, rfl, d0, d1, d2, s1, s2⟩ := ysi HR.out hr; have hro := HOK.out r (List.mem_of_getElem? hr); have c0 := (HB.out.cell (yah d0)).trans d0; have c1 := (HB.out.cell (yah d1)).trans d1; have c2 := (HB.out.cell (yah d2)).trans d2; obtain ⟨hc1, hc2⟩ := yof (t := t) hr; rw [HE.out] at hc1; rw [HS.out] at hc2; obtain ⟨A1, k1, rfl⟩ := s1.form; obtain ⟨A2, k2, rfl⟩ := s2.form; obtain ⟨e, he⟩ : ∃ e, rulE t r = e := ⟨_, rfl⟩; rw [he] at hc1; have hba := yaa wo (.cells #[.int .i64 r.rel, .slice A1 r.seq.length k1, .slice A2 r.exp.length k2] 81); have CA := zH (ypu (HT.out.below hba) HA.out (RdF.below (RdI.keep s1 HB.out) hba (zN _)) (RdF.below (RdI.keep s2 HB.out) hba (zN _)) hro he); have HBA := zH (HB.out.trans (hba.mono HB.out.size))
   have hkI : (k : Int) < (n : Int) := by omega
   have HX : Hid ((wo.alloc (.cells #[.int .i64 r.rel, .slice A1 r.seq.length k1, .slice A2 r.exp.length k2] 81)).heap[wo.heap.size]? = some (.cells #[.int .i64 r.rel, .slice A1 r.seq.length k1, .slice A2 r.exp.length k2] 81 (0, 0))) := heap_alloc_new wo _
   have x0 : (wo.alloc (.cells #[.int .i64 r.rel, .slice A1 r.seq.length k1, .slice A2 r.exp.length k2] 81)).cell? ⟨wo.heap.size, 0, none⟩ = some (.int .i64 r.rel) := yau HX.out rfl
   have x1 : (wo.alloc (.cells #[.int .i64 r.rel, .slice A1 r.seq.length k1, .slice A2 r.exp.length k2] 81)).cell? ⟨wo.heap.size, 1, none⟩ = some (.slice A1 r.seq.length k1) := yau HX.out rfl
   have x2 : (wo.alloc (.cells #[.int .i64 r.rel, .slice A1 r.seq.length k1, .slice A2 r.exp.length k2] 81)).cell? ⟨wo.heap.size, 2, none⟩ = some (.slice A2 r.exp.length k2) := yau HX.out rfl
   have HAN : Hid (e = 0 -> AnS (rulS t r)) := fun h0 => by
    obtain ⟨⟨q, va, h1, h2, h3⟩, h4⟩ := HT.out; exact ygt h2.good HA.out (he.trans h0)
   by_cases hE0 : e = 0
   ·subst hE0; rw [if_neg (by simp)] at hc1
    have HC1 := zH hc1; have HC2 := zH hc2; clear hr d0 d1 d2 s1 s2 hro hc1 hc2 he hba hlt
    go_wp2_with (go_at_call 33; refine (CA.out).mono ?_; rintro q w3 ⟨rfl, k1, k2, -⟩; have K1 := zH (k1 rfl); have K2 := zH (HBA.out.trans k2); clear k1 k2 c0 c1 c2 x0 x1 x2)
    go_roundw
    case rel => exact ⟨k + 1, rulS t r, by omega, by go_num, K1.out, (HAN.out trivial), HC1.out.symm, HC2.out.symm, K2.out⟩
    case measure => simp [intOf] <;> omega
   ·rw [if_pos hE0] at hc1
    have HC1 : Hid (E = e) := by
     have h := HEE.out
     show _ = _
     rw [<- h, hc1, if_pos hE0]
    have HE0 := zH hE0
    have hen : (e != 0) = true := by simpa using hE0
    clear hr d0 d1 d2 s1 s2 hro hc1 hc2 he hba hlt hE0
    go_wp2_with (go_at_call 33; refine (CA.out).mono ?_; rintro q w3 ⟨rfl, -, k2, -⟩; have K2 := zH (HBA.out.trans k2); clear k2 c0 c1 c2 x0 x1 x2)
    go_ret2
    exact ⟨fun h => absurd (HC1.out.symm.trans h) HE0.out, fun _ => by rw [HC1.out]; rfl, K2.out⟩
  ·obtain rfl : k = n := by omega
   have hd : l.drop k = [] := List.drop_of_length_le (by rw [HN.out]; exact zN _)
   have he := HE.out; have hs := HS.out; rw [hd] at he hs
   have he : 0 = rlsE ⟨L, none⟩ l := he
   have hs : t = rlsS ⟨L, none⟩ l := hs
   obtain ⟨⟨q, va, h1, h2, h3⟩, h4⟩ := HT.out; obtain ⟨e, hchk⟩ : ∃ e, checkP t.L = e := ⟨_, rfl⟩
   have HEQ : Hid (E = e) := by
    have h := HEE.out
    show _ = _
    rw [<- h, <- he, if_neg (by simp), <- hs, hchk]
   have HLQ : Hid (t.L = L') := by show _ = _; rw [<- HLL.out, <- hs]
   have CK := zH (yvh h2 hchk)
   have c0 : wo.cell? ⟨px, 0, none⟩ = some (.pointer (some ⟨q, 0, none⟩)) := yau h1 rfl
   have HT2 := zH h2
   have hltI : ¬ (k : Int) < (k : Int) := by omega
   have HX := zH h1
   by_cases hE0 : e = 0
   ·subst hE0; clear hd he hs h1 h2 h3 h4 hchk hlt
    go_wp2_with (go_at_call 11; refine (CK.out).mono ?_; rintro q' w3 ⟨rfl, hb⟩; have d0 := yab hb c0; have HB3 := zH (HB.out.trans (hb.mono HB.out.size)); have HT3 := zH (HT2.out.below hb (zN _)); clear hb c0)
    go_ret2
    exact ⟨fun _ => ⟨_, rfl, by rw [<- HLQ.out]; exact HT3.out.mono fun _ _ => trivial⟩, fun h => absurd HEQ.out h, HB3.out⟩
   ·have HE0 := zH hE0
    have hen : (e != 0) = true := by simpa using hE0
    clear hd he hs h1 h2 h3 h4 hchk hlt hE0
    go_wp2_with (go_at_call 11; refine (CK.out).mono ?_; rintro q' w3 ⟨rfl, hb⟩; have HB3 := zH (HB.out.trans (hb.mono HB.out.size)); clear hb c0)
    go_ret2
    exact ⟨fun h => absurd (HEQ.out.symm.trans h) HE0.out, fun _ => by rw [HEQ.out]; rfl, HB3.out⟩
end Go.Proofs.YtichfdjjbafeiaaGreat
