/-
  PACKED for a claim.
-/
import Derived.SizedLaws
import Derived.Test.YteibnfeokgibmaaGreatP39
import Derived.Test.YteibnfeokgibmaaGreatP47
set_option linter.unusedVariables false
set_option linter.unusedSimpArgs false
set_option maxRecDepth 100000
section
namespace Go.Proofs.YteibnfeokgibmaaGreat
open Go.RowKit
variable {U : Nat -> Prop}
set_option maxHeartbeats 2000000 in
theorem yrr {B : Nat} {w : World} {px : Nat} {t : ST} (hT : TA U B w px t) {A : List Nat} (hA : t.A = some A) (h8 : Anc A) {r E : Int} (hE : chgE r t.L A = E) :
  Calls Tryz.prog 131 #[.pointer (some ⟨px, 0, none⟩), .int .i64 r] w (MovIs U B px ⟨chgL r t.L A, some (chgA r A)⟩ E w) := by
 have HB := zH (Nat.le_trans hT.bel.le (Nat.le_of_lt hT.lt))
 have ht : t = ⟨t.L, some A⟩ := by rw [<- hA]
 by_cases e2 : r = 2
 ·subst e2
  have CM : Hid (Calls Tryz.prog 176 #[.pointer (some ⟨px, 0, none⟩), .int .i64 1] w (MovIs U B px ⟨chgL 2 t.L A, some (chgA 2 A)⟩ E w)) := yko hT hA h8 (.inl rfl) hE
  clear hT hA h8 hE ht
  go_enter Tryz.func131, Tryz.ntmps131
  go_wp2_with (go_at_call 176; refine (CM.out).mono ?_; rintro q w1 ⟨rfl, h1, h2, h3⟩; have H1 := zH h1; have H2 := zH h2; have H3 := zH h3; clear h1 h2 h3)
  go_ret
  exact ⟨rfl, H1.out, H2.out, H3.out⟩
 ·by_cases e3 : r = 3
  ·subst e3
   have CM : Hid (Calls Tryz.prog 176 #[.pointer (some ⟨px, 0, none⟩), .int .i64 2] w (MovIs U B px ⟨chgL 3 t.L A, some (chgA 3 A)⟩ E w)) := yko hT hA h8 (.inr (.inl rfl)) hE
   clear hT hA h8 hE ht e2
   go_enter Tryz.func131, Tryz.ntmps131
   go_wp2_with (go_at_call 176; refine (CM.out).mono ?_; rintro q w1 ⟨rfl, h1, h2, h3⟩; have H1 := zH h1; have H2 := zH h2; have H3 := zH h3; clear h1 h2 h3)
   go_ret
   exact ⟨rfl, H1.out, H2.out, H3.out⟩
  ·by_cases e4 : r = 4
   ·subst e4
    have CM : Hid (Calls Tryz.prog 176 #[.pointer (some ⟨px, 0, none⟩), .int .i64 3] w (MovIs U B px ⟨chgL 4 t.L A, some (chgA 4 A)⟩ E w)) := yko hT hA h8 (.inr (.inr rfl)) hE
    clear hT hA h8 hE ht e2 e3
    go_enter Tryz.func131, Tryz.ntmps131
    go_wp2_with (go_at_call 176; refine (CM.out).mono ?_; rintro q w1 ⟨rfl, h1, h2, h3⟩; have H1 := zH h1; have H2 := zH h2; have H3 := zH h3; clear h1 h2 h3)
    go_ret
    exact ⟨rfl, H1.out, H2.out, H3.out⟩
   ·have b2 : (r == 2) = false := by rw [beq_eq_false_iff_ne]; exact e2
    have b3 : (r == 3) = false := by rw [beq_eq_false_iff_ne]; exact e3
    have b4 : (r == 4) = false := by rw [beq_eq_false_iff_ne]; exact e4
    unfold chgE at hE; unfold chgL chgA; simp only [if_neg e2, if_neg e3, if_neg e4] at hE |-
    by_cases e5 : r = 5
    ·subst e5; rw [if_pos rfl] at hE; subst hE
     have HT : Hid (TA U B w px ⟨t.L, some A⟩) := by show TA _ _ _ _ _; rw [<- ht]; exact hT
     clear hT hA h8 ht e2 e3 e4 b2 b3 b4
     go_enter Tryz.func131, Tryz.ntmps131
     go_wp2
     go_ret
     exact ⟨rfl, fun _ => HT.out, zR _ _, Kp.of_below (zR _ _)⟩
    ·have b5 : (r == 5) = false := by rw [beq_eq_false_iff_ne]; exact e5
     rw [if_neg e5] at hE; subst hE; clear hT hA h8 ht e2 e3 e4 e5
     go_enter Tryz.func131, Tryz.ntmps131
     go_wp2
     go_ret
     exact ⟨rfl, fun e => absurd e (by decide), zR _ _, Kp.of_below (zR _ _)⟩
def rstE (L : List PE) (ss : List Int) : Int := if 8 < (elsP L ss).length then 1 else 0
theorem ytp {B : Nat} {w w1 : World} {px q : Nat} {va v1 : Value} {b : Bool} {L : List PE} {l : List Nat} (h1 : w.heap[px]? = some (.cells #[.pointer (some ⟨q, 0, none⟩), va, .bool b] 143 (0, 0))) (h2 : TabAt (fun k => va.ownBlock ≠ some k /\ (k ≠ px /\ U k)) w q L) (hB : BelU U B px) (hBw : B <= w.heap.size) (hb : Below w.heap.size w w1) (ho : OwnE w.heap.size w1 v1 l) :
  w1.cell? ⟨px, 1, none⟩ = some va /\ w1.frozen? ⟨px, 1, none⟩ = false /\ (w1.setCell ⟨px, 1, none⟩ v1).cell? ⟨px, 2, none⟩ = some (.bool b) /\ (w1.setCell ⟨px, 1, none⟩ v1).frozen? ⟨px, 2, none⟩ = false ∧
  TA U B ((w1.setCell ⟨px, 1, none⟩ v1).setCell ⟨px, 2, none⟩ (.bool true)) px ⟨L, some l⟩ /\ Below B w ((w1.setCell ⟨px, 1, none⟩ v1).setCell ⟨px, 2, none⟩ (.bool true)) /\ Kp w ((w1.setCell ⟨px, 1, none⟩ v1).setCell ⟨px, 2, none⟩ (.bool true)) := by
 have p1 := (hb.block px (R4.yad h1)).trans h1
 have p2 : (w1.setCell ⟨px, 1, none⟩ v1).heap[px]? = some (.cells #[.pointer (some ⟨q, 0, none⟩), v1, .bool b] 143 (0, 0)) := heap_setCell_same w1 px 1 _ _ v1 p1
 have p3 : ((w1.setCell ⟨px, 1, none⟩ v1).setCell ⟨px, 2, none⟩ (.bool true)).heap[px]? = some (.cells #[.pointer (some ⟨q, 0, none⟩), v1, .bool true] 143 (0, 0)) := heap_setCell_same _ px 2 _ _ (.bool true) p2
 have ht : TabAt (fun k => v1.ownBlock ≠ some k /\ (k ≠ px /\ U k)) w1 q L := (h2.tight.below hb (zN _)).mono fun k hk => ⟨fun e => by
  have h3 := (World.ownsRow.lt ho k e).1; have h4 := hk.2
  omega, hk.1.2⟩
 refine ⟨yat p1 rfl, frozen_of_row _ px 1 _ _ p1, yat p2 rfl, frozen_of_row _ px 2 _ _ p2, ⟨⟨q, v1, p3, tab_px (tab_px ht (fun k h => h.2.1) p1) (fun k h => h.2.1) p2, ?_⟩, hB⟩, ((hb.mono hBw).setCell (by show B <= px; exact hB.le) _).setCell (by show B <= px; exact hB.le) _, ((Kp.of_below hb).trans (Kp.px p1)).trans (Kp.px p2)⟩
 exact own_px (own_px (R4.yau ho hBw) p1) p2
set_option maxHeartbeats 2000000 in
theorem ytq {B : Nat} {w : World} {px : Nat} {t : ST} (hT : TA U B w px t) {sv : Value} {ss : List Int} (hs : RdI anyB w sv ss) (hI : I64 ss) (hl : ss.length <= 100000) {E : Int} (hE : rstE t.L ss = E) :
  Calls Tryz.prog 130 #[.pointer (some ⟨px, 0, none⟩), sv] w (MovIs U B px ⟨t.L, some (elsP t.L ss)⟩ E w) := by
 have CE := zH (yft hT rfl hs hI hl); have HBW := zH (Nat.le_trans hT.bel.le (Nat.le_of_lt hT.lt)); have HPB := zH hT.bel; obtain ⟨⟨q, va, h1, h2, h3⟩, -⟩ := hT; have H1 := zH h1; have H2 := zH h2; obtain ⟨n, hn⟩ : ∃ n, (elsP t.L ss).length = n := ⟨_, rfl⟩; have HN := zH hn; unfold rstE at hE; rw [hn] at hE
 by_cases h8 : 8 < n
 ·rw [if_pos h8] at hE; subst hE
  have h8I : (8 : Int) < (n : Int) := by omega
  clear h1 h2 h3 hs hI hl hn h8
  go_enter Tryz.func130, Tryz.ntmps130
  go_wp2_with (go_at_call 175; refine (CE.out).mono ?_; rintro r w1 ⟨v1, rfl, ho, hb⟩; obtain ⟨A1, c1, e1⟩ := (OwnE.rd (F := anyB) ho (fun _ _ => trivial)).form; rw [HN.out] at e1; subst e1; have HB := zH hb; clear ho hb)
  go_ret
  exact MovIs.bad HB.out HBW.out (by decide)
 ·rw [if_neg h8] at hE; subst hE
  have h8I : ¬ (8 : Int) < (n : Int) := by omega
  have h8b : decide ((8 : Int) < (n : Int)) = false := decide_eq_false h8I
  clear h1 h2 h3 hs hI hl hn h8
  go_enter Tryz.func130, Tryz.ntmps130
  go_wp2_with (go_at_call 175; refine (CE.out).mono ?_; rintro r w1 ⟨v1, rfl, ho, hb⟩; have HRM := zH (ytp H1.out H2.out HPB.out HBW.out hb ho); obtain ⟨d1, d2, d3, d4, -, -, -⟩ := HRM.out; obtain ⟨A1, c1, e1⟩ := (OwnE.rd (F := anyB) ho (fun _ _ => trivial)).form; rw [HN.out] at e1; subst e1; clear ho hb)
  go_ret
  exact ⟨rfl, fun _ => HRM.out.2.2.2.2.1, HRM.out.2.2.2.2.2⟩
def RuOk (r : S6.RV) : Prop := I64 r.seq /\ I64 r.exp /\ r.seq.length <= 100 /\ r.exp.length <= 100
theorem ytf {t : ST} {r : S6.RV} {A : List Nat} (h1 : ¬ r.rel = 1) (hA : t.A = some A) : rulE t r = if chgE r.rel t.L A ≠ 0 then chgE r.rel t.L A else withE (chgL r.rel t.L A) r.seq (chgA r.rel A ++ elsP (chgL r.rel t.L A) r.exp) := by
 unfold rulE; rw [if_neg h1, hA]
theorem yte {t : ST} {r : S6.RV} {A : List Nat} (h1 : ¬ r.rel = 1) (hA : t.A = some A) : rulS t r = ⟨putP (chgL r.rel t.L A) (r.seq, chgA r.rel A ++ elsP (chgL r.rel t.L A) r.exp), some (chgA r.rel A)⟩ := by
 unfold rulS; rw [if_neg h1, hA]
set_option maxHeartbeats 4000000 in
theorem ypz {B : Nat} {w : World} {px : Nat} {t : ST} (hT : TA U B w px t) (h8 : ∀ A, t.A = some A -> Anc A) {r : S6.RV} {vs ve : Value} (hs : RdI (fun g => g < B) w vs r.seq) (he : RdI (fun g => g < B) w ve r.exp) (hr : RuOk r) {E : Int} (hE : rulE t r = E) :
  Calls Tryz.prog 85 #[.pointer (some ⟨px, 0, none⟩), .agg #[.int .i64 r.rel, vs, ve]] w (MovIs U B px (rulS t r) E w) := by
 obtain ⟨As, cs, rfl⟩ := hs.form; obtain ⟨Ae, ce, rfl⟩ := he.form; have hba := yaa w (.cells #[.int .i64 r.rel, .slice As r.seq.length cs, .slice Ae r.exp.length ce] 136); have hT2 := hT.below hba; have hs2 := RdF.any (RdF.below hs hba (zN _)); have HBW := zH (Nat.le_trans hT.bel.le (Nat.le_of_lt hT.lt)); have HBA := zH (hba.mono HBW.out); have HKA := zH (Kp.of_below hba)
 have c0 : (w.alloc (.cells #[.int .i64 r.rel, .slice As r.seq.length cs, .slice Ae r.exp.length ce] 136)).cell? ⟨w.heap.size, 0, none⟩ = some (.int .i64 r.rel) := yat (heap_alloc_new w _) rfl
 have c1 : (w.alloc (.cells #[.int .i64 r.rel, .slice As r.seq.length cs, .slice Ae r.exp.length ce] 136)).cell? ⟨w.heap.size, 1, none⟩ = some (.slice As r.seq.length cs) := yat (heap_alloc_new w _) rfl
 have c2 : (w.alloc (.cells #[.int .i64 r.rel, .slice As r.seq.length cs, .slice Ae r.exp.length ce] 136)).cell? ⟨w.heap.size, 2, none⟩ = some (.slice Ae r.exp.length ce) := yat (heap_alloc_new w _) rfl
 have hlt : w.heap.size < (w.alloc (.cells #[.int .i64 r.rel, .slice As r.seq.length cs, .slice Ae r.exp.length ce] 136)).heap.size := by simp
 by_cases h1 : r.rel = 1
 ·have hE2 : rstE t.L r.seq = E := by rw [<- hE]; unfold rulE rstE; rw [if_pos h1]
  have hS : rulS t r = ⟨t.L, some (elsP t.L r.seq)⟩ := by unfold rulS; rw [if_pos h1]
  rw [hS]; have CR := zH (ytq hT2 hs2 hr.1 (Nat.le_trans hr.2.2.1 (by omega)) hE2)
  rw [h1] at c0 c1 c2 HBA HKA CR |-; clear hba hT hT2 hs hs2 he hE hE2 hS h8 hr c2 h1 hlt
  go_enter Tryz.func85, Tryz.ntmps85
  go_wp2_with (go_at_call 130; refine (CR.out).mono ?_; rintro q w1 ⟨rfl, k1, k2, k3⟩; have K1 := zH k1; have K2 := zH k2; have K3 := zH k3; clear k1 k2 k3 c0 c1)
  go_ret
  exact ⟨rfl, K1.out, HBA.out.trans K2.out, HKA.out.trans K3.out⟩
 ·have b1 : (r.rel == 1) = false := by rw [beq_eq_false_iff_ne]; exact h1
  cases hA : t.A with
  | none =>
   have hE2 : E = 1 := by rw [<- hE]; unfold rulE; rw [if_neg h1, hA]
   subst hE2; obtain ⟨q, Aa, c, -, -, d2, -, -, -, -, -, -⟩ := hT2.cells rfl; rw [hA] at d2; have d2' := d2; simp only [Option.isSome_none] at d2'; clear hba hT hT2 hs hs2 he hE h8 hr c2 h1 hlt d2
   go_enter Tryz.func85, Tryz.ntmps85
   go_wp2
   go_ret
   exact ⟨rfl, fun e => absurd e (by decide), HBA.out, HKA.out⟩
  | some A =>
   have h8A := h8 A hA; obtain ⟨q, Aa, c, -, -, d2, -, -, -, -, -, -⟩ := hT2.cells rfl; rw [hA] at d2; have d2' := d2; simp only [Option.isSome_some] at d2'; obtain ⟨E1, hE1⟩ : ∃ E1, chgE r.rel t.L A = E1 := ⟨_, rfl⟩; have CC := zH (yrr hT2 hA h8A hE1); rw [ytf h1 hA, hE1] at hE; rw [yte h1 hA]
   by_cases hE0 : E1 = 0
   ·subst hE0; rw [if_neg (by simp)] at hE
    have HS1 := zH hs; have HE1 := zH he
    have CG : Hid (∀ w1, Below B w w1 -> TA U B w1 px ⟨chgL r.rel t.L A, some (chgA r.rel A)⟩ -> Calls Tryz.prog 132 #[.pointer (some ⟨px, 0, none⟩), .slice As r.seq.length cs, .slice Ae r.exp.length ce] w1 (MovIs U B px ⟨putP (chgL r.rel t.L A) (r.seq, chgA r.rel A ++ elsP (chgL r.rel t.L A) r.exp), some (chgA r.rel A)⟩ E w1)) :=
     fun w1 hb hT1 => zah hT1 (ypp h8A hE1) (RdF.any (RdI.keep HS1.out hb)) (RdF.any (RdI.keep HE1.out hb)) hr.2.1 hr.2.2.2 hE
    have HN0 := zH (heap_alloc_new w (.cells #[.int .i64 r.rel, .slice As r.seq.length cs, .slice Ae r.exp.length ce] 136)); clear hba hT hT2 hs hs2 he h8 hr c2 h1 hlt d2 hE1 hA hE h8A
    go_enter Tryz.func85, Tryz.ntmps85
    go_wp2_with (first
     | (go_at_call 131; refine (CC.out).mono ?_; rintro q w1 ⟨rfl, k1, k2, k3⟩; have K1 := zH (k1 rfl); have K2 := zH (HBA.out.trans k2); have K3 := zH (HKA.out.trans k3); have hn := k3 _ _ _ _ HN0.out (by decide) (by decide); have e1 : w1.cell? ⟨w.heap.size, 1, none⟩ = some (.slice As r.seq.length cs) := yat hn rfl; have e2 : w1.cell? ⟨w.heap.size, 2, none⟩ = some (.slice Ae r.exp.length ce) := yat hn rfl; clear k1 k2 k3 c0 c1 d2' hn)
     | (go_at_call 132; refine (CG.out _ K2.out K1.out).mono ?_; rintro q w2 ⟨rfl, k1, k2, k3⟩; have L1 := zH k1; have L2 := zH (K2.out.trans k2); have L3 := zH (K3.out.trans k3); clear k1 k2 k3 e1 e2))
    go_ret
    exact ⟨rfl, L1.out, L2.out, L3.out⟩
   ·rw [if_pos hE0] at hE; subst hE
    have hEn : (E1 != 0) = true := by simpa using hE0
    have HE0 := zH hE0; clear hba hT hT2 hs hs2 he h8 hr c2 h1 hlt d2 hE1 hA hE0
    go_enter Tryz.func85, Tryz.ntmps85
    go_wp2_with (go_at_call 131; refine (CC.out).mono ?_; rintro q w1 ⟨rfl, -, k2, k3⟩; have K2 := zH k2; have K3 := zH k3; clear k2 k3 c0 c1 d2')
    go_ret
    exact ⟨rfl, fun e => absurd e HE0.out, HBA.out.trans K2.out, HKA.out.trans K3.out⟩
end Go.Proofs.YteibnfeokgibmaaGreat
end
namespace Go.Proofs.YteibnfeokgibmaaGreat.S6
open T2 (gb dec one isSg isPt sgs)
def esc (c : Int) : Bool := spcB c || decide (c = 92)
def wr1 (c : Int) : List UInt8 := (if esc c = true then [92] else []) ++ T2.one c.toNat
def wrd (l : List Int) : List UInt8 := l.flatMap wr1
def ruleT (x : RV) : List UInt8 := mk x.rel.toNat ++ [32] ++ wrd x.seq ++ (if x.exp.length = 0 then [] else [32, 47, 32] ++ wrd x.exp)
def txt : List RV -> List UInt8
 | [] => []
 | [x] => ruleT x
 | x :: y :: t => ruleT x ++ [32] ++ txt (y :: t)
def okR (x : RV) : Bool := decide (1 <= x.rel) && decide (x.rel <= 5) && x.seq.all isSg && x.exp.all isSg
def good (l : List RV) : Bool := l.all okR && decide ((parse (txt l)).2.2 = 0) && decide ((parse (txt l)).1 = l)
theorem yue (L : List UInt8) : ∀ (f : Nat) (out : List RV) (k : Nat), k <= L.length -> out.all okR = true -> (parD L f out k).1.all okR = true
 | 0, out, k, hk, ho => by rw [parD]; rfl
 | f + 1, out, k, hk, ho => by
  rw [parD]
  split
  ·split
   ·rfl
   ·exact ho
  ·split
   ·rfl
   ·split
    ·rfl
    ·split
     ·rfl
     ·rename_i h0 h1 h2 h3
      have hw := yby (L.drop k); rw [List.length_drop] at hw
      have hw : 1 <= (relD (L.drop k)).1 /\ (relD (L.drop k)).1 <= 5 /\ 1 <= (relD (L.drop k)).2 /\ (relD (L.drop k)).2 <= L.length - k := by
       rcases hw with hw | hw
       ·rw [hw] at h1; exact absurd (Or.inl rfl) h1
       ·omega
      have hc : k + (relD (L.drop k)).2 <= L.length := by omega
      have hq := yeq hc; have hx := yvz (r := (relD (L.drop k)).1) hq.2; have ha := af_le hx.2; refine yue L f _ _ ha.2 ?_; rw [List.all_append, ho, Bool.true_and]; simp only [List.all_cons, List.all_nil, Bool.and_true, okR, Bool.and_eq_true, decide_eq_true_eq]; refine ⟨⟨⟨by omega, by omega⟩, (yin L 3 [] _ rfl rfl (by simpa [seqD] using h2)).1⟩, ?_⟩
      unfold expD at h3 |-
      split
      ·rename_i h5
       rw [if_pos h5] at h3; exact (yin L 3 [] _ rfl rfl (by simpa [seqD] using h3)).1
      ·rfl
theorem yud (L : List UInt8) : (parse L).1.all okR = true := yue L _ _ _ (af_le (L := L) (k := 0) (Nat.zero_le _)).2 rfl
theorem pt_nat {c : Int} (h : isPt c = true) : ((c.toNat : Nat) : Int) = c := T2.pt_cast h
theorem one_ne (c : Nat) (R : List UInt8) : T2.one c ++ R ≠ [] := by
 have := T2.ykm c
 intro e
 have := congrArg List.length e
 rw [List.length_append] at this; simp only [List.length_nil] at this
 omega
theorem yob {c : Int} (h : isPt c = true) (R : List UInt8) : sg1 (wr1 c ++ R) = (true, c, (wr1 c).length) /\ endd (wr1 c ++ R) = false /\ isBl (gb (wr1 c ++ R) 0) = false := by
 have hc := pt_nat h; have hd := T2.yky (c := c.toNat) (by rw [hc]; exact h) R
 unfold wr1
 by_cases he : esc c = true
 ·rw [if_pos he]
  have hg : gb ([92] ++ T2.one c.toNat ++ R) 0 = 92 := by rw [List.append_assoc, List.singleton_append, T2.yal]; rfl
  have hdr : ([92] ++ T2.one c.toNat ++ R).drop 1 = T2.one c.toNat ++ R := by rw [List.append_assoc, List.singleton_append, List.drop_one, List.tail_cons]
  have hln := T2.ykm c.toNat; refine ⟨?_, ?_, ?_⟩
  ·unfold sg1; rw [if_pos hg, if_neg (by simp only [List.length_append, List.length_singleton]; omega), hdr, hd]
   simp only [hc, List.length_append, List.length_singleton]
  ·unfold endd; rw [hg, decide_eq_false (by simp)]; rfl
  ·rw [hg]; rfl
 ·rw [if_neg he, List.nil_append]; have hde := dec_en (one_ne c.toNat R); rw [hd, hc] at hde
  have he' : esc c = false := by simpa using he
  have h2 : spcB c = false /\ c ≠ 92 := by unfold esc at he'; simpa using he'
  have hen : isEn (gb (T2.one c.toNat ++ R) 0) = false := by rw [<- hde.1]; exact h2.1
  refine ⟨?_, ?_, ynp hen⟩
  ·unfold sg1; rw [if_neg (fun h => h2.2 (hde.2.1.2 h)), hd]
   simp only [hc]
  ·unfold endd; rw [hen, decide_eq_false (by have := T2.ykm c.toNat; simp only [List.length_append]; omega)]; rfl
theorem ybq {L X R : List UInt8} {k : Nat} (h : L.drop k = X ++ R) : L.drop (k + X.length) = R := by
 rw [<- List.drop_drop, h, List.drop_left]
theorem ypn (L R : List UInt8) (hR : endd R = true) : ∀ (l : List Int) (n : Nat) (acc : List Int) (k : Nat), acc.length + n = 3 -> l.length <= n -> l.all isPt = true -> L.drop k = wrd l ++ R →
  colD L n acc k = (decide (0 < (acc ++ l).length), acc ++ l, k + (wrd l).length)
 | [], n, acc, k, hn, hl, hp, hd => by
  have he : endd (L.drop k) = true := by rw [hd]; exact hR
  rw [List.append_nil]
  cases n <;> rw [colD, if_pos he] <;> rfl
 | c :: t, 0, acc, k, hn, hl, hp, hd => by simp at hl
 | c :: t, n + 1, acc, k, hn, hl, hp, hd => by
  simp only [List.all_cons, Bool.and_eq_true] at hp
  have hw : wrd (c :: t) = wr1 c ++ wrd t := rfl
  rw [hw, List.append_assoc] at hd; obtain ⟨h1, h2, -⟩ := yob hp.1 (wrd t ++ R); rw [colD, hd, h1, if_neg (by rw [h2]; simp), if_pos rfl]
  rw [ypn L R hR t n (acc ++ [c]) (k + (wr1 c).length) (by simp; omega) (by simp at hl; omega) hp.2 (ybq hd), hw]
  simp only [List.length_append, List.length_cons, List.length_nil, Nat.add_assoc, List.append_assoc, List.singleton_append, List.cons_append, List.nil_append]
theorem yws (R : List UInt8) : blk (32 :: R) = blk R + 1 := by rw [blk, if_pos (by decide)]
theorem ywe (x : UInt8) (R : List UInt8) : endd (x :: R) = isEn x.toNat := by unfold endd; rw [T2.yal]; simp
theorem yhf {R : List UInt8} (h : isBl (gb R 0) = false) : blk R = 0 := by
 cases R with
 | nil => rfl
 | cons x t => rw [T2.yal] at h; rw [blk, if_neg (by rw [h]; simp)]
theorem wrd_blk {l : List Int} {R : List UInt8} (hl : l ≠ []) (hp : l.all isPt = true) : blk (wrd l ++ R) = 0 := by
 cases l with
 | nil => exact absurd rfl hl
 | cons c t =>
  simp only [List.all_cons, Bool.and_eq_true] at hp; refine yhf ?_; rw [show wrd (c :: t) = wr1 c ++ wrd t from rfl, List.append_assoc]
  exact (yob hp.1 _).2.2
theorem yol {L R : List UInt8} (hR : endd R = true) {l : List Int} {k : Nat} (h0 : 0 < l.length) (h3 : l.length <= 3) (hp : l.all isPt = true) (hd : L.drop k = 32 :: (wrd l ++ R)) :
  seqD L k = (true, l, k + 1 + (wrd l).length) := by
 have hb : blk (L.drop k) = 1 := by rw [hd, yws, wrd_blk (by intro e; rw [e] at h0; simp at h0) hp]
 have hd1 : L.drop (k + 1) = wrd l ++ R := ybq (X := [32]) hd
 unfold seqD; rw [hb, ypn L R hR l 3 [] (k + 1) rfl h3 hp hd1, List.nil_append, decide_eq_true h0]
end Go.Proofs.YteibnfeokgibmaaGreat.S6
namespace Go.Proofs.YteibnfeokgibmaaGreat.S6
open Go.RowKit
theorem RdRs.cap {w : World} {A : Option Addr} {n c : Nat} {L : List RV} (h : RdRs w (.slice A n c) L) : n <= c := by
 obtain ⟨M, -, h⟩ := h
 have := RdF.cap h.1
 omega
theorem RdRs.at' {w : World} {A : Option Addr} {n c : Nat} {L : List RV} (h : RdRs w (.slice A n c) L) {k : Nat} {x : RV} (hk : L[k]? = some x) :
  ∃ (g o : Nat) (A1 : Option Addr) (n1 c1 : Nat) (A2 : Option Addr) (n2 c2 : Nat), A = some ⟨g, o, none⟩ /\ w.cell? ⟨g, o + k * 3, none⟩ = some (.int .i64 x.rel) /\ w.cell? ⟨g, o + k * 3 + 1, none⟩ = some (.slice A1 n1 c1) /\ w.cell? ⟨g, o + k * 3 + 2, none⟩ = some (.slice A2 n2 c2) ∧
   RdI anyB w (.slice A1 n1 c1) x.seq /\ RdI anyB w (.slice A2 n2 c2) x.exp /\ n1 = x.seq.length /\ n2 = x.exp.length := by
 obtain ⟨g, o, vs, ve, e, h0, h1, h2, s1, s2⟩ := h.at hk; obtain ⟨A1, c1, rfl⟩ := s1.form; obtain ⟨A2, c2, rfl⟩ := s2.form; exact ⟨g, o, A1, _, c1, A2, _, c2, e, h0, h1, h2, s1, s2, rfl, rfl⟩
def SV.own (B : Nat) (l : List Int) : SV := ⟨fun v w => T2.OwnI B w v l, fun v w w' h hb => OwnI.below h hb (zN _)⟩
def RowV (B : Nat) (x : RV) (v : Value) (w : World) : Prop := ∃ (m : MR) (g1 : Nat), m.pl = x /\ v = .slice (some ⟨g1, 0, none⟩) 1 1 /\ RdF anyB w (.slice (some ⟨g1, 0, none⟩) 1 1) 1 (rcells [m]) /\ T2.OwnI B w m.vs m.s /\ T2.OwnI B w m.ve m.e
def SV.row (B : Nat) (x : RV) : SV := ⟨RowV B x, fun v w w' h hb => by
 obtain ⟨m, g1, h1, h2, h3, h4, h5⟩ := h; exact ⟨m, g1, h1, h2, h3.below hb (zN _), OwnI.below h4 hb (zN _), OwnI.below h5 hb (zN _)⟩⟩
end Go.Proofs.YteibnfeokgibmaaGreat.S6
