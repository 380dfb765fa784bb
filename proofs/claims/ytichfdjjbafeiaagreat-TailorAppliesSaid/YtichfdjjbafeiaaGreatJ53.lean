/-
  PACKED for a claim.
-/
import Derived.Test.YtichfdjjbafeiaaGreatJ50
set_option linter.unusedVariables false
set_option linter.unusedSimpArgs false
set_option maxRecDepth 100000
namespace Go.Proofs.YtichfdjjbafeiaaGreat
open Go.RowKit
def exA (j : Nat) : Nat := if j = 3 then 5 else if j = 5 \/ j = 9 then 10 else 1000
def dpA (i j : Nat) : Bool := ((i == 10) && (j == 11 || j == 12 || j == 13 || j == 14)) || ((i == 5) && (j == 10))
theorem ykx {n : Nat} (hn : 11 <= n) (k i : Nat) (h : n <= k) : dpA k i = false := by
 unfold dpA
 have h1 : (k == 10) = false := by rw [beq_eq_false_iff_ne]; omega
 have h2 : (k == 5) = false := by rw [beq_eq_false_iff_ne]; omega
 rw [h1, h2]; rfl
set_option maxHeartbeats 16000000 in
theorem yit {w : World} {v rv : Value} {L : List PE} {l : List S6.RV} (h : RefT w v L) (hg : GoodT L) (hp : 0 < L.length) (hr : S6.RdRs w rv l) (hl : l.length <= 60) (hok : ∀ r ∈ l, RuOk r) {c : Nat} (hlim : Lim c L) (hc : c + l.length <= 60) {E : Int} (hE : appE L l = E) {L' : List PE} (hL' : appL L l = L') :
  Calls Tryz.prog 19 #[.agg #[v], rv] w (RAppIs L' E w) := by
 obtain ⟨Av, cv, rfl⟩ := h.form; obtain ⟨Ar, cr, rfl⟩ := hr.form; have hA := yaa w (.cells #[.slice Av L.length cv] 52); have hA2 := yaa (w.alloc (.cells #[.slice Av L.length cv] 52)) (.cells #[.slice none 0 0] 52); have h2 := (hA2.block _ (R4.yac (heap_alloc_new w (.cells #[.slice Av L.length cv] 52)))).trans (heap_alloc_new w (.cells #[.slice Av L.length cv] 52)); have h4 := heap_alloc_new (w.alloc (.cells #[.slice Av L.length cv] 52)) (.cells #[.slice none 0 0] 52)
 have HA0 : Hid (RA w.heap.size w.heap.size (w.alloc (.cells #[.slice Av L.length cv] 52)).heap.size c ⟨L, none⟩ (.slice none 0 0) ((w.alloc (.cells #[.slice Av L.length cv] 52)).alloc (.cells #[.slice none 0 0] 52))) :=
  ⟨⟨Av, cv, h2, (h.below hA (zN _)).below hA2 (zN _)⟩, h4, World.ownsRow_nil _ _ _ _, hg, (fun A e => by cases e), ⟨hlim, fun A e => by cases e⟩, hp⟩
 have HB0 := zH (hA.trans (hA2.mono hA.size)); rw [World.size_alloc] at HA0; have HR := zH hr; have HOK := zH hok; obtain ⟨n, hn⟩ : ∃ n, l.length = n := ⟨_, rfl⟩; have HN := zH hn; rw [hn] at HR hl hc |-
 have hnI : (n : Int) <= 60 := by omega
 have HC60 := zH hc; unfold appE at hE; unfold appL at hL'; have HEE := zH hE; have HLL := zH hL'; obtain ⟨nL, hnL⟩ : ∃ n, L.length = n := ⟨_, rfl⟩; rw [hnL] at HA0 HB0 |-; clear h hg hp hr hok hn hlim hE hL' hA hA2 h2 h4 hnL
 go_enter Tryz.func19, Tryz.ntmps19
 go_wp2
 generalize ((w.alloc (.cells #[.slice Av nL cv] 52)).alloc (.cells #[.slice none 0 0] 52)) = w0 at HA0 HB0 |-; obtain ⟨b2, hb2⟩ : ∃ b, w.heap.size = b := ⟨_, rfl⟩
 have HB2 : Hid (w.heap.size <= b2) := by show _ <= _; omega
 rw [hb2] at HA0 |-; obtain ⟨b4, hb4⟩ : ∃ b, b2 + 1 = b := ⟨_, rfl⟩
 have HB4 : Hid (w.heap.size <= b4) := by show _ <= _; omega
 have HNE : Hid (b2 ≠ b4) := by show _ ≠ _; omega
 rw [hb4] at HA0 |-
 have HA1 : Hid (RA w.heap.size b2 b4 c ⟨L, none⟩ (.slice none 0 0) w0) := by have h := HA0.out; rw [<- hb2] at h |-; exact h
 clear hb2 hb4 HA0
 go_loopw [6, 7, 8] (fun a th i wr => ∃ (k : Nat) (t : ST), k <= n /\ i = .int .i64 (k : Nat) /\ th = .bool t.A.isSome /\ Hid (RA w.heap.size b2 b4 (c + k) t a wr) /\ Hid (rlsE t (l.drop k) = rlsE ⟨L, none⟩ l) /\ Hid (rlsS t (l.drop k) = rlsS ⟨L, none⟩ l) /\ Hid (Below w.heap.size w wr)) (fun _ _ i _ => n - (intOf i).toNat)
 case atStart => exact ⟨0, ⟨L, none⟩, Nat.zero_le _, rfl, rfl, HA1.out, rfl, rfl, HB0.out⟩
 case round =>
  clear HA1 HB0; obtain ⟨k, t, hk, rfl, rfl, HA, HE, HS, HB⟩ := hrel; obtain ⟨wo, rfl⟩ : ∃ wo, wo = wr := ⟨_, rfl⟩; obtain ⟨Aa, ca, ea⟩ := HA.out.anc.form; subst ea; obtain ⟨na, hna⟩ : ∃ m, (t.A.getD []).length = m := ⟨_, rfl⟩; rw [hna] at HA |-
  have HNA : Hid (na = (t.A.getD []).length) := hna.symm
  clear hna
  by_cases hlt : k < n
  ·obtain ⟨r, hr⟩ : ∃ r, l[k]? = some r := ⟨_, List.getElem?_eq_getElem (by rw [HN.out]; exact hlt)⟩
   obtain ⟨g, o, vs, ve, rfl, d0, d1, d2, s1, s2⟩ := ysi HR.out hr; have hro := HOK.out r (List.mem_of_getElem? hr); have c0 := (HB.out.cell (yah d0)).trans d0; have c1 := (HB.out.cell (yah d1)).trans d1; have c2 := (HB.out.cell (yah d2)).trans d2; obtain ⟨hc1, hc2⟩ := yof (t := t) hr; rw [HE.out] at hc1; rw [HS.out] at hc2; obtain ⟨A1, k1, rfl⟩ := s1.form; obtain ⟨A2, k2, rfl⟩ := s2.form; have S1 := zH s1; have S2 := zH s2; have hba := yaa wo (.cells #[.int .i64 r.rel, .slice A1 r.seq.length k1, .slice A2 r.exp.length k2] 39)
   have HX : Hid ((wo.alloc (.cells #[.int .i64 r.rel, .slice A1 r.seq.length k1, .slice A2 r.exp.length k2] 39)).heap[wo.heap.size]? = some (.cells #[.int .i64 r.rel, .slice A1 r.seq.length k1, .slice A2 r.exp.length k2] 39 (0, 0))) := heap_alloc_new wo _
   have HBA := zH (HB.out.trans (hba.mono HB.out.size)); obtain ⟨⟨Av1, cv1, hvar, href⟩, hres, hanc, hgood, hans, hlim, hpos⟩ := HA.out; have VX := zH ((hba.block b2 (R4.yac hvar)).trans hvar); have RX := zH (href.below hba (zN _)); have R4X := zH ((hba.block b4 (R4.yac hres)).trans hres)
   have OX : Hid (OwnQ w.heap.size (wo.alloc (.cells #[.int .i64 r.rel, .slice A1 r.seq.length k1, .slice A2 r.exp.length k2] 39)) (.slice Aa na ca) (t.A.getD [])) := R4.yai hanc hba (zN _)
   have HGD := zH hgood; have HAS := zH hans; have HLI := zH hlim; have HPO := zH hpos
   have HCK : Hid (c + k <= 60) := by have := HC60.out; show _ <= _; omega
   have x0 := yad (i := 0) (v := .int .i64 r.rel) HX.out rfl; have x1 := yad (i := 1) (v := .slice A1 r.seq.length k1) HX.out rfl; have x2 := yad (i := 2) (v := .slice A2 r.exp.length k2) HX.out rfl; have v0 := yad (i := 0) (v := .slice Av1 t.L.length cv1) VX.out rfl; have z4 := yad (i := 0) (v := .slice none 0 0) R4X.out rfl; have z4f := frozen_of_row _ b4 0 _ _ R4X.out
   have hkI : (k : Int) < (n : Int) := by omega
   obtain ⟨b9, hb9⟩ : ∃ b, wo.heap.size = b := ⟨_, rfl⟩; clear hr d0 d1 d2 s1 s2 hba hvar href hres hanc hgood hans hlim hpos hlt
   by_cases h1 : r.rel = 1
   ·have CO : Hid (Calls Tryz.prog 42 #[.agg #[.slice Av1 t.L.length cv1], .slice A1 r.seq.length k1] (wo.alloc (.cells #[.int .i64 r.rel, .slice A1 r.seq.length k1, .slice A2 r.exp.length k2] 39)) (GotQ (wo.alloc (.cells #[.int .i64 r.rel, .slice A1 r.seq.length k1, .slice A2 r.exp.length k2] 39)).heap.size (wo.alloc (.cells #[.int .i64 r.rel, .slice A1 r.seq.length k1, .slice A2 r.exp.length k2] 39)) (elsP t.L r.seq))) := yjw RX.out HGD.out (RdF.any (RdI.keep S1.out HBA.out)) hro.1 (Nat.le_trans hro.2.2.1 (by omega))
    obtain ⟨m, hm⟩ : ∃ m, (elsP t.L r.seq).length = m := ⟨_, rfl⟩; have HM := zH hm
    have HRE : Hid (rulE t r = if 8 < m then 1 else 0) := by show _ = _; unfold rulE; rw [if_pos h1, hm]
    have HRS : Hid (rulS t r = ⟨t.L, some (elsP t.L r.seq)⟩) := by show _ = _; unfold rulS; rw [if_pos h1]
    rw [HRE.out] at hc1; rw [h1] at x0 x1 x2 v0 z4 z4f HX HBA VX RX R4X OX CO c0
    by_cases h8 : 8 < m
    ·rw [if_pos h8, if_pos (by simp)] at hc1
     have HF : Hid (E = 1) := by have h := HEE.out; show _ = _; rw [<- h, hc1, if_pos (by simp)]
     have h8I : (8 : Int) < (m : Int) := by omega
     clear hc1 hc2 hm h8 h1 hro
     go_wp2_with (go_at_call 42; refine (CO.out).mono ?_; rintro q w5 ⟨v5, rfl, ho5, hb5⟩; obtain ⟨A5, c5, f5⟩ := ho5.form; rw [HM.out] at f5; subst f5; have HB5 := zH (HBA.out.trans (hb5.mono HBA.out.size)); have R5 := zH ((hb5.block b4 (R4.yac R4X.out)).trans R4X.out); have y4 := yad (i := 0) (v := .slice none 0 0) R5.out rfl; have y4f := frozen_of_row _ b4 0 _ _ R5.out; clear hb5 ho5 x0 x1 x2 v0 z4 z4f c0 c1 c2)
     have h9 := heap_setCell_same w5 b4 0 _ _ (.slice none 0 0) R5.out; have x9 := yad (i := 0) (v := .slice none 0 0) h9 rfl; refine bodyPost_ret (v := .tuple #[.agg #[.slice none 0 0], .int .i64 1]) (by simp [results, Tryz.results19, go_sem, x9]) rfl ?_
     rw [HF.out]; exact RAppIs.bad (by decide) (HB5.out.setCell (by show _ <= b4; exact HB4.out) _)
    ·rw [if_neg h8, if_neg (by simp)] at hc1
     have HC1 := zH hc1; have HC2 := zH hc2
     have HE0 : Hid (rulE t r = 0) := by show _ = _; rw [HRE.out, if_neg h8]
     have h8I : ¬ (8 : Int) < (m : Int) := by omega
     have h8b : decide ((8 : Int) < (m : Int)) = false := decide_eq_false h8I
     clear hc1 hc2 hm h8 h1 hro
     go_wp2_with (go_at_call 42; refine (CO.out).mono ?_; rintro q w5 ⟨v5, rfl, ho5, hb5⟩; obtain ⟨A5, c5, f5⟩ := ho5.form; rw [HM.out] at f5; subst f5; have HO5 := zH ho5; have HBN := zH hb5; clear hb5 ho5 x0 x1 x2 v0 z4 z4f c0 c1 c2)
     go_roundw
     case rel =>
      refine ⟨k + 1, rulS t r, by omega, by go_num, by rw [HRS.out]; rfl, ?_, HC1.out.symm, HC2.out.symm, HBA.out.trans (HBN.out.mono HBA.out.size)⟩
      have hli := yjt HGD.out HAS.out HLI.out HCK.out HE0.out; have han := ygt HGD.out HAS.out HE0.out; rw [HRS.out] at hli han |-; refine ⟨⟨Av1, cv1, (HBN.out.block b2 (R4.yac VX.out)).trans VX.out, RX.out.below HBN.out (zN _)⟩, (HBN.out.block b4 (R4.yac R4X.out)).trans R4X.out, R4.yaq HO5.out HBA.out.size, HGD.out, han, ?_, HPO.out⟩; rw [show c + (k + 1) = c + k + 1 by omega]; exact hli
     case measure => simp [intOf] <;> omega
   ·obtain ⟨rr, hrr⟩ : ∃ rr, r.rel = rr := ⟨_, rfl⟩
    have b1 : (rr == 1) = false := by rw [beq_eq_false_iff_ne, <- hrr]; exact h1
    rw [hrr] at x0 x1 x2 v0 z4 z4f HX HBA VX RX R4X OX c0; obtain ⟨e, he⟩ : ∃ e, rulE t r = e := ⟨_, rfl⟩; rw [he] at hc1
    have HER : Hid (e ≠ 0 -> E = e) := by
     intro h0; rw [if_pos h0] at hc1; rw [<- HEE.out, hc1, if_pos h0]
    cases hA : t.A with
    | none =>
     have hE1 : e = 1 := by rw [<- he]; unfold rulE; rw [if_neg h1, hA]
     have HF : Hid (E = 1) := by rw [<- hE1]; exact HER.out (by omega)
     have hth : t.A.isSome = false := by rw [hA]; rfl
     clear hc1 hc2 he hA h1 hrr hro hE1
     go_wp2
     have h9 := heap_setCell_same (wo.alloc (.cells #[.int .i64 rr, .slice A1 r.seq.length k1, .slice A2 r.exp.length k2] 39)) b4 0 _ _ (.slice none 0 0) R4X.out; have x9 := yad (i := 0) (v := .slice none 0 0) h9 rfl; refine bodyPost_ret (v := .tuple #[.agg #[.slice none 0 0], .int .i64 1]) (by simp [results, Tryz.results19, go_sem, x9]) rfl ?_
     rw [HF.out]; exact RAppIs.bad (by decide) (HBA.out.setCell (by show _ <= b4; exact HB4.out) _)
    | some A =>
     have hth : t.A.isSome = true := by rw [hA]; rfl
     have hgA : t.A.getD [] = A := by rw [hA]; rfl
     rw [hgA] at OX; have h8 := HAS.out A hA; have h8n := h8.1; have hrE := ymt h1 hA; have hrS := yju h1 hA
     have HNA2 : Hid (na = A.length) := by have h := HNA.out; rw [hgA] at h; exact h
     by_cases hlo : rr < 1 \/ 5 < rr
     ·have hE1 : e = 1 := by
       rw [<- he, hrE, hrr]
       have hc : chgE rr t.L A = 1 := by unfold chgE; rw [if_neg (by omega), if_neg (by omega), if_neg (by omega), if_neg (by omega)]
       rw [hc, if_pos (by decide)]
      have HF : Hid (E = 1) := by rw [<- hE1]; exact HER.out (by omega)
      by_cases hl1 : rr < 1
      ·clear hc1 hc2 he hA h1 hrr hro hE1 hlo hrE hrS h8 hgA
       go_wp2
       have h9 := heap_setCell_same (wo.alloc (.cells #[.int .i64 rr, .slice A1 r.seq.length k1, .slice A2 r.exp.length k2] 39)) b4 0 _ _ (.slice none 0 0) R4X.out; have x9 := yad (i := 0) (v := .slice none 0 0) h9 rfl; refine bodyPost_ret (v := .tuple #[.agg #[.slice none 0 0], .int .i64 1]) (by simp [results, Tryz.results19, go_sem, x9]) rfl ?_
       rw [HF.out]; exact RAppIs.bad (by decide) (HBA.out.setCell (by show _ <= b4; exact HB4.out) _)
      ·have hl2 : 5 < rr := by omega
       have hl1b : decide (rr < 1) = false := decide_eq_false hl1
       clear hc1 hc2 he hA h1 hrr hro hE1 hlo hrE hrS h8 hgA
       go_wp2
       have h9 := heap_setCell_same (wo.alloc (.cells #[.int .i64 rr, .slice A1 r.seq.length k1, .slice A2 r.exp.length k2] 39)) b4 0 _ _ (.slice none 0 0) R4X.out; have x9 := yad (i := 0) (v := .slice none 0 0) h9 rfl; refine bodyPost_ret (v := .tuple #[.agg #[.slice none 0 0], .int .i64 1]) (by simp [results, Tryz.results19, go_sem, x9]) rfl ?_
       rw [HF.out]; exact RAppIs.bad (by decide) (HBA.out.setCell (by show _ <= b4; exact HB4.out) _)
     ·have hl1 : ¬ rr < 1 := by omega
      have hl1b : decide (rr < 1) = false := decide_eq_false hl1
      have hl2 : ¬ 5 < rr := by omega
      have hl2b : decide (5 < rr) = false := decide_eq_false hl2
      have HGNX : Hid (e = 0 -> GoodT (rulS t r).L /\ AnS (rulS t r) /\ LimS (c + k + 1) (rulS t r) /\ 0 < (rulS t r).L.length) := fun h0 => ⟨ylj HGD.out HAS.out (he.trans h0), ygt HGD.out HAS.out (he.trans h0), yjt HGD.out HAS.out HLI.out HCK.out (he.trans h0), yoe HPO.out⟩
      have HNXT : Hid (e = 0 -> rlsE ⟨L, none⟩ l = rlsE (rulS t r) (l.drop (k + 1)) /\ rlsS ⟨L, none⟩ l = rlsS (rulS t r) (l.drop (k + 1))) := fun h0 => ⟨by rw [if_neg (by simp [h0])] at hc1; exact hc1, hc2⟩
      by_cases hr5 : rr = 5
      ·subst hr5
       have hce : chgE 5 t.L A = 0 := rfl
       have hcl : chgL 5 t.L A = t.L := rfl
       have hca : chgA 5 A = A := rfl
       rw [hrr, hce, if_neg (by simp), hcl, hca] at hrE
       rw [hrr, hcl, hca] at hrS; obtain ⟨L1, hL1⟩ : ∃ L1, t.L = L1 := ⟨_, rfl⟩; obtain ⟨B1, hB1⟩ : ∃ B1, A = B1 := ⟨_, rfl⟩; rw [hL1, hB1] at hrE hrS; have HW1 := zH (he.symm.trans hrE); have VC := VX; have RC := RX; have OC := OX; have XC := HX; have R4C := R4X; have BC := HBA
       have GC := HGD; have PC := HPO
       have AN := zH h8; have HRU := zH hro; rw [hL1] at VC RC GC PC v0; rw [hB1] at OC AN HNA2; have NBA := HNA2; have HRS := zH hrS; obtain ⟨Ab, hAb⟩ : ∃ a, Aa = a := ⟨_, rfl⟩; obtain ⟨cb, hcb⟩ : ∃ a, ca = a := ⟨_, rfl⟩; obtain ⟨nb, hnb⟩ : ∃ a, na = a := ⟨_, rfl⟩; rw [hAb, hnb, hcb] at OC |-; rw [hnb] at NBA; clear hc1 hc2 he hA h1 hrr hlo hrE hrS h8 h8n hgA hce hcl hca VX RX OX R4X HNA2 HX HGD HPO HA HE HS hro
       go_upto_region 19 with (fail)
       clear x0 x1 x2 c0 c1 c2 z4 z4f v0; generalize (wo.alloc (.cells #[.int .i64 5, .slice A1 r.seq.length k1, .slice A2 r.exp.length k2] 39)) = wc at VC RC OC XC R4C BC; rw [hb9] at XC; have OC2 := zH OC.out
       have S1C : Hid (RdI anyB wc (.slice A1 r.seq.length k1) r.seq) := RdF.any (RdI.keep S1.out BC.out)
       have S2C : Hid (RdI anyB wc (.slice A2 r.exp.length k2) r.exp) := RdF.any (RdI.keep S2.out BC.out)
       have VC0 := zH (yad (i := 0) (v := .slice Av1 L1.length cv1) VC.out rfl); have XC1 := zH (yad (i := 1) (v := .slice A1 r.seq.length k1) XC.out rfl); have XC2 := zH (yad (i := 2) (v := .slice A2 r.exp.length k2) XC.out rfl); obtain ⟨l2, hl2⟩ : ∃ l2, elsP L1 r.exp = l2 := ⟨_, rfl⟩; have hl2n := ykv GC.out r.exp; rw [hl2] at hl2n HW1
       have HLL2 : Hid (B1.length + l2.length <= 1000) := by have h1 := AN.out.1; have h2 := HRU.out.2.2.2; show _ <= _; omega
       have HL2 := zH hl2
       have HLW : Hid (∀ x ∈ B1 ++ l2, x < 4294967296) := by show ∀ x ∈ _, _; rw [<- hl2]; exact ynl GC.out AN.out r.exp
       have CO : Hid (∀ w1, Below wc.heap.size wc w1 -> Calls Tryz.prog 42 #[.agg #[.slice Av1 L1.length cv1], .slice A2 r.exp.length k2] w1 (GotQ w1.heap.size w1 l2)) := fun w1 hb => by rw [<- HL2.out]; exact yjw (RC.out.below hb (zN _)) GC.out (S2C.out.below hb (zN _)) HRU.out.2.1 (Nat.le_trans HRU.out.2.2.2 (by omega))
       have CW : Hid (∀ w1 u, Below wc.heap.size wc w1 -> RdQ anyB w1 u (B1 ++ l2) -> Calls Tryz.prog 44 #[.agg #[.slice Av1 L1.length cv1], .slice A1 r.seq.length k1, u] w1 (RWithIs anyB L1 r.seq (B1 ++ l2) w1)) := fun w1 u hb hu => yli (fun _ _ => trivial) GC.out PC.out (RC.out.below hb (zN _)) (S1C.out.below hb (zN _)) hu
       have HA1L : Hid (B1.length <= 1000) := by have h1 := AN.out.1; show _ <= _; omega
       obtain ⟨nb0, hnb0⟩ : ∃ m, B1.length = m := ⟨_, rfl⟩; have HNB := zH hnb0
       have hnbe : nb = nb0 := by rw [<- hnb0]; exact NBA.out
       subst hnbe; obtain ⟨nv1, hnv1⟩ : ∃ m, L1.length = m := ⟨_, rfl⟩; have HNV := zH hnv1; rw [hnv1] at VC0 CO CW; obtain ⟨n1, hn1⟩ : ∃ m, r.seq.length = m := ⟨_, rfl⟩; rw [hn1] at XC1 CW; obtain ⟨n2, hn2⟩ : ∃ m, r.exp.length = m := ⟨_, rfl⟩; rw [hn2] at XC2 CO; obtain ⟨E2, hE2⟩ : ∃ E2, withE L1 r.seq (B1 ++ l2) = E2 := ⟨_, rfl⟩; have HE2 := zH hE2; rw [hE2] at HW1; have hw1e := HW1.out; rw [hw1e] at HER HGNX HNXT; have xc1 := XC1.out; have xc2 := XC2.out; have vc0 := VC0.out; have hroS := HRU.out; clear hl2 hl2n hnb0 hnv1 hn1 hn2 xc1 xc2 vc0 hroS hE2 hw1e
       by_cases hE20 : E2 = 0
       ·subst hE20; have HC1 := zH (HNXT.out rfl).1; have HC2 := zH (HNXT.out rfl).2; have HGN := zH (HGNX.out rfl).1; have HAN := zH (HGNX.out rfl).2.1; have HLN := zH (HGNX.out rfl).2.2.1; have HPN := zH (HGNX.out rfl).2.2.2; refine ycv (m := 16) 14 exA dpA (by kernel_rfl) (ykx (by decide)) [70, 71, 72, 73, 74, 75, 76, 77, 78, 79, 80, 81, 69, 82, 83, 13] [SV.eq (.agg #[.slice Av1 nv1 cv1]), SV.eq (.pointer (some ⟨b9, 1, none⟩)), SV.eq (.slice A1 n1 k1), SV.empq wc.heap.size, SV.eq (.slice Ab nb cb), SV.oq wc.heap.size B1, SV.eq (.agg #[.slice Av1 nv1 cv1]), SV.eq (.pointer (some ⟨b9, 2, none⟩)), SV.eq (.slice A2 n2 k2), SV.qs l2, SV.oq wc.heap.size (B1 ++ l2), SV.rw (putP L1 (r.seq, B1 ++ l2)), SV.rw (putP L1 (r.seq, B1 ++ l2)), SV.ref (putP L1 (r.seq, B1 ++ l2)), SV.eq (.int .i64 0), SV.newT wc.heap.size] (by kernel_rfl) (by kernel_rfl) ?_ ?_ ?_
        ·refine ⟨⟨⟨⟨⟨⟨⟨⟨⟨⟨⟨⟨⟨⟨⟨⟨trivial, ?_⟩, ?_⟩, ?_⟩, ?_⟩, ?_⟩, ?_⟩, ?_⟩, ?_⟩, ?_⟩, ?_⟩, ?_⟩, ?_⟩, ?_⟩, ?_⟩, ?_⟩, ?_⟩
         ·refine OpIs.toE (by kernel_rfl) (by kernel_rfl) ?_
          ·refine OpIs.mk rfl ?_; intro vs w1 hb hd K hK; have c0 := yab hb VC0.out; simp only [frameV, zS, zA, zB, zC, zD] at hK |-; have HK := zH hK; clear hK; go_simp; exact HK.out _ _ rfl (zR _ _)
         ·refine OpIs.toE (by kernel_rfl) (by kernel_rfl) ?_
          ·refine OpIs.mk rfl ?_; intro vs w1 hb hd K hK; simp only [frameV, zS, zA, zB, zC, zD] at hK |-; have HK := zH hK; clear hK; go_simp; exact HK.out _ _ rfl (zR _ _)
         ·refine OpIs.toE (by kernel_rfl) (by kernel_rfl) ?_
          ·refine OpIs.mk rfl ?_; intro vs w1 hb hd K hK
           have d1 : vs 1 = .pointer (some ⟨b9, 1, none⟩) := hd 1 (by kernel_rfl)
           have c0 := yab hb XC1.out; simp only [frameV, zS, zA, zB, zC, zD] at hK |-; simp only [d1] at hK |-; have HK := zH hK; clear hK; go_simp; exact HK.out _ _ rfl (zR _ _)
         ·refine OpIs.toE (by kernel_rfl) (by kernel_rfl) ?_
          ·refine OpIs.mk rfl ?_; intro vs w1 hb hd K hK; simp only [frameV, zS, zA, zB, zC, zD] at hK |-; have HK := zH hK; clear hK; go_simp; exact HK.out _ _ ⟨_, rfl, yha w1 hb.size⟩ (yaa w1 _)
         ·refine OpIs.toE (by kernel_rfl) (by kernel_rfl) ?_
          ·refine OpIs.mk rfl ?_; intro vs w1 hb hd K hK; simp only [frameV, zS, zA, zB, zC, zD] at hK |-; have HK := zH hK; clear hK; go_simp; exact HK.out _ _ rfl (zR _ _)
         ·refine OpIs.toE (by kernel_rfl) (by kernel_rfl) ?_
          refine OpIs.mk rfl ?_; intro vs w1 hb hd K hK
          have d3 : ∃ g0 : Nat, (vs 3) = .slice (some ⟨g0, 0, none⟩) 0 0 /\ OwnQ wc.heap.size w1 (vs 3) [] := hd 3 (by kernel_rfl)
          have d4 : vs 4 = .slice Ab nb cb := hd 4 (by kernel_rfl)
          have q1 := Exists.choose_spec d3; generalize Exists.choose d3 = g0 at q1; have q2 := q1.1; have q3 := q1.2; rw [q2] at q3; clear q1 d3; simp only [frameV, zS, zA, zB, zC, zD] at hK |-; simp only [q2, d4] at hK |-; refine yfs rfl (.tmp 73) (.tmp 74) 75 rfl rfl wc.heap.size g0 B1 HNB.out rfl rfl q3 (RdQ.below (by have h := OwnQ.rd (F := anyB) OC2.out (fun _ _ => trivial); exact h) hb (zN _)) hb.size (by have := HA1L.out; have := HNB.out; omega) ?_
          intro v' w' h1 h2; simp only [zS, zA, zB]; exact hK v' w' h1 h2
         ·refine OpIs.toE (by kernel_rfl) (by kernel_rfl) ?_
          ·refine OpIs.mk rfl ?_; intro vs w1 hb hd K hK; have c0 := yab hb VC0.out; simp only [frameV, zS, zA, zB, zC, zD] at hK |-; have HK := zH hK; clear hK; go_simp; exact HK.out _ _ rfl (zR _ _)
         ·refine OpIs.toE (by kernel_rfl) (by kernel_rfl) ?_
          ·refine OpIs.mk rfl ?_; intro vs w1 hb hd K hK; simp only [frameV, zS, zA, zB, zC, zD] at hK |-; have HK := zH hK; clear hK; go_simp; exact HK.out _ _ rfl (zR _ _)
         ·refine OpIs.toE (by kernel_rfl) (by kernel_rfl) ?_
          ·refine OpIs.mk rfl ?_; intro vs w1 hb hd K hK
           have d7 : vs 7 = .pointer (some ⟨b9, 2, none⟩) := hd 7 (by kernel_rfl)
           have c0 := yab hb XC2.out; simp only [frameV, zS, zA, zB, zC, zD] at hK |-; simp only [d7] at hK |-; have HK := zH hK; clear hK; go_simp; exact HK.out _ _ rfl (zR _ _)
         ·refine OpIsE.mk rfl ?_; intro vs w1 hb hd K hK'
          have HK5 : ∀ v w2, RdQ anyB w2 v l2 -> Below w1.heap.size w1 w2 -> K ⟨(frameV _ _ vs 0).setIfInBounds _ v, _⟩ w2 := fun v w2 h1 h2 => hK' v w2 h1 (hb.trans (h2.mono hb.size)) fun j _ _ _ _ u hu => (List.getD _ j SV.any).st _ _ _ hu h2
          have d6 : vs 6 = .agg #[.slice Av1 nv1 cv1] := hd 6 (by kernel_rfl) (by unfold exA; simp)
          have d8 : vs 8 = .slice A2 n2 k2 := hd 8 (by kernel_rfl) (by unfold exA; simp)
          clear hK'; simp only [frameV, zS, zA, zB, zC, zD] at HK5 |-; simp only [d6, d8] at HK5 |-; have HK6 := zH HK5; clear HK5; go_simp
          go_at_call 42
          refine (CO.out w1 hb).mono ?_; rintro r5 w5 ⟨v5, rfl, ho5, hb5⟩; exact HK6.out _ _ (OwnQ.rd (F := anyB) ho5 fun _ _ => trivial) hb5
         ·refine OpIsE.mk rfl ?_; intro vs w1 hb hd K hK
          have d5 : OwnQ wc.heap.size w1 (vs 5) B1 := hd 5 (by kernel_rfl) (.inl rfl)
          have d9 : RdQ anyB w1 (vs 9) l2 := hd 9 (by kernel_rfl) (.inl rfl)
          obtain ⟨A9, c9, e9⟩ : ∃ A c, vs 9 = .slice A l2.length c := d9.form; rw [e9] at d9; simp only [frameV, zS, zA, zB, zC, zD] at hK |-; simp only [e9] at hK |-; refine yhd rfl (.tmp 75) (.tmp 79) 80 rfl rfl wc.heap.size (vs 5) B1 l2 rfl rfl rfl d5 d9 hb.size HLL2.out ?_; intro v' w' h1 h2; simp only [zS, zA, zB]; refine hK v' w' h1 (hb.grown h2 hb.size (fun q hq => (World.ownsRow.lt d5 q hq).1)) ?_
          intro j hj10 hjx hjd hjd2 u hu
          match j, hj10, hjx, hjd, hjd2 with
          | 0, _, _, _, _ => exact hu
          | 1, _, _, _, _ => exact hu
          | 2, _, _, _, _ => exact hu
          | 3, _, _, _, h => exact absurd h (by decide)
          | 4, _, _, _, _ => exact hu
          | 5, _, h, _, _ => exact absurd rfl h
          | 6, _, _, _, _ => exact hu
          | 7, _, _, _, _ => exact hu
          | 8, _, _, _, _ => exact hu
          | 9, _, h, _, _ => exact absurd rfl h
          | 10, h, _, _, _ => exact absurd rfl h
          | 11, _, _, h, _ => exact absurd h (by decide)
          | 12, _, _, h, _ => exact absurd h (by decide)
          | 13, _, _, h, _ => exact absurd h (by decide)
          | 14, _, _, h, _ => exact absurd h (by decide)
          | 15, _, _, _, _ => obtain ⟨g, e1, e2, e3⟩ := hu; exact ⟨g, e1, e2, yfi (N := 0) e3 d5 h2⟩
          | j + 16, _, _, _, _ => exact trivial
         ·refine OpIs.toE (by kernel_rfl) (by kernel_rfl) ?_
          ·refine OpIs.mk rfl ?_; intro vs w1 hb hd K hK
           have d0 : vs 0 = .agg #[.slice Av1 nv1 cv1] := hd 0 (by kernel_rfl)
           have d2 : vs 2 = .slice A1 n1 k1 := hd 2 (by kernel_rfl)
           have d10 : OwnQ wc.heap.size w1 (vs 10) (B1 ++ l2) := hd 10 (by kernel_rfl)
           have d10' := OwnQ.rd (F := anyB) d10 fun _ _ => trivial
           have D10 := zH d10'; clear d10 d10'; simp only [frameV, zS, zA, zB, zC, zD] at hK |-; simp only [d0, d2] at hK |-; have HK := zH hK; clear hK; go_simp
           go_at_call 44
           refine (CW.out w1 _ hb D10.out).mono ?_; rintro r5 w5 ⟨h1, -, hb5⟩; obtain ⟨u5, rfl, hu5⟩ := h1 HE2.out; exact HK.out _ _ ⟨u5, rfl, hu5⟩ hb5
         ·refine OpIs.toE (by kernel_rfl) (by kernel_rfl) ?_
          ·refine OpIs.mk rfl ?_; intro vs w1 hb hd K hK
           have d11 : (SV.rw (putP L1 (r.seq, B1 ++ l2))).p (vs 11) w1 := hd 11 (by kernel_rfl)
           have h7 := Exists.choose_spec (SV.rw_get d11); generalize Exists.choose (SV.rw_get d11) = u7 at h7; have e7 := h7.1; have hu7 := zH h7.2; clear h7 d11; simp only [frameV, zS, zA, zB, zC, zD] at hK |-; simp only [e7] at hK |-; have HK := zH hK; clear hK; go_simp; exact HK.out _ _ ⟨_, rfl, hu7.out⟩ (zR _ _)
         ·refine OpIs.toE (by kernel_rfl) (by kernel_rfl) ?_
          ·refine OpIs.mk rfl ?_; intro vs w1 hb hd K hK
           have d12 : (SV.rw (putP L1 (r.seq, B1 ++ l2))).p (vs 12) w1 := hd 12 (by kernel_rfl)
           have h7 := Exists.choose_spec (SV.rw_get d12); generalize Exists.choose (SV.rw_get d12) = u7 at h7; have e7 := h7.1; have hu7 := zH h7.2; clear h7 d12; simp only [frameV, zS, zA, zB, zC, zD] at hK |-; simp only [e7] at hK |-; have HK := zH hK; clear hK; go_simp; exact HK.out _ _ ⟨_, rfl, hu7.out⟩ (zR _ _)
         ·refine OpIs.toE (by kernel_rfl) (by kernel_rfl) ?_
          ·refine OpIs.mk rfl ?_; intro vs w1 hb hd K hK
           have d12 : (SV.rw (putP L1 (r.seq, B1 ++ l2))).p (vs 12) w1 := hd 12 (by kernel_rfl)
           have h7 := Exists.choose_spec (SV.rw_get d12); generalize Exists.choose (SV.rw_get d12) = u7 at h7; have e7 := h7.1; have hu7 := zH h7.2; clear h7 d12; simp only [frameV, zS, zA, zB, zC, zD] at hK |-; simp only [e7] at hK |-; have HK := zH hK; clear hK; go_simp; exact HK.out _ _ rfl (zR _ _)
         ·refine OpIs.toE (by kernel_rfl) (by kernel_rfl) ?_
          ·refine OpIs.mk rfl ?_; intro vs w1 hb hd K hK; simp only [frameV, zS, zA, zB, zC, zD] at hK |-; have HK := zH hK; clear hK; go_simp; exact HK.out _ _ ⟨_, rfl, hb.size, heap_alloc_new w1 _⟩ (yaa w1 _)
        ·intro vs w5 hb hd; obtain ⟨u5, e13, hu5⟩ : ∃ u, vs 13 = .agg #[u] /\ RefT w5 u (putP L1 (r.seq, B1 ++ l2)) := hd 13 (by omega) (by unfold exA; simp)
         obtain ⟨A5, c5, f5⟩ := hu5.form; obtain ⟨n5, hn5⟩ : ∃ n5, (putP L1 (r.seq, B1 ++ l2)).length = n5 := ⟨_, rfl⟩; rw [hn5] at f5; subst f5
         have e14 : vs 14 = .int .i64 0 := hd 14 (by omega) (by unfold exA; simp)
         obtain ⟨g13, e15, hg13, hr13⟩ : ∃ g, vs 15 = .pointer (some ⟨g, 0, none⟩) /\ wc.heap.size <= g /\ w5.heap[g]? = some (.cells #[.slice none 0 0] 52 (0, 0)) := hd 15 (by omega) (by unfold exA; simp)
         have x1 := yad (i := 0) (v := .slice none 0 0) hr13 rfl
         have x2 : w5.frozen? ⟨g13, 0, none⟩ = false := frozen_of_row _ _ 0 _ _ hr13
         have v5 := (hb.block b2 (R4.yac VC.out)).trans VC.out; have r5 := (hb.block b4 (R4.yac R4C.out)).trans R4C.out
         have ne2 : b2 ≠ g13 := by have := R4.yac VC.out; omega
         have ne4 : b4 ≠ g13 := by have := R4.yac R4C.out; omega
         have HB5 := zH (BC.out.trans (hb.mono BC.out.size))
         have OC5 : Hid (OwnQ w.heap.size w5 (.slice Ab nb cb) B1) := R4.yai OC2.out hb (zN _)
         have h13 := heap_setCell_same w5 g13 0 _ _ (.slice A5 n5 c5) hr13; have v6 := (Below.heap_setCell w5 ⟨g13, 0, none⟩ (.slice A5 n5 c5) b2 ne2).trans v5; have r6 := (Below.heap_setCell w5 ⟨g13, 0, none⟩ (.slice A5 n5 c5) b4 ne4).trans r5; have H13 := zH hr13; have V6 := zH v6; have R6 := zH r6; have y13 := yad (i := 0) (v := .slice A5 n5 c5) h13 rfl; have y2 := yad (i := 0) (v := .slice Av1 L1.length cv1) v6 rfl; have y2f := frozen_of_row _ b2 0 _ _ v6; have y4 := yad (i := 0) (v := .slice none 0 0) r6 rfl; have y4f := frozen_of_row _ b4 0 _ _ r6
         have HB6 : Hid (Below w.heap.size w (w5.setCell ⟨g13, 0, none⟩ (.slice A5 n5 c5))) := HB5.out.setCell (by show _ <= g13; have := BC.out.size; omega) _
         have OC6 : Hid (OwnQ w.heap.size (w5.setCell ⟨g13, 0, none⟩ (.slice A5 n5 c5)) (.slice Ab nb cb) B1) := ybj OC5.out hr13
         have HU6 : Hid (RefT (w5.setCell ⟨g13, 0, none⟩ (.slice A5 n5 c5)) (.slice A5 n5 c5) (putP L1 (r.seq, B1 ++ l2))) := hu5.off (R4.yaf w5 ⟨g13, 0, none⟩ _) hr13 (by decide) (by decide) (by decide)
         have HN5 := zH hn5; simp only [frameV, zS, zA, zB, List.drop_succ_cons, List.drop_zero, List.take_succ_cons, List.take_zero, List.cons_append, List.nil_append, e13, e14, e15]; clear hb hd e13 e14 e15 hg13 hr13 v5 r5 ne2 ne4 h13 v6 r6 hu5 hn5
         go_wp2
         go_roundw
         case rel =>
          have h2 := heap_setCell_same _ b2 0 _ _ (.slice A5 n5 c5) V6.out; refine ⟨k + 1, rulS t r, by omega, by go_num, by rw [HRS.out]; rfl, ?_, HC1.out.symm, HC2.out.symm, HB6.out.setCell (by show _ <= b2; exact HB2.out) _⟩
          refine ⟨⟨A5, c5, ?_, ?_⟩, ?_, ?_, HGN.out, HAN.out, ?_, HPN.out⟩
          ·rw [HRS.out, HL2.out]
           show _ = some (Obj.cells #[.slice A5 (putP L1 (r.seq, B1 ++ l2)).length c5] _ _)
           rw [HN5.out]; exact h2
          ·rw [HRS.out, HL2.out]
           show RefT _ (.slice A5 (putP L1 (r.seq, B1 ++ l2)).length c5) (putP L1 (r.seq, B1 ++ l2))
           rw [HN5.out]; exact HU6.out.off (R4.yaf _ ⟨b2, 0, none⟩ _) V6.out (by decide) (by decide) (by decide)
          ·exact (Below.heap_setCell _ ⟨b2, 0, none⟩ (.slice A5 n5 c5) b4 (Ne.symm HNE.out)).trans R6.out
          ·rw [HRS.out]; exact ybj OC6.out V6.out
          ·rw [show c + (k + 1) = c + k + 1 by omega]; exact HLN.out
         case measure => simp [intOf] <;> omega
        ·intro vs w5 hb hd; obtain ⟨u5, e13, hu5⟩ : ∃ u, vs 13 = .agg #[u] /\ RefT w5 u (putP L1 (r.seq, B1 ++ l2)) := hd 13 (by omega) (by omega) (by unfold exA; simp)
         obtain ⟨A5, c5, f5⟩ := hu5.form; obtain ⟨n5, hn5⟩ : ∃ n5, (putP L1 (r.seq, B1 ++ l2)).length = n5 := ⟨_, rfl⟩; rw [hn5] at f5; subst f5; obtain ⟨u8, e14, -⟩ : ∃ u, vs 12 = .tuple #[.agg #[u], .int .i64 0] /\ RefT w5 u (putP L1 (r.seq, B1 ++ l2)) := hd 12 (by omega) (by omega) (by unfold exA; simp)
         obtain ⟨g13, e15, hg13, hr13⟩ : ∃ g, vs 15 = .pointer (some ⟨g, 0, none⟩) /\ wc.heap.size <= g /\ w5.heap[g]? = some (.cells #[.slice none 0 0] 52 (0, 0)) := hd 15 (by omega) (by omega) (by unfold exA; simp)
         have x1 := yad (i := 0) (v := .slice none 0 0) hr13 rfl
         have x2 : w5.frozen? ⟨g13, 0, none⟩ = false := frozen_of_row _ _ 0 _ _ hr13
         have v5 := (hb.block b2 (R4.yac VC.out)).trans VC.out; have r5 := (hb.block b4 (R4.yac R4C.out)).trans R4C.out
         have ne2 : b2 ≠ g13 := by have := R4.yac VC.out; omega
         have ne4 : b4 ≠ g13 := by have := R4.yac R4C.out; omega
         have HB5 := zH (BC.out.trans (hb.mono BC.out.size))
         have OC5 : Hid (OwnQ w.heap.size w5 (.slice Ab nb cb) B1) := R4.yai OC2.out hb (zN _)
         have h13 := heap_setCell_same w5 g13 0 _ _ (.slice A5 n5 c5) hr13; have v6 := (Below.heap_setCell w5 ⟨g13, 0, none⟩ (.slice A5 n5 c5) b2 ne2).trans v5; have r6 := (Below.heap_setCell w5 ⟨g13, 0, none⟩ (.slice A5 n5 c5) b4 ne4).trans r5; have H13 := zH hr13; have V6 := zH v6; have R6 := zH r6; have y13 := yad (i := 0) (v := .slice A5 n5 c5) h13 rfl; have y2 := yad (i := 0) (v := .slice Av1 L1.length cv1) v6 rfl; have y2f := frozen_of_row _ b2 0 _ _ v6; have y4 := yad (i := 0) (v := .slice none 0 0) r6 rfl; have y4f := frozen_of_row _ b4 0 _ _ r6
         have HB6 : Hid (Below w.heap.size w (w5.setCell ⟨g13, 0, none⟩ (.slice A5 n5 c5))) := HB5.out.setCell (by show _ <= g13; have := BC.out.size; omega) _
         have OC6 : Hid (OwnQ w.heap.size (w5.setCell ⟨g13, 0, none⟩ (.slice A5 n5 c5)) (.slice Ab nb cb) B1) := ybj OC5.out hr13
         have HU6 : Hid (RefT (w5.setCell ⟨g13, 0, none⟩ (.slice A5 n5 c5)) (.slice A5 n5 c5) (putP L1 (r.seq, B1 ++ l2))) := hu5.off (R4.yaf w5 ⟨g13, 0, none⟩ _) hr13 (by decide) (by decide) (by decide)
         have HN5 := zH hn5; simp only [frameV, zS, zA, zB, List.drop_succ_cons, List.drop_zero, List.take_succ_cons, List.take_zero, List.cons_append, List.nil_append, e13, e14, e15]; clear hb hd e13 e14 e15 hg13 hr13 v5 r5 ne2 ne4 h13 v6 r6 hu5 hn5
         go_wp2
         go_roundw
         case rel =>
          have h2 := heap_setCell_same _ b2 0 _ _ (.slice A5 n5 c5) V6.out; refine ⟨k + 1, rulS t r, by omega, by go_num, by rw [HRS.out]; rfl, ?_, HC1.out.symm, HC2.out.symm, HB6.out.setCell (by show _ <= b2; exact HB2.out) _⟩
          refine ⟨⟨A5, c5, ?_, ?_⟩, ?_, ?_, HGN.out, HAN.out, ?_, HPN.out⟩
          ·rw [HRS.out, HL2.out]
           show _ = some (Obj.cells #[.slice A5 (putP L1 (r.seq, B1 ++ l2)).length c5] _ _)
           rw [HN5.out]; exact h2
          ·rw [HRS.out, HL2.out]
           show RefT _ (.slice A5 (putP L1 (r.seq, B1 ++ l2)).length c5) (putP L1 (r.seq, B1 ++ l2))
           rw [HN5.out]; exact HU6.out.off (R4.yaf _ ⟨b2, 0, none⟩ _) V6.out (by decide) (by decide) (by decide)
          ·exact (Below.heap_setCell _ ⟨b2, 0, none⟩ (.slice A5 n5 c5) b4 (Ne.symm HNE.out)).trans R6.out
          ·rw [HRS.out]; exact ybj OC6.out V6.out
          ·rw [show c + (k + 1) = c + k + 1 by omega]; exact HLN.out
         case measure => simp [intOf] <;> omega
       ·have HE20 := zH hE20
        have hen2 : (E2 != 0) = true := by simpa using hE20
        clear hE20; refine ycv (m := 16) 14 exA dpA (by kernel_rfl) (ykx (by decide)) [70, 71, 72, 73, 74, 75, 76, 77, 78, 79, 80, 81, 69, 82, 83, 13] [SV.eq (.agg #[.slice Av1 nv1 cv1]), SV.eq (.pointer (some ⟨b9, 1, none⟩)), SV.eq (.slice A1 n1 k1), SV.empq wc.heap.size, SV.eq (.slice Ab nb cb), SV.oq wc.heap.size B1, SV.eq (.agg #[.slice Av1 nv1 cv1]), SV.eq (.pointer (some ⟨b9, 2, none⟩)), SV.eq (.slice A2 n2 k2), SV.qs l2, SV.oq wc.heap.size (B1 ++ l2), SV.eq (.tuple #[.agg #[.slice none 0 0], .int .i64 E2]), SV.eq (.tuple #[.agg #[.slice none 0 0], .int .i64 E2]), SV.eq (.agg #[.slice none 0 0]), SV.eq (.int .i64 E2), SV.newT wc.heap.size] (by kernel_rfl) (by kernel_rfl) ?_ ?_ ?_
        ·refine ⟨⟨⟨⟨⟨⟨⟨⟨⟨⟨⟨⟨⟨⟨⟨⟨trivial, ?_⟩, ?_⟩, ?_⟩, ?_⟩, ?_⟩, ?_⟩, ?_⟩, ?_⟩, ?_⟩, ?_⟩, ?_⟩, ?_⟩, ?_⟩, ?_⟩, ?_⟩, ?_⟩
         ·refine OpIs.toE (by kernel_rfl) (by kernel_rfl) ?_
          ·refine OpIs.mk rfl ?_; intro vs w1 hb hd K hK; have c0 := yab hb VC0.out; simp only [frameV, zS, zA, zB, zC, zD] at hK |-; have HK := zH hK; clear hK; go_simp; exact HK.out _ _ rfl (zR _ _)
         ·refine OpIs.toE (by kernel_rfl) (by kernel_rfl) ?_
          ·refine OpIs.mk rfl ?_; intro vs w1 hb hd K hK; simp only [frameV, zS, zA, zB, zC, zD] at hK |-; have HK := zH hK; clear hK; go_simp; exact HK.out _ _ rfl (zR _ _)
         ·refine OpIs.toE (by kernel_rfl) (by kernel_rfl) ?_
          ·refine OpIs.mk rfl ?_; intro vs w1 hb hd K hK
           have d1 : vs 1 = .pointer (some ⟨b9, 1, none⟩) := hd 1 (by kernel_rfl)
           have c0 := yab hb XC1.out; simp only [frameV, zS, zA, zB, zC, zD] at hK |-; simp only [d1] at hK |-; have HK := zH hK; clear hK; go_simp; exact HK.out _ _ rfl (zR _ _)
         ·refine OpIs.toE (by kernel_rfl) (by kernel_rfl) ?_
          ·refine OpIs.mk rfl ?_; intro vs w1 hb hd K hK; simp only [frameV, zS, zA, zB, zC, zD] at hK |-; have HK := zH hK; clear hK; go_simp; exact HK.out _ _ ⟨_, rfl, yha w1 hb.size⟩ (yaa w1 _)
         ·refine OpIs.toE (by kernel_rfl) (by kernel_rfl) ?_
          ·refine OpIs.mk rfl ?_; intro vs w1 hb hd K hK; simp only [frameV, zS, zA, zB, zC, zD] at hK |-; have HK := zH hK; clear hK; go_simp; exact HK.out _ _ rfl (zR _ _)
         ·refine OpIs.toE (by kernel_rfl) (by kernel_rfl) ?_
          refine OpIs.mk rfl ?_; intro vs w1 hb hd K hK
          have d3 : ∃ g0 : Nat, (vs 3) = .slice (some ⟨g0, 0, none⟩) 0 0 /\ OwnQ wc.heap.size w1 (vs 3) [] := hd 3 (by kernel_rfl)
          have d4 : vs 4 = .slice Ab nb cb := hd 4 (by kernel_rfl)
          have q1 := Exists.choose_spec d3; generalize Exists.choose d3 = g0 at q1; have q2 := q1.1; have q3 := q1.2; rw [q2] at q3; clear q1 d3; simp only [frameV, zS, zA, zB, zC, zD] at hK |-; simp only [q2, d4] at hK |-; refine yfs rfl (.tmp 73) (.tmp 74) 75 rfl rfl wc.heap.size g0 B1 HNB.out rfl rfl q3 (RdQ.below (by have h := OwnQ.rd (F := anyB) OC2.out (fun _ _ => trivial); exact h) hb (zN _)) hb.size (by have := HA1L.out; have := HNB.out; omega) ?_
          intro v' w' h1 h2; simp only [zS, zA, zB]; exact hK v' w' h1 h2
         ·refine OpIs.toE (by kernel_rfl) (by kernel_rfl) ?_
          ·refine OpIs.mk rfl ?_; intro vs w1 hb hd K hK; have c0 := yab hb VC0.out; simp only [frameV, zS, zA, zB, zC, zD] at hK |-; have HK := zH hK; clear hK; go_simp; exact HK.out _ _ rfl (zR _ _)
         ·refine OpIs.toE (by kernel_rfl) (by kernel_rfl) ?_
          ·refine OpIs.mk rfl ?_; intro vs w1 hb hd K hK; simp only [frameV, zS, zA, zB, zC, zD] at hK |-; have HK := zH hK; clear hK; go_simp; exact HK.out _ _ rfl (zR _ _)
         ·refine OpIs.toE (by kernel_rfl) (by kernel_rfl) ?_
          ·refine OpIs.mk rfl ?_; intro vs w1 hb hd K hK
           have d7 : vs 7 = .pointer (some ⟨b9, 2, none⟩) := hd 7 (by kernel_rfl)
           have c0 := yab hb XC2.out; simp only [frameV, zS, zA, zB, zC, zD] at hK |-; simp only [d7] at hK |-; have HK := zH hK; clear hK; go_simp; exact HK.out _ _ rfl (zR _ _)
         ·refine OpIsE.mk rfl ?_; intro vs w1 hb hd K hK'
          have HK5 : ∀ v w2, RdQ anyB w2 v l2 -> Below w1.heap.size w1 w2 -> K ⟨(frameV _ _ vs 0).setIfInBounds _ v, _⟩ w2 := fun v w2 h1 h2 => hK' v w2 h1 (hb.trans (h2.mono hb.size)) fun j _ _ _ _ u hu => (List.getD _ j SV.any).st _ _ _ hu h2
          have d6 : vs 6 = .agg #[.slice Av1 nv1 cv1] := hd 6 (by kernel_rfl) (by unfold exA; simp)
          have d8 : vs 8 = .slice A2 n2 k2 := hd 8 (by kernel_rfl) (by unfold exA; simp)
          clear hK'; simp only [frameV, zS, zA, zB, zC, zD] at HK5 |-; simp only [d6, d8] at HK5 |-; have HK6 := zH HK5; clear HK5; go_simp
          go_at_call 42
          refine (CO.out w1 hb).mono ?_; rintro r5 w5 ⟨v5, rfl, ho5, hb5⟩; exact HK6.out _ _ (OwnQ.rd (F := anyB) ho5 fun _ _ => trivial) hb5
         ·refine OpIsE.mk rfl ?_; intro vs w1 hb hd K hK
          have d5 : OwnQ wc.heap.size w1 (vs 5) B1 := hd 5 (by kernel_rfl) (.inl rfl)
          have d9 : RdQ anyB w1 (vs 9) l2 := hd 9 (by kernel_rfl) (.inl rfl)
          obtain ⟨A9, c9, e9⟩ : ∃ A c, vs 9 = .slice A l2.length c := d9.form; rw [e9] at d9; simp only [frameV, zS, zA, zB, zC, zD] at hK |-; simp only [e9] at hK |-; refine yhd rfl (.tmp 75) (.tmp 79) 80 rfl rfl wc.heap.size (vs 5) B1 l2 rfl rfl rfl d5 d9 hb.size HLL2.out ?_; intro v' w' h1 h2; simp only [zS, zA, zB]; refine hK v' w' h1 (hb.grown h2 hb.size (fun q hq => (World.ownsRow.lt d5 q hq).1)) ?_
          intro j hj10 hjx hjd hjd2 u hu
          match j, hj10, hjx, hjd, hjd2 with
          | 0, _, _, _, _ => exact hu
          | 1, _, _, _, _ => exact hu
          | 2, _, _, _, _ => exact hu
          | 3, _, _, _, h => exact absurd h (by decide)
          | 4, _, _, _, _ => exact hu
          | 5, _, h, _, _ => exact absurd rfl h
          | 6, _, _, _, _ => exact hu
          | 7, _, _, _, _ => exact hu
          | 8, _, _, _, _ => exact hu
          | 9, _, h, _, _ => exact absurd rfl h
          | 10, h, _, _, _ => exact absurd rfl h
          | 11, _, _, h, _ => exact absurd h (by decide)
          | 12, _, _, h, _ => exact absurd h (by decide)
          | 13, _, _, h, _ => exact absurd h (by decide)
          | 14, _, _, h, _ => exact absurd h (by decide)
          | 15, _, _, _, _ => obtain ⟨g, e1, e2, e3⟩ := hu; exact ⟨g, e1, e2, yfi (N := 0) e3 d5 h2⟩
          | j + 16, _, _, _, _ => exact trivial
         ·refine OpIs.toE (by kernel_rfl) (by kernel_rfl) ?_
          ·refine OpIs.mk rfl ?_; intro vs w1 hb hd K hK
           have d0 : vs 0 = .agg #[.slice Av1 nv1 cv1] := hd 0 (by kernel_rfl)
           have d2 : vs 2 = .slice A1 n1 k1 := hd 2 (by kernel_rfl)
           have d10 : OwnQ wc.heap.size w1 (vs 10) (B1 ++ l2) := hd 10 (by kernel_rfl)
           have d10' := OwnQ.rd (F := anyB) d10 fun _ _ => trivial
           have D10 := zH d10'; clear d10 d10'; simp only [frameV, zS, zA, zB, zC, zD] at hK |-; simp only [d0, d2] at hK |-; have HK := zH hK; clear hK; go_simp
           go_at_call 44
           refine (CW.out w1 _ hb D10.out).mono ?_; rintro r5 w5 ⟨-, h1, hb5⟩; have h2 := h1 (by rw [HE2.out]; exact HE20.out)
           rw [HE2.out] at h2; subst h2; exact HK.out _ _ rfl hb5
         ·refine OpIs.toE (by kernel_rfl) (by kernel_rfl) ?_
          ·refine OpIs.mk rfl ?_; intro vs w1 hb hd K hK
           have d11 : vs 11 = .tuple #[.agg #[.slice none 0 0], .int .i64 E2] := hd 11 (by kernel_rfl)
           simp only [frameV, zS, zA, zB, zC, zD] at hK |-; simp only [d11] at hK |-; have HK := zH hK; clear hK; go_simp; exact HK.out _ _ rfl (zR _ _)
         ·refine OpIs.toE (by kernel_rfl) (by kernel_rfl) ?_
          ·refine OpIs.mk rfl ?_; intro vs w1 hb hd K hK
           have d12 : vs 12 = .tuple #[.agg #[.slice none 0 0], .int .i64 E2] := hd 12 (by kernel_rfl)
           simp only [frameV, zS, zA, zB, zC, zD] at hK |-; simp only [d12] at hK |-; have HK := zH hK; clear hK; go_simp; exact HK.out _ _ rfl (zR _ _)
         ·refine OpIs.toE (by kernel_rfl) (by kernel_rfl) ?_
          ·refine OpIs.mk rfl ?_; intro vs w1 hb hd K hK
           have d12 : vs 12 = .tuple #[.agg #[.slice none 0 0], .int .i64 E2] := hd 12 (by kernel_rfl)
           simp only [frameV, zS, zA, zB, zC, zD] at hK |-; simp only [d12] at hK |-; have HK := zH hK; clear hK; go_simp; exact HK.out _ _ rfl (zR _ _)
         ·refine OpIs.toE (by kernel_rfl) (by kernel_rfl) ?_
          ·refine OpIs.mk rfl ?_; intro vs w1 hb hd K hK; simp only [frameV, zS, zA, zB, zC, zD] at hK |-; have HK := zH hK; clear hK; go_simp; exact HK.out _ _ ⟨_, rfl, hb.size, heap_alloc_new w1 _⟩ (yaa w1 _)
        ·intro vs w5 hb hd
         have e13 : vs 13 = .agg #[.slice none 0 0] := hd 13 (by omega) (by unfold exA; simp)
         have e14 : vs 14 = .int .i64 E2 := hd 14 (by omega) (by unfold exA; simp)
         obtain ⟨g13, e15, hg13, hr13⟩ : ∃ g, vs 15 = .pointer (some ⟨g, 0, none⟩) /\ wc.heap.size <= g /\ w5.heap[g]? = some (.cells #[.slice none 0 0] 52 (0, 0)) := hd 15 (by omega) (by unfold exA; simp)
         have x1 := yad (i := 0) (v := .slice none 0 0) hr13 rfl
         have x2 : w5.frozen? ⟨g13, 0, none⟩ = false := frozen_of_row _ _ 0 _ _ hr13
         have v5 := (hb.block b2 (R4.yac VC.out)).trans VC.out; have r5 := (hb.block b4 (R4.yac R4C.out)).trans R4C.out
         have ne2 : b2 ≠ g13 := by have := R4.yac VC.out; omega
         have ne4 : b4 ≠ g13 := by have := R4.yac R4C.out; omega
         have HB5 := zH (BC.out.trans (hb.mono BC.out.size))
         have OC5 : Hid (OwnQ w.heap.size w5 (.slice Ab nb cb) B1) := R4.yai OC2.out hb (zN _)
         have h13 := heap_setCell_same w5 g13 0 _ _ (.slice none 0 0) hr13; have v6 := (Below.heap_setCell w5 ⟨g13, 0, none⟩ (.slice none 0 0) b2 ne2).trans v5; have r6 := (Below.heap_setCell w5 ⟨g13, 0, none⟩ (.slice none 0 0) b4 ne4).trans r5; have H13 := zH hr13; have V6 := zH v6; have R6 := zH r6; have y13 := yad (i := 0) (v := .slice none 0 0) h13 rfl; have y2 := yad (i := 0) (v := .slice Av1 L1.length cv1) v6 rfl; have y2f := frozen_of_row _ b2 0 _ _ v6; have y4 := yad (i := 0) (v := .slice none 0 0) r6 rfl; have y4f := frozen_of_row _ b4 0 _ _ r6
         have HB6 : Hid (Below w.heap.size w (w5.setCell ⟨g13, 0, none⟩ (.slice none 0 0))) := HB5.out.setCell (by show _ <= g13; have := BC.out.size; omega) _
         have OC6 : Hid (OwnQ w.heap.size (w5.setCell ⟨g13, 0, none⟩ (.slice none 0 0)) (.slice Ab nb cb) B1) := ybj OC5.out hr13
         simp only [frameV, zS, zA, zB, List.drop_succ_cons, List.drop_zero, List.take_succ_cons, List.take_zero, List.cons_append, List.nil_append, e13, e14, e15]; clear hb hd e13 e14 e15 hg13 hr13 v5 r5 ne2 ne4 h13 v6 r6
         go_wp2
         have h9 := heap_setCell_same (w5.setCell ⟨g13, 0, none⟩ (.slice none 0 0)) b4 0 _ _ (.slice none 0 0) R6.out; have x9 := yad (i := 0) (v := .slice none 0 0) h9 rfl; refine bodyPost_ret (v := .tuple #[.agg #[.slice none 0 0], .int .i64 E2]) (by simp [results, Tryz.results19, go_sem, x9]) rfl ?_
         rw [HER.out HE20.out]; exact RAppIs.bad HE20.out (HB6.out.setCell (by show _ <= b4; exact HB4.out) _)
        ·intro vs w5 hb hd
         have e13 : vs 13 = .agg #[.slice none 0 0] := hd 13 (by omega) (by omega) (by unfold exA; simp)
         have e14 : vs 12 = .tuple #[.agg #[.slice none 0 0], .int .i64 E2] := hd 12 (by omega) (by omega) (by unfold exA; simp)
         obtain ⟨g13, e15, hg13, hr13⟩ : ∃ g, vs 15 = .pointer (some ⟨g, 0, none⟩) /\ wc.heap.size <= g /\ w5.heap[g]? = some (.cells #[.slice none 0 0] 52 (0, 0)) := hd 15 (by omega) (by omega) (by unfold exA; simp)
         have x1 := yad (i := 0) (v := .slice none 0 0) hr13 rfl
         have x2 : w5.frozen? ⟨g13, 0, none⟩ = false := frozen_of_row _ _ 0 _ _ hr13
         have v5 := (hb.block b2 (R4.yac VC.out)).trans VC.out; have r5 := (hb.block b4 (R4.yac R4C.out)).trans R4C.out
         have ne2 : b2 ≠ g13 := by have := R4.yac VC.out; omega
         have ne4 : b4 ≠ g13 := by have := R4.yac R4C.out; omega
         have HB5 := zH (BC.out.trans (hb.mono BC.out.size))
         have OC5 : Hid (OwnQ w.heap.size w5 (.slice Ab nb cb) B1) := R4.yai OC2.out hb (zN _)
         have h13 := heap_setCell_same w5 g13 0 _ _ (.slice none 0 0) hr13; have v6 := (Below.heap_setCell w5 ⟨g13, 0, none⟩ (.slice none 0 0) b2 ne2).trans v5; have r6 := (Below.heap_setCell w5 ⟨g13, 0, none⟩ (.slice none 0 0) b4 ne4).trans r5; have H13 := zH hr13; have V6 := zH v6; have R6 := zH r6; have y13 := yad (i := 0) (v := .slice none 0 0) h13 rfl; have y2 := yad (i := 0) (v := .slice Av1 L1.length cv1) v6 rfl; have y2f := frozen_of_row _ b2 0 _ _ v6; have y4 := yad (i := 0) (v := .slice none 0 0) r6 rfl; have y4f := frozen_of_row _ b4 0 _ _ r6
         have HB6 : Hid (Below w.heap.size w (w5.setCell ⟨g13, 0, none⟩ (.slice none 0 0))) := HB5.out.setCell (by show _ <= g13; have := BC.out.size; omega) _
         have OC6 : Hid (OwnQ w.heap.size (w5.setCell ⟨g13, 0, none⟩ (.slice none 0 0)) (.slice Ab nb cb) B1) := ybj OC5.out hr13
         simp only [frameV, zS, zA, zB, List.drop_succ_cons, List.drop_zero, List.take_succ_cons, List.take_zero, List.cons_append, List.nil_append, e13, e14, e15]; clear hb hd e13 e14 e15 hg13 hr13 v5 r5 ne2 ne4 h13 v6 r6
         go_wp2
         have h9 := heap_setCell_same (w5.setCell ⟨g13, 0, none⟩ (.slice none 0 0)) b4 0 _ _ (.slice none 0 0) R6.out; have x9 := yad (i := 0) (v := .slice none 0 0) h9 rfl; refine bodyPost_ret (v := .tuple #[.agg #[.slice none 0 0], .int .i64 E2]) (by simp [results, Tryz.results19, go_sem, x9]) rfl ?_
         rw [HER.out HE20.out]; exact RAppIs.bad HE20.out (HB6.out.setCell (by show _ <= b4; exact HB4.out) _)
      ·obtain ⟨lv, hlv, hLv⟩ : ∃ lv : Nat, rr - 1 = (lv : Int) /\ Lv lv := ⟨(rr - 1).toNat, by omega, by unfold Lv; omega⟩
       have hce : chgE rr t.L A = movE lv t.L A /\ chgL rr t.L A = movL lv t.L A /\ chgA rr A = movA lv A := by
        rcases hLv with h | h | h
        ·have h2 : rr = 2 := by omega
         rw [h, h2]; exact ⟨rfl, rfl, rfl⟩
        ·have h2 : rr = 3 := by omega
         rw [h, h2]; exact ⟨rfl, rfl, rfl⟩
        ·have h2 : rr = 4 := by omega
         rw [h, h2]; exact ⟨rfl, rfl, rfl⟩
       obtain ⟨E1, hE1⟩ : ∃ E1, movE lv t.L A = E1 := ⟨_, rfl⟩
       have HGM : Hid (GoodT (movL lv t.L A)) := by show GoodT _; rw [<- hce.2.1]; exact yfp HGD.out
       have HPM : Hid (0 < (movL lv t.L A).length) := by show 0 < _; rw [<- hce.2.1, ypl]; exact HPO.out
       have HAM : Hid (E1 = 0 -> Anc (movA lv A)) := fun h0 => by rw [<- hce.2.2]; exact yhc h8 (hce.1.trans (hE1.trans h0))
       rw [hrr, hce.1, hce.2.1, hce.2.2, hE1] at hrE; rw [hrr, hce.2.1, hce.2.2] at hrS; have HRS := zH hrS
       have h5b : rr < 5 := by omega
       obtain ⟨p, hp⟩ : ∃ p : Int, rr - 1 = p := ⟨_, rfl⟩
       have CS : Hid (Calls Tryz.prog 43 #[.agg #[.slice Av1 t.L.length cv1], .slice Aa na ca, .int .i64 p] (wo.alloc (.cells #[.int .i64 rr, .slice A1 r.seq.length k1, .slice A2 r.exp.length k2] 39)) (StpIs (movL lv t.L A) (movA lv A) E1 (wo.alloc (.cells #[.int .i64 rr, .slice A1 r.seq.length k1, .slice A2 r.exp.length k2] 39)))) := by
        have h := ysk RX.out HGD.out (OwnQ.rd (F := anyB) OX.out fun _ _ => trivial) h8 hLv (fun x hx => (HLI.out.2 A hA x hx).nw HCK.out hLv) hE1
        rw [<- hlv, hp] at h; exact h
       have HB29 : Hid (wo.heap.size ≠ b2) := by
        obtain ⟨A', c', h, -⟩ := HA.out.var
        have := R4.yac h
        show _ ≠ _; omega
       obtain ⟨L1, hL1⟩ : ∃ L1, movL lv t.L A = L1 := ⟨_, rfl⟩; obtain ⟨B1, hB1⟩ : ∃ B1, movA lv A = B1 := ⟨_, rfl⟩; rw [hL1] at HGM HPM HRS hrE CS; rw [hB1] at HAM HRS hrE CS; obtain ⟨nb, hnb⟩ : ∃ m, B1.length = m := ⟨_, rfl⟩; have HNB1 := zH hnb; have HRU := zH hro
       by_cases hE10 : E1 = 0
       ·subst hE10; rw [if_neg (by simp)] at hrE
        have HW1 := zH (he.symm.trans hrE); have AN := zH (HAM.out rfl); clear hc1 hc2 he hA h1 hrr hlo hrE hrS h8 h8n hgA hce hL1 hB1 hnb hlv hE1 hLv hro HGD HPO HA HE HS
        go_upto_region 19 with (go_at_call 43; refine (CS.out).mono ?_; rintro q w3 ⟨h1, -, hb3⟩; have h1' := h1 rfl; obtain ⟨u3, a3, rfl, hu3, ha3⟩ := h1'; obtain ⟨Av2, cv2, rfl⟩ := hu3.form; obtain ⟨Ab, cb, fa⟩ := ha3.form; rw [HNB1.out] at fa; subst fa; have HU3 := zH hu3; have HA3 := zH ha3; have HB3 := zH hb3; have hal := yaa w3 (.cells #[.slice Av2 L1.length cv2] 52); have HAL := zH hal; have V5 := zH ((hal.block b2 (R4.yac ((hb3.block b2 (R4.yac VX.out)).trans VX.out))).trans ((hb3.block b2 (R4.yac VX.out)).trans VX.out)); have R5 := zH ((hal.block b4 (R4.yac ((hb3.block b4 (R4.yac R4X.out)).trans R4X.out))).trans ((hb3.block b4 (R4.yac R4X.out)).trans R4X.out)); have X5 := zH ((hal.block wo.heap.size (R4.yac ((hb3.block wo.heap.size (R4.yac HX.out)).trans HX.out))).trans ((hb3.block wo.heap.size (R4.yac HX.out)).trans HX.out)); have h10 := heap_alloc_new w3 (.cells #[.slice Av2 L1.length cv2] 52); have z10 := yad (i := 0) (v := .slice Av2 L1.length cv2) h10 rfl; have y2 := yad (i := 0) (v := .slice Av1 t.L.length cv1) V5.out rfl; have y2f := frozen_of_row _ b2 0 _ _ V5.out; clear h1 hu3 ha3 hb3 hal h10 x0 x1 x2 c0 c1 c2 z4 z4f v0)
        clear z10 y2 y2f CS
        have VC : Hid (((w3.alloc (.cells #[.slice Av2 L1.length cv2] 52)).setCell ⟨b2, 0, none⟩ (.slice Av2 L1.length cv2)).heap[b2]? = some (Obj.cells #[.slice Av2 L1.length cv2] 52 (0, 0))) := heap_setCell_same _ b2 0 _ _ (.slice Av2 L1.length cv2) V5.out
        have RC : Hid (RefT ((w3.alloc (.cells #[.slice Av2 L1.length cv2] 52)).setCell ⟨b2, 0, none⟩ (.slice Av2 L1.length cv2)) (.slice Av2 L1.length cv2) L1) := (HU3.out.below HAL.out (zN _)).off (R4.yaf _ ⟨b2, 0, none⟩ _) V5.out (by decide) (by decide) (by decide)
        have OC : Hid (OwnQ w.heap.size ((w3.alloc (.cells #[.slice Av2 L1.length cv2] 52)).setCell ⟨b2, 0, none⟩ (.slice Av2 L1.length cv2)) (.slice Ab nb cb) B1) := ybj (R4.yaq (R4.yai HA3.out HAL.out (zN _)) HBA.out.size) V5.out
        have XC := zH ((Below.heap_setCell (w3.alloc (.cells #[.slice Av2 L1.length cv2] 52)) ⟨b2, 0, none⟩ (.slice Av2 L1.length cv2) wo.heap.size HB29.out).trans X5.out); have R4C := zH ((Below.heap_setCell (w3.alloc (.cells #[.slice Av2 L1.length cv2] 52)) ⟨b2, 0, none⟩ (.slice Av2 L1.length cv2) b4 (Ne.symm HNE.out)).trans R5.out)
        have BC : Hid (Below w.heap.size w ((w3.alloc (.cells #[.slice Av2 L1.length cv2] 52)).setCell ⟨b2, 0, none⟩ (.slice Av2 L1.length cv2))) := (HBA.out.trans ((HB3.out.trans (HAL.out.mono HB3.out.size)).mono HBA.out.size)).setCell (by show _ <= b2; exact HB2.out) _
        have GC := HGM; have PC := HPM
        have NBA : Hid (nb = B1.length) := HNB1.out.symm
        generalize ((w3.alloc (.cells #[.slice Av2 L1.length cv2] 52)).setCell ⟨b2, 0, none⟩ (.slice Av2 L1.length cv2)) = wc at VC RC OC XC R4C BC |-; rw [hb9] at XC; clear VX RX OX R4X HX HU3 HA3 HB3 HAL V5 R5 X5 HBA HGM HPM HAM; have OC2 := zH OC.out
        have S1C : Hid (RdI anyB wc (.slice A1 r.seq.length k1) r.seq) := RdF.any (RdI.keep S1.out BC.out)
        have S2C : Hid (RdI anyB wc (.slice A2 r.exp.length k2) r.exp) := RdF.any (RdI.keep S2.out BC.out)
        have VC0 := zH (yad (i := 0) (v := .slice Av2 L1.length cv2) VC.out rfl); have XC1 := zH (yad (i := 1) (v := .slice A1 r.seq.length k1) XC.out rfl); have XC2 := zH (yad (i := 2) (v := .slice A2 r.exp.length k2) XC.out rfl); obtain ⟨l2, hl2⟩ : ∃ l2, elsP L1 r.exp = l2 := ⟨_, rfl⟩; have hl2n := ykv GC.out r.exp; rw [hl2] at hl2n HW1
        have HLL2 : Hid (B1.length + l2.length <= 1000) := by have h1 := AN.out.1; have h2 := HRU.out.2.2.2; show _ <= _; omega
        have HL2 := zH hl2
        have HLW : Hid (∀ x ∈ B1 ++ l2, x < 4294967296) := by show ∀ x ∈ _, _; rw [<- hl2]; exact ynl GC.out AN.out r.exp
        have CO : Hid (∀ w1, Below wc.heap.size wc w1 -> Calls Tryz.prog 42 #[.agg #[.slice Av2 L1.length cv2], .slice A2 r.exp.length k2] w1 (GotQ w1.heap.size w1 l2)) := fun w1 hb => by rw [<- HL2.out]; exact yjw (RC.out.below hb (zN _)) GC.out (S2C.out.below hb (zN _)) HRU.out.2.1 (Nat.le_trans HRU.out.2.2.2 (by omega))
        have CW : Hid (∀ w1 u, Below wc.heap.size wc w1 -> RdQ anyB w1 u (B1 ++ l2) -> Calls Tryz.prog 44 #[.agg #[.slice Av2 L1.length cv2], .slice A1 r.seq.length k1, u] w1 (RWithIs anyB L1 r.seq (B1 ++ l2) w1)) := fun w1 u hb hu => yli (fun _ _ => trivial) GC.out PC.out (RC.out.below hb (zN _)) (S1C.out.below hb (zN _)) hu
        have HA1L : Hid (B1.length <= 1000) := by have h1 := AN.out.1; show _ <= _; omega
        obtain ⟨nb0, hnb0⟩ : ∃ m, B1.length = m := ⟨_, rfl⟩; have HNB := zH hnb0
        have hnbe : nb = nb0 := by rw [<- hnb0]; exact NBA.out
        subst hnbe; obtain ⟨nv1, hnv1⟩ : ∃ m, L1.length = m := ⟨_, rfl⟩; have HNV := zH hnv1; rw [hnv1] at VC0 CO CW; obtain ⟨n1, hn1⟩ : ∃ m, r.seq.length = m := ⟨_, rfl⟩; rw [hn1] at XC1 CW; obtain ⟨n2, hn2⟩ : ∃ m, r.exp.length = m := ⟨_, rfl⟩; rw [hn2] at XC2 CO; obtain ⟨E2, hE2⟩ : ∃ E2, withE L1 r.seq (B1 ++ l2) = E2 := ⟨_, rfl⟩; have HE2 := zH hE2; rw [hE2] at HW1; have hw1e := HW1.out; rw [hw1e] at HER HGNX HNXT; have xc1 := XC1.out; have xc2 := XC2.out; have vc0 := VC0.out; have hroS := HRU.out; clear hl2 hl2n hnb0 hnv1 hn1 hn2 xc1 xc2 vc0 hroS hE2 hw1e
        by_cases hE20 : E2 = 0
        ·subst hE20; have HC1 := zH (HNXT.out rfl).1; have HC2 := zH (HNXT.out rfl).2; have HGN := zH (HGNX.out rfl).1; have HAN := zH (HGNX.out rfl).2.1; have HLN := zH (HGNX.out rfl).2.2.1; have HPN := zH (HGNX.out rfl).2.2.2; refine ycv (m := 16) 14 exA dpA (by kernel_rfl) (ykx (by decide)) [70, 71, 72, 73, 74, 75, 76, 77, 78, 79, 80, 81, 69, 82, 83, 13] [SV.eq (.agg #[.slice Av2 nv1 cv2]), SV.eq (.pointer (some ⟨b9, 1, none⟩)), SV.eq (.slice A1 n1 k1), SV.empq wc.heap.size, SV.eq (.slice Ab nb cb), SV.oq wc.heap.size B1, SV.eq (.agg #[.slice Av2 nv1 cv2]), SV.eq (.pointer (some ⟨b9, 2, none⟩)), SV.eq (.slice A2 n2 k2), SV.qs l2, SV.oq wc.heap.size (B1 ++ l2), SV.rw (putP L1 (r.seq, B1 ++ l2)), SV.rw (putP L1 (r.seq, B1 ++ l2)), SV.ref (putP L1 (r.seq, B1 ++ l2)), SV.eq (.int .i64 0), SV.newT wc.heap.size] (by kernel_rfl) (by kernel_rfl) ?_ ?_ ?_
         ·refine ⟨⟨⟨⟨⟨⟨⟨⟨⟨⟨⟨⟨⟨⟨⟨⟨trivial, ?_⟩, ?_⟩, ?_⟩, ?_⟩, ?_⟩, ?_⟩, ?_⟩, ?_⟩, ?_⟩, ?_⟩, ?_⟩, ?_⟩, ?_⟩, ?_⟩, ?_⟩, ?_⟩
          ·refine OpIs.toE (by kernel_rfl) (by kernel_rfl) ?_
           ·refine OpIs.mk rfl ?_; intro vs w1 hb hd K hK; have c0 := yab hb VC0.out; simp only [frameV, zS, zA, zB, zC, zD] at hK |-; have HK := zH hK; clear hK; go_simp; exact HK.out _ _ rfl (zR _ _)
          ·refine OpIs.toE (by kernel_rfl) (by kernel_rfl) ?_
           ·refine OpIs.mk rfl ?_; intro vs w1 hb hd K hK; simp only [frameV, zS, zA, zB, zC, zD] at hK |-; have HK := zH hK; clear hK; go_simp; exact HK.out _ _ rfl (zR _ _)
          ·refine OpIs.toE (by kernel_rfl) (by kernel_rfl) ?_
           ·refine OpIs.mk rfl ?_; intro vs w1 hb hd K hK
            have d1 : vs 1 = .pointer (some ⟨b9, 1, none⟩) := hd 1 (by kernel_rfl)
            have c0 := yab hb XC1.out; simp only [frameV, zS, zA, zB, zC, zD] at hK |-; simp only [d1] at hK |-; have HK := zH hK; clear hK; go_simp; exact HK.out _ _ rfl (zR _ _)
          ·refine OpIs.toE (by kernel_rfl) (by kernel_rfl) ?_
           ·refine OpIs.mk rfl ?_; intro vs w1 hb hd K hK; simp only [frameV, zS, zA, zB, zC, zD] at hK |-; have HK := zH hK; clear hK; go_simp; exact HK.out _ _ ⟨_, rfl, yha w1 hb.size⟩ (yaa w1 _)
          ·refine OpIs.toE (by kernel_rfl) (by kernel_rfl) ?_
           ·refine OpIs.mk rfl ?_; intro vs w1 hb hd K hK; simp only [frameV, zS, zA, zB, zC, zD] at hK |-; have HK := zH hK; clear hK; go_simp; exact HK.out _ _ rfl (zR _ _)
          ·refine OpIs.toE (by kernel_rfl) (by kernel_rfl) ?_
           refine OpIs.mk rfl ?_; intro vs w1 hb hd K hK
           have d3 : ∃ g0 : Nat, (vs 3) = .slice (some ⟨g0, 0, none⟩) 0 0 /\ OwnQ wc.heap.size w1 (vs 3) [] := hd 3 (by kernel_rfl)
           have d4 : vs 4 = .slice Ab nb cb := hd 4 (by kernel_rfl)
           have q1 := Exists.choose_spec d3; generalize Exists.choose d3 = g0 at q1; have q2 := q1.1; have q3 := q1.2; rw [q2] at q3; clear q1 d3; simp only [frameV, zS, zA, zB, zC, zD] at hK |-; simp only [q2, d4] at hK |-; refine yfs rfl (.tmp 73) (.tmp 74) 75 rfl rfl wc.heap.size g0 B1 HNB.out rfl rfl q3 (RdQ.below (by have h := OwnQ.rd (F := anyB) OC2.out (fun _ _ => trivial); exact h) hb (zN _)) hb.size (by have := HA1L.out; have := HNB.out; omega) ?_
           intro v' w' h1 h2; simp only [zS, zA, zB]; exact hK v' w' h1 h2
          ·refine OpIs.toE (by kernel_rfl) (by kernel_rfl) ?_
           ·refine OpIs.mk rfl ?_; intro vs w1 hb hd K hK; have c0 := yab hb VC0.out; simp only [frameV, zS, zA, zB, zC, zD] at hK |-; have HK := zH hK; clear hK; go_simp; exact HK.out _ _ rfl (zR _ _)
          ·refine OpIs.toE (by kernel_rfl) (by kernel_rfl) ?_
           ·refine OpIs.mk rfl ?_; intro vs w1 hb hd K hK; simp only [frameV, zS, zA, zB, zC, zD] at hK |-; have HK := zH hK; clear hK; go_simp; exact HK.out _ _ rfl (zR _ _)
          ·refine OpIs.toE (by kernel_rfl) (by kernel_rfl) ?_
           ·refine OpIs.mk rfl ?_; intro vs w1 hb hd K hK
            have d7 : vs 7 = .pointer (some ⟨b9, 2, none⟩) := hd 7 (by kernel_rfl)
            have c0 := yab hb XC2.out; simp only [frameV, zS, zA, zB, zC, zD] at hK |-; simp only [d7] at hK |-; have HK := zH hK; clear hK; go_simp; exact HK.out _ _ rfl (zR _ _)
          ·refine OpIsE.mk rfl ?_; intro vs w1 hb hd K hK'
           have HK5 : ∀ v w2, RdQ anyB w2 v l2 -> Below w1.heap.size w1 w2 -> K ⟨(frameV _ _ vs 0).setIfInBounds _ v, _⟩ w2 := fun v w2 h1 h2 => hK' v w2 h1 (hb.trans (h2.mono hb.size)) fun j _ _ _ _ u hu => (List.getD _ j SV.any).st _ _ _ hu h2
           have d6 : vs 6 = .agg #[.slice Av2 nv1 cv2] := hd 6 (by kernel_rfl) (by unfold exA; simp)
           have d8 : vs 8 = .slice A2 n2 k2 := hd 8 (by kernel_rfl) (by unfold exA; simp)
           clear hK'; simp only [frameV, zS, zA, zB, zC, zD] at HK5 |-; simp only [d6, d8] at HK5 |-; have HK6 := zH HK5; clear HK5; go_simp
           go_at_call 42
           refine (CO.out w1 hb).mono ?_; rintro r5 w5 ⟨v5, rfl, ho5, hb5⟩; exact HK6.out _ _ (OwnQ.rd (F := anyB) ho5 fun _ _ => trivial) hb5
          ·refine OpIsE.mk rfl ?_; intro vs w1 hb hd K hK
           have d5 : OwnQ wc.heap.size w1 (vs 5) B1 := hd 5 (by kernel_rfl) (.inl rfl)
           have d9 : RdQ anyB w1 (vs 9) l2 := hd 9 (by kernel_rfl) (.inl rfl)
           obtain ⟨A9, c9, e9⟩ : ∃ A c, vs 9 = .slice A l2.length c := d9.form; rw [e9] at d9; simp only [frameV, zS, zA, zB, zC, zD] at hK |-; simp only [e9] at hK |-; refine yhd rfl (.tmp 75) (.tmp 79) 80 rfl rfl wc.heap.size (vs 5) B1 l2 rfl rfl rfl d5 d9 hb.size HLL2.out ?_; intro v' w' h1 h2; simp only [zS, zA, zB]; refine hK v' w' h1 (hb.grown h2 hb.size (fun q hq => (World.ownsRow.lt d5 q hq).1)) ?_
           intro j hj10 hjx hjd hjd2 u hu
           match j, hj10, hjx, hjd, hjd2 with
           | 0, _, _, _, _ => exact hu
           | 1, _, _, _, _ => exact hu
           | 2, _, _, _, _ => exact hu
           | 3, _, _, _, h => exact absurd h (by decide)
           | 4, _, _, _, _ => exact hu
           | 5, _, h, _, _ => exact absurd rfl h
           | 6, _, _, _, _ => exact hu
           | 7, _, _, _, _ => exact hu
           | 8, _, _, _, _ => exact hu
           | 9, _, h, _, _ => exact absurd rfl h
           | 10, h, _, _, _ => exact absurd rfl h
           | 11, _, _, h, _ => exact absurd h (by decide)
           | 12, _, _, h, _ => exact absurd h (by decide)
           | 13, _, _, h, _ => exact absurd h (by decide)
           | 14, _, _, h, _ => exact absurd h (by decide)
           | 15, _, _, _, _ => obtain ⟨g, e1, e2, e3⟩ := hu; exact ⟨g, e1, e2, yfi (N := 0) e3 d5 h2⟩
           | j + 16, _, _, _, _ => exact trivial
          ·refine OpIs.toE (by kernel_rfl) (by kernel_rfl) ?_
           ·refine OpIs.mk rfl ?_; intro vs w1 hb hd K hK
            have d0 : vs 0 = .agg #[.slice Av2 nv1 cv2] := hd 0 (by kernel_rfl)
            have d2 : vs 2 = .slice A1 n1 k1 := hd 2 (by kernel_rfl)
            have d10 : OwnQ wc.heap.size w1 (vs 10) (B1 ++ l2) := hd 10 (by kernel_rfl)
            have d10' := OwnQ.rd (F := anyB) d10 fun _ _ => trivial
            have D10 := zH d10'; clear d10 d10'; simp only [frameV, zS, zA, zB, zC, zD] at hK |-; simp only [d0, d2] at hK |-; have HK := zH hK; clear hK; go_simp
            go_at_call 44
            refine (CW.out w1 _ hb D10.out).mono ?_; rintro r5 w5 ⟨h1, -, hb5⟩; obtain ⟨u5, rfl, hu5⟩ := h1 HE2.out; exact HK.out _ _ ⟨u5, rfl, hu5⟩ hb5
          ·refine OpIs.toE (by kernel_rfl) (by kernel_rfl) ?_
           ·refine OpIs.mk rfl ?_; intro vs w1 hb hd K hK
            have d11 : (SV.rw (putP L1 (r.seq, B1 ++ l2))).p (vs 11) w1 := hd 11 (by kernel_rfl)
            have h7 := Exists.choose_spec (SV.rw_get d11); generalize Exists.choose (SV.rw_get d11) = u7 at h7; have e7 := h7.1; have hu7 := zH h7.2; clear h7 d11; simp only [frameV, zS, zA, zB, zC, zD] at hK |-; simp only [e7] at hK |-; have HK := zH hK; clear hK; go_simp; exact HK.out _ _ ⟨_, rfl, hu7.out⟩ (zR _ _)
          ·refine OpIs.toE (by kernel_rfl) (by kernel_rfl) ?_
           ·refine OpIs.mk rfl ?_; intro vs w1 hb hd K hK
            have d12 : (SV.rw (putP L1 (r.seq, B1 ++ l2))).p (vs 12) w1 := hd 12 (by kernel_rfl)
            have h7 := Exists.choose_spec (SV.rw_get d12); generalize Exists.choose (SV.rw_get d12) = u7 at h7; have e7 := h7.1; have hu7 := zH h7.2; clear h7 d12; simp only [frameV, zS, zA, zB, zC, zD] at hK |-; simp only [e7] at hK |-; have HK := zH hK; clear hK; go_simp; exact HK.out _ _ ⟨_, rfl, hu7.out⟩ (zR _ _)
          ·refine OpIs.toE (by kernel_rfl) (by kernel_rfl) ?_
           ·refine OpIs.mk rfl ?_; intro vs w1 hb hd K hK
            have d12 : (SV.rw (putP L1 (r.seq, B1 ++ l2))).p (vs 12) w1 := hd 12 (by kernel_rfl)
            have h7 := Exists.choose_spec (SV.rw_get d12); generalize Exists.choose (SV.rw_get d12) = u7 at h7; have e7 := h7.1; have hu7 := zH h7.2; clear h7 d12; simp only [frameV, zS, zA, zB, zC, zD] at hK |-; simp only [e7] at hK |-; have HK := zH hK; clear hK; go_simp; exact HK.out _ _ rfl (zR _ _)
          ·refine OpIs.toE (by kernel_rfl) (by kernel_rfl) ?_
           ·refine OpIs.mk rfl ?_; intro vs w1 hb hd K hK; simp only [frameV, zS, zA, zB, zC, zD] at hK |-; have HK := zH hK; clear hK; go_simp; exact HK.out _ _ ⟨_, rfl, hb.size, heap_alloc_new w1 _⟩ (yaa w1 _)
         ·intro vs w5 hb hd; obtain ⟨u5, e13, hu5⟩ : ∃ u, vs 13 = .agg #[u] /\ RefT w5 u (putP L1 (r.seq, B1 ++ l2)) := hd 13 (by omega) (by unfold exA; simp)
          obtain ⟨A5, c5, f5⟩ := hu5.form; obtain ⟨n5, hn5⟩ : ∃ n5, (putP L1 (r.seq, B1 ++ l2)).length = n5 := ⟨_, rfl⟩; rw [hn5] at f5; subst f5
          have e14 : vs 14 = .int .i64 0 := hd 14 (by omega) (by unfold exA; simp)
          obtain ⟨g13, e15, hg13, hr13⟩ : ∃ g, vs 15 = .pointer (some ⟨g, 0, none⟩) /\ wc.heap.size <= g /\ w5.heap[g]? = some (.cells #[.slice none 0 0] 52 (0, 0)) := hd 15 (by omega) (by unfold exA; simp)
          have x1 := yad (i := 0) (v := .slice none 0 0) hr13 rfl
          have x2 : w5.frozen? ⟨g13, 0, none⟩ = false := frozen_of_row _ _ 0 _ _ hr13
          have v5 := (hb.block b2 (R4.yac VC.out)).trans VC.out; have r5 := (hb.block b4 (R4.yac R4C.out)).trans R4C.out
          have ne2 : b2 ≠ g13 := by have := R4.yac VC.out; omega
          have ne4 : b4 ≠ g13 := by have := R4.yac R4C.out; omega
          have HB5 := zH (BC.out.trans (hb.mono BC.out.size))
          have OC5 : Hid (OwnQ w.heap.size w5 (.slice Ab nb cb) B1) := R4.yai OC2.out hb (zN _)
          have h13 := heap_setCell_same w5 g13 0 _ _ (.slice A5 n5 c5) hr13; have v6 := (Below.heap_setCell w5 ⟨g13, 0, none⟩ (.slice A5 n5 c5) b2 ne2).trans v5; have r6 := (Below.heap_setCell w5 ⟨g13, 0, none⟩ (.slice A5 n5 c5) b4 ne4).trans r5; have H13 := zH hr13; have V6 := zH v6; have R6 := zH r6; have y13 := yad (i := 0) (v := .slice A5 n5 c5) h13 rfl; have y2 := yad (i := 0) (v := .slice Av2 L1.length cv2) v6 rfl; have y2f := frozen_of_row _ b2 0 _ _ v6; have y4 := yad (i := 0) (v := .slice none 0 0) r6 rfl; have y4f := frozen_of_row _ b4 0 _ _ r6
          have HB6 : Hid (Below w.heap.size w (w5.setCell ⟨g13, 0, none⟩ (.slice A5 n5 c5))) := HB5.out.setCell (by show _ <= g13; have := BC.out.size; omega) _
          have OC6 : Hid (OwnQ w.heap.size (w5.setCell ⟨g13, 0, none⟩ (.slice A5 n5 c5)) (.slice Ab nb cb) B1) := ybj OC5.out hr13
          have HU6 : Hid (RefT (w5.setCell ⟨g13, 0, none⟩ (.slice A5 n5 c5)) (.slice A5 n5 c5) (putP L1 (r.seq, B1 ++ l2))) := hu5.off (R4.yaf w5 ⟨g13, 0, none⟩ _) hr13 (by decide) (by decide) (by decide)
          have HN5 := zH hn5; simp only [frameV, zS, zA, zB, List.drop_succ_cons, List.drop_zero, List.take_succ_cons, List.take_zero, List.cons_append, List.nil_append, e13, e14, e15]; clear hb hd e13 e14 e15 hg13 hr13 v5 r5 ne2 ne4 h13 v6 r6 hu5 hn5
          go_wp2
          go_roundw
          case rel =>
           have h2 := heap_setCell_same _ b2 0 _ _ (.slice A5 n5 c5) V6.out; refine ⟨k + 1, rulS t r, by omega, by go_num, by rw [HRS.out]; rfl, ?_, HC1.out.symm, HC2.out.symm, HB6.out.setCell (by show _ <= b2; exact HB2.out) _⟩
           refine ⟨⟨A5, c5, ?_, ?_⟩, ?_, ?_, HGN.out, HAN.out, ?_, HPN.out⟩
           ·rw [HRS.out, HL2.out]
            show _ = some (Obj.cells #[.slice A5 (putP L1 (r.seq, B1 ++ l2)).length c5] _ _)
            rw [HN5.out]; exact h2
           ·rw [HRS.out, HL2.out]
            show RefT _ (.slice A5 (putP L1 (r.seq, B1 ++ l2)).length c5) (putP L1 (r.seq, B1 ++ l2))
            rw [HN5.out]; exact HU6.out.off (R4.yaf _ ⟨b2, 0, none⟩ _) V6.out (by decide) (by decide) (by decide)
           ·exact (Below.heap_setCell _ ⟨b2, 0, none⟩ (.slice A5 n5 c5) b4 (Ne.symm HNE.out)).trans R6.out
           ·rw [HRS.out]; exact ybj OC6.out V6.out
           ·rw [show c + (k + 1) = c + k + 1 by omega]; exact HLN.out
          case measure => simp [intOf] <;> omega
         ·intro vs w5 hb hd; obtain ⟨u5, e13, hu5⟩ : ∃ u, vs 13 = .agg #[u] /\ RefT w5 u (putP L1 (r.seq, B1 ++ l2)) := hd 13 (by omega) (by omega) (by unfold exA; simp)
          obtain ⟨A5, c5, f5⟩ := hu5.form; obtain ⟨n5, hn5⟩ : ∃ n5, (putP L1 (r.seq, B1 ++ l2)).length = n5 := ⟨_, rfl⟩; rw [hn5] at f5; subst f5; obtain ⟨u8, e14, -⟩ : ∃ u, vs 12 = .tuple #[.agg #[u], .int .i64 0] /\ RefT w5 u (putP L1 (r.seq, B1 ++ l2)) := hd 12 (by omega) (by omega) (by unfold exA; simp)
          obtain ⟨g13, e15, hg13, hr13⟩ : ∃ g, vs 15 = .pointer (some ⟨g, 0, none⟩) /\ wc.heap.size <= g /\ w5.heap[g]? = some (.cells #[.slice none 0 0] 52 (0, 0)) := hd 15 (by omega) (by omega) (by unfold exA; simp)
          have x1 := yad (i := 0) (v := .slice none 0 0) hr13 rfl
          have x2 : w5.frozen? ⟨g13, 0, none⟩ = false := frozen_of_row _ _ 0 _ _ hr13
          have v5 := (hb.block b2 (R4.yac VC.out)).trans VC.out; have r5 := (hb.block b4 (R4.yac R4C.out)).trans R4C.out
          have ne2 : b2 ≠ g13 := by have := R4.yac VC.out; omega
          have ne4 : b4 ≠ g13 := by have := R4.yac R4C.out; omega
          have HB5 := zH (BC.out.trans (hb.mono BC.out.size))
          have OC5 : Hid (OwnQ w.heap.size w5 (.slice Ab nb cb) B1) := R4.yai OC2.out hb (zN _)
          have h13 := heap_setCell_same w5 g13 0 _ _ (.slice A5 n5 c5) hr13; have v6 := (Below.heap_setCell w5 ⟨g13, 0, none⟩ (.slice A5 n5 c5) b2 ne2).trans v5; have r6 := (Below.heap_setCell w5 ⟨g13, 0, none⟩ (.slice A5 n5 c5) b4 ne4).trans r5; have H13 := zH hr13; have V6 := zH v6; have R6 := zH r6; have y13 := yad (i := 0) (v := .slice A5 n5 c5) h13 rfl; have y2 := yad (i := 0) (v := .slice Av2 L1.length cv2) v6 rfl; have y2f := frozen_of_row _ b2 0 _ _ v6; have y4 := yad (i := 0) (v := .slice none 0 0) r6 rfl; have y4f := frozen_of_row _ b4 0 _ _ r6
          have HB6 : Hid (Below w.heap.size w (w5.setCell ⟨g13, 0, none⟩ (.slice A5 n5 c5))) := HB5.out.setCell (by show _ <= g13; have := BC.out.size; omega) _
          have OC6 : Hid (OwnQ w.heap.size (w5.setCell ⟨g13, 0, none⟩ (.slice A5 n5 c5)) (.slice Ab nb cb) B1) := ybj OC5.out hr13
          have HU6 : Hid (RefT (w5.setCell ⟨g13, 0, none⟩ (.slice A5 n5 c5)) (.slice A5 n5 c5) (putP L1 (r.seq, B1 ++ l2))) := hu5.off (R4.yaf w5 ⟨g13, 0, none⟩ _) hr13 (by decide) (by decide) (by decide)
          have HN5 := zH hn5; simp only [frameV, zS, zA, zB, List.drop_succ_cons, List.drop_zero, List.take_succ_cons, List.take_zero, List.cons_append, List.nil_append, e13, e14, e15]; clear hb hd e13 e14 e15 hg13 hr13 v5 r5 ne2 ne4 h13 v6 r6 hu5 hn5
          go_wp2
          go_roundw
          case rel =>
           have h2 := heap_setCell_same _ b2 0 _ _ (.slice A5 n5 c5) V6.out; refine ⟨k + 1, rulS t r, by omega, by go_num, by rw [HRS.out]; rfl, ?_, HC1.out.symm, HC2.out.symm, HB6.out.setCell (by show _ <= b2; exact HB2.out) _⟩
           refine ⟨⟨A5, c5, ?_, ?_⟩, ?_, ?_, HGN.out, HAN.out, ?_, HPN.out⟩
           ·rw [HRS.out, HL2.out]
            show _ = some (Obj.cells #[.slice A5 (putP L1 (r.seq, B1 ++ l2)).length c5] _ _)
            rw [HN5.out]; exact h2
           ·rw [HRS.out, HL2.out]
            show RefT _ (.slice A5 (putP L1 (r.seq, B1 ++ l2)).length c5) (putP L1 (r.seq, B1 ++ l2))
            rw [HN5.out]; exact HU6.out.off (R4.yaf _ ⟨b2, 0, none⟩ _) V6.out (by decide) (by decide) (by decide)
           ·exact (Below.heap_setCell _ ⟨b2, 0, none⟩ (.slice A5 n5 c5) b4 (Ne.symm HNE.out)).trans R6.out
           ·rw [HRS.out]; exact ybj OC6.out V6.out
           ·rw [show c + (k + 1) = c + k + 1 by omega]; exact HLN.out
          case measure => simp [intOf] <;> omega
        ·have HE20 := zH hE20
         have hen2 : (E2 != 0) = true := by simpa using hE20
         clear hE20; refine ycv (m := 16) 14 exA dpA (by kernel_rfl) (ykx (by decide)) [70, 71, 72, 73, 74, 75, 76, 77, 78, 79, 80, 81, 69, 82, 83, 13] [SV.eq (.agg #[.slice Av2 nv1 cv2]), SV.eq (.pointer (some ⟨b9, 1, none⟩)), SV.eq (.slice A1 n1 k1), SV.empq wc.heap.size, SV.eq (.slice Ab nb cb), SV.oq wc.heap.size B1, SV.eq (.agg #[.slice Av2 nv1 cv2]), SV.eq (.pointer (some ⟨b9, 2, none⟩)), SV.eq (.slice A2 n2 k2), SV.qs l2, SV.oq wc.heap.size (B1 ++ l2), SV.eq (.tuple #[.agg #[.slice none 0 0], .int .i64 E2]), SV.eq (.tuple #[.agg #[.slice none 0 0], .int .i64 E2]), SV.eq (.agg #[.slice none 0 0]), SV.eq (.int .i64 E2), SV.newT wc.heap.size] (by kernel_rfl) (by kernel_rfl) ?_ ?_ ?_
         ·refine ⟨⟨⟨⟨⟨⟨⟨⟨⟨⟨⟨⟨⟨⟨⟨⟨trivial, ?_⟩, ?_⟩, ?_⟩, ?_⟩, ?_⟩, ?_⟩, ?_⟩, ?_⟩, ?_⟩, ?_⟩, ?_⟩, ?_⟩, ?_⟩, ?_⟩, ?_⟩, ?_⟩
          ·refine OpIs.toE (by kernel_rfl) (by kernel_rfl) ?_
           ·refine OpIs.mk rfl ?_; intro vs w1 hb hd K hK; have c0 := yab hb VC0.out; simp only [frameV, zS, zA, zB, zC, zD] at hK |-; have HK := zH hK; clear hK; go_simp; exact HK.out _ _ rfl (zR _ _)
          ·refine OpIs.toE (by kernel_rfl) (by kernel_rfl) ?_
           ·refine OpIs.mk rfl ?_; intro vs w1 hb hd K hK; simp only [frameV, zS, zA, zB, zC, zD] at hK |-; have HK := zH hK; clear hK; go_simp; exact HK.out _ _ rfl (zR _ _)
          ·refine OpIs.toE (by kernel_rfl) (by kernel_rfl) ?_
           ·refine OpIs.mk rfl ?_; intro vs w1 hb hd K hK
            have d1 : vs 1 = .pointer (some ⟨b9, 1, none⟩) := hd 1 (by kernel_rfl)
            have c0 := yab hb XC1.out; simp only [frameV, zS, zA, zB, zC, zD] at hK |-; simp only [d1] at hK |-; have HK := zH hK; clear hK; go_simp; exact HK.out _ _ rfl (zR _ _)
          ·refine OpIs.toE (by kernel_rfl) (by kernel_rfl) ?_
           ·refine OpIs.mk rfl ?_; intro vs w1 hb hd K hK; simp only [frameV, zS, zA, zB, zC, zD] at hK |-; have HK := zH hK; clear hK; go_simp; exact HK.out _ _ ⟨_, rfl, yha w1 hb.size⟩ (yaa w1 _)
          ·refine OpIs.toE (by kernel_rfl) (by kernel_rfl) ?_
           ·refine OpIs.mk rfl ?_; intro vs w1 hb hd K hK; simp only [frameV, zS, zA, zB, zC, zD] at hK |-; have HK := zH hK; clear hK; go_simp; exact HK.out _ _ rfl (zR _ _)
          ·refine OpIs.toE (by kernel_rfl) (by kernel_rfl) ?_
           refine OpIs.mk rfl ?_; intro vs w1 hb hd K hK
           have d3 : ∃ g0 : Nat, (vs 3) = .slice (some ⟨g0, 0, none⟩) 0 0 /\ OwnQ wc.heap.size w1 (vs 3) [] := hd 3 (by kernel_rfl)
           have d4 : vs 4 = .slice Ab nb cb := hd 4 (by kernel_rfl)
           have q1 := Exists.choose_spec d3; generalize Exists.choose d3 = g0 at q1; have q2 := q1.1; have q3 := q1.2; rw [q2] at q3; clear q1 d3; simp only [frameV, zS, zA, zB, zC, zD] at hK |-; simp only [q2, d4] at hK |-; refine yfs rfl (.tmp 73) (.tmp 74) 75 rfl rfl wc.heap.size g0 B1 HNB.out rfl rfl q3 (RdQ.below (by have h := OwnQ.rd (F := anyB) OC2.out (fun _ _ => trivial); exact h) hb (zN _)) hb.size (by have := HA1L.out; have := HNB.out; omega) ?_
           intro v' w' h1 h2; simp only [zS, zA, zB]; exact hK v' w' h1 h2
          ·refine OpIs.toE (by kernel_rfl) (by kernel_rfl) ?_
           ·refine OpIs.mk rfl ?_; intro vs w1 hb hd K hK; have c0 := yab hb VC0.out; simp only [frameV, zS, zA, zB, zC, zD] at hK |-; have HK := zH hK; clear hK; go_simp; exact HK.out _ _ rfl (zR _ _)
          ·refine OpIs.toE (by kernel_rfl) (by kernel_rfl) ?_
           ·refine OpIs.mk rfl ?_; intro vs w1 hb hd K hK; simp only [frameV, zS, zA, zB, zC, zD] at hK |-; have HK := zH hK; clear hK; go_simp; exact HK.out _ _ rfl (zR _ _)
          ·refine OpIs.toE (by kernel_rfl) (by kernel_rfl) ?_
           ·refine OpIs.mk rfl ?_; intro vs w1 hb hd K hK
            have d7 : vs 7 = .pointer (some ⟨b9, 2, none⟩) := hd 7 (by kernel_rfl)
            have c0 := yab hb XC2.out; simp only [frameV, zS, zA, zB, zC, zD] at hK |-; simp only [d7] at hK |-; have HK := zH hK; clear hK; go_simp; exact HK.out _ _ rfl (zR _ _)
          ·refine OpIsE.mk rfl ?_; intro vs w1 hb hd K hK'
           have HK5 : ∀ v w2, RdQ anyB w2 v l2 -> Below w1.heap.size w1 w2 -> K ⟨(frameV _ _ vs 0).setIfInBounds _ v, _⟩ w2 := fun v w2 h1 h2 => hK' v w2 h1 (hb.trans (h2.mono hb.size)) fun j _ _ _ _ u hu => (List.getD _ j SV.any).st _ _ _ hu h2
           have d6 : vs 6 = .agg #[.slice Av2 nv1 cv2] := hd 6 (by kernel_rfl) (by unfold exA; simp)
           have d8 : vs 8 = .slice A2 n2 k2 := hd 8 (by kernel_rfl) (by unfold exA; simp)
           clear hK'; simp only [frameV, zS, zA, zB, zC, zD] at HK5 |-; simp only [d6, d8] at HK5 |-; have HK6 := zH HK5; clear HK5; go_simp
           go_at_call 42
           refine (CO.out w1 hb).mono ?_; rintro r5 w5 ⟨v5, rfl, ho5, hb5⟩; exact HK6.out _ _ (OwnQ.rd (F := anyB) ho5 fun _ _ => trivial) hb5
          ·refine OpIsE.mk rfl ?_; intro vs w1 hb hd K hK
           have d5 : OwnQ wc.heap.size w1 (vs 5) B1 := hd 5 (by kernel_rfl) (.inl rfl)
           have d9 : RdQ anyB w1 (vs 9) l2 := hd 9 (by kernel_rfl) (.inl rfl)
           obtain ⟨A9, c9, e9⟩ : ∃ A c, vs 9 = .slice A l2.length c := d9.form; rw [e9] at d9; simp only [frameV, zS, zA, zB, zC, zD] at hK |-; simp only [e9] at hK |-; refine yhd rfl (.tmp 75) (.tmp 79) 80 rfl rfl wc.heap.size (vs 5) B1 l2 rfl rfl rfl d5 d9 hb.size HLL2.out ?_; intro v' w' h1 h2; simp only [zS, zA, zB]; refine hK v' w' h1 (hb.grown h2 hb.size (fun q hq => (World.ownsRow.lt d5 q hq).1)) ?_
           intro j hj10 hjx hjd hjd2 u hu
           match j, hj10, hjx, hjd, hjd2 with
           | 0, _, _, _, _ => exact hu
           | 1, _, _, _, _ => exact hu
           | 2, _, _, _, _ => exact hu
           | 3, _, _, _, h => exact absurd h (by decide)
           | 4, _, _, _, _ => exact hu
           | 5, _, h, _, _ => exact absurd rfl h
           | 6, _, _, _, _ => exact hu
           | 7, _, _, _, _ => exact hu
           | 8, _, _, _, _ => exact hu
           | 9, _, h, _, _ => exact absurd rfl h
           | 10, h, _, _, _ => exact absurd rfl h
           | 11, _, _, h, _ => exact absurd h (by decide)
           | 12, _, _, h, _ => exact absurd h (by decide)
           | 13, _, _, h, _ => exact absurd h (by decide)
           | 14, _, _, h, _ => exact absurd h (by decide)
           | 15, _, _, _, _ => obtain ⟨g, e1, e2, e3⟩ := hu; exact ⟨g, e1, e2, yfi (N := 0) e3 d5 h2⟩
           | j + 16, _, _, _, _ => exact trivial
          ·refine OpIs.toE (by kernel_rfl) (by kernel_rfl) ?_
           ·refine OpIs.mk rfl ?_; intro vs w1 hb hd K hK
            have d0 : vs 0 = .agg #[.slice Av2 nv1 cv2] := hd 0 (by kernel_rfl)
            have d2 : vs 2 = .slice A1 n1 k1 := hd 2 (by kernel_rfl)
            have d10 : OwnQ wc.heap.size w1 (vs 10) (B1 ++ l2) := hd 10 (by kernel_rfl)
            have d10' := OwnQ.rd (F := anyB) d10 fun _ _ => trivial
            have D10 := zH d10'; clear d10 d10'; simp only [frameV, zS, zA, zB, zC, zD] at hK |-; simp only [d0, d2] at hK |-; have HK := zH hK; clear hK; go_simp
            go_at_call 44
            refine (CW.out w1 _ hb D10.out).mono ?_; rintro r5 w5 ⟨-, h1, hb5⟩; have h2 := h1 (by rw [HE2.out]; exact HE20.out)
            rw [HE2.out] at h2; subst h2; exact HK.out _ _ rfl hb5
          ·refine OpIs.toE (by kernel_rfl) (by kernel_rfl) ?_
           ·refine OpIs.mk rfl ?_; intro vs w1 hb hd K hK
            have d11 : vs 11 = .tuple #[.agg #[.slice none 0 0], .int .i64 E2] := hd 11 (by kernel_rfl)
            simp only [frameV, zS, zA, zB, zC, zD] at hK |-; simp only [d11] at hK |-; have HK := zH hK; clear hK; go_simp; exact HK.out _ _ rfl (zR _ _)
          ·refine OpIs.toE (by kernel_rfl) (by kernel_rfl) ?_
           ·refine OpIs.mk rfl ?_; intro vs w1 hb hd K hK
            have d12 : vs 12 = .tuple #[.agg #[.slice none 0 0], .int .i64 E2] := hd 12 (by kernel_rfl)
            simp only [frameV, zS, zA, zB, zC, zD] at hK |-; simp only [d12] at hK |-; have HK := zH hK; clear hK; go_simp; exact HK.out _ _ rfl (zR _ _)
          ·refine OpIs.toE (by kernel_rfl) (by kernel_rfl) ?_
           ·refine OpIs.mk rfl ?_; intro vs w1 hb hd K hK
            have d12 : vs 12 = .tuple #[.agg #[.slice none 0 0], .int .i64 E2] := hd 12 (by kernel_rfl)
            simp only [frameV, zS, zA, zB, zC, zD] at hK |-; simp only [d12] at hK |-; have HK := zH hK; clear hK; go_simp; exact HK.out _ _ rfl (zR _ _)
          ·refine OpIs.toE (by kernel_rfl) (by kernel_rfl) ?_
           ·refine OpIs.mk rfl ?_; intro vs w1 hb hd K hK; simp only [frameV, zS, zA, zB, zC, zD] at hK |-; have HK := zH hK; clear hK; go_simp; exact HK.out _ _ ⟨_, rfl, hb.size, heap_alloc_new w1 _⟩ (yaa w1 _)
         ·intro vs w5 hb hd
          have e13 : vs 13 = .agg #[.slice none 0 0] := hd 13 (by omega) (by unfold exA; simp)
          have e14 : vs 14 = .int .i64 E2 := hd 14 (by omega) (by unfold exA; simp)
          obtain ⟨g13, e15, hg13, hr13⟩ : ∃ g, vs 15 = .pointer (some ⟨g, 0, none⟩) /\ wc.heap.size <= g /\ w5.heap[g]? = some (.cells #[.slice none 0 0] 52 (0, 0)) := hd 15 (by omega) (by unfold exA; simp)
          have x1 := yad (i := 0) (v := .slice none 0 0) hr13 rfl
          have x2 : w5.frozen? ⟨g13, 0, none⟩ = false := frozen_of_row _ _ 0 _ _ hr13
          have v5 := (hb.block b2 (R4.yac VC.out)).trans VC.out; have r5 := (hb.block b4 (R4.yac R4C.out)).trans R4C.out
          have ne2 : b2 ≠ g13 := by have := R4.yac VC.out; omega
          have ne4 : b4 ≠ g13 := by have := R4.yac R4C.out; omega
          have HB5 := zH (BC.out.trans (hb.mono BC.out.size))
          have OC5 : Hid (OwnQ w.heap.size w5 (.slice Ab nb cb) B1) := R4.yai OC2.out hb (zN _)
          have h13 := heap_setCell_same w5 g13 0 _ _ (.slice none 0 0) hr13; have v6 := (Below.heap_setCell w5 ⟨g13, 0, none⟩ (.slice none 0 0) b2 ne2).trans v5; have r6 := (Below.heap_setCell w5 ⟨g13, 0, none⟩ (.slice none 0 0) b4 ne4).trans r5; have H13 := zH hr13; have V6 := zH v6; have R6 := zH r6; have y13 := yad (i := 0) (v := .slice none 0 0) h13 rfl; have y2 := yad (i := 0) (v := .slice Av2 L1.length cv2) v6 rfl; have y2f := frozen_of_row _ b2 0 _ _ v6; have y4 := yad (i := 0) (v := .slice none 0 0) r6 rfl; have y4f := frozen_of_row _ b4 0 _ _ r6
          have HB6 : Hid (Below w.heap.size w (w5.setCell ⟨g13, 0, none⟩ (.slice none 0 0))) := HB5.out.setCell (by show _ <= g13; have := BC.out.size; omega) _
          have OC6 : Hid (OwnQ w.heap.size (w5.setCell ⟨g13, 0, none⟩ (.slice none 0 0)) (.slice Ab nb cb) B1) := ybj OC5.out hr13
          simp only [frameV, zS, zA, zB, List.drop_succ_cons, List.drop_zero, List.take_succ_cons, List.take_zero, List.cons_append, List.nil_append, e13, e14, e15]; clear hb hd e13 e14 e15 hg13 hr13 v5 r5 ne2 ne4 h13 v6 r6
          go_wp2
          have h9 := heap_setCell_same (w5.setCell ⟨g13, 0, none⟩ (.slice none 0 0)) b4 0 _ _ (.slice none 0 0) R6.out; have x9 := yad (i := 0) (v := .slice none 0 0) h9 rfl; refine bodyPost_ret (v := .tuple #[.agg #[.slice none 0 0], .int .i64 E2]) (by simp [results, Tryz.results19, go_sem, x9]) rfl ?_
          rw [HER.out HE20.out]; exact RAppIs.bad HE20.out (HB6.out.setCell (by show _ <= b4; exact HB4.out) _)
         ·intro vs w5 hb hd
          have e13 : vs 13 = .agg #[.slice none 0 0] := hd 13 (by omega) (by omega) (by unfold exA; simp)
          have e14 : vs 12 = .tuple #[.agg #[.slice none 0 0], .int .i64 E2] := hd 12 (by omega) (by omega) (by unfold exA; simp)
          obtain ⟨g13, e15, hg13, hr13⟩ : ∃ g, vs 15 = .pointer (some ⟨g, 0, none⟩) /\ wc.heap.size <= g /\ w5.heap[g]? = some (.cells #[.slice none 0 0] 52 (0, 0)) := hd 15 (by omega) (by omega) (by unfold exA; simp)
          have x1 := yad (i := 0) (v := .slice none 0 0) hr13 rfl
          have x2 : w5.frozen? ⟨g13, 0, none⟩ = false := frozen_of_row _ _ 0 _ _ hr13
          have v5 := (hb.block b2 (R4.yac VC.out)).trans VC.out; have r5 := (hb.block b4 (R4.yac R4C.out)).trans R4C.out
          have ne2 : b2 ≠ g13 := by have := R4.yac VC.out; omega
          have ne4 : b4 ≠ g13 := by have := R4.yac R4C.out; omega
          have HB5 := zH (BC.out.trans (hb.mono BC.out.size))
          have OC5 : Hid (OwnQ w.heap.size w5 (.slice Ab nb cb) B1) := R4.yai OC2.out hb (zN _)
          have h13 := heap_setCell_same w5 g13 0 _ _ (.slice none 0 0) hr13; have v6 := (Below.heap_setCell w5 ⟨g13, 0, none⟩ (.slice none 0 0) b2 ne2).trans v5; have r6 := (Below.heap_setCell w5 ⟨g13, 0, none⟩ (.slice none 0 0) b4 ne4).trans r5; have H13 := zH hr13; have V6 := zH v6; have R6 := zH r6; have y13 := yad (i := 0) (v := .slice none 0 0) h13 rfl; have y2 := yad (i := 0) (v := .slice Av2 L1.length cv2) v6 rfl; have y2f := frozen_of_row _ b2 0 _ _ v6; have y4 := yad (i := 0) (v := .slice none 0 0) r6 rfl; have y4f := frozen_of_row _ b4 0 _ _ r6
          have HB6 : Hid (Below w.heap.size w (w5.setCell ⟨g13, 0, none⟩ (.slice none 0 0))) := HB5.out.setCell (by show _ <= g13; have := BC.out.size; omega) _
          have OC6 : Hid (OwnQ w.heap.size (w5.setCell ⟨g13, 0, none⟩ (.slice none 0 0)) (.slice Ab nb cb) B1) := ybj OC5.out hr13
          simp only [frameV, zS, zA, zB, List.drop_succ_cons, List.drop_zero, List.take_succ_cons, List.take_zero, List.cons_append, List.nil_append, e13, e14, e15]; clear hb hd e13 e14 e15 hg13 hr13 v5 r5 ne2 ne4 h13 v6 r6
          go_wp2
          have h9 := heap_setCell_same (w5.setCell ⟨g13, 0, none⟩ (.slice none 0 0)) b4 0 _ _ (.slice none 0 0) R6.out; have x9 := yad (i := 0) (v := .slice none 0 0) h9 rfl; refine bodyPost_ret (v := .tuple #[.agg #[.slice none 0 0], .int .i64 E2]) (by simp [results, Tryz.results19, go_sem, x9]) rfl ?_
          rw [HER.out HE20.out]; exact RAppIs.bad HE20.out (HB6.out.setCell (by show _ <= b4; exact HB4.out) _)
       ·have HE10 := zH hE10
        have hen1 : (E1 != 0) = true := by simpa using hE10
        rw [if_pos hE10] at hrE
        have HF : Hid (E = E1) := by
         have h := he.symm.trans hrE; rw [h] at HER; exact HER.out hE10
        clear hc1 hc2 he hA h1 hrr hlo hrE hrS h8 h8n hgA hce hL1 hB1 hnb hlv hE1 hLv hro hE10 HGD HPO HA HE HS
        go_wp2_with (go_at_call 43; refine (CS.out).mono ?_; rintro q w3 ⟨-, h1, hb3⟩; have h1' := h1 HE10.out; obtain ⟨Av2, nv2, cv2, rfl⟩ := h1'; have hal := yaa w3 (.cells #[.slice Av2 nv2 cv2] 52); have HBA3 := zH (HBA.out.trans ((hb3.trans (hal.mono hb3.size)).mono HBA.out.size)); have R5 := zH ((hal.block b4 (R4.yac ((hb3.block b4 (R4.yac R4X.out)).trans R4X.out))).trans ((hb3.block b4 (R4.yac R4X.out)).trans R4X.out)); have y4 := yad (i := 0) (v := .slice none 0 0) R5.out rfl; have y4f := frozen_of_row _ b4 0 _ _ R5.out; clear h1 hb3 hal x0 x1 x2 c0 c1 c2 z4 z4f v0)
        have h9 := heap_setCell_same (w3.alloc (.cells #[.slice Av2 nv2 cv2] 52)) b4 0 _ _ (.slice none 0 0) R5.out; have x9 := yad (i := 0) (v := .slice none 0 0) h9 rfl; refine bodyPost_ret (v := .tuple #[.agg #[.slice none 0 0], .int .i64 E1]) (by simp [results, Tryz.results19, go_sem, x9]) rfl ?_
        rw [HF.out]; exact RAppIs.bad HE10.out (HBA3.out.setCell (by show _ <= b4; exact HB4.out) _)
  ·obtain rfl : k = n := by omega
   have hd : l.drop k = [] := List.drop_of_length_le (by rw [HN.out]; exact zN _)
   have he := HE.out; have hs := HS.out; rw [hd] at he hs
   have he : 0 = rlsE ⟨L, none⟩ l := he
   have hs : t = rlsS ⟨L, none⟩ l := hs
   obtain ⟨⟨Av1, cv1, hvar, href⟩, hres, hanc, hgood, hans, hlim, hpos⟩ := HA.out; obtain ⟨e, hchk⟩ : ∃ e, checkP t.L = e := ⟨_, rfl⟩
   have HEQ : Hid (E = e) := by
    have h := HEE.out
    show _ = _
    rw [<- h, <- he, if_neg (by simp), <- hs, hchk]
   have HLQ : Hid (t.L = L') := by show _ = _; rw [<- HLL.out, <- hs]
   have CK : Hid (Calls Tryz.prog 45 #[.agg #[.slice Av1 t.L.length cv1]] wo fun e_1 w' => e_1 = .returned (.int .i64 e) /\ Below wo.heap.size wo w') := yqf href (by have := hgood.len; omega) (fun f hf => by have h1 := hgood.seq f hf; have h2 := (hgood.els f hf).1; omega) hchk
   have V0 := zH hvar; have R0 := zH hres; have RF := zH href; have v0 := yad (i := 0) (v := .slice Av1 t.L.length cv1) hvar rfl
   have hltI : ¬ (k : Int) < (k : Int) := by omega
   by_cases hE0 : e = 0
   ·subst hE0; clear hd he hs hvar href hres hanc hgood hans hlim hpos hchk hlt
    go_wp2_with (go_at_call 45; refine (CK.out).mono ?_; rintro q' w3 ⟨rfl, hb⟩; have V3 := zH ((hb.block b2 (R4.yac V0.out)).trans V0.out); have R3 := zH ((hb.block b4 (R4.yac R0.out)).trans R0.out); have d0 := yad (i := 0) (v := .slice Av1 t.L.length cv1) V3.out rfl; have y4 := yad (i := 0) (v := .slice none 0 0) R3.out rfl; have y4f := frozen_of_row _ b4 0 _ _ R3.out; have HB3 := zH (HB.out.trans (hb.mono HB.out.size)); have RF3 := zH (RF.out.below hb (zN _)); clear hb v0)
    have h9 := heap_setCell_same w3 b4 0 _ _ (.slice Av1 t.L.length cv1) R3.out; have x9 := yad (i := 0) (v := .slice Av1 t.L.length cv1) h9 rfl; refine bodyPost_ret (v := .tuple #[.agg #[.slice Av1 t.L.length cv1], .int .i64 0]) (by simp [results, Tryz.results19, go_sem, x9]) rfl ⟨fun _ => ⟨_, rfl, ?_⟩, fun h => absurd HEQ.out h, HB3.out.setCell (by show _ <= b4; exact HB4.out) _⟩
    rw [<- HLQ.out]; exact RF3.out.off (R4.yaf _ ⟨b4, 0, none⟩ _) R3.out (by decide) (by decide) (by decide)
   ·have HE0 := zH hE0
    have hen : (e != 0) = true := by simpa using hE0
    clear hd he hs hvar href hres hanc hgood hans hlim hpos hchk hlt hE0
    go_wp2_with (go_at_call 45; refine (CK.out).mono ?_; rintro q' w3 ⟨rfl, hb⟩; have R3 := zH ((hb.block b4 (R4.yac R0.out)).trans R0.out); have y4 := yad (i := 0) (v := .slice none 0 0) R3.out rfl; have y4f := frozen_of_row _ b4 0 _ _ R3.out; have HB3 := zH (HB.out.trans (hb.mono HB.out.size)); clear hb v0)
    have h9 := heap_setCell_same w3 b4 0 _ _ (.slice none 0 0) R3.out; have x9 := yad (i := 0) (v := .slice none 0 0) h9 rfl; refine bodyPost_ret (v := .tuple #[.agg #[.slice none 0 0], .int .i64 e]) (by simp [results, Tryz.results19, go_sem, x9]) rfl ?_
    rw [HEQ.out]; exact RAppIs.bad HE0.out (HB3.out.setCell (by show _ <= b4; exact HB4.out) _)
end Go.Proofs.YtichfdjjbafeiaaGreat
