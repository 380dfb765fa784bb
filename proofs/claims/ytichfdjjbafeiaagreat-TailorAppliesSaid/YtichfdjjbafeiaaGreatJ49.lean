/-
  PACKED for a claim.
-/
import Derived.Test.YtichfdjjbafeiaaGreatJ39
set_option linter.unusedVariables false
set_option linter.unusedSimpArgs false
set_option maxRecDepth 100000
namespace Go.Proofs.YtichfdjjbafeiaaGreat
open Go.RowKit
theorem ynm {lv : Nat} {L : List PE} (hg : GoodT L) (hf : fullP lv L = false) : ∀ e ∈ L, ∀ x ∈ e.2, NW lv x := by
 intro e he x hx
 by_cases h1 : lv = 1
 ·exact .inl h1
 ·right
  have h2 := (hg.els e he).2 x hx; have h3 := yhe (lv := lv) h2; rw [if_neg h1] at h3; rw [yyb, List.any_eq_false] at hf; have h4 := hf e he; unfold fuE at h4; rw [List.any_eq_true] at h4
  have h5 : wgt lv x ≠ topW lv := fun e2 => h4 ⟨x, hx, by simp [e2]⟩
  omega
theorem qtake (l : List Nat) (k : Nat) : qcells (l.take k) = (qcells l).take (k * 4) := by
 induction l generalizing k with
 | nil => simp [qcells]
 | cons x t ih =>
  cases k with
  | zero => simp [qcells]
  | succ k =>
   have hl : (q4 x).length = 4 := rfl
   rw [List.take_succ_cons, yal, yal, ih, show (k + 1) * 4 = (q4 x).length + k * 4 by rw [hl]; omega, List.take_length_add_append]
theorem zan {x p : Nat} (hx : x < 4294967296) (hn : NW 1 x) {P S T : Int} {V : Bool} (hq : q4 x = [.int .i64 P, .int .i64 S, .int .i64 T, .bool V]) (hp : wgt 1 x = p) : q4 (nxt 1 x) = [.int .i64 ((p : Int) + 1), .int .i64 32, .int .i64 2, .bool false] := by
 unfold nxt; rw [if_pos rfl, hp, q4_of (p := p + 1) (s := 32) (t := 2) (v := false) (by unfold E3.mk; simp) (by omega) (by omega)]
 rfl
theorem zam {x p : Nat} (hx : x < 4294967296) (hn : NW 2 x) {P S T : Int} {V : Bool} (hq : q4 x = [.int .i64 P, .int .i64 S, .int .i64 T, .bool V]) (hp : wgt 2 x = p) : q4 (nxt 2 x) = [.int .i64 P, .int .i64 ((p : Int) + 1), .int .i64 2, .bool V] := by
 have h0 := hq; unfold q4 at h0; simp only [List.cons.injEq, Value.int.injEq, Value.bool.injEq, true_and, and_true] at h0; obtain ⟨hP, hS, hT, hV⟩ := h0
 have hp2 : x / 256 % 256 = p := hp
 have hn2 : x / 256 % 256 < 255 := by rcases hn with h | h; (· omega); exact h
 have e : nxt 2 x = (x / 65536) * 65536 + (p + 1) * 256 + 2 * 2 + (if decide (x % 2 = 1) then 1 else 0) := by
  unfold nxt; rw [if_neg (by omega), if_pos rfl, hp]
  unfold putW; rw [if_neg (by omega), if_neg (by omega), if_neg (by omega), if_pos rfl]
  by_cases h2 : x % 2 = 1
  ·simp only [h2, decide_true, if_true]; omega
  ·simp only [h2, decide_false, Bool.false_eq_true, if_false]; omega
 rw [q4_of e (by omega) (by omega), hP, hV]
 rfl
theorem zal {x p : Nat} (hx : x < 4294967296) (hn : NW 3 x) {P S T : Int} {V : Bool} (hq : q4 x = [.int .i64 P, .int .i64 S, .int .i64 T, .bool V]) (hp : wgt 3 x = p) : q4 (nxt 3 x) = [.int .i64 P, .int .i64 S, .int .i64 ((p : Int) + 1), .bool V] := by
 have h0 := hq; unfold q4 at h0; simp only [List.cons.injEq, Value.int.injEq, Value.bool.injEq, true_and, and_true] at h0; obtain ⟨hP, hS, hT, hV⟩ := h0
 have hp2 : x / 2 % 128 = p := hp
 have hn2 : x / 2 % 128 < 127 := by rcases hn with h | h; (· omega); exact h
 have e : nxt 3 x = (x / 65536) * 65536 + (x / 256 % 256) * 256 + (p + 1) * 2 + (if decide (x % 2 = 1) then 1 else 0) := by
  unfold nxt; rw [if_neg (by omega), if_neg (by omega), hp]
  unfold putW; rw [if_neg (by omega), if_neg (by omega)]
  by_cases h2 : x % 2 = 1
  ·simp only [h2, decide_true, if_true]; omega
  ·simp only [h2, decide_false, Bool.false_eq_true, if_false]; omega
 rw [q4_of e (by omega) (by omega), hP, hS, hV]
 rfl
set_option maxHeartbeats 16000000 in
theorem yzs {w : World} {v av : Value} {L : List PE} {A : List Nat} (h : RefT w v L) (hg : GoodT L) (ha : RdQ anyB w av A) (h8 : Anc A) (hn : ∀ x ∈ A, NW 1 x) {E : Int} (hE : movE 1 L A = E) :
  Calls Tryz.prog 43 #[.agg #[v], av, .int .i64 1] w (StpIs (movL 1 L A) (movA 1 A) E w) := by
 obtain ⟨Au, cu, rfl⟩ := h.form; obtain ⟨Aa, ca, rfl⟩ := ha.form; have hA := yaa w (.cells #[.slice Au L.length cu] 52); have hA2 := yaa (w.alloc (.cells #[.slice Au L.length cu] 52)) (.cells #[.slice none 0 0] 52); have HR := zH ((h.below hA (zN _)).below hA2 (zN _)); have HQ := zH ((ha.below hA (zN _)).below hA2 (zN _)); have H3 := zH ((hA2.block _ (R4.yac (heap_alloc_new w (.cells #[.slice Au L.length cu] 52)))).trans (heap_alloc_new w (.cells #[.slice Au L.length cu] 52))); have H6 := zH (heap_alloc_new (w.alloc (.cells #[.slice Au L.length cu] 52)) (.cells #[.slice none 0 0] 52)); rw [World.size_alloc] at H6; have HB0 := zH (hA.trans (hA2.mono hA.size)); have HG := zH hg; have H8 := zH h8; have HNW := zH hn; have HEE := zH hE; obtain ⟨n, hln⟩ : ∃ n, L.length = n := ⟨_, rfl⟩; have HN := zH hln; obtain ⟨n0, hn0⟩ : ∃ n, A.length = n := ⟨_, rfl⟩; have HN0 := zH hn0; have hn8 := h8.1; have hlen := hg.len; rw [hn0] at hn8; rw [hln] at hlen; rw [hln] at HR H3 H6 HB0; rw [hn0, hln] at HQ; rw [hln, hn0]
 have hnI : (n : Int) <= 500 := by omega
 have hn8I : (n0 : Int) <= 8 := by omega
 have hwr : IntKind.i64.wrap ((n0 : Int) - 1) = (n0 : Int) - 1 := by rw [IntKind.wrap_i64]; omega
 clear h hg ha h8 hn hE hln hn0 hA hA2
 go_enter Tryz.func43, Tryz.ntmps43
 go_wp2
 generalize ((w.alloc (.cells #[.slice Au n cu] 52)).alloc (.cells #[.slice none 0 0] 52)) = w0 at HR HQ H3 H6 HB0 |-; obtain ⟨b3, hb3⟩ : ∃ b, w.heap.size = b := ⟨_, rfl⟩
 have HB3 : Hid (w.heap.size <= b3) := by show _ <= _; omega
 rw [hb3] at H3 H6 |-; obtain ⟨b6, hb6⟩ : ∃ b, b3 + 1 = b := ⟨_, rfl⟩
 have HB6 : Hid (w.heap.size <= b6) := by show _ <= _; omega
 rw [hb6] at H6 |-; clear hb3 hb6
 go_loopw [9] (fun i wr => ∃ m : Nat, m <= n0 /\ i = .int .i64 ((m : Int) - 1) /\ Hid (lastF 1 A m = lastW 1 A) /\ Hid (Below w0.heap.size w0 wr)) (fun i _ => (intOf i + 1).toNat)
 case atStart => exact ⟨n0, zN _, rfl, by show _ = _; unfold lastW; rw [HN0.out], zR _ _⟩
 case round =>
  obtain ⟨m, hm, rfl, HE, HB⟩ := hrel; obtain ⟨wo, rfl⟩ : ∃ wo, wo = wr := ⟨_, rfl⟩; have h3 := (HB.out.block _ (R4.yac H3.out)).trans H3.out; have h6 := (HB.out.block _ (R4.yac H6.out)).trans H6.out; have HW := zH (HB0.out.trans (HB.out.mono HB0.out.size))
  cases m with
  | zero =>
   have HF : Hid (E = 1) := by
    have h2 : lastW 1 A = none := HE.out.symm
    show _ = _
    rw [<- HEE.out]; unfold movE; rw [h2]
   obtain ⟨zz, hz⟩ : ∃ z : Int, ((0 : Nat) : Int) - 1 = z := ⟨_, rfl⟩
   have hz0 : zz < 0 := by omega
   have hz1 : ¬ (0 : Int) <= zz := by omega
   have hz2 : decide ((0 : Int) <= zz) = false := decide_eq_false hz1
   have hz3 : decide (zz < 0) = true := decide_eq_true hz0
   rw [hz]; have c3 := yad (i := 0) (v := .slice Au n cu) h3 rfl; have c6 := yad (i := 0) (v := .slice none 0 0) h6 rfl; have f6 := frozen_of_row wo b6 0 _ _ h6; have h9 := heap_setCell_same wo b6 0 _ _ (.slice Au n cu) h6; have C9 := zH (yad (i := 0) (v := .slice Au n cu) h9 rfl); clear hz h3 h6 h9
   go_wp2
   rw [HF.out]; exact bodyPost_ret (v := .tuple #[.agg #[.slice Au n cu], .slice none 0 0, .int .i64 1]) (by simp [results, Tryz.results43, go_sem, C9.out]) rfl (StpIs.bad (by decide) (HW.out.setCell (by show _ <= b6; exact HB6.out) _))
  | succ k =>
   obtain ⟨x, hx⟩ : ∃ x, A[k]? = some x := ⟨_, List.getElem?_eq_getElem (by rw [HN0.out]; omega)⟩
   have hst := yee (lv := 1) hx; rw [HE.out] at hst; have hxl := H8.out.2 x (List.mem_of_getElem? hx); have hxn := HNW.out x (List.mem_of_getElem? hx); obtain ⟨g, o, rfl, f0, f1, f2, f3⟩ := RdQ.at (F := anyB) (by have h1 := HQ.out.below HB.out (zN _); exact h1) hx
   obtain ⟨P, hP⟩ : ∃ P : Int, ((x / 65536 : Nat) : Int) = P := ⟨_, rfl⟩; obtain ⟨S, hS⟩ : ∃ P : Int, ((x / 256 % 256 : Nat) : Int) = P := ⟨_, rfl⟩; obtain ⟨T, hT⟩ : ∃ P : Int, ((x / 2 % 128 : Nat) : Int) = P := ⟨_, rfl⟩; obtain ⟨V, hV⟩ : ∃ P, decide (x % 2 = 1) = P := ⟨_, rfl⟩; obtain ⟨p, hp⟩ : ∃ p, wgt 1 x = p := ⟨_, rfl⟩
   have hWp : P = (p : Int) := by rw [<- hP, <- hp]; rfl
   have HQX : Hid (q4 x = [.int .i64 P, .int .i64 S, .int .i64 T, .bool V]) := by show _ = _; unfold q4; rw [hP, hS, hT, hV]
   rw [hP] at f0; rw [hS] at f1; rw [hT] at f2; rw [hV] at f3
   have CO : Hid (∀ w, Calls Tryz.prog 79 #[.agg #[.int .i64 P, .int .i64 S, .int .i64 T, .bool V], .int .i64 1] w fun e w' => e = .returned (.int .i64 (p : Nat)) /\ Below w.heap.size w w') := fun w => yay (lv := 1) (by unfold Lv; omega) P S T V hWp w
   have F0 := zH f0; have F1 := zH f1; have F2 := zH f2; have F3 := zH f3; have H3W := zH h3; have H6W := zH h6
   have hkI : (0 : Int) <= (k : Int) := by omega
   have hkn : (k : Int) < (n0 : Int) := by omega
   have hcap := (RdF.cap HQ.out).1
   have hkc : (k : Int) + 1 <= (ca : Int) := by have := HN0.out; omega
   rw [show ((k + 1 : Nat) : Int) - 1 = (k : Int) by omega]
   by_cases hp0 : p = 0
   ·rw [hp, if_pos hp0] at hst; have HS1 := zH hst.symm
    have hpb : ((p : Int) == 0) = true := by rw [hp0]; rfl
    have hwn : IntKind.i64.wrap ((k : Int) - 1) = (k : Int) - 1 := by rw [IntKind.wrap_i64]; omega
    clear hx hst hp hp0 hxl hxn hP hS hT hV hWp h3 h6
    go_wp2_with (go_at_call 79; refine (CO.out _).mono ?_; rintro q w' ⟨rfl, hb⟩; have HBN := zH (HB.out.trans (hb.mono HB.out.size)); clear hb f0 f1 f2 f3)
    go_roundw
    case rel => exact ⟨k, by omega, rfl, HS1.out, HBN.out⟩
    case measure => simp [intOf] <;> omega
   ·have hlw : lastW 1 A = some k := by rw [hst, hp, if_neg hp0]
    have hgd : A.getD k 0 = x := by rw [List.getD_eq_getElem?_getD, hx]; rfl
    have hpb : ((p : Int) == 0) = false := by rw [beq_eq_false_iff_ne]; omega
    have hk0 : ¬ (k : Int) < 0 := by omega
    have hk0b : decide ((k : Int) < 0) = false := decide_eq_false hk0
    have hEx := HEE.out; unfold movE at hEx; rw [hlw] at hEx; simp only [hgd, hp] at hEx; have HXL := zH hxl; have HLW := zH hlw; have HGD := zH hgd; have HPW := zH hp; have HXX := zH hx; have HXN := zH hxn
    have tok : True := trivial
    by_cases hhi : 64255 < p
    ·have HF : Hid (E = 1) := by show _ = _; rw [<- hEx]; exact if_pos (by have : topW 1 = 64255 := rfl; omega)
     have hhI : (64256 : Int) <= P := by omega
     clear hx hst hp hp0 hxl hxn hP hS hT hV h3 h6 hlw hgd hEx hhi hWp
     go_wp2_with (go_at_call 79; have _t := tok; refine (CO.out _).mono ?_; rintro q w1 ⟨rfl, hb⟩; have HB1 := zH hb; have c3 := yab hb (yad (i := 0) (v := .slice Au n cu) H3W.out rfl); have h6x := (hb.block _ (R4.yac H6W.out)).trans H6W.out; have c6 := yad (i := 0) (v := .slice none 0 0) h6x rfl; have z6 := frozen_of_row w1 b6 0 _ _ h6x; have H61 := zH h6x; have x0 := yab hb F0.out; have x1 := yab hb F1.out; have x2 := yab hb F2.out; have x3 := yab hb F3.out; clear hb f0 f1 f2 f3 h6x _t tok)
     rw [HF.out]; have h9 := heap_setCell_same w1 b6 0 _ _ (.slice Au n cu) H61.out; have c9 := yad (i := 0) (v := .slice Au n cu) h9 rfl; exact bodyPost_ret (v := .tuple #[.agg #[.slice Au n cu], .slice none 0 0, .int .i64 1]) (by simp [results, Tryz.results43, go_sem, c9]) rfl (StpIs.bad (by decide) ((HW.out.trans (HB1.out.mono HW.out.size)).setCell (by show _ <= b6; exact HB6.out) _))
    ·have hhI : ¬ (64256 : Int) <= P := by omega
     have hhb : decide ((64256 : Int) <= P) = false := decide_eq_false hhI
     rw [if_neg (by have : topW 1 = 64255 := rfl; omega)] at hEx
     cases hf : fullP 1 L with
     | true =>
      rw [hf, if_pos rfl] at hEx
      have HF : Hid (E = 60) := hEx.symm
      have CF : Hid (∀ (w1 : World), Below wo.heap.size wo w1 -> Calls Tryz.prog 80 #[.agg #[.slice Au n cu], .int .i64 1] w1 fun e w' => e = .returned (.bool true) /\ Below w1.heap.size w1 w') := fun w1 hb => yda (lv := 1) ((HR.out.below HB.out (zN _)).below hb (zN _)) HG.out (by unfold Lv; omega) hf
      clear hx hst hp hp0 hxl hxn hP hS hT hV h3 h6 hlw hgd hEx hf hWp
      go_wp2_with (first
       | (go_at_call 79; have _t := tok; refine (CO.out _).mono ?_; rintro q w1 ⟨rfl, hb⟩; have HB1 := zH hb; have c3 := yab hb (yad (i := 0) (v := .slice Au n cu) H3W.out rfl); have h6x := (hb.block _ (R4.yac H6W.out)).trans H6W.out; have c6 := yad (i := 0) (v := .slice none 0 0) h6x rfl; have z6 := frozen_of_row w1 b6 0 _ _ h6x; have H61 := zH h6x; have x0 := yab hb F0.out; have x1 := yab hb F1.out; have x2 := yab hb F2.out; have x3 := yab hb F3.out; clear hb f0 f1 f2 f3 h6x _t tok)
       | (go_at_call 80; refine (CF.out w1 HB1.out).mono ?_; rintro q w2 ⟨rfl, hb⟩; have d3 := yab hb c3; have h6x := (hb.block _ (R4.yac H61.out)).trans H61.out; have d6 := yad (i := 0) (v := .slice none 0 0) h6x rfl; have y6 := frozen_of_row w2 b6 0 _ _ h6x; have H62 := zH h6x; have HB2 := zH (HB1.out.trans (hb.mono HB1.out.size)); clear hb c3 c6 z6 x0 x1 x2 x3 h6x))
      rw [HF.out]; have h9 := heap_setCell_same w2 b6 0 _ _ (.slice Au n cu) H62.out; have c9 := yad (i := 0) (v := .slice Au n cu) h9 rfl; exact bodyPost_ret (v := .tuple #[.agg #[.slice Au n cu], .slice none 0 0, .int .i64 60]) (by simp [results, Tryz.results43, go_sem, c9]) rfl (StpIs.bad (by decide) ((HW.out.trans (HB2.out.mono HW.out.size)).setCell (by show _ <= b6; exact HB6.out) _))
     | false =>
      rw [hf, if_neg (by simp)] at hEx
      have HF : Hid (E = 0) := hEx.symm
      have CF : Hid (∀ (w1 : World), Below wo.heap.size wo w1 -> Calls Tryz.prog 80 #[.agg #[.slice Au n cu], .int .i64 1] w1 fun e w' => e = .returned (.bool false) /\ Below w1.heap.size w1 w') := fun w1 hb => yda (lv := 1) ((HR.out.below HB.out (zN _)).below hb (zN _)) HG.out (by unfold Lv; omega) hf
      have HLN := zH (ynm HG.out hf); obtain ⟨z, hz⟩ : ∃ z, nxt 1 x = z := ⟨_, rfl⟩
      have HR1 : Hid (movL 1 L A = mapP (up 1 p) L) := by show _ = _; unfold movL; rw [hlw]; simp only [hgd, hp]
      have HR2 : Hid (movA 1 A = (A.take k).map (up 1 p) ++ [z]) := by show _ = _; unfold movA ancP; rw [hlw]; simp only [hgd, hp, hz]
      have HZ := zH hz; clear hx hst hp hp0 hxl hxn hP hS hT hV h3 h6 hlw hgd hEx hf hz hWp
      go_wp2_with (first
       | (go_at_call 79; have _t := tok; refine (CO.out _).mono ?_; rintro q w1 ⟨rfl, hb⟩; have HB1 := zH hb; have c3 := yab hb (yad (i := 0) (v := .slice Au n cu) H3W.out rfl); have h6x := (hb.block _ (R4.yac H6W.out)).trans H6W.out; have c6 := yad (i := 0) (v := .slice none 0 0) h6x rfl; have z6 := frozen_of_row w1 b6 0 _ _ h6x; have H61 := zH h6x; have x0 := yab hb F0.out; have x1 := yab hb F1.out; have x2 := yab hb F2.out; have x3 := yab hb F3.out; clear hb f0 f1 f2 f3 h6x _t tok)
       | (go_at_call 80; refine (CF.out w1 HB1.out).mono ?_; rintro q w2 ⟨rfl, hb⟩; have HB2 := zH (HB1.out.trans (hb.mono HB1.out.size)); have y0 := yab hb x0; have y1 := yab hb x1; have y2 := yab hb x2; have y3 := yab hb x3; clear hb c3 c6 z6 x0 x1 x2 x3)
       | (go_at_call 79; refine (CO.out _).mono ?_; rintro q w3 ⟨rfl, hb⟩; have HBX := zH (HB2.out.trans (hb.mono HB2.out.size)); clear hb y0 y1 y2 y3))
      have H3X := zH ((HBX.out.block _ (R4.yac H3W.out)).trans H3W.out); have H6X := zH ((HBX.out.block _ (R4.yac H6W.out)).trans H6W.out); have HRX := zH ((HR.out.below HB.out (zN _)).below HBX.out (zN _)); have HQX2 := zH ((HQ.out.below HB.out (zN _)).below HBX.out (zN _)); have HWX := zH (HW.out.trans (HBX.out.mono HW.out.size)); have HVS := zH (VS.start w3 (up 1 p) L); clear HB1 HB2 H61 CF H3W H6W F0 F1 F2 F3; generalize (w3.alloc (.cells #[.slice none 0 0] 52)) = w4 at HVS |-; obtain ⟨b12, hb12⟩ : ∃ b, w3.heap.size = b := ⟨_, rfl⟩; have HB12 := zH hb12; rw [hb12] at HVS |-; clear hb12
      go_loopw [13] (fun i wq => ∃ j : Nat, j <= n /\ i = .int .i64 (j : Nat) /\ Hid (VS w3 b12 (up 1 p) L j wq)) (fun i _ => n - (intOf i).toNat)
      case atStart => exact ⟨0, Nat.zero_le _, rfl, HVS.out⟩
      case round =>
       clear HVS; obtain ⟨j, hj, rfl, HJ⟩ := hrel; obtain ⟨Am, cm, M, m1, m2, m3, m4, m5⟩ := HJ.out.form (by rw [HN.out]; exact hj)
       have hj3 := (HJ.out.bel.block b3 (by have := R4.yac H3X.out; rw [HB12.out] at this; exact this)).trans H3X.out
       by_cases hlt : j < n
       ·obtain ⟨e, he⟩ : ∃ e, L[j]? = some e := ⟨_, List.getElem?_eq_getElem (by rw [HN.out]; exact hlt)⟩
        obtain ⟨g2, o2, vs, vl, rfl, e0, e1, hri, hrq⟩ := HRX.out.atK (Nat.le_of_eq HB12.out) he; obtain ⟨A4, k4, rfl⟩ := hri.form; obtain ⟨A5, k5, rfl⟩ := hrq.form; have E0 := zH ((HJ.out.bel.cell (p := ⟨g2, o2 + j * 2, none⟩) (by have := yah e0; rw [HB12.out] at this; exact this)).trans e0)
        have E1 := zH ((HJ.out.bel.cell (p := ⟨g2, o2 + j * 2 + 1, none⟩) (by have := yah e1; rw [HB12.out] at this; exact this)).trans e1)
        have C3 := zH (yad (i := 0) (v := .slice (some ⟨g2, o2, none⟩) n cu) hj3 rfl); have cx3 := C3.out; have C12 := zH (yad (i := 0) (v := .slice Am j cm) m1 rfl); have M1 := zH m1; have M2 := zH m2; have M3 := zH m3; have M4 := zH m4; have M5 := zH m5; have HRI := zH hri
        have HRQ : Hid (RdQ anyB wr (.slice A5 e.2.length k5) e.2) := RdQ.below hrq HJ.out.bel (Nat.le_of_eq HB12.out)
        have hel := HG.out.els e (List.mem_of_getElem? he)
        have CL : Hid (∀ (w1 : World), RdQ anyB w1 (.slice A5 e.2.length k5) e.2 -> Calls Tryz.prog 81 #[.slice A5 e.2.length k5, .int .i64 1, .int .i64 (p : Nat), .int .i64 64256] w1 (GotQ w1.heap.size w1 (e.2.map (up 1 p)))) := fun w1 hr => ycz (fr := p) hr hel.2 (by omega) (lv := 1) (by unfold Lv; omega) (HLN.out e (List.mem_of_getElem? he)) (bd := 64256) rfl
        have HEN := zH he
        have hjI : (j : Int) < (n : Int) := by omega
        have HJL : Hid (j <= 500) := by show _ <= _; omega
        obtain ⟨l2, hl2⟩ : ∃ l, e.2.map (up 1 p) = l := ⟨_, rfl⟩; rw [hl2] at CL; have HL2 := zH hl2; obtain ⟨n2, hn2⟩ : ∃ m, e.2.length = m := ⟨_, rfl⟩; rw [hn2] at E1 HRQ CL; obtain ⟨n1, hn1⟩ : ∃ m, e.1.length = m := ⟨_, rfl⟩; have HN1 := zH hn1; rw [hn1] at E0 HRI; clear he hj3 m1 m2 m3 m4 m5 e0 e1 hri hrq hel hlt hn2 hn1 hl2
        go_upto_region 16 with (fail)
        refine yam (m := 20) [65, 66, 67, 68, 69, 70, 71, 72, 73, 74, 75, 76, 77, 78, 79, 80, 81, 82, 83, 84] [SV.eq (.pointer (some ⟨b12, 0, none⟩)), SV.eq (.slice Am j cm), SV.eq (.pointer (some ⟨b3, 0, none⟩)), SV.eq (.slice (some ⟨g2, o2, none⟩) n cu), SV.eq (.int .i64 (j : Int)), SV.eq (.pointer (some ⟨g2, o2 + j * 2, none⟩)), SV.eq (.pointer (some ⟨g2, o2 + j * 2, none⟩)), SV.eq (.slice A4 n1 k4), SV.eq (.pointer (some ⟨b3, 0, none⟩)), SV.eq (.slice (some ⟨g2, o2, none⟩) n cu), SV.eq (.int .i64 (j : Int)), SV.eq (.pointer (some ⟨g2, o2 + j * 2, none⟩)), SV.eq (.pointer (some ⟨g2, o2 + j * 2 + 1, none⟩)), SV.eq (.slice A5 n2 k5), SV.eq (.int .i64 1), SV.eq (.int .i64 (p : Int)), SV.eq (.int .i64 64256), SV.ownq b12 l2, SV.entv b12 (.slice A4 n1 k4) l2, SV.entr b12 (e.1, l2)] (by kernel_rfl) (by kernel_rfl) ?_ ?_
        ·refine ⟨⟨⟨⟨⟨⟨⟨⟨⟨⟨⟨⟨⟨⟨⟨⟨⟨⟨⟨⟨trivial, ?_⟩, ?_⟩, ?_⟩, ?_⟩, ?_⟩, ?_⟩, ?_⟩, ?_⟩, ?_⟩, ?_⟩, ?_⟩, ?_⟩, ?_⟩, ?_⟩, ?_⟩, ?_⟩, ?_⟩, ?_⟩, ?_⟩, ?_⟩
         all_goals (refine OpIs.mk rfl ?_; intro vs w1 hb hd K hK; simp only [frameV, zS, zA, zB, zC, zD] at hK |-)
         ·have HK := zH hK; clear hK; go_simp; exact HK.out _ _ rfl (zR _ _)
         ·have d0 : vs 0 = .pointer (some ⟨b12, 0, none⟩) := hd 0 (by kernel_rfl)
          have c0 := yab hb C12.out; simp only [d0] at hK |-; have HK := zH hK; clear hK; go_simp; exact HK.out _ _ rfl (zR _ _)
         ·have HK := zH hK; clear hK; go_simp; exact HK.out _ _ rfl (zR _ _)
         ·have d2 : vs 2 = .pointer (some ⟨b3, 0, none⟩) := hd 2 (by kernel_rfl)
          have c0 := yab hb C3.out; simp only [d2] at hK |-; have HK := zH hK; clear hK; go_simp; exact HK.out _ _ rfl (zR _ _)
         ·have HK := zH hK; clear hK; go_simp; exact HK.out _ _ rfl (zR _ _)
         ·have d3 : vs 3 = .slice (some ⟨g2, o2, none⟩) n cu := hd 3 (by kernel_rfl)
          have d4 : vs 4 = .int .i64 (j : Int) := hd 4 (by kernel_rfl)
          simp only [d3, d4] at hK |-; have HK := zH hK; clear hK; go_simp; exact HK.out _ _ rfl (zR _ _)
         ·have d5 : vs 5 = .pointer (some ⟨g2, o2 + j * 2, none⟩) := hd 5 (by kernel_rfl)
          simp only [d5] at hK |-; have HK := zH hK; clear hK; go_simp; exact HK.out _ _ rfl (zR _ _)
         ·have d6 : vs 6 = .pointer (some ⟨g2, o2 + j * 2, none⟩) := hd 6 (by kernel_rfl)
          have c0 := yab hb E0.out; simp only [d6] at hK |-; have HK := zH hK; clear hK; go_simp; exact HK.out _ _ rfl (zR _ _)
         ·have HK := zH hK; clear hK; go_simp; exact HK.out _ _ rfl (zR _ _)
         ·have d8 : vs 8 = .pointer (some ⟨b3, 0, none⟩) := hd 8 (by kernel_rfl)
          have c0 := yab hb C3.out; simp only [d8] at hK |-; have HK := zH hK; clear hK; go_simp; exact HK.out _ _ rfl (zR _ _)
         ·have HK := zH hK; clear hK; go_simp; exact HK.out _ _ rfl (zR _ _)
         ·have d9 : vs 9 = .slice (some ⟨g2, o2, none⟩) n cu := hd 9 (by kernel_rfl)
          have d10 : vs 10 = .int .i64 (j : Int) := hd 10 (by kernel_rfl)
          simp only [d9, d10] at hK |-; have HK := zH hK; clear hK; go_simp; exact HK.out _ _ rfl (zR _ _)
         ·have d11 : vs 11 = .pointer (some ⟨g2, o2 + j * 2, none⟩) := hd 11 (by kernel_rfl)
          simp only [d11] at hK |-; have HK := zH hK; clear hK; go_simp; exact HK.out _ _ rfl (zR _ _)
         ·have d12 : vs 12 = .pointer (some ⟨g2, o2 + j * 2 + 1, none⟩) := hd 12 (by kernel_rfl)
          have c0 := yab hb E1.out; simp only [d12] at hK |-; have HK := zH hK; clear hK; go_simp; exact HK.out _ _ rfl (zR _ _)
         iterate 3 (·have HK := zH hK; clear hK; go_simp; exact HK.out _ _ rfl (zR _ _))
         ·have d13 : vs 13 = .slice A5 n2 k5 := hd 13 (by kernel_rfl)
          have d14 : vs 14 = .int .i64 1 := hd 14 (by kernel_rfl)
          have d15 : vs 15 = .int .i64 (p : Int) := hd 15 (by kernel_rfl)
          have d16 : vs 16 = .int .i64 64256 := hd 16 (by kernel_rfl)
          simp only [d13, d14, d15, d16] at hK |-; have HK := zH hK; clear hK; go_simp
          go_at_call 81
          refine (CL.out w1 (RdQ.below HRQ.out hb (zN _))).mono ?_; rintro r w5 ⟨v5, rfl, ho5, hb5⟩; exact HK.out _ _ (R4.yaq ho5 (Nat.lt_of_lt_of_le (R4.yac M1.out) hb.size)) hb5
         ·have d7 : vs 7 = .slice A4 n1 k4 := hd 7 (by kernel_rfl)
          have d17 : OwnQ (b12 + 1) w1 (vs 17) l2 := hd 17 (by kernel_rfl)
          have q1 := Exists.choose_spec (OwnQ.form d17); generalize Exists.choose (OwnQ.form d17) = A7 at q1; have q2 := Exists.choose_spec q1; generalize Exists.choose q1 = c7 at q2; clear q1; rw [q2] at d17; have D17 := zH d17; clear d17; simp only [d7] at hK |-; simp only [q2] at hK |-; have HK := zH hK; clear hK; go_simp; exact HK.out _ _ ⟨_, _, _, rfl, D17.out⟩ (zR _ _)
         ·have d18 : (SV.entv b12 (.slice A4 n1 k4) l2).p (vs 18) w1 := hd 18 (by kernel_rfl)
          have q1 := Exists.choose_spec d18; generalize Exists.choose d18 = A7 at q1; have q2 := Exists.choose_spec q1; generalize Exists.choose q1 = n7 at q2; have q3 := Exists.choose_spec q2; generalize Exists.choose q2 = c7 at q3; have q4' := q3.1; have D18 := zH q3.2; clear q1 q2 q3 d18; simp only [q4'] at hK |-; have HK := zH hK; clear hK; go_simp; exact HK.out _ _ (yku D18.out (by have h := HRI.out; rw [<- HN1.out] at h |-; exact h) (HJ.out.bel.trans (hb.mono (Nat.le_of_lt (R4.yac M1.out))))) (yaa w1 _)
        ·intro vs w5 hb hd
         have d1 : vs 1 = .slice Am j cm := hd 1 (by omega)
         obtain ⟨g7, m, d19, hr7, hm7, hw7⟩ : ∃ (g : Nat) (m : ME), vs 19 = .slice (some ⟨g, 0, none⟩) 1 1 /\ RdF anyB w5 (.slice (some ⟨g, 0, none⟩) 1 1) 1 (mcells [m]) /\ m.pl = (e.1, l2) /\ EntW b12 w5 m := hd 19 (by omega)
         have HR7 := zH hr7; have HM7 := zH hm7; have HW7 := zH hw7; have HB5 := zH hb; have m15 := (hb.block _ (R4.yac M1.out)).trans M1.out; have M15 := zH m15; have M25 := zH (M2.out.below hb (zN _)); simp only [frameV, zS, zA, zB, List.drop_succ_cons, List.drop_zero, d1, d19]; clear hb hd d1 d19 hr7 hm7 hw7 m15
         go_wp2_with (at_builtin; refine appendN rfl (.tmp 66) (.tmp 84) rfl w5 (b12 + 1) _ M [m] rfl M25.out rfl HR7.out (ykt HW7.out) (R4.yac M15.out) (by have h1 := M3.out; have h2 := HJL.out; simp only [List.length_cons, List.length_nil]; omega) ?_; intro v7 w7 ho7 hg7 hb7; obtain ⟨A7, c7, rfl⟩ := ho7.form; have m17 := ynt M15.out M25.out hg7; have k12 := yad (i := 0) (v := .slice Am j cm) m17 rfl; have z12 := frozen_of_row w7 b12 0 _ _ m17; have HVP := zH (VS.put (f := up 1 p) (w0 := w3) (HJ.out.bel.trans (HB5.out.mono (Nat.le_of_lt (R4.yac M1.out)))) M15.out M25.out M4.out (fun q hq => (M5.out q hq).below HB5.out) HW7.out HEN.out (by rw [HM7.out]; unfold mpE; rw [HL2.out]) ho7 hg7); clear ho7 hg7 hb7 m17)
         go_roundw
         case rel => exact ⟨j + 1, by omega, by go_num, by have h := HVP.out; simp only [List.length_append, List.length_cons, List.length_nil, Nat.zero_add] at h; exact h⟩
         case measure => simp [intOf] <;> omega
       ·obtain rfl : j = n := by omega
        obtain ⟨Az, cz, m6, hrt⟩ := HJ.out.done HN.out; have M6 := zH m6; have HRT := zH hrt
        have HTK : Hid (RdQ anyB wr (.slice (some ⟨g, o, none⟩) (k + 1) ca) (A.take (k + 1))) := by
         have h1 : RdF anyB wr (.slice (some ⟨g, o, none⟩) n0 ca) n0 (qcells A) := by
          have h2 := RdQ.below HQX2.out HJ.out.bel (Nat.le_of_eq HB12.out); unfold RdQ at h2; rw [HN0.out] at h2; exact h2
         have h2 := RdF.take h1 (m := k + 1) (by have := HN0.out; omega) ((k + 1) * 4)
         show RdF _ _ _ _ _
         rw [show (A.take (k + 1)).length = k + 1 by rw [List.length_take, HN0.out]; omega, show qcells (A.take (k + 1)) = (qcells A).take ((k + 1) * 4) from qtake A (k + 1)]
         exact h2
        have hupx : up 1 p x = x := by unfold up; rw [if_pos (.inl (by rw [HPW.out]; exact zN _))]
        have HAL : Hid ((A.take (k + 1)).map (up 1 p) = (A.take k).map (up 1 p) ++ [x]) := by show _ = _; rw [List.take_add_one, HXX.out, List.map_append, Option.toList_some, List.map_cons, List.map_nil, hupx]
        have HLK : Hid (((A.take k).map (up 1 p)).length = k) := by show _ = _; rw [List.length_map, List.length_take, HN0.out]; omega
        have CL : Hid (Calls Tryz.prog 81 #[.slice (some ⟨g, o, none⟩) (k + 1) ca, .int .i64 1, .int .i64 (p : Nat), .int .i64 64256] wr (GotQ wr.heap.size wr ((A.take (k + 1)).map (up 1 p)))) := (ycz (fr := p) HTK.out (fun y hy => H8.out.2 y (List.mem_of_mem_take hy)) (by rw [List.length_take]; omega) (lv := 1) (by unfold Lv; omega) (fun y hy => HNW.out y (List.mem_of_mem_take hy)) (bd := 64256) rfl)
        rw [HAL.out] at CL; have hj6 := (HJ.out.bel.block b6 (by have := R4.yac H6X.out; rw [HB12.out] at this; exact this)).trans H6X.out
        have H6J := zH hj6; have h3z := (HJ.out.bel.block b3 (by have := R4.yac H3X.out; rw [HB12.out] at this; exact this)).trans H3X.out
        have c3 := yad (i := 0) (v := .slice Au j cu) h3z rfl
        have hk1 : IntKind.i64.wrap ((k : Int) + 1) = (k : Int) + 1 := by rw [IntKind.wrap_i64]; omega
        have hp1 : IntKind.i64.wrap ((p : Int) + 1) = (p : Int) + 1 := by have := lv_wgt (lv := 1) (by unfold Lv; omega) HXL.out; rw [HPW.out] at this; rw [IntKind.wrap_i64]; omega
        have HBJ := zH (HWX.out.trans (HJ.out.bel.mono (by rw [<- HB12.out]; exact HWX.out.size)))
        have HQZ : Hid (q4 z = [.int .i64 (p + 1), .int .i64 32, .int .i64 2, .bool false]) := by
         show _ = _
         have h1 := HQX.out; have h2 := HXN.out; rw [<- HZ.out]; exact zan HXL.out h2 h1 HPW.out
        clear hupx hlt m6 hrt hj6 h3z
        go_wp2_with (go_at_call 81; refine (CL.out).mono ?_; rintro r w5 ⟨v5, rfl, ho5, hb5⟩; obtain ⟨A9, c9, e9⟩ := ho5.form; subst e9; have HO5 := zH ho5; obtain ⟨A8, c8, e8, -, hr8⟩ := R4.yaj ho5; cases e8; obtain ⟨g9, eg9, -, -, -⟩ := hr8 (by simp); subst eg9; have hq5 := yht ho5 HLK.out; rw [HQX.out] at hq5; obtain ⟨hq5, hn5⟩ := hq5; rw [hn5] at hq5 |-; have Q5 : Hid (QR wr.heap.size w5 g9 (k + 1) c9 k ((A.take k).map (up 1 p)) (.int .i64 P) (.int .i64 S) (.int .i64 T) (.bool V)) := ⟨hq5, HLK.out, rfl⟩; have HB5 := zH hb5; have M65 := zH ((hb5.block _ (R4.yac M6.out)).trans M6.out); have H65 := zH ((hb5.block _ (R4.yac H6J.out)).trans H6J.out); obtain ⟨t0c, t0f⟩ := Q5.out.cell 0 (by omega) rfl; obtain ⟨t1c, t1f⟩ := Q5.out.cell 1 (by omega) rfl; obtain ⟨t2c, t2f⟩ := Q5.out.cell 2 (by omega) rfl; obtain ⟨t3c, t3f⟩ := Q5.out.cell 3 (by omega) rfl; rw [Nat.add_zero] at t0c t0f; have Q50 := zH (Q5.out.set0 (.int .i64 ((p : Int) + 1))); have HB50 : Hid (Below wr.heap.size wr (w5.setCell ⟨g9, k * 4, none⟩ (.int .i64 ((p : Int) + 1)))) := HB5.out.setCell (by show wr.heap.size <= g9; exact Q5.out.ge) _; have M650 := zH ((Below.heap_setCell w5 ⟨g9, k * 4, none⟩ (.int .i64 ((p : Int) + 1)) b12 (by have h1 := Q5.out.ge; have h2 := R4.yac M6.out; show b12 ≠ g9; omega)).trans M65.out); have H650 := zH ((Below.heap_setCell w5 ⟨g9, k * 4, none⟩ (.int .i64 ((p : Int) + 1)) b6 (by have h1 := Q5.out.ge; have h2 := R4.yac H6J.out; show b6 ≠ g9; omega)).trans H65.out); have Q51 := zH (Q50.out.set1 (.int .i64 32)); have HB51 : Hid (Below wr.heap.size wr ((w5.setCell ⟨g9, k * 4, none⟩ (.int .i64 ((p : Int) + 1))).setCell ⟨g9, k * 4 + 1, none⟩ (.int .i64 32))) := HB50.out.setCell (by show wr.heap.size <= g9; exact Q5.out.ge) _; have M651 := zH ((Below.heap_setCell (w5.setCell ⟨g9, k * 4, none⟩ (.int .i64 ((p : Int) + 1))) ⟨g9, k * 4 + 1, none⟩ (.int .i64 32) b12 (by have h1 := Q5.out.ge; have h2 := R4.yac M6.out; show b12 ≠ g9; omega)).trans M650.out); have H651 := zH ((Below.heap_setCell (w5.setCell ⟨g9, k * 4, none⟩ (.int .i64 ((p : Int) + 1))) ⟨g9, k * 4 + 1, none⟩ (.int .i64 32) b6 (by have h1 := Q5.out.ge; have h2 := R4.yac H6J.out; show b6 ≠ g9; omega)).trans H650.out); have Q52 := zH (Q51.out.set2 (.int .i64 2)); have HB52 : Hid (Below wr.heap.size wr (((w5.setCell ⟨g9, k * 4, none⟩ (.int .i64 ((p : Int) + 1))).setCell ⟨g9, k * 4 + 1, none⟩ (.int .i64 32)).setCell ⟨g9, k * 4 + 2, none⟩ (.int .i64 2))) := HB51.out.setCell (by show wr.heap.size <= g9; exact Q5.out.ge) _; have M652 := zH ((Below.heap_setCell ((w5.setCell ⟨g9, k * 4, none⟩ (.int .i64 ((p : Int) + 1))).setCell ⟨g9, k * 4 + 1, none⟩ (.int .i64 32)) ⟨g9, k * 4 + 2, none⟩ (.int .i64 2) b12 (by have h1 := Q5.out.ge; have h2 := R4.yac M6.out; show b12 ≠ g9; omega)).trans M651.out); have H652 := zH ((Below.heap_setCell ((w5.setCell ⟨g9, k * 4, none⟩ (.int .i64 ((p : Int) + 1))).setCell ⟨g9, k * 4 + 1, none⟩ (.int .i64 32)) ⟨g9, k * 4 + 2, none⟩ (.int .i64 2) b6 (by have h1 := Q5.out.ge; have h2 := R4.yac H6J.out; show b6 ≠ g9; omega)).trans H651.out); have Q9 := zH (Q52.out.set3 (.bool false)); have HB9 : Hid (Below wr.heap.size wr ((((w5.setCell ⟨g9, k * 4, none⟩ (.int .i64 ((p : Int) + 1))).setCell ⟨g9, k * 4 + 1, none⟩ (.int .i64 32)).setCell ⟨g9, k * 4 + 2, none⟩ (.int .i64 2)).setCell ⟨g9, k * 4 + 3, none⟩ (.bool false))) := HB52.out.setCell (by show wr.heap.size <= g9; exact Q5.out.ge) _; have M69 := zH ((Below.heap_setCell (((w5.setCell ⟨g9, k * 4, none⟩ (.int .i64 ((p : Int) + 1))).setCell ⟨g9, k * 4 + 1, none⟩ (.int .i64 32)).setCell ⟨g9, k * 4 + 2, none⟩ (.int .i64 2)) ⟨g9, k * 4 + 3, none⟩ (.bool false) b12 (by have h1 := Q5.out.ge; have h2 := R4.yac M6.out; show b12 ≠ g9; omega)).trans M652.out); have H69 := zH ((Below.heap_setCell (((w5.setCell ⟨g9, k * 4, none⟩ (.int .i64 ((p : Int) + 1))).setCell ⟨g9, k * 4 + 1, none⟩ (.int .i64 32)).setCell ⟨g9, k * 4 + 2, none⟩ (.int .i64 2)) ⟨g9, k * 4 + 3, none⟩ (.bool false) b6 (by have h1 := Q5.out.ge; have h2 := R4.yac H6J.out; show b6 ≠ g9; omega)).trans H652.out); have k12 := yad (i := 0) (v := .slice Az j cz) M69.out rfl; have k6 := yad (i := 0) (v := .slice none 0 0) H69.out rfl; have z6 := frozen_of_row _ b6 0 _ _ H69.out; clear hq5 hb5 ho5 c3 hr8)
        rw [HF.out]; have h9 := heap_setCell_same ((((w5.setCell ⟨g9, k * 4, none⟩ (.int .i64 ((p : Int) + 1))).setCell ⟨g9, k * 4 + 1, none⟩ (.int .i64 32)).setCell ⟨g9, k * 4 + 2, none⟩ (.int .i64 2)).setCell ⟨g9, k * 4 + 3, none⟩ (.bool false)) b6 0 _ _ (.slice Az j cz) H69.out; have x9 := yad (i := 0) (v := .slice Az j cz) h9 rfl; refine bodyPost_ret (v := .tuple #[.agg #[.slice Az j cz], .slice (some ⟨g9, 0, none⟩) (k + 1) c9, .int .i64 0]) (by simp [results, Tryz.results43, go_sem, x9]) rfl ⟨fun _ => ⟨_, _, rfl, ?_, ?_⟩, fun h => absurd rfl h, (HBJ.out.trans (HB9.out.mono HBJ.out.size)).setCell (by show _ <= b6; exact HB6.out) _⟩
        ·rw [HR1.out]; exact (HRT.out.below HB9.out (zN _)).off (R4.yaf _ ⟨b6, 0, none⟩ _) H69.out (by decide) (by decide) (by decide)
        ·rw [HR2.out]; exact R4.yaq (ybj (Q9.out.done HQZ.out) H69.out) HBJ.out.size
set_option maxHeartbeats 16000000 in
theorem yzr {w : World} {v av : Value} {L : List PE} {A : List Nat} (h : RefT w v L) (hg : GoodT L) (ha : RdQ anyB w av A) (h8 : Anc A) (hn : ∀ x ∈ A, NW 2 x) {E : Int} (hE : movE 2 L A = E) :
  Calls Tryz.prog 43 #[.agg #[v], av, .int .i64 2] w (StpIs (movL 2 L A) (movA 2 A) E w) := by
 obtain ⟨Au, cu, rfl⟩ := h.form; obtain ⟨Aa, ca, rfl⟩ := ha.form; have hA := yaa w (.cells #[.slice Au L.length cu] 52); have hA2 := yaa (w.alloc (.cells #[.slice Au L.length cu] 52)) (.cells #[.slice none 0 0] 52); have HR := zH ((h.below hA (zN _)).below hA2 (zN _)); have HQ := zH ((ha.below hA (zN _)).below hA2 (zN _)); have H3 := zH ((hA2.block _ (R4.yac (heap_alloc_new w (.cells #[.slice Au L.length cu] 52)))).trans (heap_alloc_new w (.cells #[.slice Au L.length cu] 52))); have H6 := zH (heap_alloc_new (w.alloc (.cells #[.slice Au L.length cu] 52)) (.cells #[.slice none 0 0] 52)); rw [World.size_alloc] at H6; have HB0 := zH (hA.trans (hA2.mono hA.size)); have HG := zH hg; have H8 := zH h8; have HNW := zH hn; have HEE := zH hE; obtain ⟨n, hln⟩ : ∃ n, L.length = n := ⟨_, rfl⟩; have HN := zH hln; obtain ⟨n0, hn0⟩ : ∃ n, A.length = n := ⟨_, rfl⟩; have HN0 := zH hn0; have hn8 := h8.1; have hlen := hg.len; rw [hn0] at hn8; rw [hln] at hlen; rw [hln] at HR H3 H6 HB0; rw [hn0, hln] at HQ; rw [hln, hn0]
 have hnI : (n : Int) <= 500 := by omega
 have hn8I : (n0 : Int) <= 8 := by omega
 have hwr : IntKind.i64.wrap ((n0 : Int) - 1) = (n0 : Int) - 1 := by rw [IntKind.wrap_i64]; omega
 clear h hg ha h8 hn hE hln hn0 hA hA2
 go_enter Tryz.func43, Tryz.ntmps43
 go_wp2
 generalize ((w.alloc (.cells #[.slice Au n cu] 52)).alloc (.cells #[.slice none 0 0] 52)) = w0 at HR HQ H3 H6 HB0 |-; obtain ⟨b3, hb3⟩ : ∃ b, w.heap.size = b := ⟨_, rfl⟩
 have HB3 : Hid (w.heap.size <= b3) := by show _ <= _; omega
 rw [hb3] at H3 H6 |-; obtain ⟨b6, hb6⟩ : ∃ b, b3 + 1 = b := ⟨_, rfl⟩
 have HB6 : Hid (w.heap.size <= b6) := by show _ <= _; omega
 rw [hb6] at H6 |-; clear hb3 hb6
 go_loopw [9] (fun i wr => ∃ m : Nat, m <= n0 /\ i = .int .i64 ((m : Int) - 1) /\ Hid (lastF 2 A m = lastW 2 A) /\ Hid (Below w0.heap.size w0 wr)) (fun i _ => (intOf i + 1).toNat)
 case atStart => exact ⟨n0, zN _, rfl, by show _ = _; unfold lastW; rw [HN0.out], zR _ _⟩
 case round =>
  obtain ⟨m, hm, rfl, HE, HB⟩ := hrel; obtain ⟨wo, rfl⟩ : ∃ wo, wo = wr := ⟨_, rfl⟩; have h3 := (HB.out.block _ (R4.yac H3.out)).trans H3.out; have h6 := (HB.out.block _ (R4.yac H6.out)).trans H6.out; have HW := zH (HB0.out.trans (HB.out.mono HB0.out.size))
  cases m with
  | zero =>
   have HF : Hid (E = 1) := by
    have h2 : lastW 2 A = none := HE.out.symm
    show _ = _
    rw [<- HEE.out]; unfold movE; rw [h2]
   obtain ⟨zz, hz⟩ : ∃ z : Int, ((0 : Nat) : Int) - 1 = z := ⟨_, rfl⟩
   have hz0 : zz < 0 := by omega
   have hz1 : ¬ (0 : Int) <= zz := by omega
   have hz2 : decide ((0 : Int) <= zz) = false := decide_eq_false hz1
   have hz3 : decide (zz < 0) = true := decide_eq_true hz0
   rw [hz]; have c3 := yad (i := 0) (v := .slice Au n cu) h3 rfl; have c6 := yad (i := 0) (v := .slice none 0 0) h6 rfl; have f6 := frozen_of_row wo b6 0 _ _ h6; have h9 := heap_setCell_same wo b6 0 _ _ (.slice Au n cu) h6; have C9 := zH (yad (i := 0) (v := .slice Au n cu) h9 rfl); clear hz h3 h6 h9
   go_wp2
   rw [HF.out]; exact bodyPost_ret (v := .tuple #[.agg #[.slice Au n cu], .slice none 0 0, .int .i64 1]) (by simp [results, Tryz.results43, go_sem, C9.out]) rfl (StpIs.bad (by decide) (HW.out.setCell (by show _ <= b6; exact HB6.out) _))
  | succ k =>
   obtain ⟨x, hx⟩ : ∃ x, A[k]? = some x := ⟨_, List.getElem?_eq_getElem (by rw [HN0.out]; omega)⟩
   have hst := yee (lv := 2) hx; rw [HE.out] at hst; have hxl := H8.out.2 x (List.mem_of_getElem? hx); have hxn := HNW.out x (List.mem_of_getElem? hx); obtain ⟨g, o, rfl, f0, f1, f2, f3⟩ := RdQ.at (F := anyB) (by have h1 := HQ.out.below HB.out (zN _); exact h1) hx
   obtain ⟨P, hP⟩ : ∃ P : Int, ((x / 65536 : Nat) : Int) = P := ⟨_, rfl⟩; obtain ⟨S, hS⟩ : ∃ P : Int, ((x / 256 % 256 : Nat) : Int) = P := ⟨_, rfl⟩; obtain ⟨T, hT⟩ : ∃ P : Int, ((x / 2 % 128 : Nat) : Int) = P := ⟨_, rfl⟩; obtain ⟨V, hV⟩ : ∃ P, decide (x % 2 = 1) = P := ⟨_, rfl⟩; obtain ⟨p, hp⟩ : ∃ p, wgt 2 x = p := ⟨_, rfl⟩
   have hWp : S = (p : Int) := by rw [<- hS, <- hp]; rfl
   have HQX : Hid (q4 x = [.int .i64 P, .int .i64 S, .int .i64 T, .bool V]) := by show _ = _; unfold q4; rw [hP, hS, hT, hV]
   rw [hP] at f0; rw [hS] at f1; rw [hT] at f2; rw [hV] at f3
   have CO : Hid (∀ w, Calls Tryz.prog 79 #[.agg #[.int .i64 P, .int .i64 S, .int .i64 T, .bool V], .int .i64 2] w fun e w' => e = .returned (.int .i64 (p : Nat)) /\ Below w.heap.size w w') := fun w => yay (lv := 2) (by unfold Lv; omega) P S T V hWp w
   have F0 := zH f0; have F1 := zH f1; have F2 := zH f2; have F3 := zH f3; have H3W := zH h3; have H6W := zH h6
   have hkI : (0 : Int) <= (k : Int) := by omega
   have hkn : (k : Int) < (n0 : Int) := by omega
   have hcap := (RdF.cap HQ.out).1
   have hkc : (k : Int) + 1 <= (ca : Int) := by have := HN0.out; omega
   rw [show ((k + 1 : Nat) : Int) - 1 = (k : Int) by omega]
   by_cases hp0 : p = 0
   ·rw [hp, if_pos hp0] at hst; have HS1 := zH hst.symm
    have hpb : ((p : Int) == 0) = true := by rw [hp0]; rfl
    have hwn : IntKind.i64.wrap ((k : Int) - 1) = (k : Int) - 1 := by rw [IntKind.wrap_i64]; omega
    clear hx hst hp hp0 hxl hxn hP hS hT hV hWp h3 h6
    go_wp2_with (go_at_call 79; refine (CO.out _).mono ?_; rintro q w' ⟨rfl, hb⟩; have HBN := zH (HB.out.trans (hb.mono HB.out.size)); clear hb f0 f1 f2 f3)
    go_roundw
    case rel => exact ⟨k, by omega, rfl, HS1.out, HBN.out⟩
    case measure => simp [intOf] <;> omega
   ·have hlw : lastW 2 A = some k := by rw [hst, hp, if_neg hp0]
    have hgd : A.getD k 0 = x := by rw [List.getD_eq_getElem?_getD, hx]; rfl
    have hpb : ((p : Int) == 0) = false := by rw [beq_eq_false_iff_ne]; omega
    have hk0 : ¬ (k : Int) < 0 := by omega
    have hk0b : decide ((k : Int) < 0) = false := decide_eq_false hk0
    have hEx := HEE.out; unfold movE at hEx; rw [hlw] at hEx; simp only [hgd, hp] at hEx; have HXL := zH hxl; have HLW := zH hlw; have HGD := zH hgd; have HPW := zH hp; have HXX := zH hx; have HXN := zH hxn
    have tok : True := trivial
    rw [if_neg (by have h1 := yhe (lv := 2) HXL.out; rw [HPW.out] at h1; simp [topW] at h1 |-; omega)] at hEx
    cases hf : fullP 2 L with
    | true =>
     rw [hf, if_pos rfl] at hEx
     have HF : Hid (E = 60) := hEx.symm
     have CF : Hid (∀ (w1 : World), Below wo.heap.size wo w1 -> Calls Tryz.prog 80 #[.agg #[.slice Au n cu], .int .i64 2] w1 fun e w' => e = .returned (.bool true) /\ Below w1.heap.size w1 w') := fun w1 hb => yda (lv := 2) ((HR.out.below HB.out (zN _)).below hb (zN _)) HG.out (by unfold Lv; omega) hf
     clear hx hst hp hp0 hxl hxn hP hS hT hV h3 h6 hlw hgd hEx hf hWp
     go_wp2_with (first
      | (go_at_call 79; have _t := tok; refine (CO.out _).mono ?_; rintro q w1 ⟨rfl, hb⟩; have HB1 := zH hb; have c3 := yab hb (yad (i := 0) (v := .slice Au n cu) H3W.out rfl); have h6x := (hb.block _ (R4.yac H6W.out)).trans H6W.out; have c6 := yad (i := 0) (v := .slice none 0 0) h6x rfl; have z6 := frozen_of_row w1 b6 0 _ _ h6x; have H61 := zH h6x; have x0 := yab hb F0.out; have x1 := yab hb F1.out; have x2 := yab hb F2.out; have x3 := yab hb F3.out; clear hb f0 f1 f2 f3 h6x _t tok)
      | (go_at_call 80; refine (CF.out w1 HB1.out).mono ?_; rintro q w2 ⟨rfl, hb⟩; have d3 := yab hb c3; have h6x := (hb.block _ (R4.yac H61.out)).trans H61.out; have d6 := yad (i := 0) (v := .slice none 0 0) h6x rfl; have y6 := frozen_of_row w2 b6 0 _ _ h6x; have H62 := zH h6x; have HB2 := zH (HB1.out.trans (hb.mono HB1.out.size)); clear hb c3 c6 z6 x0 x1 x2 x3 h6x))
     rw [HF.out]; have h9 := heap_setCell_same w2 b6 0 _ _ (.slice Au n cu) H62.out; have c9 := yad (i := 0) (v := .slice Au n cu) h9 rfl; exact bodyPost_ret (v := .tuple #[.agg #[.slice Au n cu], .slice none 0 0, .int .i64 60]) (by simp [results, Tryz.results43, go_sem, c9]) rfl (StpIs.bad (by decide) ((HW.out.trans (HB2.out.mono HW.out.size)).setCell (by show _ <= b6; exact HB6.out) _))
    | false =>
     rw [hf, if_neg (by simp)] at hEx
     have HF : Hid (E = 0) := hEx.symm
     have CF : Hid (∀ (w1 : World), Below wo.heap.size wo w1 -> Calls Tryz.prog 80 #[.agg #[.slice Au n cu], .int .i64 2] w1 fun e w' => e = .returned (.bool false) /\ Below w1.heap.size w1 w') := fun w1 hb => yda (lv := 2) ((HR.out.below HB.out (zN _)).below hb (zN _)) HG.out (by unfold Lv; omega) hf
     have HLN := zH (ynm HG.out hf); obtain ⟨z, hz⟩ : ∃ z, nxt 2 x = z := ⟨_, rfl⟩
     have HR1 : Hid (movL 2 L A = mapP (up 2 p) L) := by show _ = _; unfold movL; rw [hlw]; simp only [hgd, hp]
     have HR2 : Hid (movA 2 A = (A.take k).map (up 2 p) ++ [z]) := by show _ = _; unfold movA ancP; rw [hlw]; simp only [hgd, hp, hz]
     have HZ := zH hz; clear hx hst hp hp0 hxl hxn hP hS hT hV h3 h6 hlw hgd hEx hf hz hWp
     go_wp2_with (first
      | (go_at_call 79; have _t := tok; refine (CO.out _).mono ?_; rintro q w1 ⟨rfl, hb⟩; have HB1 := zH hb; have c3 := yab hb (yad (i := 0) (v := .slice Au n cu) H3W.out rfl); have h6x := (hb.block _ (R4.yac H6W.out)).trans H6W.out; have c6 := yad (i := 0) (v := .slice none 0 0) h6x rfl; have z6 := frozen_of_row w1 b6 0 _ _ h6x; have H61 := zH h6x; have x0 := yab hb F0.out; have x1 := yab hb F1.out; have x2 := yab hb F2.out; have x3 := yab hb F3.out; clear hb f0 f1 f2 f3 h6x _t tok)
      | (go_at_call 80; refine (CF.out w1 HB1.out).mono ?_; rintro q w2 ⟨rfl, hb⟩; have HB2 := zH (HB1.out.trans (hb.mono HB1.out.size)); have y0 := yab hb x0; have y1 := yab hb x1; have y2 := yab hb x2; have y3 := yab hb x3; clear hb c3 c6 z6 x0 x1 x2 x3)
      | (go_at_call 79; refine (CO.out _).mono ?_; rintro q w3 ⟨rfl, hb⟩; have HBX := zH (HB2.out.trans (hb.mono HB2.out.size)); clear hb y0 y1 y2 y3))
     have H3X := zH ((HBX.out.block _ (R4.yac H3W.out)).trans H3W.out); have H6X := zH ((HBX.out.block _ (R4.yac H6W.out)).trans H6W.out); have HRX := zH ((HR.out.below HB.out (zN _)).below HBX.out (zN _)); have HQX2 := zH ((HQ.out.below HB.out (zN _)).below HBX.out (zN _)); have HWX := zH (HW.out.trans (HBX.out.mono HW.out.size)); have HVS := zH (VS.start w3 (up 2 p) L); clear HB1 HB2 H61 CF H3W H6W F0 F1 F2 F3; generalize (w3.alloc (.cells #[.slice none 0 0] 52)) = w4 at HVS |-; obtain ⟨b12, hb12⟩ : ∃ b, w3.heap.size = b := ⟨_, rfl⟩; have HB12 := zH hb12; rw [hb12] at HVS |-; clear hb12
     go_loopw [13] (fun i wq => ∃ j : Nat, j <= n /\ i = .int .i64 (j : Nat) /\ Hid (VS w3 b12 (up 2 p) L j wq)) (fun i _ => n - (intOf i).toNat)
     case atStart => exact ⟨0, Nat.zero_le _, rfl, HVS.out⟩
     case round =>
      clear HVS; obtain ⟨j, hj, rfl, HJ⟩ := hrel; obtain ⟨Am, cm, M, m1, m2, m3, m4, m5⟩ := HJ.out.form (by rw [HN.out]; exact hj)
      have hj3 := (HJ.out.bel.block b3 (by have := R4.yac H3X.out; rw [HB12.out] at this; exact this)).trans H3X.out
      by_cases hlt : j < n
      ·obtain ⟨e, he⟩ : ∃ e, L[j]? = some e := ⟨_, List.getElem?_eq_getElem (by rw [HN.out]; exact hlt)⟩
       obtain ⟨g2, o2, vs, vl, rfl, e0, e1, hri, hrq⟩ := HRX.out.atK (Nat.le_of_eq HB12.out) he; obtain ⟨A4, k4, rfl⟩ := hri.form; obtain ⟨A5, k5, rfl⟩ := hrq.form; have E0 := zH ((HJ.out.bel.cell (p := ⟨g2, o2 + j * 2, none⟩) (by have := yah e0; rw [HB12.out] at this; exact this)).trans e0)
       have E1 := zH ((HJ.out.bel.cell (p := ⟨g2, o2 + j * 2 + 1, none⟩) (by have := yah e1; rw [HB12.out] at this; exact this)).trans e1)
       have C3 := zH (yad (i := 0) (v := .slice (some ⟨g2, o2, none⟩) n cu) hj3 rfl); have cx3 := C3.out; have C12 := zH (yad (i := 0) (v := .slice Am j cm) m1 rfl); have M1 := zH m1; have M2 := zH m2; have M3 := zH m3; have M4 := zH m4; have M5 := zH m5; have HRI := zH hri
       have HRQ : Hid (RdQ anyB wr (.slice A5 e.2.length k5) e.2) := RdQ.below hrq HJ.out.bel (Nat.le_of_eq HB12.out)
       have hel := HG.out.els e (List.mem_of_getElem? he)
       have CL : Hid (∀ (w1 : World), RdQ anyB w1 (.slice A5 e.2.length k5) e.2 -> Calls Tryz.prog 81 #[.slice A5 e.2.length k5, .int .i64 2, .int .i64 (p : Nat), .int .i64 1048576] w1 (GotQ w1.heap.size w1 (e.2.map (up 2 p)))) := fun w1 hr => ycz (fr := p) hr hel.2 (by omega) (lv := 2) (by unfold Lv; omega) (HLN.out e (List.mem_of_getElem? he)) (bd := 1048576) rfl
       have HEN := zH he
       have hjI : (j : Int) < (n : Int) := by omega
       have HJL : Hid (j <= 500) := by show _ <= _; omega
       obtain ⟨l2, hl2⟩ : ∃ l, e.2.map (up 2 p) = l := ⟨_, rfl⟩; rw [hl2] at CL; have HL2 := zH hl2; obtain ⟨n2, hn2⟩ : ∃ m, e.2.length = m := ⟨_, rfl⟩; rw [hn2] at E1 HRQ CL; obtain ⟨n1, hn1⟩ : ∃ m, e.1.length = m := ⟨_, rfl⟩; have HN1 := zH hn1; rw [hn1] at E0 HRI; clear he hj3 m1 m2 m3 m4 m5 e0 e1 hri hrq hel hlt hn2 hn1 hl2
       go_upto_region 16 with (fail)
       refine yam (m := 20) [65, 66, 67, 68, 69, 70, 71, 72, 73, 74, 75, 76, 77, 78, 79, 80, 81, 82, 83, 84] [SV.eq (.pointer (some ⟨b12, 0, none⟩)), SV.eq (.slice Am j cm), SV.eq (.pointer (some ⟨b3, 0, none⟩)), SV.eq (.slice (some ⟨g2, o2, none⟩) n cu), SV.eq (.int .i64 (j : Int)), SV.eq (.pointer (some ⟨g2, o2 + j * 2, none⟩)), SV.eq (.pointer (some ⟨g2, o2 + j * 2, none⟩)), SV.eq (.slice A4 n1 k4), SV.eq (.pointer (some ⟨b3, 0, none⟩)), SV.eq (.slice (some ⟨g2, o2, none⟩) n cu), SV.eq (.int .i64 (j : Int)), SV.eq (.pointer (some ⟨g2, o2 + j * 2, none⟩)), SV.eq (.pointer (some ⟨g2, o2 + j * 2 + 1, none⟩)), SV.eq (.slice A5 n2 k5), SV.eq (.int .i64 2), SV.eq (.int .i64 (p : Int)), SV.eq (.int .i64 1048576), SV.ownq b12 l2, SV.entv b12 (.slice A4 n1 k4) l2, SV.entr b12 (e.1, l2)] (by kernel_rfl) (by kernel_rfl) ?_ ?_
       ·refine ⟨⟨⟨⟨⟨⟨⟨⟨⟨⟨⟨⟨⟨⟨⟨⟨⟨⟨⟨⟨trivial, ?_⟩, ?_⟩, ?_⟩, ?_⟩, ?_⟩, ?_⟩, ?_⟩, ?_⟩, ?_⟩, ?_⟩, ?_⟩, ?_⟩, ?_⟩, ?_⟩, ?_⟩, ?_⟩, ?_⟩, ?_⟩, ?_⟩, ?_⟩
        all_goals (refine OpIs.mk rfl ?_; intro vs w1 hb hd K hK; simp only [frameV, zS, zA, zB, zC, zD] at hK |-)
        ·have HK := zH hK; clear hK; go_simp; exact HK.out _ _ rfl (zR _ _)
        ·have d0 : vs 0 = .pointer (some ⟨b12, 0, none⟩) := hd 0 (by kernel_rfl)
         have c0 := yab hb C12.out; simp only [d0] at hK |-; have HK := zH hK; clear hK; go_simp; exact HK.out _ _ rfl (zR _ _)
        ·have HK := zH hK; clear hK; go_simp; exact HK.out _ _ rfl (zR _ _)
        ·have d2 : vs 2 = .pointer (some ⟨b3, 0, none⟩) := hd 2 (by kernel_rfl)
         have c0 := yab hb C3.out; simp only [d2] at hK |-; have HK := zH hK; clear hK; go_simp; exact HK.out _ _ rfl (zR _ _)
        ·have HK := zH hK; clear hK; go_simp; exact HK.out _ _ rfl (zR _ _)
        ·have d3 : vs 3 = .slice (some ⟨g2, o2, none⟩) n cu := hd 3 (by kernel_rfl)
         have d4 : vs 4 = .int .i64 (j : Int) := hd 4 (by kernel_rfl)
         simp only [d3, d4] at hK |-; have HK := zH hK; clear hK; go_simp; exact HK.out _ _ rfl (zR _ _)
        ·have d5 : vs 5 = .pointer (some ⟨g2, o2 + j * 2, none⟩) := hd 5 (by kernel_rfl)
         simp only [d5] at hK |-; have HK := zH hK; clear hK; go_simp; exact HK.out _ _ rfl (zR _ _)
        ·have d6 : vs 6 = .pointer (some ⟨g2, o2 + j * 2, none⟩) := hd 6 (by kernel_rfl)
         have c0 := yab hb E0.out; simp only [d6] at hK |-; have HK := zH hK; clear hK; go_simp; exact HK.out _ _ rfl (zR _ _)
        ·have HK := zH hK; clear hK; go_simp; exact HK.out _ _ rfl (zR _ _)
        ·have d8 : vs 8 = .pointer (some ⟨b3, 0, none⟩) := hd 8 (by kernel_rfl)
         have c0 := yab hb C3.out; simp only [d8] at hK |-; have HK := zH hK; clear hK; go_simp; exact HK.out _ _ rfl (zR _ _)
        ·have HK := zH hK; clear hK; go_simp; exact HK.out _ _ rfl (zR _ _)
        ·have d9 : vs 9 = .slice (some ⟨g2, o2, none⟩) n cu := hd 9 (by kernel_rfl)
         have d10 : vs 10 = .int .i64 (j : Int) := hd 10 (by kernel_rfl)
         simp only [d9, d10] at hK |-; have HK := zH hK; clear hK; go_simp; exact HK.out _ _ rfl (zR _ _)
        ·have d11 : vs 11 = .pointer (some ⟨g2, o2 + j * 2, none⟩) := hd 11 (by kernel_rfl)
         simp only [d11] at hK |-; have HK := zH hK; clear hK; go_simp; exact HK.out _ _ rfl (zR _ _)
        ·have d12 : vs 12 = .pointer (some ⟨g2, o2 + j * 2 + 1, none⟩) := hd 12 (by kernel_rfl)
         have c0 := yab hb E1.out; simp only [d12] at hK |-; have HK := zH hK; clear hK; go_simp; exact HK.out _ _ rfl (zR _ _)
        iterate 3 (·have HK := zH hK; clear hK; go_simp; exact HK.out _ _ rfl (zR _ _))
        ·have d13 : vs 13 = .slice A5 n2 k5 := hd 13 (by kernel_rfl)
         have d14 : vs 14 = .int .i64 2 := hd 14 (by kernel_rfl)
         have d15 : vs 15 = .int .i64 (p : Int) := hd 15 (by kernel_rfl)
         have d16 : vs 16 = .int .i64 1048576 := hd 16 (by kernel_rfl)
         simp only [d13, d14, d15, d16] at hK |-; have HK := zH hK; clear hK; go_simp
         go_at_call 81
         refine (CL.out w1 (RdQ.below HRQ.out hb (zN _))).mono ?_; rintro r w5 ⟨v5, rfl, ho5, hb5⟩; exact HK.out _ _ (R4.yaq ho5 (Nat.lt_of_lt_of_le (R4.yac M1.out) hb.size)) hb5
        ·have d7 : vs 7 = .slice A4 n1 k4 := hd 7 (by kernel_rfl)
         have d17 : OwnQ (b12 + 1) w1 (vs 17) l2 := hd 17 (by kernel_rfl)
         have q1 := Exists.choose_spec (OwnQ.form d17); generalize Exists.choose (OwnQ.form d17) = A7 at q1; have q2 := Exists.choose_spec q1; generalize Exists.choose q1 = c7 at q2; clear q1; rw [q2] at d17; have D17 := zH d17; clear d17; simp only [d7] at hK |-; simp only [q2] at hK |-; have HK := zH hK; clear hK; go_simp; exact HK.out _ _ ⟨_, _, _, rfl, D17.out⟩ (zR _ _)
        ·have d18 : (SV.entv b12 (.slice A4 n1 k4) l2).p (vs 18) w1 := hd 18 (by kernel_rfl)
         have q1 := Exists.choose_spec d18; generalize Exists.choose d18 = A7 at q1; have q2 := Exists.choose_spec q1; generalize Exists.choose q1 = n7 at q2; have q3 := Exists.choose_spec q2; generalize Exists.choose q2 = c7 at q3; have q4' := q3.1; have D18 := zH q3.2; clear q1 q2 q3 d18; simp only [q4'] at hK |-; have HK := zH hK; clear hK; go_simp; exact HK.out _ _ (yku D18.out (by have h := HRI.out; rw [<- HN1.out] at h |-; exact h) (HJ.out.bel.trans (hb.mono (Nat.le_of_lt (R4.yac M1.out))))) (yaa w1 _)
       ·intro vs w5 hb hd
        have d1 : vs 1 = .slice Am j cm := hd 1 (by omega)
        obtain ⟨g7, m, d19, hr7, hm7, hw7⟩ : ∃ (g : Nat) (m : ME), vs 19 = .slice (some ⟨g, 0, none⟩) 1 1 /\ RdF anyB w5 (.slice (some ⟨g, 0, none⟩) 1 1) 1 (mcells [m]) /\ m.pl = (e.1, l2) /\ EntW b12 w5 m := hd 19 (by omega)
        have HR7 := zH hr7; have HM7 := zH hm7; have HW7 := zH hw7; have HB5 := zH hb; have m15 := (hb.block _ (R4.yac M1.out)).trans M1.out; have M15 := zH m15; have M25 := zH (M2.out.below hb (zN _)); simp only [frameV, zS, zA, zB, List.drop_succ_cons, List.drop_zero, d1, d19]; clear hb hd d1 d19 hr7 hm7 hw7 m15
        go_wp2_with (at_builtin; refine appendN rfl (.tmp 66) (.tmp 84) rfl w5 (b12 + 1) _ M [m] rfl M25.out rfl HR7.out (ykt HW7.out) (R4.yac M15.out) (by have h1 := M3.out; have h2 := HJL.out; simp only [List.length_cons, List.length_nil]; omega) ?_; intro v7 w7 ho7 hg7 hb7; obtain ⟨A7, c7, rfl⟩ := ho7.form; have m17 := ynt M15.out M25.out hg7; have k12 := yad (i := 0) (v := .slice Am j cm) m17 rfl; have z12 := frozen_of_row w7 b12 0 _ _ m17; have HVP := zH (VS.put (f := up 2 p) (w0 := w3) (HJ.out.bel.trans (HB5.out.mono (Nat.le_of_lt (R4.yac M1.out)))) M15.out M25.out M4.out (fun q hq => (M5.out q hq).below HB5.out) HW7.out HEN.out (by rw [HM7.out]; unfold mpE; rw [HL2.out]) ho7 hg7); clear ho7 hg7 hb7 m17)
        go_roundw
        case rel => exact ⟨j + 1, by omega, by go_num, by have h := HVP.out; simp only [List.length_append, List.length_cons, List.length_nil, Nat.zero_add] at h; exact h⟩
        case measure => simp [intOf] <;> omega
      ·obtain rfl : j = n := by omega
       obtain ⟨Az, cz, m6, hrt⟩ := HJ.out.done HN.out; have M6 := zH m6; have HRT := zH hrt
       have HTK : Hid (RdQ anyB wr (.slice (some ⟨g, o, none⟩) (k + 1) ca) (A.take (k + 1))) := by
        have h1 : RdF anyB wr (.slice (some ⟨g, o, none⟩) n0 ca) n0 (qcells A) := by
         have h2 := RdQ.below HQX2.out HJ.out.bel (Nat.le_of_eq HB12.out); unfold RdQ at h2; rw [HN0.out] at h2; exact h2
        have h2 := RdF.take h1 (m := k + 1) (by have := HN0.out; omega) ((k + 1) * 4)
        show RdF _ _ _ _ _
        rw [show (A.take (k + 1)).length = k + 1 by rw [List.length_take, HN0.out]; omega, show qcells (A.take (k + 1)) = (qcells A).take ((k + 1) * 4) from qtake A (k + 1)]
        exact h2
       have hupx : up 2 p x = x := by unfold up; rw [if_pos (.inl (by rw [HPW.out]; exact zN _))]
       have HAL : Hid ((A.take (k + 1)).map (up 2 p) = (A.take k).map (up 2 p) ++ [x]) := by show _ = _; rw [List.take_add_one, HXX.out, List.map_append, Option.toList_some, List.map_cons, List.map_nil, hupx]
       have HLK : Hid (((A.take k).map (up 2 p)).length = k) := by show _ = _; rw [List.length_map, List.length_take, HN0.out]; omega
       have CL : Hid (Calls Tryz.prog 81 #[.slice (some ⟨g, o, none⟩) (k + 1) ca, .int .i64 2, .int .i64 (p : Nat), .int .i64 1048576] wr (GotQ wr.heap.size wr ((A.take (k + 1)).map (up 2 p)))) := (ycz (fr := p) HTK.out (fun y hy => H8.out.2 y (List.mem_of_mem_take hy)) (by rw [List.length_take]; omega) (lv := 2) (by unfold Lv; omega) (fun y hy => HNW.out y (List.mem_of_mem_take hy)) (bd := 1048576) rfl)
       rw [HAL.out] at CL; have hj6 := (HJ.out.bel.block b6 (by have := R4.yac H6X.out; rw [HB12.out] at this; exact this)).trans H6X.out
       have H6J := zH hj6; have h3z := (HJ.out.bel.block b3 (by have := R4.yac H3X.out; rw [HB12.out] at this; exact this)).trans H3X.out
       have c3 := yad (i := 0) (v := .slice Au j cu) h3z rfl
       have hk1 : IntKind.i64.wrap ((k : Int) + 1) = (k : Int) + 1 := by rw [IntKind.wrap_i64]; omega
       have hp1 : IntKind.i64.wrap ((p : Int) + 1) = (p : Int) + 1 := by have := lv_wgt (lv := 2) (by unfold Lv; omega) HXL.out; rw [HPW.out] at this; rw [IntKind.wrap_i64]; omega
       have HBJ := zH (HWX.out.trans (HJ.out.bel.mono (by rw [<- HB12.out]; exact HWX.out.size)))
       have HQZ : Hid (q4 z = [.int .i64 P, .int .i64 (p + 1), .int .i64 2, .bool V]) := by
        show _ = _
        have h1 := HQX.out; have h2 := HXN.out; rw [<- HZ.out]; exact zam HXL.out h2 h1 HPW.out
       clear hupx hlt m6 hrt hj6 h3z
       go_wp2_with (go_at_call 81; refine (CL.out).mono ?_; rintro r w5 ⟨v5, rfl, ho5, hb5⟩; obtain ⟨A9, c9, e9⟩ := ho5.form; subst e9; have HO5 := zH ho5; obtain ⟨A8, c8, e8, -, hr8⟩ := R4.yaj ho5; cases e8; obtain ⟨g9, eg9, -, -, -⟩ := hr8 (by simp); subst eg9; have hq5 := yht ho5 HLK.out; rw [HQX.out] at hq5; obtain ⟨hq5, hn5⟩ := hq5; rw [hn5] at hq5 |-; have Q5 : Hid (QR wr.heap.size w5 g9 (k + 1) c9 k ((A.take k).map (up 2 p)) (.int .i64 P) (.int .i64 S) (.int .i64 T) (.bool V)) := ⟨hq5, HLK.out, rfl⟩; have HB5 := zH hb5; have M65 := zH ((hb5.block _ (R4.yac M6.out)).trans M6.out); have H65 := zH ((hb5.block _ (R4.yac H6J.out)).trans H6J.out); obtain ⟨s0c, s0f⟩ := Q5.out.cell 1 (by omega) rfl; have Q50 := zH (Q5.out.set1 (.int .i64 ((p : Int) + 1))); have HB50 : Hid (Below wr.heap.size wr (w5.setCell ⟨g9, k * 4 + 1, none⟩ (.int .i64 ((p : Int) + 1)))) := HB5.out.setCell (by show wr.heap.size <= g9; exact Q5.out.ge) _; have M650 := zH ((Below.heap_setCell w5 ⟨g9, k * 4 + 1, none⟩ (.int .i64 ((p : Int) + 1)) b12 (by have h1 := Q5.out.ge; have h2 := R4.yac M6.out; show b12 ≠ g9; omega)).trans M65.out); have H650 := zH ((Below.heap_setCell w5 ⟨g9, k * 4 + 1, none⟩ (.int .i64 ((p : Int) + 1)) b6 (by have h1 := Q5.out.ge; have h2 := R4.yac H6J.out; show b6 ≠ g9; omega)).trans H65.out); obtain ⟨s1c, s1f⟩ := Q50.out.cell 2 (by omega) rfl; have Q9 := zH (Q50.out.set2 (.int .i64 2)); have HB9 : Hid (Below wr.heap.size wr ((w5.setCell ⟨g9, k * 4 + 1, none⟩ (.int .i64 ((p : Int) + 1))).setCell ⟨g9, k * 4 + 2, none⟩ (.int .i64 2))) := HB50.out.setCell (by show wr.heap.size <= g9; exact Q5.out.ge) _; have M69 := zH ((Below.heap_setCell (w5.setCell ⟨g9, k * 4 + 1, none⟩ (.int .i64 ((p : Int) + 1))) ⟨g9, k * 4 + 2, none⟩ (.int .i64 2) b12 (by have h1 := Q5.out.ge; have h2 := R4.yac M6.out; show b12 ≠ g9; omega)).trans M650.out); have H69 := zH ((Below.heap_setCell (w5.setCell ⟨g9, k * 4 + 1, none⟩ (.int .i64 ((p : Int) + 1))) ⟨g9, k * 4 + 2, none⟩ (.int .i64 2) b6 (by have h1 := Q5.out.ge; have h2 := R4.yac H6J.out; show b6 ≠ g9; omega)).trans H650.out); have k12 := yad (i := 0) (v := .slice Az j cz) M69.out rfl; have k6 := yad (i := 0) (v := .slice none 0 0) H69.out rfl; have z6 := frozen_of_row _ b6 0 _ _ H69.out; clear hq5 hb5 ho5 c3 hr8)
       rw [HF.out]; have h9 := heap_setCell_same ((w5.setCell ⟨g9, k * 4 + 1, none⟩ (.int .i64 ((p : Int) + 1))).setCell ⟨g9, k * 4 + 2, none⟩ (.int .i64 2)) b6 0 _ _ (.slice Az j cz) H69.out; have x9 := yad (i := 0) (v := .slice Az j cz) h9 rfl; refine bodyPost_ret (v := .tuple #[.agg #[.slice Az j cz], .slice (some ⟨g9, 0, none⟩) (k + 1) c9, .int .i64 0]) (by simp [results, Tryz.results43, go_sem, x9]) rfl ⟨fun _ => ⟨_, _, rfl, ?_, ?_⟩, fun h => absurd rfl h, (HBJ.out.trans (HB9.out.mono HBJ.out.size)).setCell (by show _ <= b6; exact HB6.out) _⟩
       ·rw [HR1.out]; exact (HRT.out.below HB9.out (zN _)).off (R4.yaf _ ⟨b6, 0, none⟩ _) H69.out (by decide) (by decide) (by decide)
       ·rw [HR2.out]; exact R4.yaq (ybj (Q9.out.done HQZ.out) H69.out) HBJ.out.size
set_option maxHeartbeats 16000000 in
theorem yzq {w : World} {v av : Value} {L : List PE} {A : List Nat} (h : RefT w v L) (hg : GoodT L) (ha : RdQ anyB w av A) (h8 : Anc A) (hn : ∀ x ∈ A, NW 3 x) {E : Int} (hE : movE 3 L A = E) :
  Calls Tryz.prog 43 #[.agg #[v], av, .int .i64 3] w (StpIs (movL 3 L A) (movA 3 A) E w) := by
 obtain ⟨Au, cu, rfl⟩ := h.form; obtain ⟨Aa, ca, rfl⟩ := ha.form; have hA := yaa w (.cells #[.slice Au L.length cu] 52); have hA2 := yaa (w.alloc (.cells #[.slice Au L.length cu] 52)) (.cells #[.slice none 0 0] 52); have HR := zH ((h.below hA (zN _)).below hA2 (zN _)); have HQ := zH ((ha.below hA (zN _)).below hA2 (zN _)); have H3 := zH ((hA2.block _ (R4.yac (heap_alloc_new w (.cells #[.slice Au L.length cu] 52)))).trans (heap_alloc_new w (.cells #[.slice Au L.length cu] 52))); have H6 := zH (heap_alloc_new (w.alloc (.cells #[.slice Au L.length cu] 52)) (.cells #[.slice none 0 0] 52)); rw [World.size_alloc] at H6; have HB0 := zH (hA.trans (hA2.mono hA.size)); have HG := zH hg; have H8 := zH h8; have HNW := zH hn; have HEE := zH hE; obtain ⟨n, hln⟩ : ∃ n, L.length = n := ⟨_, rfl⟩; have HN := zH hln; obtain ⟨n0, hn0⟩ : ∃ n, A.length = n := ⟨_, rfl⟩; have HN0 := zH hn0; have hn8 := h8.1; have hlen := hg.len; rw [hn0] at hn8; rw [hln] at hlen; rw [hln] at HR H3 H6 HB0; rw [hn0, hln] at HQ; rw [hln, hn0]
 have hnI : (n : Int) <= 500 := by omega
 have hn8I : (n0 : Int) <= 8 := by omega
 have hwr : IntKind.i64.wrap ((n0 : Int) - 1) = (n0 : Int) - 1 := by rw [IntKind.wrap_i64]; omega
 clear h hg ha h8 hn hE hln hn0 hA hA2
 go_enter Tryz.func43, Tryz.ntmps43
 go_wp2
 generalize ((w.alloc (.cells #[.slice Au n cu] 52)).alloc (.cells #[.slice none 0 0] 52)) = w0 at HR HQ H3 H6 HB0 |-; obtain ⟨b3, hb3⟩ : ∃ b, w.heap.size = b := ⟨_, rfl⟩
 have HB3 : Hid (w.heap.size <= b3) := by show _ <= _; omega
 rw [hb3] at H3 H6 |-; obtain ⟨b6, hb6⟩ : ∃ b, b3 + 1 = b := ⟨_, rfl⟩
 have HB6 : Hid (w.heap.size <= b6) := by show _ <= _; omega
 rw [hb6] at H6 |-; clear hb3 hb6
 go_loopw [9] (fun i wr => ∃ m : Nat, m <= n0 /\ i = .int .i64 ((m : Int) - 1) /\ Hid (lastF 3 A m = lastW 3 A) /\ Hid (Below w0.heap.size w0 wr)) (fun i _ => (intOf i + 1).toNat)
 case atStart => exact ⟨n0, zN _, rfl, by show _ = _; unfold lastW; rw [HN0.out], zR _ _⟩
 case round =>
  obtain ⟨m, hm, rfl, HE, HB⟩ := hrel; obtain ⟨wo, rfl⟩ : ∃ wo, wo = wr := ⟨_, rfl⟩; have h3 := (HB.out.block _ (R4.yac H3.out)).trans H3.out; have h6 := (HB.out.block _ (R4.yac H6.out)).trans H6.out; have HW := zH (HB0.out.trans (HB.out.mono HB0.out.size))
  cases m with
  | zero =>
   have HF : Hid (E = 1) := by
    have h2 : lastW 3 A = none := HE.out.symm
    show _ = _
    rw [<- HEE.out]; unfold movE; rw [h2]
   obtain ⟨zz, hz⟩ : ∃ z : Int, ((0 : Nat) : Int) - 1 = z := ⟨_, rfl⟩
   have hz0 : zz < 0 := by omega
   have hz1 : ¬ (0 : Int) <= zz := by omega
   have hz2 : decide ((0 : Int) <= zz) = false := decide_eq_false hz1
   have hz3 : decide (zz < 0) = true := decide_eq_true hz0
   rw [hz]; have c3 := yad (i := 0) (v := .slice Au n cu) h3 rfl; have c6 := yad (i := 0) (v := .slice none 0 0) h6 rfl; have f6 := frozen_of_row wo b6 0 _ _ h6; have h9 := heap_setCell_same wo b6 0 _ _ (.slice Au n cu) h6; have C9 := zH (yad (i := 0) (v := .slice Au n cu) h9 rfl); clear hz h3 h6 h9
   go_wp2
   rw [HF.out]; exact bodyPost_ret (v := .tuple #[.agg #[.slice Au n cu], .slice none 0 0, .int .i64 1]) (by simp [results, Tryz.results43, go_sem, C9.out]) rfl (StpIs.bad (by decide) (HW.out.setCell (by show _ <= b6; exact HB6.out) _))
  | succ k =>
   obtain ⟨x, hx⟩ : ∃ x, A[k]? = some x := ⟨_, List.getElem?_eq_getElem (by rw [HN0.out]; omega)⟩
   have hst := yee (lv := 3) hx; rw [HE.out] at hst; have hxl := H8.out.2 x (List.mem_of_getElem? hx); have hxn := HNW.out x (List.mem_of_getElem? hx); obtain ⟨g, o, rfl, f0, f1, f2, f3⟩ := RdQ.at (F := anyB) (by have h1 := HQ.out.below HB.out (zN _); exact h1) hx
   obtain ⟨P, hP⟩ : ∃ P : Int, ((x / 65536 : Nat) : Int) = P := ⟨_, rfl⟩; obtain ⟨S, hS⟩ : ∃ P : Int, ((x / 256 % 256 : Nat) : Int) = P := ⟨_, rfl⟩; obtain ⟨T, hT⟩ : ∃ P : Int, ((x / 2 % 128 : Nat) : Int) = P := ⟨_, rfl⟩; obtain ⟨V, hV⟩ : ∃ P, decide (x % 2 = 1) = P := ⟨_, rfl⟩; obtain ⟨p, hp⟩ : ∃ p, wgt 3 x = p := ⟨_, rfl⟩
   have hWp : T = (p : Int) := by rw [<- hT, <- hp]; rfl
   have HQX : Hid (q4 x = [.int .i64 P, .int .i64 S, .int .i64 T, .bool V]) := by show _ = _; unfold q4; rw [hP, hS, hT, hV]
   rw [hP] at f0; rw [hS] at f1; rw [hT] at f2; rw [hV] at f3
   have CO : Hid (∀ w, Calls Tryz.prog 79 #[.agg #[.int .i64 P, .int .i64 S, .int .i64 T, .bool V], .int .i64 3] w fun e w' => e = .returned (.int .i64 (p : Nat)) /\ Below w.heap.size w w') := fun w => yay (lv := 3) (by unfold Lv; omega) P S T V hWp w
   have F0 := zH f0; have F1 := zH f1; have F2 := zH f2; have F3 := zH f3; have H3W := zH h3; have H6W := zH h6
   have hkI : (0 : Int) <= (k : Int) := by omega
   have hkn : (k : Int) < (n0 : Int) := by omega
   have hcap := (RdF.cap HQ.out).1
   have hkc : (k : Int) + 1 <= (ca : Int) := by have := HN0.out; omega
   rw [show ((k + 1 : Nat) : Int) - 1 = (k : Int) by omega]
   by_cases hp0 : p = 0
   ·rw [hp, if_pos hp0] at hst; have HS1 := zH hst.symm
    have hpb : ((p : Int) == 0) = true := by rw [hp0]; rfl
    have hwn : IntKind.i64.wrap ((k : Int) - 1) = (k : Int) - 1 := by rw [IntKind.wrap_i64]; omega
    clear hx hst hp hp0 hxl hxn hP hS hT hV hWp h3 h6
    go_wp2_with (go_at_call 79; refine (CO.out _).mono ?_; rintro q w' ⟨rfl, hb⟩; have HBN := zH (HB.out.trans (hb.mono HB.out.size)); clear hb f0 f1 f2 f3)
    go_roundw
    case rel => exact ⟨k, by omega, rfl, HS1.out, HBN.out⟩
    case measure => simp [intOf] <;> omega
   ·have hlw : lastW 3 A = some k := by rw [hst, hp, if_neg hp0]
    have hgd : A.getD k 0 = x := by rw [List.getD_eq_getElem?_getD, hx]; rfl
    have hpb : ((p : Int) == 0) = false := by rw [beq_eq_false_iff_ne]; omega
    have hk0 : ¬ (k : Int) < 0 := by omega
    have hk0b : decide ((k : Int) < 0) = false := decide_eq_false hk0
    have hEx := HEE.out; unfold movE at hEx; rw [hlw] at hEx; simp only [hgd, hp] at hEx; have HXL := zH hxl; have HLW := zH hlw; have HGD := zH hgd; have HPW := zH hp; have HXX := zH hx; have HXN := zH hxn
    have tok : True := trivial
    rw [if_neg (by have h1 := yhe (lv := 3) HXL.out; rw [HPW.out] at h1; simp [topW] at h1 |-; omega)] at hEx
    cases hf : fullP 3 L with
    | true =>
     rw [hf, if_pos rfl] at hEx
     have HF : Hid (E = 60) := hEx.symm
     have CF : Hid (∀ (w1 : World), Below wo.heap.size wo w1 -> Calls Tryz.prog 80 #[.agg #[.slice Au n cu], .int .i64 3] w1 fun e w' => e = .returned (.bool true) /\ Below w1.heap.size w1 w') := fun w1 hb => yda (lv := 3) ((HR.out.below HB.out (zN _)).below hb (zN _)) HG.out (by unfold Lv; omega) hf
     clear hx hst hp hp0 hxl hxn hP hS hT hV h3 h6 hlw hgd hEx hf hWp
     go_wp2_with (first
      | (go_at_call 79; have _t := tok; refine (CO.out _).mono ?_; rintro q w1 ⟨rfl, hb⟩; have HB1 := zH hb; have c3 := yab hb (yad (i := 0) (v := .slice Au n cu) H3W.out rfl); have h6x := (hb.block _ (R4.yac H6W.out)).trans H6W.out; have c6 := yad (i := 0) (v := .slice none 0 0) h6x rfl; have z6 := frozen_of_row w1 b6 0 _ _ h6x; have H61 := zH h6x; have x0 := yab hb F0.out; have x1 := yab hb F1.out; have x2 := yab hb F2.out; have x3 := yab hb F3.out; clear hb f0 f1 f2 f3 h6x _t tok)
      | (go_at_call 80; refine (CF.out w1 HB1.out).mono ?_; rintro q w2 ⟨rfl, hb⟩; have d3 := yab hb c3; have h6x := (hb.block _ (R4.yac H61.out)).trans H61.out; have d6 := yad (i := 0) (v := .slice none 0 0) h6x rfl; have y6 := frozen_of_row w2 b6 0 _ _ h6x; have H62 := zH h6x; have HB2 := zH (HB1.out.trans (hb.mono HB1.out.size)); clear hb c3 c6 z6 x0 x1 x2 x3 h6x))
     rw [HF.out]; have h9 := heap_setCell_same w2 b6 0 _ _ (.slice Au n cu) H62.out; have c9 := yad (i := 0) (v := .slice Au n cu) h9 rfl; exact bodyPost_ret (v := .tuple #[.agg #[.slice Au n cu], .slice none 0 0, .int .i64 60]) (by simp [results, Tryz.results43, go_sem, c9]) rfl (StpIs.bad (by decide) ((HW.out.trans (HB2.out.mono HW.out.size)).setCell (by show _ <= b6; exact HB6.out) _))
    | false =>
     rw [hf, if_neg (by simp)] at hEx
     have HF : Hid (E = 0) := hEx.symm
     have CF : Hid (∀ (w1 : World), Below wo.heap.size wo w1 -> Calls Tryz.prog 80 #[.agg #[.slice Au n cu], .int .i64 3] w1 fun e w' => e = .returned (.bool false) /\ Below w1.heap.size w1 w') := fun w1 hb => yda (lv := 3) ((HR.out.below HB.out (zN _)).below hb (zN _)) HG.out (by unfold Lv; omega) hf
     have HLN := zH (ynm HG.out hf); obtain ⟨z, hz⟩ : ∃ z, nxt 3 x = z := ⟨_, rfl⟩
     have HR1 : Hid (movL 3 L A = mapP (up 3 p) L) := by show _ = _; unfold movL; rw [hlw]; simp only [hgd, hp]
     have HR2 : Hid (movA 3 A = (A.take k).map (up 3 p) ++ [z]) := by show _ = _; unfold movA ancP; rw [hlw]; simp only [hgd, hp, hz]
     have HZ := zH hz; clear hx hst hp hp0 hxl hxn hP hS hT hV h3 h6 hlw hgd hEx hf hz hWp
     go_wp2_with (first
      | (go_at_call 79; have _t := tok; refine (CO.out _).mono ?_; rintro q w1 ⟨rfl, hb⟩; have HB1 := zH hb; have c3 := yab hb (yad (i := 0) (v := .slice Au n cu) H3W.out rfl); have h6x := (hb.block _ (R4.yac H6W.out)).trans H6W.out; have c6 := yad (i := 0) (v := .slice none 0 0) h6x rfl; have z6 := frozen_of_row w1 b6 0 _ _ h6x; have H61 := zH h6x; have x0 := yab hb F0.out; have x1 := yab hb F1.out; have x2 := yab hb F2.out; have x3 := yab hb F3.out; clear hb f0 f1 f2 f3 h6x _t tok)
      | (go_at_call 80; refine (CF.out w1 HB1.out).mono ?_; rintro q w2 ⟨rfl, hb⟩; have HB2 := zH (HB1.out.trans (hb.mono HB1.out.size)); have y0 := yab hb x0; have y1 := yab hb x1; have y2 := yab hb x2; have y3 := yab hb x3; clear hb c3 c6 z6 x0 x1 x2 x3)
      | (go_at_call 79; refine (CO.out _).mono ?_; rintro q w3 ⟨rfl, hb⟩; have HBX := zH (HB2.out.trans (hb.mono HB2.out.size)); clear hb y0 y1 y2 y3))
     have H3X := zH ((HBX.out.block _ (R4.yac H3W.out)).trans H3W.out); have H6X := zH ((HBX.out.block _ (R4.yac H6W.out)).trans H6W.out); have HRX := zH ((HR.out.below HB.out (zN _)).below HBX.out (zN _)); have HQX2 := zH ((HQ.out.below HB.out (zN _)).below HBX.out (zN _)); have HWX := zH (HW.out.trans (HBX.out.mono HW.out.size)); have HVS := zH (VS.start w3 (up 3 p) L); clear HB1 HB2 H61 CF H3W H6W F0 F1 F2 F3; generalize (w3.alloc (.cells #[.slice none 0 0] 52)) = w4 at HVS |-; obtain ⟨b12, hb12⟩ : ∃ b, w3.heap.size = b := ⟨_, rfl⟩; have HB12 := zH hb12; rw [hb12] at HVS |-; clear hb12
     go_loopw [13] (fun i wq => ∃ j : Nat, j <= n /\ i = .int .i64 (j : Nat) /\ Hid (VS w3 b12 (up 3 p) L j wq)) (fun i _ => n - (intOf i).toNat)
     case atStart => exact ⟨0, Nat.zero_le _, rfl, HVS.out⟩
     case round =>
      clear HVS; obtain ⟨j, hj, rfl, HJ⟩ := hrel; obtain ⟨Am, cm, M, m1, m2, m3, m4, m5⟩ := HJ.out.form (by rw [HN.out]; exact hj)
      have hj3 := (HJ.out.bel.block b3 (by have := R4.yac H3X.out; rw [HB12.out] at this; exact this)).trans H3X.out
      by_cases hlt : j < n
      ·obtain ⟨e, he⟩ : ∃ e, L[j]? = some e := ⟨_, List.getElem?_eq_getElem (by rw [HN.out]; exact hlt)⟩
       obtain ⟨g2, o2, vs, vl, rfl, e0, e1, hri, hrq⟩ := HRX.out.atK (Nat.le_of_eq HB12.out) he; obtain ⟨A4, k4, rfl⟩ := hri.form; obtain ⟨A5, k5, rfl⟩ := hrq.form; have E0 := zH ((HJ.out.bel.cell (p := ⟨g2, o2 + j * 2, none⟩) (by have := yah e0; rw [HB12.out] at this; exact this)).trans e0)
       have E1 := zH ((HJ.out.bel.cell (p := ⟨g2, o2 + j * 2 + 1, none⟩) (by have := yah e1; rw [HB12.out] at this; exact this)).trans e1)
       have C3 := zH (yad (i := 0) (v := .slice (some ⟨g2, o2, none⟩) n cu) hj3 rfl); have cx3 := C3.out; have C12 := zH (yad (i := 0) (v := .slice Am j cm) m1 rfl); have M1 := zH m1; have M2 := zH m2; have M3 := zH m3; have M4 := zH m4; have M5 := zH m5; have HRI := zH hri
       have HRQ : Hid (RdQ anyB wr (.slice A5 e.2.length k5) e.2) := RdQ.below hrq HJ.out.bel (Nat.le_of_eq HB12.out)
       have hel := HG.out.els e (List.mem_of_getElem? he)
       have CL : Hid (∀ (w1 : World), RdQ anyB w1 (.slice A5 e.2.length k5) e.2 -> Calls Tryz.prog 81 #[.slice A5 e.2.length k5, .int .i64 3, .int .i64 (p : Nat), .int .i64 1048576] w1 (GotQ w1.heap.size w1 (e.2.map (up 3 p)))) := fun w1 hr => ycz (fr := p) hr hel.2 (by omega) (lv := 3) (by unfold Lv; omega) (HLN.out e (List.mem_of_getElem? he)) (bd := 1048576) rfl
       have HEN := zH he
       have hjI : (j : Int) < (n : Int) := by omega
       have HJL : Hid (j <= 500) := by show _ <= _; omega
       obtain ⟨l2, hl2⟩ : ∃ l, e.2.map (up 3 p) = l := ⟨_, rfl⟩; rw [hl2] at CL; have HL2 := zH hl2; obtain ⟨n2, hn2⟩ : ∃ m, e.2.length = m := ⟨_, rfl⟩; rw [hn2] at E1 HRQ CL; obtain ⟨n1, hn1⟩ : ∃ m, e.1.length = m := ⟨_, rfl⟩; have HN1 := zH hn1; rw [hn1] at E0 HRI; clear he hj3 m1 m2 m3 m4 m5 e0 e1 hri hrq hel hlt hn2 hn1 hl2
       go_upto_region 16 with (fail)
       refine yam (m := 20) [65, 66, 67, 68, 69, 70, 71, 72, 73, 74, 75, 76, 77, 78, 79, 80, 81, 82, 83, 84] [SV.eq (.pointer (some ⟨b12, 0, none⟩)), SV.eq (.slice Am j cm), SV.eq (.pointer (some ⟨b3, 0, none⟩)), SV.eq (.slice (some ⟨g2, o2, none⟩) n cu), SV.eq (.int .i64 (j : Int)), SV.eq (.pointer (some ⟨g2, o2 + j * 2, none⟩)), SV.eq (.pointer (some ⟨g2, o2 + j * 2, none⟩)), SV.eq (.slice A4 n1 k4), SV.eq (.pointer (some ⟨b3, 0, none⟩)), SV.eq (.slice (some ⟨g2, o2, none⟩) n cu), SV.eq (.int .i64 (j : Int)), SV.eq (.pointer (some ⟨g2, o2 + j * 2, none⟩)), SV.eq (.pointer (some ⟨g2, o2 + j * 2 + 1, none⟩)), SV.eq (.slice A5 n2 k5), SV.eq (.int .i64 3), SV.eq (.int .i64 (p : Int)), SV.eq (.int .i64 1048576), SV.ownq b12 l2, SV.entv b12 (.slice A4 n1 k4) l2, SV.entr b12 (e.1, l2)] (by kernel_rfl) (by kernel_rfl) ?_ ?_
       ·refine ⟨⟨⟨⟨⟨⟨⟨⟨⟨⟨⟨⟨⟨⟨⟨⟨⟨⟨⟨⟨trivial, ?_⟩, ?_⟩, ?_⟩, ?_⟩, ?_⟩, ?_⟩, ?_⟩, ?_⟩, ?_⟩, ?_⟩, ?_⟩, ?_⟩, ?_⟩, ?_⟩, ?_⟩, ?_⟩, ?_⟩, ?_⟩, ?_⟩, ?_⟩
        all_goals (refine OpIs.mk rfl ?_; intro vs w1 hb hd K hK; simp only [frameV, zS, zA, zB, zC, zD] at hK |-)
        ·have HK := zH hK; clear hK; go_simp; exact HK.out _ _ rfl (zR _ _)
        ·have d0 : vs 0 = .pointer (some ⟨b12, 0, none⟩) := hd 0 (by kernel_rfl)
         have c0 := yab hb C12.out; simp only [d0] at hK |-; have HK := zH hK; clear hK; go_simp; exact HK.out _ _ rfl (zR _ _)
        ·have HK := zH hK; clear hK; go_simp; exact HK.out _ _ rfl (zR _ _)
        ·have d2 : vs 2 = .pointer (some ⟨b3, 0, none⟩) := hd 2 (by kernel_rfl)
         have c0 := yab hb C3.out; simp only [d2] at hK |-; have HK := zH hK; clear hK; go_simp; exact HK.out _ _ rfl (zR _ _)
        ·have HK := zH hK; clear hK; go_simp; exact HK.out _ _ rfl (zR _ _)
        ·have d3 : vs 3 = .slice (some ⟨g2, o2, none⟩) n cu := hd 3 (by kernel_rfl)
         have d4 : vs 4 = .int .i64 (j : Int) := hd 4 (by kernel_rfl)
         simp only [d3, d4] at hK |-; have HK := zH hK; clear hK; go_simp; exact HK.out _ _ rfl (zR _ _)
        ·have d5 : vs 5 = .pointer (some ⟨g2, o2 + j * 2, none⟩) := hd 5 (by kernel_rfl)
         simp only [d5] at hK |-; have HK := zH hK; clear hK; go_simp; exact HK.out _ _ rfl (zR _ _)
        ·have d6 : vs 6 = .pointer (some ⟨g2, o2 + j * 2, none⟩) := hd 6 (by kernel_rfl)
         have c0 := yab hb E0.out; simp only [d6] at hK |-; have HK := zH hK; clear hK; go_simp; exact HK.out _ _ rfl (zR _ _)
        ·have HK := zH hK; clear hK; go_simp; exact HK.out _ _ rfl (zR _ _)
        ·have d8 : vs 8 = .pointer (some ⟨b3, 0, none⟩) := hd 8 (by kernel_rfl)
         have c0 := yab hb C3.out; simp only [d8] at hK |-; have HK := zH hK; clear hK; go_simp; exact HK.out _ _ rfl (zR _ _)
        ·have HK := zH hK; clear hK; go_simp; exact HK.out _ _ rfl (zR _ _)
        ·have d9 : vs 9 = .slice (some ⟨g2, o2, none⟩) n cu := hd 9 (by kernel_rfl)
         have d10 : vs 10 = .int .i64 (j : Int) := hd 10 (by kernel_rfl)
         simp only [d9, d10] at hK |-; have HK := zH hK; clear hK; go_simp; exact HK.out _ _ rfl (zR _ _)
        ·have d11 : vs 11 = .pointer (some ⟨g2, o2 + j * 2, none⟩) := hd 11 (by kernel_rfl)
         simp only [d11] at hK |-; have HK := zH hK; clear hK; go_simp; exact HK.out _ _ rfl (zR _ _)
        ·have d12 : vs 12 = .pointer (some ⟨g2, o2 + j * 2 + 1, none⟩) := hd 12 (by kernel_rfl)
         have c0 := yab hb E1.out; simp only [d12] at hK |-; have HK := zH hK; clear hK; go_simp; exact HK.out _ _ rfl (zR _ _)
        iterate 3 (·have HK := zH hK; clear hK; go_simp; exact HK.out _ _ rfl (zR _ _))
        ·have d13 : vs 13 = .slice A5 n2 k5 := hd 13 (by kernel_rfl)
         have d14 : vs 14 = .int .i64 3 := hd 14 (by kernel_rfl)
         have d15 : vs 15 = .int .i64 (p : Int) := hd 15 (by kernel_rfl)
         have d16 : vs 16 = .int .i64 1048576 := hd 16 (by kernel_rfl)
         simp only [d13, d14, d15, d16] at hK |-; have HK := zH hK; clear hK; go_simp
         go_at_call 81
         refine (CL.out w1 (RdQ.below HRQ.out hb (zN _))).mono ?_; rintro r w5 ⟨v5, rfl, ho5, hb5⟩; exact HK.out _ _ (R4.yaq ho5 (Nat.lt_of_lt_of_le (R4.yac M1.out) hb.size)) hb5
        ·have d7 : vs 7 = .slice A4 n1 k4 := hd 7 (by kernel_rfl)
         have d17 : OwnQ (b12 + 1) w1 (vs 17) l2 := hd 17 (by kernel_rfl)
         have q1 := Exists.choose_spec (OwnQ.form d17); generalize Exists.choose (OwnQ.form d17) = A7 at q1; have q2 := Exists.choose_spec q1; generalize Exists.choose q1 = c7 at q2; clear q1; rw [q2] at d17; have D17 := zH d17; clear d17; simp only [d7] at hK |-; simp only [q2] at hK |-; have HK := zH hK; clear hK; go_simp; exact HK.out _ _ ⟨_, _, _, rfl, D17.out⟩ (zR _ _)
        ·have d18 : (SV.entv b12 (.slice A4 n1 k4) l2).p (vs 18) w1 := hd 18 (by kernel_rfl)
         have q1 := Exists.choose_spec d18; generalize Exists.choose d18 = A7 at q1; have q2 := Exists.choose_spec q1; generalize Exists.choose q1 = n7 at q2; have q3 := Exists.choose_spec q2; generalize Exists.choose q2 = c7 at q3; have q4' := q3.1; have D18 := zH q3.2; clear q1 q2 q3 d18; simp only [q4'] at hK |-; have HK := zH hK; clear hK; go_simp; exact HK.out _ _ (yku D18.out (by have h := HRI.out; rw [<- HN1.out] at h |-; exact h) (HJ.out.bel.trans (hb.mono (Nat.le_of_lt (R4.yac M1.out))))) (yaa w1 _)
       ·intro vs w5 hb hd
        have d1 : vs 1 = .slice Am j cm := hd 1 (by omega)
        obtain ⟨g7, m, d19, hr7, hm7, hw7⟩ : ∃ (g : Nat) (m : ME), vs 19 = .slice (some ⟨g, 0, none⟩) 1 1 /\ RdF anyB w5 (.slice (some ⟨g, 0, none⟩) 1 1) 1 (mcells [m]) /\ m.pl = (e.1, l2) /\ EntW b12 w5 m := hd 19 (by omega)
        have HR7 := zH hr7; have HM7 := zH hm7; have HW7 := zH hw7; have HB5 := zH hb; have m15 := (hb.block _ (R4.yac M1.out)).trans M1.out; have M15 := zH m15; have M25 := zH (M2.out.below hb (zN _)); simp only [frameV, zS, zA, zB, List.drop_succ_cons, List.drop_zero, d1, d19]; clear hb hd d1 d19 hr7 hm7 hw7 m15
        go_wp2_with (at_builtin; refine appendN rfl (.tmp 66) (.tmp 84) rfl w5 (b12 + 1) _ M [m] rfl M25.out rfl HR7.out (ykt HW7.out) (R4.yac M15.out) (by have h1 := M3.out; have h2 := HJL.out; simp only [List.length_cons, List.length_nil]; omega) ?_; intro v7 w7 ho7 hg7 hb7; obtain ⟨A7, c7, rfl⟩ := ho7.form; have m17 := ynt M15.out M25.out hg7; have k12 := yad (i := 0) (v := .slice Am j cm) m17 rfl; have z12 := frozen_of_row w7 b12 0 _ _ m17; have HVP := zH (VS.put (f := up 3 p) (w0 := w3) (HJ.out.bel.trans (HB5.out.mono (Nat.le_of_lt (R4.yac M1.out)))) M15.out M25.out M4.out (fun q hq => (M5.out q hq).below HB5.out) HW7.out HEN.out (by rw [HM7.out]; unfold mpE; rw [HL2.out]) ho7 hg7); clear ho7 hg7 hb7 m17)
        go_roundw
        case rel => exact ⟨j + 1, by omega, by go_num, by have h := HVP.out; simp only [List.length_append, List.length_cons, List.length_nil, Nat.zero_add] at h; exact h⟩
        case measure => simp [intOf] <;> omega
      ·obtain rfl : j = n := by omega
       obtain ⟨Az, cz, m6, hrt⟩ := HJ.out.done HN.out; have M6 := zH m6; have HRT := zH hrt
       have HTK : Hid (RdQ anyB wr (.slice (some ⟨g, o, none⟩) (k + 1) ca) (A.take (k + 1))) := by
        have h1 : RdF anyB wr (.slice (some ⟨g, o, none⟩) n0 ca) n0 (qcells A) := by
         have h2 := RdQ.below HQX2.out HJ.out.bel (Nat.le_of_eq HB12.out); unfold RdQ at h2; rw [HN0.out] at h2; exact h2
        have h2 := RdF.take h1 (m := k + 1) (by have := HN0.out; omega) ((k + 1) * 4)
        show RdF _ _ _ _ _
        rw [show (A.take (k + 1)).length = k + 1 by rw [List.length_take, HN0.out]; omega, show qcells (A.take (k + 1)) = (qcells A).take ((k + 1) * 4) from qtake A (k + 1)]
        exact h2
       have hupx : up 3 p x = x := by unfold up; rw [if_pos (.inl (by rw [HPW.out]; exact zN _))]
       have HAL : Hid ((A.take (k + 1)).map (up 3 p) = (A.take k).map (up 3 p) ++ [x]) := by show _ = _; rw [List.take_add_one, HXX.out, List.map_append, Option.toList_some, List.map_cons, List.map_nil, hupx]
       have HLK : Hid (((A.take k).map (up 3 p)).length = k) := by show _ = _; rw [List.length_map, List.length_take, HN0.out]; omega
       have CL : Hid (Calls Tryz.prog 81 #[.slice (some ⟨g, o, none⟩) (k + 1) ca, .int .i64 3, .int .i64 (p : Nat), .int .i64 1048576] wr (GotQ wr.heap.size wr ((A.take (k + 1)).map (up 3 p)))) := (ycz (fr := p) HTK.out (fun y hy => H8.out.2 y (List.mem_of_mem_take hy)) (by rw [List.length_take]; omega) (lv := 3) (by unfold Lv; omega) (fun y hy => HNW.out y (List.mem_of_mem_take hy)) (bd := 1048576) rfl)
       rw [HAL.out] at CL; have hj6 := (HJ.out.bel.block b6 (by have := R4.yac H6X.out; rw [HB12.out] at this; exact this)).trans H6X.out
       have H6J := zH hj6; have h3z := (HJ.out.bel.block b3 (by have := R4.yac H3X.out; rw [HB12.out] at this; exact this)).trans H3X.out
       have c3 := yad (i := 0) (v := .slice Au j cu) h3z rfl
       have hk1 : IntKind.i64.wrap ((k : Int) + 1) = (k : Int) + 1 := by rw [IntKind.wrap_i64]; omega
       have hp1 : IntKind.i64.wrap ((p : Int) + 1) = (p : Int) + 1 := by have := lv_wgt (lv := 3) (by unfold Lv; omega) HXL.out; rw [HPW.out] at this; rw [IntKind.wrap_i64]; omega
       have HBJ := zH (HWX.out.trans (HJ.out.bel.mono (by rw [<- HB12.out]; exact HWX.out.size)))
       have HQZ : Hid (q4 z = [.int .i64 P, .int .i64 S, .int .i64 (p + 1), .bool V]) := by
        show _ = _
        have h1 := HQX.out; have h2 := HXN.out; rw [<- HZ.out]; exact zal HXL.out h2 h1 HPW.out
       clear hupx hlt m6 hrt hj6 h3z
       go_wp2_with (go_at_call 81; refine (CL.out).mono ?_; rintro r w5 ⟨v5, rfl, ho5, hb5⟩; obtain ⟨A9, c9, e9⟩ := ho5.form; subst e9; have HO5 := zH ho5; obtain ⟨A8, c8, e8, -, hr8⟩ := R4.yaj ho5; cases e8; obtain ⟨g9, eg9, -, -, -⟩ := hr8 (by simp); subst eg9; have hq5 := yht ho5 HLK.out; rw [HQX.out] at hq5; obtain ⟨hq5, hn5⟩ := hq5; rw [hn5] at hq5 |-; have Q5 : Hid (QR wr.heap.size w5 g9 (k + 1) c9 k ((A.take k).map (up 3 p)) (.int .i64 P) (.int .i64 S) (.int .i64 T) (.bool V)) := ⟨hq5, HLK.out, rfl⟩; have HB5 := zH hb5; have M65 := zH ((hb5.block _ (R4.yac M6.out)).trans M6.out); have H65 := zH ((hb5.block _ (R4.yac H6J.out)).trans H6J.out); obtain ⟨s0c, s0f⟩ := Q5.out.cell 2 (by omega) rfl; have Q9 := zH (Q5.out.set2 (.int .i64 ((p : Int) + 1))); have HB9 : Hid (Below wr.heap.size wr (w5.setCell ⟨g9, k * 4 + 2, none⟩ (.int .i64 ((p : Int) + 1)))) := HB5.out.setCell (by show wr.heap.size <= g9; exact Q5.out.ge) _; have M69 := zH ((Below.heap_setCell w5 ⟨g9, k * 4 + 2, none⟩ (.int .i64 ((p : Int) + 1)) b12 (by have h1 := Q5.out.ge; have h2 := R4.yac M6.out; show b12 ≠ g9; omega)).trans M65.out); have H69 := zH ((Below.heap_setCell w5 ⟨g9, k * 4 + 2, none⟩ (.int .i64 ((p : Int) + 1)) b6 (by have h1 := Q5.out.ge; have h2 := R4.yac H6J.out; show b6 ≠ g9; omega)).trans H65.out); have k12 := yad (i := 0) (v := .slice Az j cz) M69.out rfl; have k6 := yad (i := 0) (v := .slice none 0 0) H69.out rfl; have z6 := frozen_of_row _ b6 0 _ _ H69.out; clear hq5 hb5 ho5 c3 hr8)
       rw [HF.out]; have h9 := heap_setCell_same (w5.setCell ⟨g9, k * 4 + 2, none⟩ (.int .i64 ((p : Int) + 1))) b6 0 _ _ (.slice Az j cz) H69.out; have x9 := yad (i := 0) (v := .slice Az j cz) h9 rfl; refine bodyPost_ret (v := .tuple #[.agg #[.slice Az j cz], .slice (some ⟨g9, 0, none⟩) (k + 1) c9, .int .i64 0]) (by simp [results, Tryz.results43, go_sem, x9]) rfl ⟨fun _ => ⟨_, _, rfl, ?_, ?_⟩, fun h => absurd rfl h, (HBJ.out.trans (HB9.out.mono HBJ.out.size)).setCell (by show _ <= b6; exact HB6.out) _⟩
       ·rw [HR1.out]; exact (HRT.out.below HB9.out (zN _)).off (R4.yaf _ ⟨b6, 0, none⟩ _) H69.out (by decide) (by decide) (by decide)
       ·rw [HR2.out]; exact R4.yaq (ybj (Q9.out.done HQZ.out) H69.out) HBJ.out.size
theorem ysk {w : World} {v av : Value} {L : List PE} {A : List Nat} (h : RefT w v L) (hg : GoodT L) (ha : RdQ anyB w av A) (h8 : Anc A) {lv : Nat} (hl : Lv lv) (hn : ∀ x ∈ A, NW lv x) {E : Int} (hE : movE lv L A = E) :
  Calls Tryz.prog 43 #[.agg #[v], av, .int .i64 (lv : Nat)] w (StpIs (movL lv L A) (movA lv A) E w) := by
 rcases hl with rfl | rfl | rfl
 ·exact yzs h hg ha h8 hn hE
 ·exact yzr h hg ha h8 hn hE
 ·exact yzq h hg ha h8 hn hE
end Go.Proofs.YtichfdjjbafeiaaGreat
