/-
  PACKED for a claim.
-/
import Derived.Test.YteibnfeokgibmaaGreatP37
set_option linter.unusedVariables false
set_option linter.unusedSimpArgs false
set_option maxRecDepth 100000
namespace Go.Proofs.YteibnfeokgibmaaGreat
open Go.RowKit
variable {U : Nat -> Prop}
theorem yat {w : World} {b i : Nat} {cs : Array Value} {T : TypeId} {fr : Nat × Nat} {v : Value} (h : w.heap[b]? = some (.cells cs T fr)) (hv : cs[i]? = some v) : w.cell? ⟨b, i, none⟩ = some v := by rw [cell_of_row w b i _ _ _ h]; exact hv
def Kp (w w' : World) : Prop := ∀ (k : Nat) (cs : Array Value) (T : TypeId) (fr : Nat × Nat), w.heap[k]? = some (.cells cs T fr) -> T ≠ 168 -> T ≠ 143 -> w'.heap[k]? = some (.cells cs T fr)
theorem Kp.of_below {w w' : World} (h : Below w.heap.size w w') : Kp w w' := fun k cs T fr hk _ _ => (h.block k (R4.yad hk)).trans hk
theorem Kp.trans {a b c : World} (h : Kp a b) (h2 : Kp b c) : Kp a c := fun k cs T fr hk h1 h3 => h2 k cs T fr (h k cs T fr hk h1 h3) h1 h3
theorem Kp.px {w : World} {px i : Nat} {v : Value} {cs : Array Value} (hp : w.heap[px]? = some (.cells cs 143 (0, 0))) : Kp w (w.setCell ⟨px, i, none⟩ v) := fun k c2 T fr hk _ h3 => (Below.heap_setCell _ _ _ _ (by
 intro e
 have e : k = px := e
 rw [e, hp] at hk
 injection hk with hk
 injection hk with _ hk _
 exact h3 hk.symm)).trans hk
theorem Kp.ar {B : Nat} {w5 : World} {g n c : Nat} {l l0 : List Nat} {wq : World} (h : AR B w5 g n c l wq) (h0 : OwnE B w5 (.slice (some ⟨g, 0, none⟩) n c) l0) : Kp w5 wq := fun k cs T fr hk h1 _ => h.other h0 hk h1
theorem yzo {B : Nat} {w w3 : World} {px q q3 g n c k u1 u2 lv p : Nat} {L' : List PE} {A : List Nat} (p3 : w3.heap[px]? = some (.cells #[.pointer (some ⟨q, 0, none⟩), .slice (some ⟨g, 0, none⟩) n c, .bool true] 143 (0, 0))) (hb3 : Below w.heap.size w w3) (hBw : B <= w.heap.size) (hB : BelU U B px) (ho : OwnE B w3 (.slice (some ⟨g, 0, none⟩) n c) A) (ht : TabAt (fun k => (Value.slice (some ⟨g, 0, none⟩) n c).ownBlock ≠ some k /\ (k ≠ px /\ U k)) w3 q3 L') (ka : w3.heap[u1]? = some (.cells #[.int .i64 (lv : Nat)] 3 (0, 0))) (kb : w3.heap[u2]? = some (.cells #[.int .i64 (p : Nat)] 3 (0, 0))) :
  w3.cell? ⟨px, 0, none⟩ = some (.pointer (some ⟨q, 0, none⟩)) /\ w3.frozen? ⟨px, 0, none⟩ = false /\ (w3.setCell ⟨px, 0, none⟩ (.pointer (some ⟨q3, 0, none⟩))).cell? ⟨px, 1, none⟩ = some (.slice (some ⟨g, 0, none⟩) n c) /\ (w3.setCell ⟨px, 0, none⟩ (.pointer (some ⟨q3, 0, none⟩))).frozen? ⟨px, 1, none⟩ = false /\ ((w3.setCell ⟨px, 0, none⟩ (.pointer (some ⟨q3, 0, none⟩))).setCell ⟨px, 1, none⟩ (.slice (some ⟨g, 0, none⟩) k c)).cell? ⟨px, 1, none⟩ = some (.slice (some ⟨g, 0, none⟩) k c) ∧
   ((w3.setCell ⟨px, 0, none⟩ (.pointer (some ⟨q3, 0, none⟩))).setCell ⟨px, 1, none⟩ (.slice (some ⟨g, 0, none⟩) k c)).heap[px]? = some (.cells #[.pointer (some ⟨q3, 0, none⟩), .slice (some ⟨g, 0, none⟩) k c, .bool true] 143 (0, 0)) /\ OwnE B ((w3.setCell ⟨px, 0, none⟩ (.pointer (some ⟨q3, 0, none⟩))).setCell ⟨px, 1, none⟩ (.slice (some ⟨g, 0, none⟩) k c)) (.slice (some ⟨g, 0, none⟩) n c) A /\ TabAt (fun k => (Value.slice (some ⟨g, 0, none⟩) n c).ownBlock ≠ some k /\ (k ≠ px /\ U k)) ((w3.setCell ⟨px, 0, none⟩ (.pointer (some ⟨q3, 0, none⟩))).setCell ⟨px, 1, none⟩ (.slice (some ⟨g, 0, none⟩) k c)) q3 L' /\ Below B w ((w3.setCell ⟨px, 0, none⟩ (.pointer (some ⟨q3, 0, none⟩))).setCell ⟨px, 1, none⟩ (.slice (some ⟨g, 0, none⟩) k c)) /\ ((w3.setCell ⟨px, 0, none⟩ (.pointer (some ⟨q3, 0, none⟩))).setCell ⟨px, 1, none⟩ (.slice (some ⟨g, 0, none⟩) k c)).heap[u1]? = some (.cells #[.int .i64 (lv : Nat)] 3 (0, 0)) /\ ((w3.setCell ⟨px, 0, none⟩ (.pointer (some ⟨q3, 0, none⟩))).setCell ⟨px, 1, none⟩ (.slice (some ⟨g, 0, none⟩) k c)).heap[u2]? = some (.cells #[.int .i64 (p : Nat)] 3 (0, 0)) /\ Kp w ((w3.setCell ⟨px, 0, none⟩ (.pointer (some ⟨q3, 0, none⟩))).setCell ⟨px, 1, none⟩ (.slice (some ⟨g, 0, none⟩) k c)) := by
 have p4 : (w3.setCell ⟨px, 0, none⟩ (.pointer (some ⟨q3, 0, none⟩))).heap[px]? = some (.cells #[.pointer (some ⟨q3, 0, none⟩), .slice (some ⟨g, 0, none⟩) n c, .bool true] 143 (0, 0)) := heap_setCell_same w3 px 0 _ _ (.pointer (some ⟨q3, 0, none⟩)) p3
 have p5 : ((w3.setCell ⟨px, 0, none⟩ (.pointer (some ⟨q3, 0, none⟩))).setCell ⟨px, 1, none⟩ (.slice (some ⟨g, 0, none⟩) k c)).heap[px]? = some (.cells #[.pointer (some ⟨q3, 0, none⟩), .slice (some ⟨g, 0, none⟩) k c, .bool true] 143 (0, 0)) := heap_setCell_same _ px 1 _ _ (.slice (some ⟨g, 0, none⟩) k c) p4
 have ne : ∀ {u : Nat} {v : Value}, w3.heap[u]? = some (.cells #[v] 3 (0, 0)) -> u ≠ px := by
  intro u v h e; rw [e, p3] at h
  injection h with h
  injection h with _ h _
  cases h
 exact ⟨yat p3 rfl, frozen_of_row w3 px 0 _ _ p3, yat p4 rfl, frozen_of_row _ px 1 _ _ p4, yat p5 rfl, p5, own_px (own_px ho p3) p4, tab_px (tab_px ht (fun k h => h.2.1) p3) (fun k h => h.2.1) p4,
  ((hb3.mono hBw).setCell (by show B <= px; exact hB.le) _).setCell (by show B <= px; exact hB.le) _, (Below.heap_setCell _ _ _ _ (ne ka)).trans ((Below.heap_setCell _ _ _ _ (ne ka)).trans ka), (Below.heap_setCell _ _ _ _ (ne kb)).trans ((Below.heap_setCell _ _ _ _ (ne kb)).trans kb), ((Kp.of_below hb3).trans (Kp.px p3)).trans (Kp.px p4)⟩
def MovIs (U : Nat -> Prop) (B : Nat) (px : Nat) (t : ST) (E : Int) (w : World) (q : Ending) (w' : World) : Prop := q = .returned (.int .i64 E) /\ (E = 0 -> TA U B w' px t) /\ Below B w w' /\ Kp w w'
theorem MovIs.bad {B px : Nat} {t : ST} {E : Int} {w w' : World} (h : Below w.heap.size w w') (hB : B <= w.heap.size) (hE : E ≠ 0) : MovIs U B px t E w (.returned (.int .i64 E)) w' := ⟨rfl, fun e => absurd e hE, h.mono hB, Kp.of_below h⟩
set_option maxHeartbeats 1000000 in
theorem yuq {B : Nat} {w : World} {px : Nat} {t : ST} (hT : TA U B w px t) {A : List Nat} (hA : t.A.getD [] = A) (h8 : Anc A) {lv : Nat} (hl : Lv lv) (hk : lastW lv A = none) (t' : ST) :
  Calls Tryz.prog 176 #[.pointer (some ⟨px, 0, none⟩), .int .i64 (lv : Nat)] w (MovIs U B px t' 1 w) := by
 have CL := zH (yct hT hA h8 hl (r := -1) (by unfold lastI; rw [hk]))
 have HBW := zH (Nat.le_trans hT.bel.le (Nat.le_of_lt hT.lt)); clear hT hA h8 hl hk
 go_enter Tryz.func176, Tryz.ntmps176
 go_wp2_with (go_at_call 205; refine (CL.out).mono ?_; rintro q w' ⟨rfl, rfl⟩)
 go_ret
 exact MovIs.bad (zR _ _) HBW.out (by decide)
set_option maxHeartbeats 2000000 in
theorem yur {B : Nat} {w : World} {px : Nat} {t : ST} (hT : TA U B w px t) {A : List Nat} (hA : t.A.getD [] = A) (h8 : Anc A) {lv : Nat} (hl : Lv lv) {k a : Nat} (hk : lastW lv A = some k) (ha : A[k]? = some a) (hh : topW lv < wgt lv a) (t' : ST) :
  Calls Tryz.prog 176 #[.pointer (some ⟨px, 0, none⟩), .int .i64 (lv : Nat)] w (MovIs U B px t' 1 w) := by
 obtain ⟨q, Aa, c, -, c1, -, -, -, -, -, -, hrd⟩ := hT.cells hA; have CL := zH (yct hT hA h8 hl (r := k) (by unfold lastI; rw [hk]))
 have HBW := zH (Nat.le_trans hT.bel.le (Nat.le_of_lt hT.lt)); have hal := h8.2 a (List.mem_of_getElem? ha); obtain ⟨p, hp⟩ : ∃ p, wgt lv a = p := ⟨_, rfl⟩; obtain ⟨tp, htp⟩ : ∃ tp, topW lv = tp := ⟨_, rfl⟩; have CW := zH (fun w => ybx hl hp hal w)
 have CG := zH (fun w => ycn hl htp w)
 rw [hp, htp] at hh
 have hhI : (tp : Int) < (p : Int) := by omega
 obtain ⟨g, o, rfl, c2⟩ := RdE.at hrd ha; have hkn := (List.getElem?_eq_some_iff.1 ha).1
 have hkI : (k : Int) < (A.length : Int) := by omega
 have hk0 : ¬ (k : Int) < 0 := by omega
 clear hT hA h8 hl hk ha hh hp htp hal hrd hkn
 go_enter Tryz.func176, Tryz.ntmps176
 go_wp2_with (first
  | (go_at_call 205; refine (CL.out).mono ?_; rintro q w' ⟨rfl, rfl⟩)
  | (go_at_call 147; refine (CW.out _).mono ?_; rintro q w' ⟨rfl, rfl⟩)
  | (go_at_call 206; refine (CG.out _).mono ?_; rintro q w' ⟨rfl, rfl⟩))
 go_ret
 exact MovIs.bad (zR _ _) HBW.out (by decide)
set_option maxHeartbeats 2000000 in
theorem yus {B : Nat} {w : World} {px : Nat} {t : ST} (hT : TA U B w px t) {A : List Nat} (hA : t.A.getD [] = A) (h8 : Anc A) {lv : Nat} (hl : Lv lv) {k a : Nat} (hk : lastW lv A = some k) (ha : A[k]? = some a) (hh : ¬ topW lv < wgt lv a) (hf : fullP lv t.L = true) (t' : ST) :
  Calls Tryz.prog 176 #[.pointer (some ⟨px, 0, none⟩), .int .i64 (lv : Nat)] w (MovIs U B px t' 60 w) := by
 obtain ⟨q, Aa, c, -, c1, -, -, -, -, -, -, hrd⟩ := hT.cells hA; have CL := zH (yct hT hA h8 hl (r := k) (by unfold lastI; rw [hk]))
 have CF := zH (yji hT hl hf); have HBW := zH (Nat.le_trans hT.bel.le (Nat.le_of_lt hT.lt)); have hal := h8.2 a (List.mem_of_getElem? ha); obtain ⟨p, hp⟩ : ∃ p, wgt lv a = p := ⟨_, rfl⟩; obtain ⟨tp, htp⟩ : ∃ tp, topW lv = tp := ⟨_, rfl⟩; have CW := zH (fun w => ybx hl hp hal w)
 have CG := zH (fun w => ycn hl htp w)
 rw [hp, htp] at hh
 have hhI : ¬ (tp : Int) < (p : Int) := by omega
 have hhb : decide ((tp : Int) < (p : Int)) = false := decide_eq_false hhI
 obtain ⟨g, o, rfl, c2⟩ := RdE.at hrd ha; have hkn := (List.getElem?_eq_some_iff.1 ha).1
 have hkI : (k : Int) < (A.length : Int) := by omega
 have hk0 : ¬ (k : Int) < 0 := by omega
 clear hT hA h8 hl hk ha hh hp htp hal hrd hkn hf
 go_enter Tryz.func176, Tryz.ntmps176
 go_wp2_with (first
  | (go_at_call 205; refine (CL.out).mono ?_; rintro q w' ⟨rfl, rfl⟩)
  | (go_at_call 147; refine (CW.out _).mono ?_; rintro q w' ⟨rfl, rfl⟩)
  | (go_at_call 206; refine (CG.out _).mono ?_; rintro q w' ⟨rfl, rfl⟩)
  | (go_at_call 207; refine (CF.out).mono ?_; rintro q w1 ⟨rfl, hb1⟩; have HB1 := zH hb1; clear hb1))
 go_ret
 exact MovIs.bad HB1.out HBW.out (by decide)
set_option maxHeartbeats 8000000 in
theorem move_go {B : Nat} {w : World} {px : Nat} {t : ST} (hT : TA U B w px t) {A : List Nat} (hA : t.A = some A) (h8 : Anc A) {lv : Nat} (hl : Lv lv) {k a : Nat} (hk : lastW lv A = some k) (ha : A[k]? = some a) (hh : ¬ topW lv < wgt lv a) (hf : fullP lv t.L = false) {z : Nat} (hz : nxt lv a = z) :
  Calls Tryz.prog 176 #[.pointer (some ⟨px, 0, none⟩), .int .i64 (lv : Nat)] w (MovIs U B px ⟨mapP (up lv (wgt lv a)) t.L, some ((A.take k).map (up lv (wgt lv a)) ++ [z])⟩ 0 w) := by
 have hA2 : t.A.getD [] = A := by rw [hA]; rfl
 have HT0 := zH hT; obtain ⟨q, Aa, c, c0, c1, -, -, -, -, hTab, hown, hrd⟩ := hT.cells hA2; have CL := zH (yct hT hA2 h8 hl (r := k) (by unfold lastI; rw [hk]))
 have CF := zH (yji hT hl hf); have HBW := zH (Nat.le_trans hT.bel.le (Nat.le_of_lt hT.lt)); have HPB := zH hT.bel; have hal := h8.2 a (List.mem_of_getElem? ha); have HLT := zH h8.2; have hn8 := h8.1; obtain ⟨p, hp⟩ : ∃ p, wgt lv a = p := ⟨_, rfl⟩; obtain ⟨tp, htp⟩ : ∃ tp, topW lv = tp := ⟨_, rfl⟩; have CW := zH (fun w => ybx hl hp hal w)
 have CG := zH (fun w => ycn hl htp w)
 have CN := zH (fun w => yzn hl hal (by omega) hz w)
 have HL := zH hl; rw [hp, htp] at hh; rw [hp]
 have hhI : ¬ (tp : Int) < (p : Int) := by omega
 have hhb : decide ((tp : Int) < (p : Int)) = false := decide_eq_false hhI
 obtain ⟨g, o, rfl, c2⟩ := RdE.at hrd ha
 obtain rfl : o = 0 := by
  obtain ⟨A', c', e, -, hr⟩ := R4.yai hown; obtain ⟨g', e', -⟩ := hr (by have := (List.getElem?_eq_some_iff.1 ha).1; omega)
  injection e with e1 _ _
  rw [e'] at e1
  injection e1 with e1
  injection e1 with _ e1 _
 obtain ⟨n, hn⟩ : ∃ n, A.length = n := ⟨_, rfl⟩; have HN := zH hn; have hkn := (List.getElem?_eq_some_iff.1 ha).1; rw [hn] at c1 hown hTab hn8 hkn
 have hkI : (k : Int) < (n : Int) := by omega
 have hk0 : ¬ (k : Int) < 0 := by omega
 have hcap : n <= c := by
  obtain ⟨A', c', e, h1, -⟩ := R4.yai hown
  injection e with _ e2 e3
  omega
 have hkc : (k : Int) <= (c : Int) := by omega
 have hnI : (n : Int) <= 8 := by omega
 have HKN := zH hkn
 have hgp : px ≠ g := by
  intro e; obtain ⟨⟨q', va, h1, -, -⟩, -⟩ := hT; exact R4.yao hown h1 (by decide) (by rw [e]; rfl)
 have hpx0 : ∃ bb, w.heap[px]? = some (.cells #[.pointer (some ⟨q, 0, none⟩), .slice (some ⟨g, 0, none⟩) n c, .bool bb] 143 (0, 0)) /\ bb = true := by
  obtain ⟨⟨q', va, h1, -, -⟩, -⟩ := hT; refine ⟨true, ?_, rfl⟩; rw [cell_of_row w px 0 _ _ _ h1] at c0; rw [cell_of_row w px 1 _ _ _ h1] at c1
  cases c0
  cases c1
  rw [hA] at h1; exact h1
 obtain ⟨bb, HP, rfl⟩ := hpx0; have HPX := zH HP; have HTab := zH hTab; have HO := zH hown; have HTP := zH htp; obtain ⟨L, hL⟩ : ∃ L, t.L = L := ⟨_, rfl⟩; rw [hL] at HTab |-; rw [Nat.zero_add] at c2
 have HFF : Hid (∀ k, (fun k => (Value.slice (some ⟨g, 0, none⟩) n c).ownBlock ≠ some k /\ (k ≠ px /\ U k)) k -> k ≠ g /\ k ≠ px) := fun k h => ⟨fun e => h.1 (by rw [e]; rfl), h.2.1⟩
 have HFB : Hid (∀ (w' : World), Below w.heap.size w w' -> ∀ k, w'.heap.size <= k -> (Value.slice (some ⟨g, 0, none⟩) n c).ownBlock ≠ some k /\ (k ≠ px /\ U k)) := by
  intro w' hb k hk'; have h1 := (World.ownsRow.lt HO.out g rfl).2; have h2 := R4.yad HPX.out; have h3 := hb.size; refine ⟨fun e => ?_, by omega, hT.bel.nu k (by have := hT.bel.le; omega)⟩
  injection e with e
  have e : g = k := e
  omega
 have tok : True := trivial
 clear hT hA hA2 h8 hl hk hh hp htp hal hrd hf hTab hown HP hL hz hn
 go_enter Tryz.func176, Tryz.ntmps176
 go_wp2_with (first
  | (go_at_call 205; refine (CL.out).mono ?_; rintro q' w' ⟨rfl, rfl⟩)
  | (go_at_call 147; refine (CW.out _).mono ?_; rintro q' w' ⟨rfl, rfl⟩)
  | (go_at_call 206; refine (CG.out _).mono ?_; rintro q' w' ⟨rfl, rfl⟩)
  | (go_at_call 207; refine (CF.out).mono ?_; rintro q' w1 ⟨rfl, hb1⟩; have HB1 := zH hb1; clear hb1 c0 c1 c2)
  | (go_at_call 208; refine (yqo lv p _).mono ?_; rintro q' w2 ⟨⟨u1, u2, rfl, k1, k2⟩, hb2⟩; have K1 := zH k1; have K2 := zH k2; have HB2 := zH (HB1.out.trans (hb2.mono HB1.out.size)); have hp2 := (HB2.out.block px (R4.yad HPX.out)).trans HPX.out; have c0 := yat (i := 0) hp2 rfl; have HPX2 := zH hp2; clear k1 k2 hb2 HB1 hp2)
  | (go_at_call 83; refine (yva HL.out (HFB.out _ HB2.out) (HTab.out.below HB2.out (zN _)) (yat (i := 0) K1.out rfl) (yat (i := 0) K2.out rfl)).mono ?_; rintro q' w3 ⟨⟨q3, rfl, ht3⟩, hb3⟩
     have HB3 := HB2.out.trans (hb3.mono HB2.out.size)
     obtain ⟨e30, f30, e41, f41, e51, p5, o5, t5, b5, a5, s5, kp5⟩ := yzo (k := k) ((hb3.block px (R4.yad HPX2.out)).trans HPX2.out) HB3 HBW.out HPB.out (R4.yan HO.out HB3 (zN _)) ht3 ((hb3.block _ (R4.yad K1.out)).trans K1.out) ((hb3.block _ (R4.yad K2.out)).trans K2.out)
     have P5 := zH p5; have HO5 := zH o5; have HT5 := zH t5; have HB5 := zH b5; have KA5 := zH a5; have KB5 := zH s5; have KP5 := zH kp5
     clear p5 o5 t5 b5 a5 s5 kp5 ht3 hb3 c0 HB3))
 clear e30 f30 e41 f41 e51; generalize hw5 : (w3.setCell ⟨px, 0, none⟩ (.pointer (some ⟨q3, 0, none⟩))).setCell ⟨px, 1, none⟩ (.slice (some ⟨g, 0, none⟩) k c) = w5 at HO5 HT5 HB5 KA5 KB5 P5 KP5 |-; clear hw5 HPX2 K1 K2 HB2 CF HFB HTab HPX CL CG tok
 go_loopw [59] (fun i wr => ∃ j : Nat, j <= k /\ i = .int .i64 (j : Nat) /\ Hid (AR B w5 g n c ((A.take j).map (up lv p) ++ A.drop j) wr)) (fun i _ => k - (intOf i).toNat)
 case atStart => exact ⟨0, Nat.zero_le _, rfl, AR.start HO5.out HN.out⟩
 case round =>
  obtain ⟨j, hj, rfl, HR⟩ := hrel; have hp5 := HR.out.other HO5.out P5.out (by decide)
  have HPR := zH hp5
  by_cases hlt : j < k
  ·obtain ⟨x, hx⟩ : ∃ x, A[j]? = some x := ⟨_, List.getElem?_eq_getElem (by rw [HN.out]; have := HKN.out; omega)⟩
   have hxl := HLT.out x (List.mem_of_getElem? hx)
   have hcur : ((A.take j).map (up lv p) ++ A.drop j)[j]? = some x := by
    have hl : ((A.take j).map (up lv p)).length = j := by rw [List.length_map, List.length_take, HN.out]; have := HKN.out; omega
    rw [List.getElem?_append_right (by omega), hl, Nat.sub_self, List.getElem?_drop]; exact hx
   obtain ⟨e1, f1⟩ := HR.out.slot hcur; obtain ⟨r, hr⟩ : ∃ r, up lv p x = r := ⟨_, rfl⟩
   have HNX : Hid (((A.take j).map (up lv p) ++ A.drop j).set j r = (A.take (j + 1)).map (up lv p) ++ A.drop (j + 1)) := by show _ = _; rw [<- hr]; exact ylu (by rw [HN.out]; have := HKN.out; omega) hx hlt
   have K1r := HR.out.other HO5.out KA5.out (by decide)
   have K2r := HR.out.other HO5.out KB5.out (by decide)
   have KK1 := zH (yat (i := 0) K1r rfl); have KK2 := zH (yat (i := 0) K2r rfl); have HCX := zH (yat (i := 1) hp5 rfl); have HXL := zH hxl; have HRR := zH hr; have HE1 := zH e1; have HF1 := zH f1
   have hjI : (j : Int) < (k : Int) := by omega
   have hjn : (j : Int) < (n : Int) := by omega
   have HJN : Hid (j < n) := by show _ < _; have := HKN.out; omega
   have hj0 : ¬ (j : Int) < 0 := by omega
   clear hx hxl hcur hr K1r K2r hp5 hlt f1
   go_upto_region 15 with (fail)
   refine yag (m := 9) [64, 65, 66, 67, 68, 69, 70, 71, 72] [SV.eq (.pointer (some ⟨px, 0, none⟩)), SV.eq (.pointer (some ⟨px, 0, none⟩)), SV.eq (.pointer (some ⟨px, 1, none⟩)), SV.eq (.slice (some ⟨g, 0, none⟩) k c), SV.eq (.int .i64 (j : Int)), SV.eq (.func (.func 224) #[] #[.pointer (some ⟨u1, 0, none⟩), .pointer (some ⟨u2, 0, none⟩)]), SV.eq (.int .u32 (x : Int)), SV.eq (.int .u32 (r : Int)), SV.eq (.pointer (some ⟨g, j, none⟩))] (by kernel_rfl) (by kernel_rfl) ?_ ?_
   ·refine ⟨⟨⟨⟨⟨⟨⟨⟨⟨trivial, ?_⟩, ?_⟩, ?_⟩, ?_⟩, ?_⟩, ?_⟩, ?_⟩, ?_⟩, ?_⟩
    all_goals (refine OpIs.mk rfl ?_; intro vs w1 hb hd K hK; simp only [frameV, zS, zA, zB, zC, zD] at hK |-)
    ·have HK := zH hK; clear hK; go_simp; exact HK.out _ _ rfl (zR _ _)
    ·have d0 : vs 0 = .pointer (some ⟨px, 0, none⟩) := hd 0 (by kernel_rfl)
     simp only [d0] at hK |-; have HK := zH hK; clear hK; go_simp; exact HK.out _ _ rfl (zR _ _)
    ·have d1 : vs 1 = .pointer (some ⟨px, 0, none⟩) := hd 1 (by kernel_rfl)
     simp only [d1] at hK |-; have HK := zH hK; clear hK; go_simp; exact HK.out _ _ rfl (zR _ _)
    ·have d2 : vs 2 = .pointer (some ⟨px, 1, none⟩) := hd 2 (by kernel_rfl)
     have c0 := yab hb HCX.out; simp only [d2] at hK |-; have HK := zH hK; clear hK; go_simp; exact HK.out _ _ rfl (zR _ _)
    iterate 3 (·have HK := zH hK; clear hK; go_simp; exact HK.out _ _ rfl (zR _ _))
    ·have d5 : vs 5 = .func (.func 224) #[] #[.pointer (some ⟨u1, 0, none⟩), .pointer (some ⟨u2, 0, none⟩)] := hd 5 (by kernel_rfl)
     have d6 : vs 6 = .int .u32 (x : Int) := hd 6 (by kernel_rfl)
     have hk1 := zH (yab hb KK1.out); have hk2 := zH (yab hb KK2.out); simp only [d5, d6] at hK |-; have HK := zH hK; clear hK; go_simp
     go_at_call 224
     refine (yll HL.out HXL.out HRR.out hk1.out hk2.out).mono ?_; rintro q' w' ⟨rfl, rfl⟩; exact HK.out _ _ rfl (zR _ _)
    ·have d3 : vs 3 = .slice (some ⟨g, 0, none⟩) k c := hd 3 (by kernel_rfl)
     have d4 : vs 4 = .int .i64 (j : Int) := hd 4 (by kernel_rfl)
     simp only [d3, d4] at hK |-; have HK := zH hK; clear hK; go_simp; exact HK.out _ _ rfl (zR _ _)
   ·intro vs w3 hb hd
    have d8 : vs 8 = .pointer (some ⟨g, j, none⟩) := hd 8 (by omega)
    have d7 : vs 7 = .int .u32 (r : Int) := hd 7 (by omega)
    have HR3 := zH (HR.out.more hb); have e3 := yab hb HE1.out
    have f3 : w3.frozen? ⟨g, j, none⟩ = false := World.ownsRow.frozenAt HR3.out.raw j
    simp only [frameV, zS, zA, zB, List.drop_succ_cons, List.drop_zero, d8, d7]; clear hb hd d8 d7 e1 HE1 HF1
    go_wp2
    go_roundw
    case rel => exact ⟨j + 1, by omega, by go_num, by rw [<- HNX.out]; exact HR3.out.put HJN.out r⟩
    case measure => simp [intOf] <;> omega
  ·obtain rfl : j = k := by omega
   have hjI : ¬ (j : Int) < (j : Int) := by omega
   have HA1 := zH (HR.out.more (Below.drew (zR wr.heap.size wr))); have HCX := zH (yat (i := 1) hp5 rfl); have HFZ := zH (frozen_of_row wr px 1 _ _ hp5); clear hlt hp5; obtain ⟨S, hS0⟩ : ∃ S : World -> Prop, S = fun w' => w'.cell? ⟨px, 1, none⟩ = some (.slice (some ⟨g, 0, none⟩) j c) /\ w'.frozen? ⟨px, 1, none⟩ = false := ⟨_, rfl⟩
   have HS : Hid (S wr.drew) := by rw [hS0]; exact ⟨HCX.out, HFZ.out⟩
   have hS := zH hS0
   have HP1 : Hid (wr.drew.heap[px]? = some (.cells #[.pointer (some ⟨q3, 0, none⟩), .slice (some ⟨g, 0, none⟩) j c, .bool true] 143 (0, 0))) := HPR.out
   have hba := yaa wr.drew (.cells #[.int .u32 (z : Int)] 168); have HA2 := zH (HA1.out.more hba); have hp2 := (hba.block px (R4.yad HP1.out)).trans HP1.out; have HP2 := zH hp2; have hp3 := (Below.heap_setCell (wr.drew.alloc (.cells #[.int .u32 (z : Int)] 168)) ⟨g, j, none⟩ (.int .u32 (z : Int)) px hgp).trans hp2; have HP3 := zH hp3
   have HS2 : Hid (S (wr.drew.alloc (.cells #[.int .u32 (z : Int)] 168))) := by rw [hS0]; exact ⟨yat (i := 1) hp2 rfl, frozen_of_row _ px 1 _ _ hp2⟩
   have HS3 : Hid (S ((wr.drew.alloc (.cells #[.int .u32 (z : Int)] 168)).setCell ⟨g, j, none⟩ (.int .u32 (z : Int)))) := by rw [hS0]; exact ⟨yat (i := 1) hp3 rfl, frozen_of_row _ px 1 _ _ hp3⟩
   have e9 : ((wr.alloc (.cells #[.int .u32 (z : Int)] 168)).setCell ⟨g, j, none⟩ (.int .u32 (z : Int))).cell? ⟨px, 1, none⟩ = some (.slice (some ⟨g, 0, none⟩) j c) := yat hp3 rfl
   have f9 : ((wr.alloc (.cells #[.int .u32 (z : Int)] 168)).setCell ⟨g, j, none⟩ (.int .u32 (z : Int))).frozen? ⟨px, 1, none⟩ = false := frozen_of_row _ px 1 _ _ hp3
   have HA3 := zH (HA2.out.put HKN.out z); clear hS0 hba hp2 hp3
   go_upto_region 17 with (fail)
   refine R4.ydh (m := 12) (S := S) (by kernel_rfl) ?_
   refine R4.yaf (i := 0) (d := 74) (v := ?_) rfl (by kernel_rfl) (by kernel_rfl) (by omega) (by kernel_rfl) (by kernel_rfl) (fun _ _ _ h => h) (Or.inl ⟨by rfl, ?_⟩) HS.out ?_
   rotate_left
   ·intro w' hSw; rw [hS.out] at hSw; obtain ⟨s1, s2⟩ := hSw; go_simp <;> with_reducible rfl
   try simp only [zS, zA, zB]
   refine R4.yaf (i := 1) (d := 75) (v := ?_) rfl (by kernel_rfl) (by kernel_rfl) (by omega) (by kernel_rfl) (by kernel_rfl) (fun _ _ _ h => h) (Or.inl ⟨by rfl, ?_⟩) HS.out ?_
   rotate_left
   ·intro w' hSw; rw [hS.out] at hSw; obtain ⟨s1, s2⟩ := hSw; go_simp <;> with_reducible rfl
   try simp only [zS, zA, zB]
   refine R4.yaf (i := 2) (d := 76) (v := ?_) rfl (by kernel_rfl) (by kernel_rfl) (by omega) (by kernel_rfl) (by kernel_rfl) (fun _ _ _ h => h) (Or.inl ⟨by rfl, ?_⟩) HS.out ?_
   rotate_left
   ·intro w' hSw; rw [hS.out] at hSw; obtain ⟨s1, s2⟩ := hSw; go_simp <;> with_reducible rfl
   try simp only [zS, zA, zB]
   refine R4.yaf (i := 3) (d := 77) (v := ?_) rfl (by kernel_rfl) (by kernel_rfl) (by omega) (by kernel_rfl) (by kernel_rfl) (fun _ _ _ h => h) (Or.inl ⟨by rfl, ?_⟩) HS.out ?_
   rotate_left
   ·intro w' hSw; rw [hS.out] at hSw; obtain ⟨s1, s2⟩ := hSw; go_simp <;> with_reducible rfl
   try simp only [zS, zA, zB]
   refine R4.yaf (i := 4) (d := 78) (v := ?_) rfl (by kernel_rfl) (by kernel_rfl) (by omega) (by kernel_rfl) (by kernel_rfl) (fun _ _ _ h => h) (Or.inl ⟨by rfl, ?_⟩) HS.out ?_
   rotate_left
   ·intro w' hSw; rw [hS.out] at hSw; obtain ⟨s1, s2⟩ := hSw; go_simp <;> with_reducible rfl
   try simp only [zS, zA, zB]
   refine R4.yaf (i := 5) (d := 79) (v := ?_) rfl (by kernel_rfl) (by kernel_rfl) (by omega) (by kernel_rfl) (by kernel_rfl) (fun _ _ _ h => h) (Or.inl ⟨by rfl, ?_⟩) HS.out ?_
   rotate_left
   ·intro w' hSw; rw [hS.out] at hSw; obtain ⟨s1, s2⟩ := hSw; go_simp <;> with_reducible rfl
   try simp only [zS, zA, zB]
   refine R4.yaf (i := 6) (d := 80) (v := ?_) rfl (by kernel_rfl) (by kernel_rfl) (by omega) (by kernel_rfl) (by kernel_rfl) (fun _ _ _ h => h) (Or.inl ⟨by rfl, ?_⟩) HS.out ?_
   rotate_left
   ·intro w' hSw; rw [hS.out] at hSw; obtain ⟨s1, s2⟩ := hSw; go_simp <;> with_reducible rfl
   try simp only [zS, zA, zB]
   refine R4.ycg (i := 7) rfl (by kernel_rfl) (by omega) (fun K hK => ?_)
   have HK := zH hK; clear hK; go_simp
   go_at_call 209
   refine (CN.out _).mono ?_; rintro q' w' ⟨rfl, rfl⟩; refine HK.out _ _ HS.out ?_; clear HK K
   try simp only [zS, zA, zB]
   refine R4.ycg (i := 8) rfl (by kernel_rfl) (by omega) (fun K hK => ?_)
   have HK := zH hK; clear hK; go_simp; refine HK.out _ _ HS2.out ?_; clear HK K
   try simp only [zS, zA, zB]
   refine R4.ycg (i := 9) rfl (by kernel_rfl) (by omega) (fun K hK => ?_)
   refine yqb (by rfl) (.tmp 78) (.tmp 82) (by rfl) (by rfl) HA1.out.own HA1.out.len HKN.out (by rfl) ?_
   refine hK _ _ HS3.out ?_; clear hK K; refine R4.yez (i := 9) (d := 83) rfl (by kernel_rfl) ?_
   try simp only [zS, zA, zB]
   refine R4.yaf (i := 10) (d := 84) (v := ?_) rfl (by kernel_rfl) (by kernel_rfl) (by omega) (by kernel_rfl) (by kernel_rfl) (fun _ _ _ h => h) (Or.inl ⟨by rfl, ?_⟩) HS3.out ?_
   rotate_left
   ·intro w' hSw; rw [hS.out] at hSw; obtain ⟨s1, s2⟩ := hSw; go_simp <;> with_reducible rfl
   try simp only [zS, zA, zB]
   refine R4.yaf (i := 11) (d := 85) (v := ?_) rfl (by kernel_rfl) (by kernel_rfl) (by omega) (by kernel_rfl) (by kernel_rfl) (fun _ _ _ h => h) (Or.inl ⟨by rfl, ?_⟩) HS3.out ?_
   rotate_left
   ·intro w' hSw; rw [hS.out] at hSw; obtain ⟨s1, s2⟩ := hSw; go_simp <;> with_reducible rfl
   try simp only [zS, zA, zB]
   refine R4.yey (k := 12) (by omega) (by kernel_rfl) (by kernel_rfl) ?_
   simp only [List.drop_succ_cons, List.drop_zero]
   go_wp2
   go_ret
   have h9 := HP3.out; have h10 := heap_setCell_same _ px 1 _ _ (.slice (some ⟨g, 0, none⟩) (j + 1) c) h9; simp only [zS, zA, zB] at h10
   have hla : (((A.take j).map (up lv p) ++ A.drop j).set j z).take (j + 1) = (A.take j).map (up lv p) ++ [z] := by
    have hjn := HKN.out
    have hl : ((A.take j).map (up lv p)).length = j := by rw [List.length_map, List.length_take, HN.out]; omega
    rw [List.set_append_right _ _ (by omega), hl, Nat.sub_self, List.take_append, hl, List.take_of_length_le (by omega), show j + 1 - j = 1 by omega]
    obtain ⟨y, hy⟩ : ∃ y, A[j]? = some y := ⟨_, List.getElem?_eq_getElem (by rw [HN.out]; exact hjn)⟩
    rw [List.drop_eq_getElem_cons (by rw [HN.out]; exact hjn)]; rfl
   have hob := yzb HA3.out.own HA3.out.len (k := j + 1) HKN.out; rw [hla, List.map_take] at hob; refine ⟨rfl, fun _ => ⟨⟨q3, _, h10, ?_, ?_⟩, HPB.out⟩, ?_, (KP5.out.trans (Kp.ar HA3.out HO5.out)).trans (Kp.px h9)⟩
   ·exact tab_px ((HA3.out.tab HO5.out HT5.out (fun k h => (HFF.out k h).1)).mono fun k h => ⟨fun e => (HFF.out k h).1 (by injection e with e; exact e.symm), h.2⟩) (fun k h => h.2.1) h9
   ·exact own_px hob h9
   ·have hg := (World.ownsRow.lt HO5.out g rfl).1; exact (HB5.out.grown HA3.out.gr (Nat.le_trans HBW.out HB5.out.size) (fun k e => by injection e with e; rw [<- e]; exact hg)).setCell (by show B <= px; exact HPB.out.le) _
theorem yko {B : Nat} {w : World} {px : Nat} {t : ST} (hT : TA U B w px t) {A : List Nat} (hA : t.A = some A) (h8 : Anc A) {lv : Nat} (hl : Lv lv) {E : Int} (hE : movE lv t.L A = E) :
  Calls Tryz.prog 176 #[.pointer (some ⟨px, 0, none⟩), .int .i64 (lv : Nat)] w (MovIs U B px ⟨movL lv t.L A, some (movA lv A)⟩ E w) := by
 have hA2 : t.A.getD [] = A := by rw [hA]; rfl
 unfold movE at hE
 cases hk : lastW lv A with
 | none =>
  rw [hk] at hE
  simp only at hE
  subst hE; exact yuq hT hA2 h8 hl hk _
 | some k =>
  have hkn := (yjh hk).1
  have ha : A[k]? = some (A.getD k 0) := by rw [List.getD_eq_getElem?_getD, List.getElem?_eq_getElem hkn]; rfl
  rw [hk] at hE
  simp only at hE
  by_cases hh : topW lv < wgt lv (A.getD k 0)
  ·rw [if_pos hh] at hE; subst hE; exact yur hT hA2 h8 hl hk ha hh _
  ·rw [if_neg hh] at hE
   cases hf : fullP lv t.L with
   | true =>
    rw [hf, if_pos rfl] at hE; subst hE; exact yus hT hA2 h8 hl hk ha hh hf _
   | false =>
    rw [hf, if_neg (by simp)] at hE
    subst hE; have h := move_go hT hA h8 hl hk ha hh hf rfl; unfold movL movA ancP; rw [hk]; exact h
end Go.Proofs.YteibnfeokgibmaaGreat
