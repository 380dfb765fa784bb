/-
  PACKED for a claim.
-/
import Derived.Test.YtichfdjjbafeiaaGreatP36
import Derived.Test.YtichfdjjbafeiaaGreatP38
set_option linter.unusedVariables false
set_option linter.unusedSimpArgs false
set_option maxRecDepth 100000
namespace Go.Proofs.YtichfdjjbafeiaaGreat
open Go.RowKit
structure TA (B : Nat) (w : World) (px : Nat) (t : ST) : Prop where
 blk : ∃ q va, w.heap[px]? = some (.cells #[.pointer (some ⟨q, 0, none⟩), va, .bool t.A.isSome] 80 (0, 0)) /\ TabAt (fun k => va.ownBlock ≠ some k /\ k ≠ px) w q t.L /\ OwnE B w va (t.A.getD [])
 bel : B <= px
theorem TA.lt {B : Nat} {w : World} {px : Nat} {t : ST} (h : TA B w px t) : px < w.heap.size := by
 obtain ⟨⟨q, va, h1, h2, h3⟩, h4⟩ := h; exact R4.yac h1
theorem TA.below {B : Nat} {w w' : World} {px : Nat} {t : ST} (h : TA B w px t) (hb : Below w.heap.size w w') : TA B w' px t := by
 obtain ⟨⟨q, va, h1, h2, h3⟩, h4⟩ := h; exact ⟨⟨q, va, (hb.block _ (R4.yac h1)).trans h1, h2.below hb (zN _), R4.yah h3 hb (zN _)⟩, h4⟩
theorem TA.cells {B : Nat} {w : World} {px : Nat} {t : ST} (h : TA B w px t) {A : List Nat} (hA : t.A.getD [] = A) : ∃ (q : Nat) (Aa : Option Addr) (c : Nat), w.cell? ⟨px, 0, none⟩ = some (.pointer (some ⟨q, 0, none⟩)) /\ w.cell? ⟨px, 1, none⟩ = some (.slice Aa A.length c) /\ w.cell? ⟨px, 2, none⟩ = some (.bool t.A.isSome) ∧
  w.frozen? ⟨px, 0, none⟩ = false /\ w.frozen? ⟨px, 1, none⟩ = false /\ w.frozen? ⟨px, 2, none⟩ = false /\ TabAt (fun k => (Value.slice Aa A.length c).ownBlock ≠ some k /\ k ≠ px) w q t.L /\ OwnE B w (.slice Aa A.length c) A /\ RdE anyB w (.slice Aa A.length c) A := by
 subst hA; obtain ⟨⟨q, va, h1, h2, h3⟩, h4⟩ := h; have h5 := OwnE.rd (F := anyB) h3 fun _ _ => trivial
 obtain ⟨Aa, c, rfl⟩ := h5.form; exact ⟨q, Aa, c, by rw [cell_of_row w px 0 _ _ _ h1]; rfl, by rw [cell_of_row w px 1 _ _ _ h1]; rfl, by rw [cell_of_row w px 2 _ _ _ h1]; rfl, frozen_of_row w px 0 _ _ h1, frozen_of_row w px 1 _ _ h1, frozen_of_row w px 2 _ _ h1, h2, h3, h5⟩
def lastI (lv : Nat) (A : List Nat) : Int := match lastW lv A with
 | none => -1
 | some k => k
theorem ynx {lv : Nat} {A : List Nat} {n x : Nat} (hx : A[n]? = some x) : lastF lv A (n + 1) = if wgt lv x = 0 then lastF lv A n else some n := by
 rw [lastF, List.getD_eq_getElem?_getD, hx]; rfl
set_option maxHeartbeats 1000000 in
theorem yca {B : Nat} {w : World} {px : Nat} {t : ST} (hT : TA B w px t) {A : List Nat} (hA : t.A.getD [] = A) (h8 : Anc A) {lv : Nat} (hl : Lv lv) {r : Int} (hr : lastI lv A = r) :
  Calls Tryz.prog 153 #[.pointer (some ⟨px, 0, none⟩), .int .i64 (lv : Nat)] w fun q w' => q = .returned (.int .i64 r) /\ w = w' := by
 obtain ⟨q, Aa, c, -, c1, -, -, -, -, -, -, hrd⟩ := hT.cells hA; have HR := zH hrd; have H8 := zH h8; have HL := zH hl; have HI := zH hr; obtain ⟨n0, hn0⟩ : ∃ n0, A.length = n0 := ⟨_, rfl⟩; have HN := zH hn0; have hn8 := h8.1; rw [hn0] at c1 hn8
 have hnI : (n0 : Int) <= 8 := by omega
 clear hT hA h8 hl hr hrd; rw [hn0] at HR
 have hwr : IntKind.i64.wrap ((n0 : Int) - 1) = (n0 : Int) - 1 := by rw [IntKind.wrap_i64]; omega
 clear hn0
 go_enter Tryz.func153, Tryz.ntmps153
 go_wp2
 go_loop [5] (fun i => ∃ n : Nat, n <= n0 /\ i = .int .i64 ((n : Int) - 1) /\ Hid (lastF lv A n = lastW lv A)) (fun i => (intOf i + 1).toNat)
 case atStart => exact ⟨n0, zN _, rfl, by show _ = _; unfold lastW; rw [HN.out]⟩
 case round =>
  obtain ⟨n, hn, rfl, HE⟩ := hrel
  cases n with
  | zero =>
   have h0 : ¬ (0 : Int) <= ((0 : Nat) : Int) - 1 := by omega
   have h0b : decide ((0 : Int) <= ((0 : Nat) : Int) - 1) = false := decide_eq_false h0
   have HF : Hid (((0 : Nat) : Int) - 1 = r) := by
    have h2 := HE.out
    show _ = _
    rw [<- HI.out]; unfold lastI; rw [<- h2]; rfl
   obtain ⟨z, hz⟩ : ∃ z : Int, ((0 : Nat) : Int) - 1 = z := ⟨_, rfl⟩; rw [hz] at h0 h0b HF |-; clear hz
   go_wp2
   go_ret
   exact ⟨by rw [HF.out]; rfl, rfl⟩
  | succ n =>
   obtain ⟨x, hx⟩ : ∃ x, A[n]? = some x := ⟨_, List.getElem?_eq_getElem (by have := HN.out; omega)⟩
   obtain ⟨g, o, rfl, c2⟩ := RdE.at HR.out hx; have hxl := H8.out.2 x (List.mem_of_getElem? hx); have hst := ynx (lv := lv) hx; rw [HE.out] at hst; obtain ⟨p, hp⟩ : ∃ p, wgt lv x = p := ⟨_, rfl⟩; have CW := zH (fun w => ybd HL.out hp hxl w)
   rw [hp] at hst
   have e1 : ((n + 1 : Nat) : Int) - 1 = (n : Int) := by omega
   rw [e1]
   have hn1 : (0 : Int) <= (n : Int) := by omega
   have hn2 : (n : Int) < (n0 : Int) := by omega
   by_cases hp0 : p = 0
   ·rw [if_pos hp0] at hst; have HS := zH hst.symm
    have hpI : (p : Int) = 0 := by omega
    have hwn : IntKind.i64.wrap ((n : Int) - 1) = (n : Int) - 1 := by rw [IntKind.wrap_i64]; omega
    have hpb : ((p : Int) == 0) = true := by simp [hpI]
    clear hx hxl hst hp hp0 hpI e1
    go_wp2_with (go_at_call 17; refine (CW.out _).mono ?_; rintro q w' ⟨rfl, rfl⟩)
    go_round
    case rel => exact ⟨n, by omega, rfl, HS.out⟩
    case measure => simp [intOf] <;> omega
   ·rw [if_neg hp0] at hst
    have HF : Hid (r = (n : Int)) := by
     show _ = _
     rw [<- HI.out]; unfold lastI; rw [hst]
    have hpb : ((p : Int) == 0) = false := by rw [beq_eq_false_iff_ne]; omega
    clear hx hxl hst hp hp0 e1
    go_wp2_with (go_at_call 17; refine (CW.out _).mono ?_; rintro q w' ⟨rfl, rfl⟩)
    go_ret
    exact ⟨by rw [HF.out]; rfl, rfl⟩
theorem ynq (lv fr : Nat) (w : World) :
  Calls Tryz.prog 156 #[.int .i64 (lv : Nat), .int .i64 (fr : Nat)] w fun q w' => (∃ b1 b2, q = .returned (.func (.func 175) #[] #[.pointer (some ⟨b1, 0, none⟩), .pointer (some ⟨b2, 0, none⟩)]) /\ w'.heap[b1]? = some (.cells #[.int .i64 (lv : Nat)] 3 (0, 0)) /\ w'.heap[b2]? = some (.cells #[.int .i64 (fr : Nat)] 3 (0, 0))) /\ Below w.heap.size w w' := by
 have hmf : ∀ (fn : Fn) (first cap : Array Value) (w : World), (Instr.makeFunc fn first cap).run Tryz.prog w = .ok (.func fn first cap) w := fun _ _ _ _ => rfl
 have hb1 := yab w (.cells #[.int .i64 (lv : Nat)] 3); have hb2 := yab (w.alloc (.cells #[.int .i64 (lv : Nat)] 3)) (.cells #[.int .i64 (fr : Nat)] 3); have c1 := heap_alloc_new w (.cells #[.int .i64 (lv : Nat)] 3); have C1 := zH ((hb2.block _ (R4.yac c1)).trans c1); have C2 := zH (heap_alloc_new (w.alloc (.cells #[.int .i64 (lv : Nat)] 3)) (.cells #[.int .i64 (fr : Nat)] 3)); rw [World.size_alloc] at C2; have HB := zH (hb1.trans (hb2.mono hb1.size)); clear hb1 hb2 c1
 go_enter Tryz.func156, Tryz.ntmps156
 go_wp2
 go_ret
 exact ⟨⟨_, _, rfl, C1.out, C2.out⟩, HB.out⟩
def fuE (lv : Nat) (e : PE) : Bool := e.2.any fun x => wgt lv x == topW lv
theorem yna {α : Type} {q : α -> Bool} {l : List α} {k : Nat} {x : α} (hx : l[k]? = some x) (h : (l.take k).any q = false) (hq : q x = false) : (l.take (k + 1)).any q = false := by
 rw [List.take_add_one, hx, List.any_append, h]; simp [hq]
theorem any_at {α : Type} {q : α -> Bool} {l : List α} {k : Nat} {x : α} (hx : l[k]? = some x) (hq : q x = true) : l.any q = true := List.any_eq_true.2 ⟨x, List.mem_of_getElem? hx, hq⟩
set_option maxHeartbeats 2000000 in
theorem yho {B : Nat} {w : World} {px : Nat} {t : ST} (hT : TA B w px t) {lv : Nat} (hl : Lv lv) {b : Bool} (hb : fullP lv t.L = b) :
  Calls Tryz.prog 155 #[.pointer (some ⟨px, 0, none⟩), .int .i64 (lv : Nat)] w fun q w' => q = .returned (.bool b) /\ Below w.heap.size w w' := by
 obtain ⟨q, Aa, c, c0, -, -, -, -, -, hTab, -, -⟩ := hT.cells rfl; obtain ⟨L, hL⟩ : ∃ L, t.L = L := ⟨_, rfl⟩; rw [hL] at hTab hb; obtain ⟨tp, htp⟩ : ∃ tp, topW lv = tp := ⟨_, rfl⟩; have HTP := zH htp; have HE := zH (yle hTab); have HG := zH hTab.good; have HBB := zH hb; have HL := zH hl; have CG := zH (fun w => ybu hl htp w)
 obtain ⟨n, hn⟩ : ∃ n, L.length = n := ⟨_, rfl⟩; have HN := zH hn; have hlen := hTab.good.len; rw [hn] at HE hlen
 have hnI : (n : Int) <= 500 := by omega
 clear hT hTab hb hl hL htp hn
 go_enter Tryz.func155, Tryz.ntmps155
 go_wp2_with (go_at_call 16; refine (HE.out).mono ?_; rintro e w1 ⟨⟨A1, c1, rfl, hr⟩, hb1⟩; have HRT := zH hr; have HB1 := zH hb1; clear hr hb1)
 clear c0
 go_loopw [15] (fun i wr => ∃ k : Nat, k <= n /\ i = .int .i64 (k : Nat) /\ Hid ((L.take k).any (fuE lv) = false) /\ Hid (Below w1.heap.size w1 wr)) (fun i _ => n - (intOf i).toNat)
 case atStart => exact ⟨0, Nat.zero_le _, rfl, rfl, zR _ _⟩
 case round =>
  obtain ⟨k, hk, rfl, HA, HB⟩ := hrel; obtain ⟨wo, rfl⟩ : ∃ wo, wo = wr := ⟨_, rfl⟩
  by_cases hlt : k < n
  ·obtain ⟨e, he⟩ : ∃ e, L[k]? = some e := ⟨_, List.getElem?_eq_getElem (by rw [HN.out]; exact hlt)⟩
   obtain ⟨g, o, vs, vl, rfl, e0, e1, hri, hre⟩ := (HRT.out.below HB.out (zN _)).at he; obtain ⟨A2, k2, rfl⟩ := hri.form; obtain ⟨A3, k3, rfl⟩ := hre.form; have HEE := zH he
   have hkI : (k : Int) < (n : Int) := by omega
   have hl8 := (HG.out.els e (List.mem_of_getElem? he)).1; have hlw := zH (HG.out.els e (List.mem_of_getElem? he)).2; obtain ⟨n2, hn2⟩ : ∃ n2, e.2.length = n2 := ⟨_, rfl⟩; have HN2 := zH hn2; rw [hn2] at e1 hl8 hre
   have hl8I : (n2 : Int) <= 8 := by omega
   have HXX := yab wo (.cells #[.slice A2 e.1.length k2, .slice A3 n2 k3] 45); have HREX := zH (RdF.below hre HXX (zN _)); have HBX := zH (HB.out.trans (HXX.mono HB.out.size))
   have HX1 : (wo.alloc (.cells #[.slice A2 e.1.length k2, .slice A3 n2 k3] 45)).cell? ⟨wo.heap.size, 1, none⟩ = some (.slice A3 n2 k3) := by rw [cell_of_row _ _ 1 _ _ _ (heap_alloc_new wo _)]; rfl
   clear hri hre he hlt hn2 HXX
   go_wp2
   generalize (wo.alloc (.cells #[.slice A2 e.1.length k2, .slice A3 n2 k3] 45)) = wx at HREX HBX HX1 |-; clear e0 e1 HX1
   go_loopw [22] (fun i wq => ∃ j : Nat, j <= n2 /\ i = .int .i64 (j : Nat) /\ Hid ((e.2.take j).any (fun x => wgt lv x == topW lv) = false) /\ wq = wx) (fun i _ => n2 - (intOf i).toNat)
   case atStart => exact ⟨0, Nat.zero_le _, rfl, rfl, rfl⟩
   case round =>
    obtain ⟨j, hj, rfl, HJ, rfl⟩ := hrel
    by_cases hjl : j < n2
    ·obtain ⟨x, hx⟩ : ∃ x, e.2[j]? = some x := ⟨_, List.getElem?_eq_getElem (by rw [HN2.out]; exact hjl)⟩
     obtain ⟨g5, o5, rfl, c5⟩ := RdE.at (by have h := HREX.out; have h2 := HN2.out; rw [<- h2] at h; exact h) hx
     have hxl := hlw.out x (List.mem_of_getElem? hx); obtain ⟨p, hp⟩ : ∃ p, wgt lv x = p := ⟨_, rfl⟩; have CW := zH (fun w => ybd HL.out hp hxl w)
     have hjI : (j : Int) < (n2 : Int) := by omega
     by_cases hpt : p = tp
     ·have HF : Hid (fullP lv L = true) := any_at HEE.out (any_at hx (by rw [hp, HTP.out, hpt]; simp))
      have hpb : ((p : Int) == (tp : Int)) = true := by rw [hpt]; simp
      clear hx hxl hp hpt hjl
      go_wp2_with (first | (go_at_call 17; refine (CW.out _).mono ?_; rintro q w' ⟨rfl, rfl⟩) | (go_at_call 154; refine (CG.out _).mono ?_; rintro q w' ⟨rfl, rfl⟩))
      go_ret
      exact ⟨by rw [<- HBB.out, HF.out]; rfl, HB1.out.trans (HBX.out.mono HB1.out.size)⟩
     ·have HJ2 := zH (yna hx HJ.out (by rw [hp, HTP.out]; simpa using hpt))
      have hpb : ((p : Int) == (tp : Int)) = false := by rw [beq_eq_false_iff_ne]; omega
      clear hx hxl hp hpt hjl
      go_wp2_with (first | (go_at_call 17; refine (CW.out _).mono ?_; rintro q w' ⟨rfl, rfl⟩) | (go_at_call 154; refine (CG.out _).mono ?_; rintro q w' ⟨rfl, rfl⟩))
      go_roundw
      case rel => exact ⟨j + 1, by omega, by go_num, HJ2.out, trivial⟩
      case measure => simp [intOf] <;> omega
    ·obtain rfl : j = n2 := by omega
     have HJ2 : Hid ((L.take (k + 1)).any (fuE lv) = false) := yna HEE.out HA.out (by have h := HJ.out; have h2 := HN2.out; rw [<- h2, List.take_length] at h; exact h)
     clear hjl
     go_wp2
     go_roundw
     case rel => exact ⟨k + 1, by omega, by go_num, HJ2.out, HBX.out⟩
     case measure => simp [intOf] <;> omega
  ·obtain rfl : k = n := by omega
   have HF : Hid (fullP lv L = false) := by have h := HA.out; have h2 := HN.out; rw [<- h2, List.take_length] at h; exact h
   clear hlt
   go_wp2
   go_ret
   exact ⟨by rw [<- HBB.out, HF.out]; rfl, HB1.out.trans (HB.out.mono HB1.out.size)⟩
set_option maxHeartbeats 2000000 in
theorem yep {B : Nat} {w : World} {px : Nat} {t : ST} (hT : TA B w px t) {L : List PE} (hL : t.L = L) {sv : Value} {ss : List Int} (hs : RdI anyB w sv ss) (hI : I64 ss) (hl : ss.length <= 100000) :
  Calls Tryz.prog 121 #[.pointer (some ⟨px, 0, none⟩), sv] w (GotE w.heap.size w (elsP L ss)) := by
 subst hL; obtain ⟨q, Aa, c, c0, -, -, -, -, -, hTab, -, -⟩ := hT.cells rfl; obtain ⟨L, hL⟩ : ∃ L, t.L = L := ⟨_, rfl⟩; rw [hL] at hTab |-; obtain ⟨As, cs, rfl⟩ := hs.form; have HT := zH hTab; have HS := zH hs; have HI := zH hI; have HC0 := zH c0; obtain ⟨n, hn⟩ : ∃ n, ss.length = n := ⟨_, rfl⟩; have HN := zH hn; rw [hn] at hl HS |-
 have hnI : (n : Int) <= 100000 := by omega
 clear hT hTab hs hI hL hn c0
 go_enter Tryz.func121, Tryz.ntmps121
 go_wp2
 go_loopw [5, 6] (fun a i wr => ∃ (acc : List Nat) (k : Nat), k <= n /\ i = .int .i64 (k : Nat) /\ Hid (OwnE w.heap.size wr a acc) /\ Hid (acc ++ elsP L (ss.drop k) = elsP L ss) /\ acc.length <= 8 * k /\ Hid (Below w.heap.size w wr)) (fun _ i _ => n - (intOf i).toNat)
 case atStart => exact ⟨[], 0, Nat.zero_le _, rfl, World.ownsRow_nil _ _ _ _, by show _ = _; rw [List.drop_zero]; rfl, by simp, zR _ _⟩
 case round =>
  obtain ⟨acc, k, hk, rfl, HO, HE, hacc, HB⟩ := hrel
  by_cases hlt : k < n
  ·obtain ⟨l, hl1⟩ : ∃ l, (atP L (ss.drop k)).1 = l := ⟨_, rfl⟩; obtain ⟨u, hu1⟩ : ∃ u, (atP L (ss.drop k)).2 = u := ⟨_, rfl⟩
   have hR : atP L (ss.drop k) = (l, u) := by rw [<- hl1, <- hu1]
   have h0 : 0 < (ss.drop k).length := by rw [List.length_drop, HN.out]; omega
   have hu := ydj L h0; have hgd := yel HT.out.good (ss.drop k); have hst := ycz L h0; rw [hR] at hu hgd hst
   simp only at hu hgd hst
   rw [List.length_drop, HN.out] at hu; have HC := zH (at_in (HT.out.below HB.out (zN _)) (RdI.below HS.out HB.out (zN _) |> fun h => by have h2 := HN.out; rw [<- h2] at h; exact h) HI.out (by rw [HN.out]; omega) (by rw [HN.out]; exact hlt) hR)
   rw [HN.out] at HC
   have HE2 : Hid ((acc ++ l) ++ elsP L (ss.drop (k + u)) = elsP L ss) := by
    show _ = _
    rw [List.append_assoc, <- List.drop_drop, <- hst]; exact HE.out
   have hl8 : l.length <= 8 := hgd.1
   have hkI : (k : Int) < (n : Int) := by omega
   have hku : k + u <= n := by omega
   have hkuI : (k : Int) + (u : Int) <= (n : Int) := by omega
   have hu1' : 1 <= u := hu.1
   have cx := (HB.out.cell (p := ⟨px, 0, none⟩) (yag HC0.out)).trans HC0.out
   have hwr : IntKind.i64.wrap ((k : Int) + (u : Int)) = ((k + u : Nat) : Int) := by rw [IntKind.wrap_i64]; omega
   clear hl1 hu1 hR h0 hu hgd hst hlt
   go_wp2_with (first
    | (go_at_call 152; refine (HC.out).mono ?_; rintro e w2 ⟨⟨A3, n3, c3, rfl, hr⟩, hb⟩; obtain ⟨-, hn3⟩ := RdF.cap hr; subst hn3; have HRL := zH hr; have HO2 := zH (R4.yah HO.out hb (zN _)); have HW2 := zH (HB.out.trans (hb.mono HB.out.size)); clear hr hb cx)
    | (at_builtin; refine appendE rfl (.tmp 23) (.tmp 24) rfl _ w.heap.size _ acc l rfl HO2.out rfl HRL.out HW2.out.size (by omega) ?_; intro v4 w4 h4 hb4; have HO4 := zH h4; have HW4 := zH (HW2.out.trans hb4); clear h4 hb4))
   go_roundw
   case rel => exact ⟨acc ++ l, k + u, hku, by first | rfl | go_num | (congr 1; omega), HO4.out, HE2.out, by rw [List.length_append]; omega, HW4.out⟩
   case measure => simp [intOf] <;> omega
  ·obtain rfl : k = n := by omega
   have HEE : Hid (acc = elsP L ss) := by
    have h := HE.out; rw [List.drop_of_length_le (by rw [HN.out]; exact zN _), ycb, List.append_nil] at h
    exact h
   clear hlt HE
   go_wp2
   go_ret
   exact ⟨_, rfl, by rw [<- HEE.out]; exact HO.out, HB.out⟩
theorem tab_px {F : Nat -> Prop} {w : World} {px q i : Nat} {L : List PE} {u v : Value} {b : Bool} {A : Option Addr} (h : TabAt F w q L) (hF : ∀ k, F k -> k ≠ px) (hp : w.heap[px]? = some (.cells #[.pointer A, u, .bool b] 80 (0, 0))) : TabAt F (w.setCell ⟨px, i, none⟩ v) q L := by
 refine h.off hF (R4.yak w ⟨px, i, none⟩ v) hp (by decide) (by decide) (by decide) (by decide) ?_
 intro o u1 u2 s1 s2 c1 c2
 exfalso
 rw [cell_of_row w px o _ _ _ hp] at c1; rw [cell_of_row w px (o + 1) _ _ _ hp] at c2; obtain ⟨A1, n1, k1, rfl⟩ := s1; obtain ⟨A2, n2, k2, rfl⟩ := s2
 rcases o with _ | _ | o
 ·cases c1
 ·cases c2
 ·simp at c2
theorem own_px {B : Nat} {w : World} {px i : Nat} {l : List Nat} {va v : Value} {cs : Array Value} (h : OwnE B w va l) (hp : w.heap[px]? = some (.cells cs 80 (0, 0))) : OwnE B (w.setCell ⟨px, i, none⟩ v) va l := by
 refine World.ownsRow.kept h (R4.yak w ⟨px, i, none⟩ v) (.inr fun e => ?_)
 exact R4.yai h hp (by decide) e.symm
theorem ytw {B : Nat} {w : World} {g n c k : Nat} {l : List Nat} (h : OwnE B w (.slice (some ⟨g, 0, none⟩) n c) l) (hn : l.length = n) (hk : k <= n) : OwnE B w (.slice (some ⟨g, 0, none⟩) k c) (l.take k) := by
 unfold OwnE World.ownsRow at *; obtain ⟨h1, h2 | ⟨g', cap, cur, e, hB, hh, h3, h4, h5, h6⟩⟩ := h
 ·cases h2.1
 ·injection e with e1 e2 e3
  injection e1 with e1
  injection e1 with e1
  subst e1 e3
  have hl : (l.take k).length = k := by rw [List.length_take]; omega
  refine ⟨by rw [ev_len, hl, Nat.mul_one], .inr ⟨g, c, cur, by rw [hl], hB, hh, by omega, h4, h5, ?_⟩⟩
  rw [hl, Nat.mul_one]; rw [hn, Nat.mul_one] at h6
  have : ev (l.take k) = (ev l).take k := by unfold ev; rw [List.map_take]
  rw [this, <- h6, List.take_take, Nat.min_eq_left hk]
theorem ywt {B : Nat} {w : World} {A : Option Addr} {n c : Nat} {l : List Nat} (h : OwnE B w (.slice A n c) l) (hn : l.length = n) : w.ownsRow B 47 1 (.slice A n c) n (ev l) := by
 subst hn; exact h
structure AR (B : Nat) (w5 : World) (g n c : Nat) (l : List Nat) (wq : World) : Prop where
 gr : w5.grownBy wq (some g)
 keep : ∀ p u, IsSl u -> w5.cell? p = some u -> wq.cell? p = some u
 raw : wq.ownsRow B 47 1 (.slice (some ⟨g, 0, none⟩) n c) n (ev l)
 len : l.length = n
theorem AR.own {B : Nat} {w5 : World} {g n c : Nat} {l : List Nat} {wq : World} (h : AR B w5 g n c l wq) : OwnE B wq (.slice (some ⟨g, 0, none⟩) n c) l := by
 have h1 := h.raw; unfold OwnE; rw [h.len]; exact h1
theorem AR.start {B : Nat} {w5 : World} {g n c : Nat} {l : List Nat} (h : OwnE B w5 (.slice (some ⟨g, 0, none⟩) n c) l) (hn : l.length = n) : AR B w5 g n c l w5 := ⟨World.grownBy.refl _ _, fun _ _ _ h => h, ywt h hn, hn⟩
theorem AR.put {B : Nat} {w5 : World} {g n c : Nat} {l : List Nat} {wq : World} (h : AR B w5 g n c l wq) {j : Nat} (hj : j < n) (y : Nat) : AR B w5 g n c (l.set j y) (wq.setCell ⟨g, j, none⟩ (.int .u32 (y : Nat))) := by
 obtain ⟨s1, g1⟩ := World.ownsRow.stored h.raw j (.int .u32 (y : Nat)); have hl := h.len; refine ⟨h.gr.trans (R4.yak wq ⟨g, j, none⟩ _), fun p u hu hp => ?_, ?_, by rw [List.length_set]; exact hl⟩
 ·have hq := h.keep p u hu hp
  by_cases e : (⟨g, j, none⟩ : Addr) = p
  ·subst e; have h7 := World.ownsRow.cellAt h.raw j (by omega)
   rw [h7] at hq
   have h8 : (ev l)[j]? = some (.int .u32 ((l[j]'(by omega) : Nat) : Int)) := ev_at (List.getElem?_eq_getElem _)
   rw [h8] at hq; obtain ⟨A, m, k, rfl⟩ := hu
   cases hq
  ·rw [World.cell?_setCell_other _ _ _ _ e]; exact hq
 ·have e : (ev l).set j (.int .u32 (y : Nat)) = ev (l.set j y) := by unfold ev; rw [List.map_set]
  rw [e] at s1; exact s1
theorem AR.more {B : Nat} {w5 : World} {g n c : Nat} {l : List Nat} {wq w' : World} (h : AR B w5 g n c l wq) (hb : Below wq.heap.size wq w') : AR B w5 g n c l w' :=
 ⟨h.gr.trans ⟨hb.os, hb.tape, hb.output, hb.size, fun k hk _ => hb.block k hk⟩, fun p u hu hp => yae hb (h.keep p u hu hp), R4.yah h.raw hb (zN _), h.len⟩
theorem AR.slot {B : Nat} {w5 : World} {g n c : Nat} {l : List Nat} {wq : World} (h : AR B w5 g n c l wq) {j x : Nat} (hj : l[j]? = some x) : wq.cell? ⟨g, j, none⟩ = some (.int .u32 (x : Nat)) /\ wq.frozen? ⟨g, j, none⟩ = false := by
 refine ⟨?_, World.ownsRow.frozenAt h.raw j⟩; have h1 := (List.getElem?_eq_some_iff.1 hj).1; have h2 := h.len; rw [World.ownsRow.cellAt h.raw j (by omega)]
 exact ev_at hj
theorem AR.blk {B : Nat} {w5 : World} {g n c : Nat} {l : List Nat} {wq : World} (h : AR B w5 g n c l wq) : ∃ cs, wq.heap[g]? = some (.cells cs 47 (0, 0)) := R4.ybq h.raw rfl
theorem AR.tab {B : Nat} {w5 : World} {g n c : Nat} {l l0 : List Nat} {wq : World} (h : AR B w5 g n c l wq) (h0 : OwnE B w5 (.slice (some ⟨g, 0, none⟩) n c) l0) {F : Nat -> Prop} {p : Nat} {L : List PE} (ht : TabAt F w5 p L) (hF : ∀ k, F k -> k ≠ g) : TabAt F wq p L := by
 obtain ⟨cs, hx⟩ := R4.ybq h0 rfl; exact ht.off hF h.gr hx (by decide) (by decide) (by decide) (by decide) fun o u1 u2 s1 s2 c1 c2 => ⟨h.keep _ _ s1 c1, h.keep _ _ s2 c2⟩
theorem AR.other {B : Nat} {w5 : World} {g n c : Nat} {l l0 : List Nat} {wq : World} (h : AR B w5 g n c l wq) (h0 : OwnE B w5 (.slice (some ⟨g, 0, none⟩) n c) l0) {k : Nat} {cs : Array Value} {T : TypeId} {fr : Nat × Nat} (hk : w5.heap[k]? = some (.cells cs T fr)) (hT : T ≠ 47) : wq.heap[k]? = some (.cells cs T fr) :=
 (h.gr.block k (R4.yac hk) (R4.yai h0 hk hT)).trans hk
theorem ynj {w : World} {g k : Nat} {cur : Array Value} {e : TypeId} {fr : Nat × Nat} {v : Value} (hg : w.heap[g]? = some (.cells cur e fr)) (hk : k < cur.size) : w.setRow g (cur.toList.take k ++ [v] ++ cur.toList.drop (k + 1)).toArray = w.setCell ⟨g, k, none⟩ v := by
 unfold World.setRow World.setCell; have hlt := (Array.getElem?_eq_some_iff.1 hg).1; have hv := (Array.getElem?_eq_some_iff.1 hg).2
 congr 1
 apply Array.ext
 ·simp
 ·intro i h1 h2; rw [Array.getElem_modify, Array.getElem_modify]
  by_cases ei : g = i
  ·subst ei; rw [if_pos rfl, if_pos rfl, hv]; simp only [Option.isSome_none, Bool.false_eq_true, if_false]
   congr 1
   apply Array.toList_inj.1
   rw [Array.toList_setIfInBounds, List.append_assoc]; simp only [List.set_eq_take_append_cons_drop]; rw [if_pos (by simpa using hk)]
   rfl
  ·rw [if_neg ei, if_neg ei]
theorem ynf {ops : Array Oper} {o : Oper} {a : Act} {w0 : World} {K : Act -> World -> Prop} {Q : Exit -> Act -> World -> Prop} {E : Prop} (hgd : o.guard = none) (s x : Operand)
  (ho : o.op = .call { callee := .builtin .append, args := #[s, x], argTypes := #[43, 43] })
  {B g k n c z C : Nat} {l : List Nat} (hs : a.eval s = .slice (some ⟨g, 0, none⟩) k c) (hown : OwnE B w0 (.slice (some ⟨g, 0, none⟩) n c) l) (hn : l.length = n) (hk : k < n) (hx : a.eval x = .slice (some ⟨w0.heap.size, 0, none⟩) 1 C)
  (h : K (a.put o.dst (.slice (some ⟨g, 0, none⟩) (k + 1) c)) ((w0.alloc (.cells #[.int .u32 (z : Nat)] 47)).setCell ⟨g, k, none⟩ (.int .u32 (z : Nat)))) :
  if Region.wanted o (yielded ops a.tmps) = true then Oper.wp Tryz.prog o a (w0.alloc (.cells #[.int .u32 (z : Nat)] 47)) K Q else E := by
 have hw : Region.wanted o (yielded ops a.tmps) = true := by simp [Region.wanted, hgd]
 rw [if_pos hw]; obtain ⟨i0, hi0, hz0, hz1, hz2⟩ := info_parts ycf; have hown2 := World.ownsRow.alloc hown (.cells #[.int .u32 (z : Nat)] 47); obtain ⟨h1, h2 | ⟨g', cap, cur, e, hB, hh, h3, h4, h5, h6⟩⟩ := hown2
 ·cases h2.1
 ·injection e with e1 e2 e3
  injection e1 with e1
  injection e1 with e1
  subst e1 e3
  have hsz : n <= cur.size := by omega
  have hrun := run_append_room (P := Tryz.prog) (w := w0.alloc (.cells #[.int .u32 (z : Nat)] 47)) 43 o.type 47 i0 Tryz.underlying43 hi0 g k c cur hh ⟨w0.heap.size, 0, none⟩ 1 C [.int .u32 (z : Nat)] (by rw [hz1]; rfl) (R4.yap w0 [.int .u32 (z : Nat)] _) (by intro u hu; simp at hu; subst hu; rfl) (by omega) (by rw [hz1]; simp; omega)
  rw [hz1, Nat.mul_one, show ([Value.int .u32 (z : Nat)] : List Value).length = 1 from rfl, ynj hh (by omega)] at hrun
  unfold Oper.wp
  simp [execOp, ho, resolve, invoke, builtin, hs, hx, hrun, Result.andThen]
  exact h
theorem yjl {f : Nat -> Nat} {A : List Nat} {j k x : Nat} (hk : k <= A.length) (hj : A[j]? = some x) (hjk : j < k) : ((A.take j).map f ++ A.drop j).set j (f x) = (A.take (j + 1)).map f ++ A.drop (j + 1) := by
 have hlt := (List.getElem?_eq_some_iff.1 hj).1
 have hl : ((A.take j).map f).length = j := by rw [List.length_map, List.length_take]; omega
 rw [List.set_append_right _ _ (by omega), hl, Nat.sub_self, List.take_add_one, hj, List.drop_eq_getElem_cons hlt, zA]
 simp
theorem yri (n : Nat) (h0 : 0 < n) (hn : n <= 1000) (w : World) :
  Calls Tryz.prog 160 #[.slice none 0 0, .int .i64 (n : Int)] w fun e w' => (∃ A c, e = .returned (.slice A 0 c) /\ OwnE w.heap.size w' (.slice A 0 c) []) /\ Below w.heap.size w w' := by
 obtain ⟨i0, hi0, hz0, hz1, hz2⟩ := info_parts ycf
 have hrun : ∀ ty, (Builtin.append_ #[43, 3] ty #[.slice none 0 0, .int .i64 (n : Int)]).run Tryz.prog w = _ := fun ty =>
  Lib.run_append_nil_zeros w 43 3 ty 47 i0 _ .i64 .i64 Tryz.underlying43 Tryz.underlying3 hi0 hz0 n h0 (by omega) (by omega) (by rw [hz2]; omega)
 obtain ⟨G, hG⟩ : ∃ G, grownCap w n 0 47 = G := ⟨_, rfl⟩; have hge := grownCap_ge w n 0 47; have hle := grownCap_le_maxLen w n 0 47 (by simp only [maxLen]; omega)
 rw [hG] at hrun hge hle; obtain ⟨CS, hCS⟩ : ∃ CS, Builtin.zeroCells (Value.int .u32 0).cells n ++ Builtin.zeroCells (Value.int .u32 0).cells (G - n) = CS := ⟨_, rfl⟩
 have hsz : CS.size = G * 1 := by
  rw [<- hCS, Array.size_append, size_zeroCells, size_zeroCells]
  have : (Value.int .u32 0).cells.size = 1 := rfl
  rw [this]; omega
 rw [hCS] at hrun; have HR := zH hrun; have HO := zH (World.ownsRow_made (base := w.heap.size) (e := 47) (size := 1) w.drew CS G (zN _) hle hsz)
 have hGI : (0 : Int) <= (G : Int) := by omega
 have hnI : (n : Int) <= 1000 := by omega
 have hnp : (0 : Int) < (n : Int) := by omega
 clear hrun hge hG hCS hsz hi0 hz0 hz1 hz2
 go_enter Tryz.func160, Tryz.ntmps160
 go_wp2_with (at_builtin; refine Lib.wpList_append_run _ rfl _ _ _ _ rfl _ _ rfl rfl _ _ (HR.out _) ?_)
 go_ret
 exact ⟨⟨_, _, rfl, HO.out⟩, ((zR _ w).drew).alloc (zN _) _⟩
theorem yoa (w : World) :
  Calls Tryz.prog 160 #[.slice none 0 0, .int .i64 0] w fun e w' => (∃ A c, e = .returned (.slice A 0 c) /\ OwnE w.heap.size w' (.slice A 0 c) []) /\ Below w.heap.size w w' := by
 go_enter Tryz.func160, Tryz.ntmps160
 go_wp2
 go_ret
 exact ⟨⟨_, _, rfl, World.ownsRow_nil _ _ _ _⟩, zR _ _⟩
theorem yrj (n : Nat) (hn : n <= 1000) (w : World) :
  Calls Tryz.prog 160 #[.slice none 0 0, .int .i64 (n : Int)] w fun e w' => (∃ A c, e = .returned (.slice A 0 c) /\ OwnE w.heap.size w' (.slice A 0 c) []) /\ Below w.heap.size w w' := by
 rcases Nat.eq_zero_or_pos n with h | h
 ·subst h; exact yoa w
 ·exact yri n h hn w
theorem yob {Ms : List (List Nat)} {k : Nat} {M : List Nat} (h : Ms[k]? = some M) : (Ms.take (k + 1)).flatten = (Ms.take k).flatten ++ M := by
 rw [List.take_add_one, h]; simp
theorem yvb (Ms : List (List Nat)) (k : Nat) : (Ms.take k).flatten.length <= Ms.flatten.length := by
 have h := congrArg List.flatten (List.take_append_drop k Ms); rw [List.flatten_append] at h
 have := congrArg List.length h
 rw [List.length_append] at this
 omega
theorem yrz {F : Nat -> Prop} {w : World} {g n : Nat} {Ms : List (List Nat)} {vs : List Value} (hn : Ms.length = n) (hv : vs.length = n) (h6 : 0 < n /\ n <= 100) (hc : ∀ k v, vs[k]? = some v -> w.cell? ⟨g, k, none⟩ = some v)
  (hr : ∀ (k : Nat) v M, vs[k]? = some v -> Ms[k]? = some M -> RdE F w v M) (hN : Ms.flatten.length <= 1000) :
  Calls Tryz.prog 124 #[.slice (some ⟨g, 0, none⟩) n n] w fun e w' => (∃ v, e = .returned v /\ OwnE w.heap.size w' v Ms.flatten) /\ Below w.heap.size w w' := by
 have hg : g < w.heap.size := by
  obtain ⟨v, hv0⟩ : ∃ v, vs[0]? = some v := ⟨_, List.getElem?_eq_getElem (by omega)⟩
  exact yag (hc 0 v hv0)
 have HC := zH hc; have HR := zH hr; have HFL := zH (fun k => yvb Ms k)
 have HFT := zH (fun k M => @yob Ms k M)
 obtain ⟨T, hT⟩ : ∃ T, Ms.flatten.length = T := ⟨_, rfl⟩; have HT := zH hT; rw [hT] at hN
 have HEnd : Hid ((Ms.take n).flatten = Ms.flatten) := by show _ = _; rw [<- hn, List.take_length]
 have hnI : (n : Int) <= 100 := by omega
 have HV := zH hv; have HMn := zH hn; clear hc hr hT hv hn
 go_enter Tryz.func124, Tryz.ntmps124
 go_wp2
 go_loop [3, 11] (fun t i => ∃ k : Nat, k <= n /\ i = .int .i64 (k : Nat) /\ t = .int .i64 ((Ms.take k).flatten.length : Nat)) (fun _ i => n - (intOf i).toNat)
 case atStart => exact ⟨0, Nat.zero_le _, rfl, rfl⟩
 case round =>
  obtain ⟨k, hk, rfl, rfl⟩ := hrel
  by_cases hlt : k < n
  ·obtain ⟨v, hv0⟩ : ∃ v, vs[k]? = some v := ⟨_, List.getElem?_eq_getElem (by have := HV.out; omega)⟩
   obtain ⟨M, hM0⟩ : ∃ M, Ms[k]? = some M := ⟨_, List.getElem?_eq_getElem (by have := HMn.out; omega)⟩
   have c0 := HC.out k v hv0; obtain ⟨A, c, rfl⟩ := RdE.form (HR.out k v M hv0 hM0); have hft := HFT.out k M hM0; have hfl := HFL.out (k + 1); rw [hft, List.length_append, HT.out] at hfl
   have HS : Hid (((Ms.take (k + 1)).flatten.length : Int) = ((Ms.take k).flatten.length : Int) + (M.length : Int)) := by show _ = _; rw [hft, List.length_append]; omega
   have hkI : (k : Int) < (n : Int) := by omega
   obtain ⟨z, hz⟩ : ∃ z, (Ms.take k).flatten.length = z := ⟨_, rfl⟩; rw [hz] at HS hfl |-
   have hzI : (z : Int) + (M.length : Int) <= 1000 := by omega
   have hz0 : (0 : Int) <= (z : Int) + (M.length : Int) := by omega
   have hz2 : ¬ ((z : Int) + (M.length : Int) < 0) := by omega
   clear hv0 hM0 hft hfl hz hlt
   go_wp2
   go_round
   case rel => exact ⟨k + 1, by omega, by go_num, by rw [HS.out]⟩
   case measure => simp [intOf] <;> omega
  ·obtain rfl : k = n := by omega
   rw [HEnd.out, HT.out]
   go_wp2_with (go_at_call 160; refine (yrj T hN _).mono ?_; rintro e w1 ⟨⟨A, c, rfl, ho⟩, hb⟩; have HO1 := zH ho; have HB1 := zH hb; clear ho hb)
   go_loopw [6, 27] (fun v i wr => ∃ j : Nat, j <= k /\ i = .int .i64 (j : Nat) /\ Hid (OwnE w.heap.size wr v (Ms.take j).flatten) /\ Hid (Below w.heap.size w wr)) (fun _ i _ => k - (intOf i).toNat)
   case atStart => exact ⟨0, Nat.zero_le _, rfl, HO1.out, HB1.out⟩
   case round =>
    clear HO1 HB1; obtain ⟨j, hj, rfl, HO, HB⟩ := hrel
    by_cases hlt2 : j < k
    ·obtain ⟨v, hv0⟩ : ∃ v, vs[j]? = some v := ⟨_, List.getElem?_eq_getElem (by have := HV.out; omega)⟩
     obtain ⟨M, hM0⟩ : ∃ M, Ms[j]? = some M := ⟨_, List.getElem?_eq_getElem (by have := HMn.out; omega)⟩
     have c0 := (HB.out.cell (p := ⟨g, j, none⟩) hg).trans (HC.out j v hv0); have hrd := HR.out j v M hv0 hM0; obtain ⟨A, c, rfl⟩ := RdE.form hrd; have HRD := zH (RdF.below hrd HB.out (zN _)); have hfl := HFL.out (j + 1); have HFT2 := zH (HFT.out j M hM0)
     have HL : Hid ((Ms.take j).flatten.length + M.length <= 1000000) := by
      have h1 := HFL.out (j + 1); rw [HFT2.out, List.length_append, HT.out] at h1
      show _ <= _; omega
     have hjI : (j : Int) < (k : Int) := by omega
     clear hv0 hM0 hrd hfl hlt2
     go_wp2_with (at_builtin; refine appendE rfl (.tmp 31) (.tmp 32) rfl _ w.heap.size _ _ M rfl HO.out rfl HRD.out HB.out.size (Nat.le_trans HL.out (by omega)) ?_; intro v2 w2 ho2 hb2; have HO2 := zH ho2; have HB2 := zH (HB.out.trans hb2); clear ho2 hb2)
     go_roundw
     case rel => exact ⟨j + 1, by omega, by go_num, by rw [HFT2.out]; exact HO2.out, HB2.out⟩
     case measure => simp [intOf] <;> omega
    ·obtain rfl : j = k := by omega
     rw [HEnd.out] at HO
     go_wp2
     go_ret
     exact ⟨⟨_, rfl, HO.out⟩, HB.out⟩
end Go.Proofs.YtichfdjjbafeiaaGreat
