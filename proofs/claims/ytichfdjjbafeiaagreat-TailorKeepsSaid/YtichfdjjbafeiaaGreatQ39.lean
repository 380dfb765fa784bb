/-
  PACKED for a claim.
-/
import Derived.Test.YtichfdjjbafeiaaGreatQ36
import Derived.Test.YtichfdjjbafeiaaGreatQ38
set_option linter.unusedVariables false
set_option linter.unusedSimpArgs false
set_option maxRecDepth 100000
namespace Go.Proofs.YtichfdjjbafeiaaGreat
open Go.RowKit
structure TA (B : Nat) (w : World) (px : Nat) (t : ST) : Prop where
 blk : ∃ q va, w.heap[px]? = some (.cells #[.pointer (some ⟨q, 0, none⟩), va, .bool t.A.isSome] 80 (0, 0)) /\ TabAt (fun k => va.ownBlock ≠ some k /\ k ≠ px) w q t.L /\ OwnE B w va (t.A.getD [])
 bel : B <= px
theorem TA.lt {B : Nat} {w : World} {px : Nat} {t : ST} (h : TA B w px t) : px < w.heap.size := by
 obtain ⟨⟨q, va, h1, h2, h3⟩, h4⟩ := h; exact R4.yac h1
theorem TA.below {B : Nat} {w w' : World} {px : Nat} {t : ST} (h : TA B w px t) (hb : Below w.heap.size w w') : TA B w' px t := by
 obtain ⟨⟨q, va, h1, h2, h3⟩, h4⟩ := h; exact ⟨⟨q, va, (hb.block _ (R4.yac h1)).trans h1, h2.below hb (zN _), R4.yah h3 hb (zN _)⟩, h4⟩
theorem TA.cells {B : Nat} {w : World} {px : Nat} {t : ST} (h : TA B w px t) {A : List Nat} (hA : t.A.getD [] = A) : ∃ (q : Nat) (Aa : Option Addr) (c : Nat), w.cell? ⟨px, 0, none⟩ = some (.pointer (some ⟨q, 0, none⟩)) /\ w.cell? ⟨px, 1, none⟩ = some (.slice Aa A.length c) /\ w.cell? ⟨px, 2, none⟩ = some (.bool t.A.isSome) ∧
  w.frozen? ⟨px, 0, none⟩ = false /\ w.frozen? ⟨px, 1, none⟩ = false /\ w.frozen? ⟨px, 2, none⟩ = false /\ TabAt (fun k => (Value.slice Aa A.length c).ownBlock ≠ some k /\ k ≠ px) w q t.L /\ OwnE B w (.slice Aa A.length c) A /\ RdE anyB w (.slice Aa A.length c) A := by
 subst hA; obtain ⟨⟨q, va, h1, h2, h3⟩, h4⟩ := h; have h5 := OwnE.rd (F := anyB) h3 fun _ _ => trivial
 obtain ⟨Aa, c, rfl⟩ := h5.form; exact ⟨q, Aa, c, by rw [cell_of_row w px 0 _ _ _ h1]; rfl, by rw [cell_of_row w px 1 _ _ _ h1]; rfl, by rw [cell_of_row w px 2 _ _ _ h1]; rfl, frozen_of_row w px 0 _ _ h1, frozen_of_row w px 1 _ _ h1, frozen_of_row w px 2 _ _ h1, h2, h3, h5⟩
def lastI (lv : Nat) (A : List Nat) : Int := match lastW lv A with
 | none => -1
 | some k => k
theorem ynp {lv : Nat} {A : List Nat} {n x : Nat} (hx : A[n]? = some x) : lastF lv A (n + 1) = if wgt lv x = 0 then lastF lv A n else some n := by
 rw [lastF, List.getD_eq_getElem?_getD, hx]; rfl
set_option maxHeartbeats 1000000 in
theorem ybx {B : Nat} {w : World} {px : Nat} {t : ST} (hT : TA B w px t) {A : List Nat} (hA : t.A.getD [] = A) (h8 : Anc A) {lv : Nat} (hl : Lv lv) {r : Int} (hr : lastI lv A = r) :
  Calls Tryz.prog 153 #[.pointer (some ⟨px, 0, none⟩), .int .i64 (lv : Nat)] w fun q w' => q = .returned (.int .i64 r) /\ w = w' := by
 obtain ⟨q, Aa, c, -, c1, -, -, -, -, -, -, hrd⟩ := hT.cells hA; have HR := zH hrd; have H8 := zH h8; have HL := zH hl; have HI := zH hr; obtain ⟨n0, hn0⟩ : ∃ n0, A.length = n0 := ⟨_, rfl⟩; have HN := zH hn0; have hn8 := h8.1; rw [hn0] at c1 hn8
 have hnI : (n0 : Int) <= 8 := by omega
 clear hT hA h8 hl hr hrd; rw [hn0] at HR
 have hwr : IntKind.i64.wrap ((n0 : Int) - 1) = (n0 : Int) - 1 := by rw [IntKind.wrap_i64]; omega
 clear hn0
 go_enter Tryz.func153, Tryz.ntmps153
 go_wp2
 go_loop [5] (fun i => ∃ n : Nat, n <= n0 /\ i = .int .i64 ((n : Int) - 1) /\ Hid (lastF lv A n = lastW lv A)) (fun i => (intOf i + 1).toNat)
 case atStart => exact ⟨n0, zN _, rfl, by show _ = _; unfold lastW; rw [HN.out]⟩
 case round =>
  obtain ⟨n, hn, rfl, HE⟩ := hrel
  cases n with
  | zero =>
   have h0 : ¬ (0 : Int) <= ((0 : Nat) : Int) - 1 := by omega
   have h0b : decide ((0 : Int) <= ((0 : Nat) : Int) - 1) = false := decide_eq_false h0
   have HF : Hid (((0 : Nat) : Int) - 1 = r) := by
    have h2 := HE.out
    show _ = _
    rw [<- HI.out]; unfold lastI; rw [<- h2]; rfl
   obtain ⟨z, hz⟩ : ∃ z : Int, ((0 : Nat) : Int) - 1 = z := ⟨_, rfl⟩; rw [hz] at h0 h0b HF |-; clear hz
   go_wp2
   go_ret
   exact ⟨by rw [HF.out]; rfl, rfl⟩
  | succ n =>
   obtain ⟨x, hx⟩ : ∃ x, A[n]? = some x := ⟨_, List.getElem?_eq_getElem (by have := HN.out; omega)⟩
   obtain ⟨g, o, rfl, c2⟩ := RdE.at HR.out hx; have hxl := H8.out.2 x (List.mem_of_getElem? hx); have hst := ynp (lv := lv) hx; rw [HE.out] at hst; obtain ⟨p, hp⟩ : ∃ p, wgt lv x = p := ⟨_, rfl⟩; have CW := zH (fun w => ybc HL.out hp hxl w)
   rw [hp] at hst
   have e1 : ((n + 1 : Nat) : Int) - 1 = (n : Int) := by omega
   rw [e1]
   have hn1 : (0 : Int) <= (n : Int) := by omega
   have hn2 : (n : Int) < (n0 : Int) := by omega
   by_cases hp0 : p = 0
   ·rw [if_pos hp0] at hst; have HS := zH hst.symm
    have hpI : (p : Int) = 0 := by omega
    have hwn : IntKind.i64.wrap ((n : Int) - 1) = (n : Int) - 1 := by rw [IntKind.wrap_i64]; omega
    have hpb : ((p : Int) == 0) = true := by simp [hpI]
    clear hx hxl hst hp hp0 hpI e1
    go_wp2_with (go_at_call 17; refine (CW.out _).mono ?_; rintro q w' ⟨rfl, rfl⟩)
    go_round
    case rel => exact ⟨n, by omega, rfl, HS.out⟩
    case measure => simp [intOf] <;> omega
   ·rw [if_neg hp0] at hst
    have HF : Hid (r = (n : Int)) := by
     show _ = _
     rw [<- HI.out]; unfold lastI; rw [hst]
    have hpb : ((p : Int) == 0) = false := by rw [beq_eq_false_iff_ne]; omega
    clear hx hxl hst hp hp0 e1
    go_wp2_with (go_at_call 17; refine (CW.out _).mono ?_; rintro q w' ⟨rfl, rfl⟩)
    go_ret
    exact ⟨by rw [HF.out]; rfl, rfl⟩
theorem yng (lv fr : Nat) (w : World) :
  Calls Tryz.prog 156 #[.int .i64 (lv : Nat), .int .i64 (fr : Nat)] w fun q w' => (∃ b1 b2, q = .returned (.func (.func 175) #[] #[.pointer (some ⟨b1, 0, none⟩), .pointer (some ⟨b2, 0, none⟩)]) /\ w'.heap[b1]? = some (.cells #[.int .i64 (lv : Nat)] 3 (0, 0)) /\ w'.heap[b2]? = some (.cells #[.int .i64 (fr : Nat)] 3 (0, 0))) /\ Below w.heap.size w w' := by
 have hmf : ∀ (fn : Fn) (first cap : Array Value) (w : World), (Instr.makeFunc fn first cap).run Tryz.prog w = .ok (.func fn first cap) w := fun _ _ _ _ => rfl
 have hb1 := yab w (.cells #[.int .i64 (lv : Nat)] 3); have hb2 := yab (w.alloc (.cells #[.int .i64 (lv : Nat)] 3)) (.cells #[.int .i64 (fr : Nat)] 3); have c1 := heap_alloc_new w (.cells #[.int .i64 (lv : Nat)] 3); have C1 := zH ((hb2.block _ (R4.yac c1)).trans c1); have C2 := zH (heap_alloc_new (w.alloc (.cells #[.int .i64 (lv : Nat)] 3)) (.cells #[.int .i64 (fr : Nat)] 3)); rw [World.size_alloc] at C2; have HB := zH (hb1.trans (hb2.mono hb1.size)); clear hb1 hb2 c1
 go_enter Tryz.func156, Tryz.ntmps156
 go_wp2
 go_ret
 exact ⟨⟨_, _, rfl, C1.out, C2.out⟩, HB.out⟩
def fuE (lv : Nat) (e : PE) : Bool := e.2.any fun x => wgt lv x == topW lv
theorem ymp {α : Type} {q : α -> Bool} {l : List α} {k : Nat} {x : α} (hx : l[k]? = some x) (h : (l.take k).any q = false) (hq : q x = false) : (l.take (k + 1)).any q = false := by
 rw [List.take_add_one, hx, List.any_append, h]; simp [hq]
theorem any_at {α : Type} {q : α -> Bool} {l : List α} {k : Nat} {x : α} (hx : l[k]? = some x) (hq : q x = true) : l.any q = true := List.any_eq_true.2 ⟨x, List.mem_of_getElem? hx, hq⟩
set_option maxHeartbeats 2000000 in
theorem yhd {B : Nat} {w : World} {px : Nat} {t : ST} (hT : TA B w px t) {lv : Nat} (hl : Lv lv) {b : Bool} (hb : fullP lv t.L = b) :
  Calls Tryz.prog 155 #[.pointer (some ⟨px, 0, none⟩), .int .i64 (lv : Nat)] w fun q w' => q = .returned (.bool b) /\ Below w.heap.size w w' := by
 obtain ⟨q, Aa, c, c0, -, -, -, -, -, hTab, -, -⟩ := hT.cells rfl; obtain ⟨L, hL⟩ : ∃ L, t.L = L := ⟨_, rfl⟩; rw [hL] at hTab hb; obtain ⟨tp, htp⟩ : ∃ tp, topW lv = tp := ⟨_, rfl⟩; have HTP := zH htp; have HE := zH (yks hTab); have HG := zH hTab.good; have HBB := zH hb; have HL := zH hl; have CG := zH (fun w => ybr hl htp w)
 obtain ⟨n, hn⟩ : ∃ n, L.length = n := ⟨_, rfl⟩; have HN := zH hn; have hlen := hTab.good.len; rw [hn] at HE hlen
 have hnI : (n : Int) <= 500 := by omega
 clear hT hTab hb hl hL htp hn
 go_enter Tryz.func155, Tryz.ntmps155
 go_wp2_with (go_at_call 16; refine (HE.out).mono ?_; rintro e w1 ⟨⟨A1, c1, rfl, hr⟩, hb1⟩; have HRT := zH hr; have HB1 := zH hb1; clear hr hb1)
 clear c0
 go_loopw [15] (fun i wr => ∃ k : Nat, k <= n /\ i = .int .i64 (k : Nat) /\ Hid ((L.take k).any (fuE lv) = false) /\ Hid (Below w1.heap.size w1 wr)) (fun i _ => n - (intOf i).toNat)
 case atStart => exact ⟨0, Nat.zero_le _, rfl, rfl, zR _ _⟩
 case round =>
  obtain ⟨k, hk, rfl, HA, HB⟩ := hrel; obtain ⟨wo, rfl⟩ : ∃ wo, wo = wr := ⟨_, rfl⟩
  by_cases hlt : k < n
  ·obtain ⟨e, he⟩ : ∃ e, L[k]? = some e := ⟨_, List.getElem?_eq_getElem (by rw [HN.out]; exact hlt)⟩
   obtain ⟨g, o, vs, vl, rfl, e0, e1, hri, hre⟩ := (HRT.out.below HB.out (zN _)).at he; obtain ⟨A2, k2, rfl⟩ := hri.form; obtain ⟨A3, k3, rfl⟩ := hre.form; have HEE := zH he
   have hkI : (k : Int) < (n : Int) := by omega
   have hl8 := (HG.out.els e (List.mem_of_getElem? he)).1; have hlw := zH (HG.out.els e (List.mem_of_getElem? he)).2; obtain ⟨n2, hn2⟩ : ∃ n2, e.2.length = n2 := ⟨_, rfl⟩; have HN2 := zH hn2; rw [hn2] at e1 hl8 hre
   have hl8I : (n2 : Int) <= 8 := by omega
   have HXX := yab wo (.cells #[.slice A2 e.1.length k2, .slice A3 n2 k3] 45); have HREX := zH (RdF.below hre HXX (zN _)); have HBX := zH (HB.out.trans (HXX.mono HB.out.size))
   have HX1 : (wo.alloc (.cells #[.slice A2 e.1.length k2, .slice A3 n2 k3] 45)).cell? ⟨wo.heap.size, 1, none⟩ = some (.slice A3 n2 k3) := by rw [cell_of_row _ _ 1 _ _ _ (heap_alloc_new wo _)]; rfl
   clear hri hre he hlt hn2 HXX
   go_wp2
   generalize (wo.alloc (.cells #[.slice A2 e.1.length k2, .slice A3 n2 k3] 45)) = wx at HREX HBX HX1 |-; clear e0 e1 HX1
   go_loopw [22] (fun i wq => ∃ j : Nat, j <= n2 /\ i = .int .i64 (j : Nat) /\ Hid ((e.2.take j).any (fun x => wgt lv x == topW lv) = false) /\ wq = wx) (fun i _ => n2 - (intOf i).toNat)
   case atStart => exact ⟨0, Nat.zero_le _, rfl, rfl, rfl⟩
   case round =>
    obtain ⟨j, hj, rfl, HJ, rfl⟩ := hrel
    by_cases hjl : j < n2
    ·obtain ⟨x, hx⟩ : ∃ x, e.2[j]? = some x := ⟨_, List.getElem?_eq_getElem (by rw [HN2.out]; exact hjl)⟩
     obtain ⟨g5, o5, rfl, c5⟩ := RdE.at (by have h := HREX.out; have h2 := HN2.out; rw [<- h2] at h; exact h) hx
     have hxl := hlw.out x (List.mem_of_getElem? hx); obtain ⟨p, hp⟩ : ∃ p, wgt lv x = p := ⟨_, rfl⟩; have CW := zH (fun w => ybc HL.out hp hxl w)
     have hjI : (j : Int) < (n2 : Int) := by omega
     by_cases hpt : p = tp
     ·have HF : Hid (fullP lv L = true) := any_at HEE.out (any_at hx (by rw [hp, HTP.out, hpt]; simp))
      have hpb : ((p : Int) == (tp : Int)) = true := by rw [hpt]; simp
      clear hx hxl hp hpt hjl
      go_wp2_with (first | (go_at_call 17; refine (CW.out _).mono ?_; rintro q w' ⟨rfl, rfl⟩) | (go_at_call 154; refine (CG.out _).mono ?_; rintro q w' ⟨rfl, rfl⟩))
      go_ret
      exact ⟨by rw [<- HBB.out, HF.out]; rfl, HB1.out.trans (HBX.out.mono HB1.out.size)⟩
     ·have HJ2 := zH (ymp hx HJ.out (by rw [hp, HTP.out]; simpa using hpt))
      have hpb : ((p : Int) == (tp : Int)) = false := by rw [beq_eq_false_iff_ne]; omega
      clear hx hxl hp hpt hjl
      go_wp2_with (first | (go_at_call 17; refine (CW.out _).mono ?_; rintro q w' ⟨rfl, rfl⟩) | (go_at_call 154; refine (CG.out _).mono ?_; rintro q w' ⟨rfl, rfl⟩))
      go_roundw
      case rel => exact ⟨j + 1, by omega, by go_num, HJ2.out, trivial⟩
      case measure => simp [intOf] <;> omega
    ·obtain rfl : j = n2 := by omega
     have HJ2 : Hid ((L.take (k + 1)).any (fuE lv) = false) := ymp HEE.out HA.out (by have h := HJ.out; have h2 := HN2.out; rw [<- h2, List.take_length] at h; exact h)
     clear hjl
     go_wp2
     go_roundw
     case rel => exact ⟨k + 1, by omega, by go_num, HJ2.out, HBX.out⟩
     case measure => simp [intOf] <;> omega
  ·obtain rfl : k = n := by omega
   have HF : Hid (fullP lv L = false) := by have h := HA.out; have h2 := HN.out; rw [<- h2, List.take_length] at h; exact h
   clear hlt
   go_wp2
   go_ret
   exact ⟨by rw [<- HBB.out, HF.out]; rfl, HB1.out.trans (HB.out.mono HB1.out.size)⟩
set_option maxHeartbeats 2000000 in
theorem yeg {B : Nat} {w : World} {px : Nat} {t : ST} (hT : TA B w px t) {L : List PE} (hL : t.L = L) {sv : Value} {ss : List Int} (hs : RdI anyB w sv ss) (hI : I64 ss) (hl : ss.length <= 100000) :
  Calls Tryz.prog 121 #[.pointer (some ⟨px, 0, none⟩), sv] w (GotE w.heap.size w (elsP L ss)) := by
 subst hL; obtain ⟨q, Aa, c, c0, -, -, -, -, -, hTab, -, -⟩ := hT.cells rfl; obtain ⟨L, hL⟩ : ∃ L, t.L = L := ⟨_, rfl⟩; rw [hL] at hTab |-; obtain ⟨As, cs, rfl⟩ := hs.form; have HT := zH hTab; have HS := zH hs; have HI := zH hI; have HC0 := zH c0; obtain ⟨n, hn⟩ : ∃ n, ss.length = n := ⟨_, rfl⟩; have HN := zH hn; rw [hn] at hl HS |-
 have hnI : (n : Int) <= 100000 := by omega
 clear hT hTab hs hI hL hn c0
 go_enter Tryz.func121, Tryz.ntmps121
 go_wp2
 go_loopw [5, 6] (fun a i wr => ∃ (acc : List Nat) (k : Nat), k <= n /\ i = .int .i64 (k : Nat) /\ Hid (OwnE w.heap.size wr a acc) /\ Hid (acc ++ elsP L (ss.drop k) = elsP L ss) /\ acc.length <= 8 * k /\ Hid (Below w.heap.size w wr)) (fun _ i _ => n - (intOf i).toNat)
 case atStart => exact ⟨[], 0, Nat.zero_le _, rfl, World.ownsRow_nil _ _ _ _, by show _ = _; rw [List.drop_zero]; rfl, by simp, zR _ _⟩
 case round =>
  obtain ⟨acc, k, hk, rfl, HO, HE, hacc, HB⟩ := hrel
  by_cases hlt : k < n
  ·obtain ⟨l, hl1⟩ : ∃ l, (atP L (ss.drop k)).1 = l := ⟨_, rfl⟩; obtain ⟨u, hu1⟩ : ∃ u, (atP L (ss.drop k)).2 = u := ⟨_, rfl⟩
   have hR : atP L (ss.drop k) = (l, u) := by rw [<- hl1, <- hu1]
   have h0 : 0 < (ss.drop k).length := by rw [List.length_drop, HN.out]; omega
   have hu := ycl L h0; have hgd := yed HT.out.good (ss.drop k); have hst := ycc L h0; rw [hR] at hu hgd hst
   simp only at hu hgd hst
   rw [List.length_drop, HN.out] at hu; have HC := zH (at_in (HT.out.below HB.out (zN _)) (RdI.below HS.out HB.out (zN _) |> fun h => by have h2 := HN.out; rw [<- h2] at h; exact h) HI.out (by rw [HN.out]; omega) (by rw [HN.out]; exact hlt) hR)
   rw [HN.out] at HC
   have HE2 : Hid ((acc ++ l) ++ elsP L (ss.drop (k + u)) = elsP L ss) := by
    show _ = _
    rw [List.append_assoc, <- List.drop_drop, <- hst]; exact HE.out
   have hl8 : l.length <= 8 := hgd.1
   have hkI : (k : Int) < (n : Int) := by omega
   have hku : k + u <= n := by omega
   have hkuI : (k : Int) + (u : Int) <= (n : Int) := by omega
   have hu1' : 1 <= u := hu.1
   have cx := (HB.out.cell (p := ⟨px, 0, none⟩) (yag HC0.out)).trans HC0.out
   have hwr : IntKind.i64.wrap ((k : Int) + (u : Int)) = ((k + u : Nat) : Int) := by rw [IntKind.wrap_i64]; omega
   clear hl1 hu1 hR h0 hu hgd hst hlt
   go_wp2_with (first
    | (go_at_call 152; refine (HC.out).mono ?_; rintro e w2 ⟨⟨A3, n3, c3, rfl, hr⟩, hb⟩; obtain ⟨-, hn3⟩ := RdF.cap hr; subst hn3; have HRL := zH hr; have HO2 := zH (R4.yah HO.out hb (zN _)); have HW2 := zH (HB.out.trans (hb.mono HB.out.size)); clear hr hb cx)
    | (at_builtin; refine appendE rfl (.tmp 23) (.tmp 24) rfl _ w.heap.size _ acc l rfl HO2.out rfl HRL.out HW2.out.size (by omega) ?_; intro v4 w4 h4 hb4; have HO4 := zH h4; have HW4 := zH (HW2.out.trans hb4); clear h4 hb4))
   go_roundw
   case rel => exact ⟨acc ++ l, k + u, hku, by first | rfl | go_num | (congr 1; omega), HO4.out, HE2.out, by rw [List.length_append]; omega, HW4.out⟩
   case measure => simp [intOf] <;> omega
  ·obtain rfl : k = n := by omega
   have HEE : Hid (acc = elsP L ss) := by
    have h := HE.out; rw [List.drop_of_length_le (by rw [HN.out]; exact zN _), yby, List.append_nil] at h
    exact h
   clear hlt HE
   go_wp2
   go_ret
   exact ⟨_, rfl, by rw [<- HEE.out]; exact HO.out, HB.out⟩
end Go.Proofs.YtichfdjjbafeiaaGreat
