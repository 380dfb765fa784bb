/-
  PACKED for a claim.
-/
import Derived.Outline
import Derived.ProofKit
import Derived.OpenShut
import Derived.Test.YteibnfeokgibmaaGreatP11
import Derived.Test.YteibnfeokgibmaaGreatP14
set_option linter.unusedVariables false
set_option linter.unusedSimpArgs false
set_option maxRecDepth 100000
namespace Go.Proofs.YteibnfeokgibmaaGreat
open Go.Maps Go.RowKit
def aval (s : List Int) : Value := .agg (iv s).toArray
theorem iv_inj {x y : List Int} (h : iv x = iv y) : x = y := List.map_inj_right (fun a b h => by cases h; rfl) |>.1 h
theorem aval_inj {x y : List Int} (h : aval x = aval y) : x = y := by
 unfold aval at h
 injection h with h
 exact iv_inj (by simpa using h)
def I64 (s : List Int) : Prop := ∀ x ∈ s, -9223372036854775808 <= x /\ x <= 9223372036854775807
theorem yvg {v : Int} (h : -9223372036854775808 <= v /\ v <= 9223372036854775807) : (Lit.int .i64 v).wf = true := by
 unfold Lit.wf
 simp [show IntKind.i64.min = -9223372036854775808 from rfl, show IntKind.i64.max = 9223372036854775807 from rfl]; omega
structure KT (mt kt : TypeId) (n : Nat) : Prop where
 law : Keyed Tryz.prog kt
 und : Tryz.prog.underlying mt = some (.map kt 3)
 undK : Tryz.prog.underlying kt = some (.array n 3)
 cellsK : Tryz.prog.cellsOf kt = n
 keyK : Tryz.prog.keyType kt = true
theorem cellsOfInt : Tryz.prog.cellsOf 3 = 1 := by kernel_rfl
theorem zeroInt (w : World) : (zeroValue 3).run Tryz.prog w = .ok (.int .i64 0) w := by kernel_rfl
theorem types2 : ∃ n, Tryz.prog.types.size + 1 = n + 2 := ⟨Tryz.prog.types.size - 1, by
 have h : (0 : Nat) < Tryz.prog.types.size := of_decide_eq_true (by kernel_rfl)
 omega⟩
theorem ydw {α β : Type} (f : α -> Option β) : ∀ l : List α, (∀ a ∈ l, ∃ b, f a = some b) -> ∃ bs, l.mapM f = some bs
 | [], _ => ⟨[], rfl⟩
 | a :: l, h => by
  obtain ⟨b, hb⟩ := h a (by simp)
  obtain ⟨bs, hbs⟩ := ydw f l fun a ha => h a (by simp [ha])
  exact ⟨b :: bs, by simp [List.mapM_cons, hb, hbs]⟩
theorem KT.key {mt kt : TypeId} {n : Nat} (K : KT mt kt n) {s : List Int} (hn : s.length = n) (hs : I64 s) : ∃ kl, keyOf Tryz.prog kt (aval s) = some kl := by
 obtain ⟨m, hm⟩ := types2
 have hf : (aval s).formed Tryz.prog kt = true := by
  simp [aval, Value.formed, K.undK, K.cellsK, T2.iv_len, hn]
 have hl : ∃ L, Tryz.prog.keyLits (Tryz.prog.types.size + 1) kt (aval s).cells.toList = some L := by
  rw [hm]
  have hcs : (aval s).cells.toList = iv s := by simp [aval, Value.cells]
  rw [hcs]
  have hmm : ∃ bs, (List.range n).mapM (fun i => Tryz.prog.keyLits (m + 1) 3 (((iv s).drop (i * 1)).take 1)) = some bs := by
   refine ydw _ _ fun i hi => ?_
   have hi' : i < n := by simpa using hi
   have hx : i < s.length := by rw [hn]; exact hi'
   have he : ((iv s).drop (i * 1)).take 1 = [.int .i64 s[i]] := by
    rw [Nat.mul_one]; unfold iv T2.iv; rw [<- List.map_drop, List.drop_eq_getElem_cons hx, List.map_cons]
    rfl
   rw [he]; refine ⟨[.int .i64 s[i]], ?_⟩
   simp [Program.keyLits, Tryz.underlying3, yvg (hs _ (List.getElem_mem hx))]
  obtain ⟨bs, hbs⟩ := hmm; refine ⟨bs.flatten, ?_⟩; unfold Program.keyLits; simp only [K.undK, T2.iv_len, hn, K.cellsK, cellsOfInt, if_true, hbs, Option.map_some]
 obtain ⟨L, hL⟩ := hl; refine ⟨.string (keyBytes L), ?_⟩; unfold keyOf; simp only [K.undK, K.keyK, hf, Bool.and_self, if_true, hL, Option.map_some]
def KMap (kt : TypeId) (n : Nat) (w : World) (b : Nat) (L : List PE) : Prop :=
 ∃ (m : Nat) (D : DataW Unit), m <= L.length /\ w.ownsMap Tryz.prog kt (plainElem Tryz.prog 3) b m D ∧
  ∀ s kl, s.length = n -> keyOf Tryz.prog kt (aval s) = some kl -> (∀ j, place L s = some j -> Maps.has D kl = true /\ D.atKey kl (.lit (.int .i64 0)) = .lit (.int .i64 (j : Nat))) /\ (place L s = none -> Maps.has D kl = false)
theorem KMap.new (kt : TypeId) (n : Nat) (w : World) : KMap kt n (w.alloc (.map #[] 0)) w.heap.size [] :=
 ⟨0, .map [], zN _, World.ownsMap_made w _ _ _, fun s kl _ _ => ⟨fun j h => by simp [ydv] at h, fun _ => rfl⟩⟩
theorem KMap.kept {kt : TypeId} {n : Nat} {w w' : World} {b : Nat} {L : List PE} {row : Option Nat} (h : KMap kt n w b L) (hg : w.grownBy w' row) (hne : some b ≠ row) : KMap kt n w' b L := by
 obtain ⟨m, D, hm, h1, h2⟩ := h; exact ⟨m, D, hm, h1.kept hg hne, h2⟩
theorem KMap.lt {kt : TypeId} {n : Nat} {w : World} {b : Nat} {L : List PE} (h : KMap kt n w b L) : b < w.heap.size := by
 obtain ⟨m, D, hm, h1, h2⟩ := h; exact h1.lt
theorem KMap.isMap {kt : TypeId} {n : Nat} {w : World} {b : Nat} {L : List PE} (h : KMap kt n w b L) : ∃ es c, w.heap[b]? = some (.map es c) := by
 obtain ⟨m, D, hm, ⟨es, c, h1, _⟩, h2⟩ := h; exact ⟨es, c, h1⟩
theorem KMap.below {kt : TypeId} {n : Nat} {w w' : World} {b : Nat} {L : List PE} {B : Nat} (h : KMap kt n w b L) (hb : Below B w w') (hB : w.heap.size <= B) : KMap kt n w' b L :=
 h.kept (row := none) ⟨hb.os, hb.tape, hb.output, hb.size, fun k hk _ => hb.block k (by omega)⟩ (by simp)
theorem KMap.look_old {mt kt : TypeId} {n : Nat} (K : KT mt kt n) {w : World} {b : Nat} {L : List PE} (h : KMap kt n w b L) {s : List Int} (hn : s.length = n) (hs : I64 s) {j : Nat} (hp : place L s = some j) :
  (Instr.lookup mt (.map (some b)) (aval s) true).run Tryz.prog w = .ok (.tuple #[.int .i64 (j : Nat), .bool true]) w := by
 obtain ⟨m, D, hm, h1, h2⟩ := h; obtain ⟨kl, hkl⟩ := K.key hn hs; obtain ⟨ha, hb⟩ := (h2 s kl hn hkl).1 j hp; obtain ⟨v, ps, hrun, hv⟩ := h1.look_ok K.law K.und (zeroInt w) (plainElem_int Tryz.underlying3 (by decide)) hkl
 obtain ⟨c, rfl, hc, hwc⟩ := plainElem_int_inv Tryz.underlying3 hv; have hc' := congrArg Prod.fst hc; simp only [hb] at hc'
 injection hc' with e
 injection e with e1 e2
 rw [hrun, ha, <- e2]
theorem KMap.look_new {mt kt : TypeId} {n : Nat} (K : KT mt kt n) {w : World} {b : Nat} {L : List PE} (h : KMap kt n w b L) {s : List Int} (hn : s.length = n) (hs : I64 s) (hp : place L s = none) :
  (Instr.lookup mt (.map (some b)) (aval s) true).run Tryz.prog w = .ok (.tuple #[.int .i64 0, .bool false]) w := by
 obtain ⟨m, D, hm, h1, h2⟩ := h; obtain ⟨kl, hkl⟩ := K.key hn hs; have ha := (h2 s kl hn hkl).2 hp; obtain ⟨v, ps, hrun, hv⟩ := h1.look_ok K.law K.und (zeroInt w) (plainElem_int Tryz.underlying3 (by decide)) hkl
 obtain ⟨c, rfl, hc, hwc⟩ := plainElem_int_inv Tryz.underlying3 hv; have hc' := congrArg Prod.fst hc; simp only [Maps.atKey_of_not_has ha] at hc'
 injection hc' with e
 injection e with e1 e2
 rw [hrun, ha, <- e2]
theorem KMap.other {kt : TypeId} {n : Nat} {w : World} {b : Nat} {L : List PE} (h : KMap kt n w b L) (e : PE) (hne : e.1.length ≠ n) : KMap kt n w b (L ++ [e]) := by
 obtain ⟨m, D, hm, h1, h2⟩ := h; refine ⟨m, D, by simp; omega, h1, fun s kl hn hkl => ?_⟩
 rw [ylm, if_neg (fun c => hne (by rw [c]; exact hn))]
 have := h2 s kl hn hkl
 cases hp : place L s with
 | none => rw [hp] at this; exact this
 | some k => rw [hp] at this; exact this
theorem KMap.store {mt kt : TypeId} {n : Nat} (K : KT mt kt n) {w : World} {b : Nat} {L : List PE} (h : KMap kt n w b L) {e : PE} (hn : e.1.length = n) (hs : I64 e.1) (hp : place L e.1 = none) (hl : L.length < 1000) :
  ∃ w', (Instr.mapUpdate mt (.map (some b)) (aval e.1) (.int .i64 ((L.length : Nat) : Int))).run Tryz.prog w = .ok () w' /\ KMap kt n w' b (L ++ [e]) /\ w.grownBy w' (some b) := by
 obtain ⟨m, D, hm, h1, h2⟩ := h; obtain ⟨kl, hkl⟩ := K.key hn hs; obtain ⟨w', hrun, h3, h4⟩ := h1.update K.law K.und (by simp only [maxLen]; omega) hkl (plainElem_int Tryz.underlying3 (yvg (v := ((L.length : Nat) : Int)) (by omega)))
 have hkk := K.law.key hkl; refine ⟨w', hrun, ⟨m + 1, _, by simp; omega, h3, fun s ks hn' hks => ?_⟩, h4⟩
 rw [ylm]
 by_cases c : e.1 = s
 ·subst c
  have : ks = kl := by rw [hkl] at hks; exact (Option.some.inj hks).symm
  subst this; rw [hp, if_pos rfl]; refine ⟨fun j hj => ?_, fun h => by simp at h⟩
  cases hj
  exact ⟨Maps.has_put_same h1.isMap hkk _, Maps.atKey_put_same h1.isMap hkk _ _⟩
 ·have hne : ks ≠ kl := fun e' => c (aval_inj (K.law.inj hkl (e' ▸ hks)))
  rw [Maps.has_put_other hne, Maps.atKey_put_other hne, if_neg c]
  have := h2 s ks hn' hks
  cases hq : place L s with
  | none => rw [hq] at this; exact this
  | some k => rw [hq] at this; exact this
theorem laidOut0 : laidOutB Tryz.prog = true := by kernel_rfl
theorem law2 : Keyed Tryz.prog 126 := Keyed.of_law (deep_law_laid laidOut0 (m := 2) (by omega) (of_decide_eq_true (by kernel_rfl)) (by kernel_rfl) (by kernel_rfl))
theorem law3 : Keyed Tryz.prog 127 := Keyed.of_law (deep_law_laid laidOut0 (m := 2) (by omega) (of_decide_eq_true (by kernel_rfl)) (by kernel_rfl) (by kernel_rfl))
theorem kt2 : KT 118 126 2 := ⟨law2, Tryz.underlying118, Tryz.underlying126, by kernel_rfl, by kernel_rfl⟩
theorem kt3 : KT 119 127 3 := ⟨law3, Tryz.underlying119, Tryz.underlying127, by kernel_rfl, by kernel_rfl⟩
end Go.Proofs.YteibnfeokgibmaaGreat
namespace Go.Proofs.YteibnfeokgibmaaGreat
open Go.RowKit
theorem yld (p s t : Nat) (v : Bool) (hp : p < 65536) (hs : s < 256) (ht : t < 128) (w : World) :
  Calls Tryz.prog 102 #[.int .i64 p, .int .i64 s, .int .i64 t, .bool v] w fun e w' => e = .returned (.int .u32 (E3.mk p s t (if v then 1 else 0) : Nat)) /\ w = w' := by
 have HC := zH (fun w => E3.make_d p s t v hp hs ht w)
 obtain ⟨r, hr⟩ : ∃ r, E3.mk p s t (if v then 1 else 0) = r := ⟨_, rfl⟩
 rw [hr] at HC |-; clear hr
 go_enter Tryz.func102, Tryz.ntmps102
 go_wp2_with (go_at_call 154; refine (HC.out _).mono ?_; rintro e w' ⟨rfl, rfl⟩)
 go_ret
 exact ⟨rfl, rfl⟩
theorem yex {x y z : Int} {p s t : Nat} {v : Bool} {r : Nat} (hx : (p : Int) = x) (hy : (s : Int) = y) (hz : (t : Int) = z) (hp : p < 65536) (hs : s < 256) (ht : t < 128) (hr : E3.mk p s t (if v then 1 else 0) = r) (w : World) :
  Calls Tryz.prog 102 #[.int .i64 x, .int .i64 y, .int .i64 z, .bool v] w fun e w' => e = .returned (.int .u32 r) /\ w = w' := by
 rw [<- hx, <- hy, <- hz, <- hr]; exact yld p s t v hp hs ht w
theorem yuz (c : Int) (w : World) : Calls Tryz.prog 155 #[.int .i64 c] w fun e w' => e = .returned (.int .i64 (mkS c : Nat)) /\ w = w' := by
 unfold mkS
 by_cases h1 : c = 768
 ·subst h1
  go_enter Tryz.func155, Tryz.ntmps155
  go_wp2
  go_ret
  exact ⟨rfl, rfl⟩
 by_cases h2 : c = 769
 ·subst h2
  go_enter Tryz.func155, Tryz.ntmps155
  go_wp2
  go_ret
  exact ⟨rfl, rfl⟩
 by_cases h3 : c = 770
 ·subst h3
  go_enter Tryz.func155, Tryz.ntmps155
  go_wp2
  go_ret
  exact ⟨rfl, rfl⟩
 by_cases h4 : c = 771
 ·subst h4
  go_enter Tryz.func155, Tryz.ntmps155
  go_wp2
  go_ret
  exact ⟨rfl, rfl⟩
 by_cases h5 : c = 772
 ·subst h5
  go_enter Tryz.func155, Tryz.ntmps155
  go_wp2
  go_ret
  exact ⟨rfl, rfl⟩
 by_cases h6 : c = 776
 ·subst h6
  go_enter Tryz.func155, Tryz.ntmps155
  go_wp2
  go_ret
  exact ⟨rfl, rfl⟩
 by_cases h7 : c = 778
 ·subst h7
  go_enter Tryz.func155, Tryz.ntmps155
  go_wp2
  go_ret
  exact ⟨rfl, rfl⟩
 by_cases h8 : c = 807
 ·subst h8
  go_enter Tryz.func155, Tryz.ntmps155
  go_wp2
  go_ret
  exact ⟨rfl, rfl⟩
 rw [if_neg h1, if_neg h2, if_neg h3, if_neg h4, if_neg h5, if_neg h6, if_neg h7, if_neg h8]
 have g1 : (c == 768) = false := by simpa using h1
 have g2 : (c == 769) = false := by simpa using h2
 have g3 : (c == 770) = false := by simpa using h3
 have g4 : (c == 771) = false := by simpa using h4
 have g5 : (c == 772) = false := by simpa using h5
 have g6 : (c == 776) = false := by simpa using h6
 have g7 : (c == 778) = false := by simpa using h7
 have g8 : (c == 807) = false := by simpa using h8
 clear h1 h2 h3 h4 h5 h6 h7 h8
 go_enter Tryz.func155, Tryz.ntmps155
 go_wp2
 go_ret
 exact ⟨rfl, rfl⟩
theorem mkS_lt (c : Int) : mkS c < 256 := by unfold mkS; repeat' split <;> try omega
theorem ygw (c : Int) (w : World) : Calls Tryz.prog 104 #[.int .i64 c] w fun e w' => e = .returned (.int .u32 (mkW c : Nat)) /\ w = w' := by
 have HC := zH (fun w => yuz c w)
 have HW := zH (fun w => yld 0 (mkS c) 2 false (by omega) (mkS_lt c) (by omega) w)
 have hm : E3.mk 0 (mkS c) 2 (if false = true then 1 else 0) = mkW c := rfl
 rw [hm] at HW; obtain ⟨r, hr⟩ : ∃ r, mkW c = r := ⟨_, rfl⟩; obtain ⟨s, hs⟩ : ∃ s, mkS c = s := ⟨_, rfl⟩; rw [hr] at HW |-; rw [hs] at HC HW; clear hr hs hm
 go_enter Tryz.func104, Tryz.ntmps104
 go_wp2_with (first
  | (go_at_call 155; refine (HC.out _).mono ?_; rintro e w' ⟨rfl, rfl⟩)
  | (go_at_call 102; refine (HW.out _).mono ?_; rintro e w' ⟨rfl, rfl⟩))
 go_ret
 exact ⟨rfl, rfl⟩
theorem ygn (c : Nat) (h1 : 97 <= c) (h2 : c <= 122) (w : World) : Calls Tryz.prog 103 #[.int .i64 (c : Int)] w fun e w' => e = .returned (.int .u32 (letW c : Nat)) /\ w = w' := by
 have hl : letW c = E3.mk (256 + 8 * (c - 97)) 32 2 0 := by unfold letW; rw [if_neg (by omega)]
 obtain ⟨r, hr⟩ : ∃ r, letW c = r := ⟨_, rfl⟩; rw [hr] at hl |-; have HW := zH (fun w => yex (x := 256 + 8 * ((c : Int) - 97)) (p := 256 + 8 * (c - 97)) (y := 32) (z := 2) (s := 32) (t := 2) (v := false) (by omega) rfl rfl (by omega) (by omega) (by omega) hl.symm w)
 clear hl hr
 have i1 : (90 : Int) < (c : Int) := by omega
 have i2 : (c : Int) <= 122 := by omega
 have i3 : (97 : Int) <= (c : Int) := by omega
 go_enter Tryz.func103, Tryz.ntmps103
 go_wp2_with (go_at_call 102; refine (HW.out _).mono ?_; rintro e w' ⟨rfl, rfl⟩)
 go_ret
 exact ⟨rfl, rfl⟩
theorem ylv (c : Nat) (h1 : 65 <= c) (h2 : c <= 90) (w : World) : Calls Tryz.prog 103 #[.int .i64 (c : Int)] w fun e w' => e = .returned (.int .u32 (letW c : Nat)) /\ w = w' := by
 have HL := zH (fun w => ygn (c + 32) (by omega) (by omega) w)
 have hl : letW (c + 32) = E3.mk (256 + 8 * (c - 65)) 32 2 0 := by unfold letW; rw [if_neg (by omega), show c + 32 - 97 = c - 65 by omega]
 have hl2 : letW c = E3.mk (256 + 8 * (c - 65)) 32 8 0 := by unfold letW; rw [if_pos (by omega)]
 have h3 : letW (c + 32) < 4294967296 := by rw [hl]; unfold E3.mk; omega
 have hw : ∀ w, Calls Tryz.prog 105 #[.int .u32 (letW (c + 32) : Nat), .int .i64 3, .int .i64 8] w fun r w' => r = .returned (.int .u32 (letW c : Nat)) /\ w = w' := fun w =>
  E3.yjr (e := letW (c + 32)) (v := 8) (n := letW c) (by show _ = _; rw [hl, hl2]; unfold E3.mk; omega) h3 (by omega) (by omega) w
 obtain ⟨r, hr⟩ : ∃ r, letW (c + 32) = r := ⟨_, rfl⟩; obtain ⟨q, hq⟩ : ∃ q, letW c = q := ⟨_, rfl⟩; rw [hr] at HL hw; rw [hq] at hw |-; have HW := zH hw
 have i1 : (c : Int) <= 90 := by omega
 have i3 : (65 : Int) <= (c : Int) := by omega
 have HL2 : Hid (∀ w, Calls Tryz.prog 103 #[.int .i64 ((c : Int) + 32)] w fun e w' => e = .returned (.int .u32 (r : Nat)) /\ w = w') := HL.out
 clear hl hl2 h3 hw hr hq HL
 go_enter Tryz.func103, Tryz.ntmps103
 go_wp2_with (first
  | (go_at_call 103; refine (HL2.out _).mono ?_; rintro e w' ⟨rfl, rfl⟩)
  | (go_at_call 105; refine (HW.out _).mono ?_; rintro e w' ⟨rfl, rfl⟩))
 go_ret
 exact ⟨rfl, rfl⟩
theorem ybt {c : Nat} (h : (65 <= c /\ c <= 90) \/ (97 <= c /\ c <= 122)) {x : Int} (hx : (c : Int) = x) {r : Nat} (hr : letW c = r) (w : World) : Calls Tryz.prog 103 #[.int .i64 x] w fun e w' => e = .returned (.int .u32 (r : Nat)) /\ w = w' := by
 rw [<- hx, <- hr]
 rcases h with h | h
 ·exact ylv c h.1 h.2 w
 ·exact ygn c h.1 h.2 w
theorem ymk {v : Value} {l : List Int} {F : Nat -> Prop} {w : World} (h : RdI F w v l) (hm : l.length <= 200000) :
  Calls Tryz.prog 210 #[v] w fun e w' => e = .returned (.bool (sgsB l)) /\ Below w.heap.size w w' := by
 have HC := zH (T2.ywp v l w h.rd hm)
 have hb : sgsB l = (T2.bytE l != 1) := by
  unfold sgsB T2.bytE
  by_cases h1 : l.all T2.isSg = true
  ·rw [if_pos h1, h1]; split <;> rfl
  ·rw [if_neg h1]; simp only [Bool.not_eq_true] at h1; rw [h1]; rfl
 obtain ⟨S, hS⟩ : ∃ S, T2.bytL l = S := ⟨_, rfl⟩; obtain ⟨E, hE⟩ : ∃ E, T2.bytE l = E := ⟨_, rfl⟩; rw [hS, hE] at HC; rw [hE] at hb; obtain ⟨A, c, rfl⟩ := h.form; rw [hb]; clear hS hE hb h
 go_enter Tryz.func210, Tryz.ntmps210
 go_wp2_with (go_at_call 225; refine (HC.out).mono ?_; rintro e w' ⟨rfl, hb⟩)
 go_ret
 exact ⟨rfl, hb⟩
theorem ybv {v : Value} {l : List Int} {b : Bool} (hb : sgsB l = b) {F : Nat -> Prop} {w : World} (h : RdI F w v l) (hm : l.length <= 200000) :
  Calls Tryz.prog 210 #[v] w fun e w' => e = .returned (.bool b) /\ Below w.heap.size w w' := by
 rw [<- hb]; exact ymk h hm
theorem ybx {lv e p : Nat} (hl : Lv lv) (h : wgt lv e = p) (he : e < 4294967296) (w : World) :
  Calls Tryz.prog 147 #[.int .u32 (e : Nat), .int .i64 (lv : Nat)] w fun r w' => r = .returned (.int .i64 (p : Nat)) /\ w = w' := by
 rcases hl with rfl | rfl | rfl
 ·exact E3.yds h he w
 ·exact E3.yhh h he w
 ·exact E3.yhg h he w
theorem yjq {lv e v n : Nat} (hl : Lv lv) (h : putW lv e v = n) (he : e < 4294967296) (hv : v <= 1000000) (w : World) :
  Calls Tryz.prog 105 #[.int .u32 (e : Nat), .int .i64 (lv : Nat), .int .i64 (v : Nat)] w fun r w' => r = .returned (.int .u32 (n : Nat)) /\ w = w' := by
 subst h
 rcases hl with rfl | rfl | rfl
 ·exact E3.ysi (by show _ = _; unfold putW; rw [if_pos rfl]; omega) he (by omega) (by omega) w
 ·exact E3.ysg (by show _ = _; unfold putW; rw [if_neg (by omega), if_pos rfl]; omega) he (by omega) (by omega) w
 ·exact E3.yjr (by show _ = _; unfold putW; rw [if_neg (by omega), if_neg (by omega)]; omega) he (by omega) (by omega) w
theorem ycn {lv t : Nat} (hl : Lv lv) (h : topW lv = t) (w : World) :
  Calls Tryz.prog 206 #[.int .i64 (lv : Nat)] w fun r w' => r = .returned (.int .i64 (t : Nat)) /\ w = w' := by
 subst h
 rcases hl with rfl | rfl | rfl
 ·show Calls _ _ #[.int .i64 1] _ _
  go_enter Tryz.func206, Tryz.ntmps206
  go_wp2
  go_ret
  exact ⟨rfl, rfl⟩
 ·show Calls _ _ #[.int .i64 2] _ _
  go_enter Tryz.func206, Tryz.ntmps206
  go_wp2
  go_ret
  exact ⟨rfl, rfl⟩
 ·show Calls _ _ #[.int .i64 3] _ _
  go_enter Tryz.func206, Tryz.ntmps206
  go_wp2
  go_ret
  exact ⟨rfl, rfl⟩
theorem lv_wgt {lv e : Nat} (hl : Lv lv) (he : e < 4294967296) : wgt lv e <= 65535 := by
 have := wgt_top (lv := lv) he
 rcases hl with rfl | rfl | rfl <;> simp [topW] at this <;> omega
theorem yll {lv fr e r b1 b2 : Nat} (hl : Lv lv) (he : e < 4294967296) (hr : up lv fr e = r) {w : World} (h1 : w.cell? ⟨b1, 0, none⟩ = some (.int .i64 (lv : Nat))) (h2 : w.cell? ⟨b2, 0, none⟩ = some (.int .i64 (fr : Nat))) :
  Calls Tryz.prog 224 #[.int .u32 (e : Nat), .pointer (some ⟨b1, 0, none⟩), .pointer (some ⟨b2, 0, none⟩)] w fun q w' => q = .returned (.int .u32 (r : Nat)) /\ w = w' := by
 obtain ⟨p, hp⟩ : ∃ p, wgt lv e = p := ⟨_, rfl⟩; obtain ⟨t, ht⟩ : ∃ t, topW lv = t := ⟨_, rfl⟩; have CW := zH (fun w => ybx hl hp he w)
 have CG := zH (fun w => ycn hl ht w)
 have hp5 := lv_wgt hl he; unfold up at hr; rw [hp, ht] at hr; rw [hp] at hp5
 by_cases c1 : p <= fr
 ·rw [if_pos (.inl c1)] at hr; subst hr
  have c1I : (p : Int) <= (fr : Int) := by omega
  clear hp ht hp5 c1
  go_enter Tryz.func224, Tryz.ntmps224
  go_wp2_with (go_at_call 147; refine (CW.out _).mono ?_; rintro q w' ⟨rfl, rfl⟩)
  go_ret
  exact ⟨rfl, rfl⟩
 ·have c1I : ¬ (p : Int) <= (fr : Int) := by omega
  have c1b : decide ((p : Int) <= (fr : Int)) = false := decide_eq_false c1I
  by_cases c2 : t < p
  ·rw [if_pos (.inr c2)] at hr; subst hr
   have c2I : (t : Int) < (p : Int) := by omega
   clear hp ht hp5 c1 c2
   go_enter Tryz.func224, Tryz.ntmps224
   go_wp2_with (first | (go_at_call 147; refine (CW.out _).mono ?_; rintro q w' ⟨rfl, rfl⟩) | (go_at_call 206; refine (CG.out _).mono ?_; rintro q w' ⟨rfl, rfl⟩))
   go_ret
   exact ⟨rfl, rfl⟩
  ·rw [if_neg (by omega)] at hr
   have CP := zH (fun w => yjq hl hr he (by omega) w)
   have c2I : ¬ (t : Int) < (p : Int) := by omega
   have c2b : decide ((t : Int) < (p : Int)) = false := decide_eq_false c2I
   have hsum : (p : Int) + 1 = ((p + 1 : Nat) : Int) := by omega
   have hpI : (p : Int) <= 65535 := by omega
   obtain ⟨p1, hp1⟩ : ∃ p1, p + 1 = p1 := ⟨_, rfl⟩; rw [hp1] at hsum CP
   have hwr : IntKind.i64.wrap ((p : Int) + 1) = (p1 : Int) := by rw [hsum]; rw [IntKind.wrap_i64]; omega
   clear hp ht c1 c2 hr hsum hp1 hp5 hpI
   go_enter Tryz.func224, Tryz.ntmps224
   go_wp2_with (first | (go_at_call 147; refine (CW.out _).mono ?_; rintro q w' ⟨rfl, rfl⟩) | (go_at_call 206; refine (CG.out _).mono ?_; rintro q w' ⟨rfl, rfl⟩) | (go_at_call 105; refine (CP.out _).mono ?_; rintro q w' ⟨rfl, rfl⟩))
   go_ret
   exact ⟨rfl, rfl⟩
theorem yzn {lv k r : Nat} (hl : Lv lv) (hk : k < 4294967296) (h1 : wgt lv k <= topW lv) (hr : nxt lv k = r) (w : World) :
  Calls Tryz.prog 209 #[.int .u32 (k : Nat), .int .i64 (lv : Nat)] w fun q w' => q = .returned (.int .u32 (r : Nat)) /\ w = w' := by
 obtain ⟨p, hp⟩ : ∃ p, wgt lv k = p := ⟨_, rfl⟩; have CW := zH (fun w => ybx hl hp hk w)
 have hp5 := lv_wgt hl hk; rw [hp] at hp5 h1
 have hwr : IntKind.i64.wrap ((p : Int) + 1) = ((p + 1 : Nat) : Int) := by rw [show (p : Int) + 1 = ((p + 1 : Nat) : Int) by omega]; rw [IntKind.wrap_i64]; omega
 have hp6 : p + 1 <= 1000000 := by omega
 unfold nxt at hr
 rcases hl with rfl | rfl | rfl
 ·rw [if_pos rfl, hp] at hr; have CM := zH (fun w => E3.make_d (p + 1) 32 2 false (by have : topW 1 = 64255 := rfl; omega) (by omega) (by omega) w)
  rw [show (if (false : Bool) = true then 1 else 0) = 0 from rfl, hr] at CM
  obtain ⟨p1, hp1⟩ : ∃ p1, p + 1 = p1 := ⟨_, rfl⟩; rw [hp1] at hwr CM; clear hp hr h1 hp5 hp1 hp6
  show Calls _ _ #[.int .u32 (k : Nat), .int .i64 1] _ _
  have CW1 : Hid (∀ w, Calls Tryz.prog 147 #[.int .u32 (k : Nat), .int .i64 1] w fun r w' => r = .returned (.int .i64 (p : Nat)) /\ w = w') := CW.out
  clear CW
  go_enter Tryz.func209, Tryz.ntmps209
  go_wp2_with (first | (go_at_call 147; refine (CW1.out _).mono ?_; rintro q w' ⟨rfl, rfl⟩) | (go_at_call 154; refine (CM.out _).mono ?_; rintro q w' ⟨rfl, rfl⟩))
  go_ret
  exact ⟨rfl, rfl⟩
 ·rw [if_neg (by omega), if_pos rfl, hp] at hr
  obtain ⟨m, hm⟩ : ∃ m, putW 2 k (p + 1) = m := ⟨_, rfl⟩
  have hmlt : m < 4294967296 := by rw [<- hm]; exact put_lt hk
  have CP : Hid (∀ w, Calls Tryz.prog 105 #[.int .u32 (k : Nat), .int .i64 2, .int .i64 ((p + 1 : Nat) : Int)] w fun r w' => r = .returned (.int .u32 (m : Nat)) /\ w = w') := fun w => yjq (.inr (.inl rfl)) hm hk hp6 w
  rw [hm] at hr
  have CQ : Hid (∀ w, Calls Tryz.prog 105 #[.int .u32 (m : Nat), .int .i64 3, .int .i64 2] w fun q w' => q = .returned (.int .u32 (r : Nat)) /\ w = w') := fun w => yjq (.inr (.inr rfl)) hr hmlt (by omega) w
  obtain ⟨p1, hp1⟩ : ∃ p1, p + 1 = p1 := ⟨_, rfl⟩; rw [hp1] at hwr CP; clear hp hr h1 hp5 hp1 hp6 hm hmlt
  show Calls _ _ #[.int .u32 (k : Nat), .int .i64 2] _ _
  have CW1 : Hid (∀ w, Calls Tryz.prog 147 #[.int .u32 (k : Nat), .int .i64 2] w fun r w' => r = .returned (.int .i64 (p : Nat)) /\ w = w') := CW.out
  clear CW
  have tok : True := trivial
  go_enter Tryz.func209, Tryz.ntmps209
  go_wp2_with (first | (go_at_call 147; refine (CW1.out _).mono ?_; rintro q w' ⟨rfl, rfl⟩) | (go_at_call 105; have _t := tok; refine (CP.out _).mono ?_; rintro q w' ⟨rfl, rfl⟩; clear _t tok) | (go_at_call 105; refine (CQ.out _).mono ?_; rintro q w' ⟨rfl, rfl⟩))
  go_ret
  exact ⟨rfl, rfl⟩
 ·rw [if_neg (by omega), if_neg (by omega), hp] at hr
  have CP : Hid (∀ w, Calls Tryz.prog 105 #[.int .u32 (k : Nat), .int .i64 3, .int .i64 ((p + 1 : Nat) : Int)] w fun q w' => q = .returned (.int .u32 (r : Nat)) /\ w = w') := fun w => yjq (.inr (.inr rfl)) hr hk hp6 w
  obtain ⟨p1, hp1⟩ : ∃ p1, p + 1 = p1 := ⟨_, rfl⟩; rw [hp1] at hwr CP; clear hp hr h1 hp5 hp1 hp6
  show Calls _ _ #[.int .u32 (k : Nat), .int .i64 3] _ _
  have CW1 : Hid (∀ w, Calls Tryz.prog 147 #[.int .u32 (k : Nat), .int .i64 3] w fun r w' => r = .returned (.int .i64 (p : Nat)) /\ w = w') := CW.out
  clear CW
  go_enter Tryz.func209, Tryz.ntmps209
  go_wp2_with (first | (go_at_call 147; refine (CW1.out _).mono ?_; rintro q w' ⟨rfl, rfl⟩) | (go_at_call 105; refine (CP.out _).mono ?_; rintro q w' ⟨rfl, rfl⟩))
  go_ret
  exact ⟨rfl, rfl⟩
end Go.Proofs.YteibnfeokgibmaaGreat
namespace Go.Proofs.YteibnfeokgibmaaGreat
open Go.ChangeShapes Go.WideShapes Go.ChangeAt Go.RowKit
theorem wf_u8 {a : Int} (h : (Lit.int .u8 a).wf = true) : 0 <= a /\ a <= 255 := by
 simpa [Lit.wf, IntKind.min, IntKind.max, IntKind.signed, IntKind.bits] using h
end Go.Proofs.YteibnfeokgibmaaGreat
