/-
  PACKED for a claim.
-/
import Derived.ProofKit
import Derived.OpenShut
import Derived.Test.YtichfdjjbafeiaaGreatP12
set_option linter.unusedVariables false
set_option linter.unusedSimpArgs false
set_option maxRecDepth 100000
namespace Go.Proofs.YtichfdjjbafeiaaGreat
open Go.Maps Go.RowKit
def aval (s : List Int) : Value := .agg (iv s).toArray
theorem iv_inj {x y : List Int} (h : iv x = iv y) : x = y := List.map_inj_right (fun a b h => by cases h; rfl) |>.1 h
theorem yvr {x y : List Int} (h : aval x = aval y) : x = y := by
 unfold aval at h
 injection h with h
 exact iv_inj (by simpa using h)
def I64 (s : List Int) : Prop := ∀ x ∈ s, -9223372036854775808 <= x /\ x <= 9223372036854775807
theorem yqx {v : Int} (h : -9223372036854775808 <= v /\ v <= 9223372036854775807) : (Lit.int .i64 v).wf = true := by
 unfold Lit.wf
 simp [show IntKind.i64.min = -9223372036854775808 from rfl, show IntKind.i64.max = 9223372036854775807 from rfl]; omega
structure KT (mt kt : TypeId) (n : Nat) : Prop where
 law : Keyed Tryz.prog kt
 und : Tryz.prog.underlying mt = some (.map kt 3)
 undK : Tryz.prog.underlying kt = some (.array n 3)
 cellsK : Tryz.prog.cellsOf kt = n
 keyK : Tryz.prog.keyType kt = true
theorem cellsOfInt : Tryz.prog.cellsOf 3 = 1 := by kernel_rfl
theorem zeroInt (w : World) : (zeroValue 3).run Tryz.prog w = .ok (.int .i64 0) w := by kernel_rfl
theorem types2 : ∃ n, Tryz.prog.types.size + 1 = n + 2 := ⟨Tryz.prog.types.size - 1, by
 have h : (0 : Nat) < Tryz.prog.types.size := of_decide_eq_true (by kernel_rfl)
 omega⟩
theorem ycv {α β : Type} (f : α -> Option β) : ∀ l : List α, (∀ a ∈ l, ∃ b, f a = some b) -> ∃ bs, l.mapM f = some bs
 | [], _ => ⟨[], rfl⟩
 | a :: l, h => by
  obtain ⟨b, hb⟩ := h a (by simp)
  obtain ⟨bs, hbs⟩ := ycv f l fun a ha => h a (by simp [ha])
  exact ⟨b :: bs, by simp [List.mapM_cons, hb, hbs]⟩
theorem KT.key {mt kt : TypeId} {n : Nat} (K : KT mt kt n) {s : List Int} (hn : s.length = n) (hs : I64 s) : ∃ kl, keyOf Tryz.prog kt (aval s) = some kl := by
 obtain ⟨m, hm⟩ := types2
 have hf : (aval s).formed Tryz.prog kt = true := by
  simp [aval, Value.formed, K.undK, K.cellsK, T2.iv_len, hn]
 have hl : ∃ L, Tryz.prog.keyLits (Tryz.prog.types.size + 1) kt (aval s).cells.toList = some L := by
  rw [hm]
  have hcs : (aval s).cells.toList = iv s := by simp [aval, Value.cells]
  rw [hcs]
  have hmm : ∃ bs, (List.range n).mapM (fun i => Tryz.prog.keyLits (m + 1) 3 (((iv s).drop (i * 1)).take 1)) = some bs := by
   refine ycv _ _ fun i hi => ?_
   have hi' : i < n := by simpa using hi
   have hx : i < s.length := by rw [hn]; exact hi'
   have he : ((iv s).drop (i * 1)).take 1 = [.int .i64 s[i]] := by
    rw [Nat.mul_one]; unfold iv T2.iv; rw [<- List.map_drop, List.drop_eq_getElem_cons hx, List.map_cons]
    rfl
   rw [he]; refine ⟨[.int .i64 s[i]], ?_⟩
   simp [Program.keyLits, Tryz.underlying3, yqx (hs _ (List.getElem_mem hx))]
  obtain ⟨bs, hbs⟩ := hmm; refine ⟨bs.flatten, ?_⟩; unfold Program.keyLits; simp only [K.undK, T2.iv_len, hn, K.cellsK, cellsOfInt, if_true, hbs, Option.map_some]
 obtain ⟨L, hL⟩ := hl; refine ⟨.string (keyBytes L), ?_⟩; unfold keyOf; simp only [K.undK, K.keyK, hf, Bool.and_self, if_true, hL, Option.map_some]
def KMap (kt : TypeId) (n : Nat) (w : World) (b : Nat) (L : List PE) : Prop :=
 ∃ (m : Nat) (D : DataW Unit), m <= L.length /\ w.ownsMap Tryz.prog kt (plainElem Tryz.prog 3) b m D ∧
  ∀ s kl, s.length = n -> keyOf Tryz.prog kt (aval s) = some kl -> (∀ j, place L s = some j -> Maps.has D kl = true /\ D.atKey kl (.lit (.int .i64 0)) = .lit (.int .i64 (j : Nat))) /\ (place L s = none -> Maps.has D kl = false)
theorem KMap.new (kt : TypeId) (n : Nat) (w : World) : KMap kt n (w.alloc (.map #[] 0)) w.heap.size [] :=
 ⟨0, .map [], zN _, World.ownsMap_made w _ _ _, fun s kl _ _ => ⟨fun j h => by simp [yct] at h, fun _ => rfl⟩⟩
theorem KMap.kept {kt : TypeId} {n : Nat} {w w' : World} {b : Nat} {L : List PE} {row : Option Nat} (h : KMap kt n w b L) (hg : w.grownBy w' row) (hne : some b ≠ row) : KMap kt n w' b L := by
 obtain ⟨m, D, hm, h1, h2⟩ := h; exact ⟨m, D, hm, h1.kept hg hne, h2⟩
theorem KMap.lt {kt : TypeId} {n : Nat} {w : World} {b : Nat} {L : List PE} (h : KMap kt n w b L) : b < w.heap.size := by
 obtain ⟨m, D, hm, h1, h2⟩ := h; exact h1.lt
theorem KMap.isMap {kt : TypeId} {n : Nat} {w : World} {b : Nat} {L : List PE} (h : KMap kt n w b L) : ∃ es c, w.heap[b]? = some (.map es c) := by
 obtain ⟨m, D, hm, ⟨es, c, h1, _⟩, h2⟩ := h; exact ⟨es, c, h1⟩
theorem KMap.below {kt : TypeId} {n : Nat} {w w' : World} {b : Nat} {L : List PE} {B : Nat} (h : KMap kt n w b L) (hb : Below B w w') (hB : w.heap.size <= B) : KMap kt n w' b L :=
 h.kept (row := none) ⟨hb.os, hb.tape, hb.output, hb.size, fun k hk _ => hb.block k (by omega)⟩ (by simp)
theorem KMap.look_old {mt kt : TypeId} {n : Nat} (K : KT mt kt n) {w : World} {b : Nat} {L : List PE} (h : KMap kt n w b L) {s : List Int} (hn : s.length = n) (hs : I64 s) {j : Nat} (hp : place L s = some j) :
  (Instr.lookup mt (.map (some b)) (aval s) true).run Tryz.prog w = .ok (.tuple #[.int .i64 (j : Nat), .bool true]) w := by
 obtain ⟨m, D, hm, h1, h2⟩ := h; obtain ⟨kl, hkl⟩ := K.key hn hs; obtain ⟨ha, hb⟩ := (h2 s kl hn hkl).1 j hp; obtain ⟨v, ps, hrun, hv⟩ := h1.look_ok K.law K.und (zeroInt w) (plainElem_int Tryz.underlying3 (by decide)) hkl
 obtain ⟨c, rfl, hc, hwc⟩ := plainElem_int_inv Tryz.underlying3 hv; have hc' := congrArg Prod.fst hc; simp only [hb] at hc'
 injection hc' with e
 injection e with e1 e2
 rw [hrun, ha, <- e2]
theorem KMap.look_new {mt kt : TypeId} {n : Nat} (K : KT mt kt n) {w : World} {b : Nat} {L : List PE} (h : KMap kt n w b L) {s : List Int} (hn : s.length = n) (hs : I64 s) (hp : place L s = none) :
  (Instr.lookup mt (.map (some b)) (aval s) true).run Tryz.prog w = .ok (.tuple #[.int .i64 0, .bool false]) w := by
 obtain ⟨m, D, hm, h1, h2⟩ := h; obtain ⟨kl, hkl⟩ := K.key hn hs; have ha := (h2 s kl hn hkl).2 hp; obtain ⟨v, ps, hrun, hv⟩ := h1.look_ok K.law K.und (zeroInt w) (plainElem_int Tryz.underlying3 (by decide)) hkl
 obtain ⟨c, rfl, hc, hwc⟩ := plainElem_int_inv Tryz.underlying3 hv; have hc' := congrArg Prod.fst hc; simp only [Maps.atKey_of_not_has ha] at hc'
 injection hc' with e
 injection e with e1 e2
 rw [hrun, ha, <- e2]
theorem KMap.other {kt : TypeId} {n : Nat} {w : World} {b : Nat} {L : List PE} (h : KMap kt n w b L) (e : PE) (hne : e.1.length ≠ n) : KMap kt n w b (L ++ [e]) := by
 obtain ⟨m, D, hm, h1, h2⟩ := h; refine ⟨m, D, by simp; omega, h1, fun s kl hn hkl => ?_⟩
 rw [yjg, if_neg (fun c => hne (by rw [c]; exact hn))]
 have := h2 s kl hn hkl
 cases hp : place L s with
 | none => rw [hp] at this; exact this
 | some k => rw [hp] at this; exact this
theorem KMap.store {mt kt : TypeId} {n : Nat} (K : KT mt kt n) {w : World} {b : Nat} {L : List PE} (h : KMap kt n w b L) {e : PE} (hn : e.1.length = n) (hs : I64 e.1) (hp : place L e.1 = none) (hl : L.length < 1000) :
  ∃ w', (Instr.mapUpdate mt (.map (some b)) (aval e.1) (.int .i64 ((L.length : Nat) : Int))).run Tryz.prog w = .ok () w' /\ KMap kt n w' b (L ++ [e]) /\ w.grownBy w' (some b) := by
 obtain ⟨m, D, hm, h1, h2⟩ := h; obtain ⟨kl, hkl⟩ := K.key hn hs; obtain ⟨w', hrun, h3, h4⟩ := h1.update K.law K.und (by simp only [maxLen]; omega) hkl (plainElem_int Tryz.underlying3 (yqx (v := ((L.length : Nat) : Int)) (by omega)))
 have hkk := K.law.key hkl; refine ⟨w', hrun, ⟨m + 1, _, by simp; omega, h3, fun s ks hn' hks => ?_⟩, h4⟩
 rw [yjg]
 by_cases c : e.1 = s
 ·subst c
  have : ks = kl := by rw [hkl] at hks; exact (Option.some.inj hks).symm
  subst this; rw [hp, if_pos rfl]; refine ⟨fun j hj => ?_, fun h => by simp at h⟩
  cases hj
  exact ⟨Maps.has_put_same h1.isMap hkk _, Maps.atKey_put_same h1.isMap hkk _ _⟩
 ·have hne : ks ≠ kl := fun e' => c (yvr (K.law.inj hkl (e' ▸ hks)))
  rw [Maps.has_put_other hne, Maps.atKey_put_other hne, if_neg c]
  have := h2 s ks hn' hks
  cases hq : place L s with
  | none => rw [hq] at this; exact this
  | some k => rw [hq] at this; exact this
theorem laidOut0 : laidOutB Tryz.prog = true := by kernel_rfl
theorem law2 : Keyed Tryz.prog 128 := Keyed.of_law (deep_law_laid laidOut0 (m := 2) (by omega) (of_decide_eq_true (by kernel_rfl)) (by kernel_rfl) (by kernel_rfl))
theorem law3 : Keyed Tryz.prog 129 := Keyed.of_law (deep_law_laid laidOut0 (m := 2) (by omega) (of_decide_eq_true (by kernel_rfl)) (by kernel_rfl) (by kernel_rfl))
theorem kt2 : KT 67 128 2 := ⟨law2, Tryz.underlying67, Tryz.underlying128, by kernel_rfl, by kernel_rfl⟩
theorem kt3 : KT 68 129 3 := ⟨law3, Tryz.underlying68, Tryz.underlying129, by kernel_rfl, by kernel_rfl⟩
end Go.Proofs.YtichfdjjbafeiaaGreat
namespace Go.Proofs.YtichfdjjbafeiaaGreat
open Go.ChangeShapes Go.WideShapes Go.ChangeAt Go.RowKit
theorem wf_u8 {a : Int} (h : (Lit.int .u8 a).wf = true) : 0 <= a /\ a <= 255 := by
 simpa [Lit.wf, IntKind.min, IntKind.max, IntKind.signed, IntKind.bits] using h
end Go.Proofs.YtichfdjjbafeiaaGreat
