/-
  PACKED for a claim.
-/
import Derived.Outline
import Derived.Test.YteibnfeokgibmaaGreatP21
set_option linter.unusedVariables false
set_option linter.unusedSimpArgs false
set_option maxRecDepth 100000
namespace Go.Proofs.YteibnfeokgibmaaGreat.R4
open Go.RowKit
theorem yfm {w : World} {v : Value} {l : List (Int × Int)} (h : RdP w.heap.size w v l) (hl : l.length <= 1000000) :
  Calls Tryz.prog 118 #[v] w fun e w' => (∃ v', e = .returned v' /\ OwnP w.heap.size w' v' l) /\ Below w.heap.size w w' := by
 obtain ⟨A, c, rfl, hc, hr⟩ := h
 cases A with
 | none =>
  have h0 : l = [] := by
   rcases Nat.eq_zero_or_pos l.length with h0 | h0
   ·exact List.eq_nil_of_length_eq_zero h0
   ·obtain ⟨g, o, e, _⟩ := hr h0; cases e
  subst h0; exact (ywn 0 c w).mono fun e w' ⟨he, hw⟩ => ⟨⟨_, he, by subst hw; exact World.ownsRow_nil w _ _ _⟩, by subst hw; exact zR _ _⟩
 | some ad =>
  refine yrk ad l c w hl fun j u hu => ?_
  have h0 : 0 < l.length := by
   have := (List.getElem?_eq_some_iff.1 hu).1
   rw [ygc] at this; omega
  obtain ⟨g, o, e, -, hcell⟩ := hr h0
  cases e
  rw [Addr.add_lit]; exact hcell j u hu
def BuildPost (w : World) (l : List (Int × Int)) (e : Ending) (w' : World) : Prop :=
 Below w.heap.size w w' /\ ((¬ (∀ p ∈ l, MayP p) /\ e = .returned (.tuple #[.pointer none, .int .i64 1])) \/ ((∀ p ∈ l, MayP p) /\ ¬ Uniq l /\ e = .returned (.tuple #[.pointer none, .int .i64 64])) ∨
  ((∀ p ∈ l, MayP p) /\ Uniq l /\ ∃ p, e = .returned (.tuple #[.pointer (some ⟨p, 0, none⟩), .int .i64 0]) /\ TrieAt w' p (rowsF 17412 (findP l))))
def Wide (l : List (Int × Int)) : Prop := ∀ p ∈ l, -9223372036854775808 <= p.2 /\ p.2 <= 9223372036854775807
theorem yhi {a b : List (Int × Int)} (h : a.Perm b) : Uniq a ↔ Uniq b := List.Perm.pairwise_iff (R := fun p q : Int × Int => p.1 ≠ q.1) (fun {x y} h => h.symm) h
theorem yac {B : Nat} {a w : World} (h : Below B a w) (n : Nat) : Below B a (w.drewN n) := ⟨h.os, h.tape, h.output, h.size, h.block⟩
theorem yqa (l : List (Int × Int)) : Strict (l.take 1) := by
 cases l with
 | nil => exact List.Pairwise.nil
 | cons p t => simp [Strict]
theorem ymv {l : List (Int × Int)} (hso : SortedP l) {k : Nat} {p q : Int × Int} (hq : l[k]? = some q) (hp : l[k + 1]? = some p) (hne : p.1 ≠ q.1) (hs : Strict (l.take (k + 1))) : Strict (l.take (k + 2)) := by
 have hk : k + 1 < l.length := (List.getElem?_eq_some_iff.1 hp).1
 have htk : l.take (k + 2) = l.take (k + 1) ++ [p] := by rw [List.take_add_one (i := k + 1), hp]; rfl
 have hget := List.pairwise_iff_getElem.1 hso; rw [List.getElem?_eq_getElem (by omega)] at hq
 rw [List.getElem?_eq_getElem hk] at hp
 have eq : l[k] = q := Option.some.inj hq
 have ep : l[k + 1] = p := Option.some.inj hp
 rw [htk]; unfold Strict; rw [List.pairwise_append]; refine ⟨hs, by simp, fun x hx y hy => ?_⟩
 simp at hy
 subst hy; obtain ⟨i, hi, e⟩ := List.getElem_of_mem hx; rw [List.getElem_take] at e
 have hi' : i < k + 1 := by rw [List.length_take] at hi; omega
 have h1 := hget k (k + 1) (by omega) hk (by omega)
 rw [eq, ep] at h1
 by_cases hik : i = k
 ·subst hik; rw [eq] at e; rw [<- e]; omega
 ·have h2 := hget i k (by omega) (by omega) (by omega)
  rw [e, eq] at h2
  omega
theorem yzm {l : List (Int × Int)} {k : Nat} {p q : Int × Int} (hq : l[k]? = some q) (hp : l[k + 1]? = some p) (he : p.1 = q.1) : ¬ Uniq l := fun h => by
 have hk : k + 1 < l.length := (List.getElem?_eq_some_iff.1 hp).1
 have hget := List.pairwise_iff_getElem.1 h k (k + 1) (by omega) hk (by omega)
 rw [List.getElem?_eq_getElem (by omega)] at hq
 rw [List.getElem?_eq_getElem hk] at hp; rw [Option.some.inj hq, Option.some.inj hp] at hget; exact hget he.symm
set_option maxHeartbeats 1000000 in
theorem yfp {w : World} {v : Value} {l : List (Int × Int)} (h : RdP w.heap.size w v l) (hl : l.length <= 1000000) (hw : Wide l) :
  Calls Tryz.prog 77 #[v] w (BuildPost w l) := by
 obtain ⟨A, c, rfl⟩ := h.form; have HR := zH h; have HWI := zH hw
 have hl' : (l.length : Int) <= 1000000 := by omega
 clear h hw
 go_enter Tryz.func77, Tryz.ntmps77
 go_wp2
 go_loopw [9] (fun i wr => ∃ k : Nat, k <= l.length /\ i = .int .i64 (k : Nat) /\ Hid (∀ p ∈ l.take k, MayP p) /\ Hid (Below w.heap.size w wr)) (fun i _ => l.length - (intOf i).toNat)
 case atStart => exact ⟨0, Nat.zero_le _, rfl, fun p hp => by simp at hp, zR _ _⟩
 case round =>
  obtain ⟨k, hk, rfl, HM, HW⟩ := hrel
  by_cases hlt : k < l.length
  ·obtain ⟨p, hp⟩ : ∃ p, l[k]? = some p := ⟨_, List.getElem?_eq_getElem hlt⟩; have hpm := List.mem_of_getElem? hp
   have htk : l.take (k + 1) = l.take k ++ [p] := by rw [List.take_add_one, hp]; rfl
   obtain ⟨g, o, rfl, c0, c1⟩ := (HR.out.below HW.out).at hp; have hwp := HWI.out p hpm; obtain ⟨x, hx⟩ : ∃ x : Int, p.1 = x := ⟨_, rfl⟩; obtain ⟨y, hy⟩ : ∃ y : Int, p.2 = y := ⟨_, rfl⟩; rw [hx] at c0; rw [hy] at c1 hwp
   have hkI : (k : Int) < (l.length : Int) := by omega
   have HBA : Hid (w.heap.size <= wr.heap.size) := HW.out.size
   cases hf : fitB x y with
   | true =>
    have hmp : MayP p := by have := (ypf x y).1 hf; rw [<- hx, <- hy] at this; exact this
    have HM2 : Hid (∀ q ∈ l.take (k + 1), MayP q) := fun q hq => by
     rw [htk] at hq
     rcases List.mem_append.1 hq with hq | hq
     ·exact HM.out q hq
     ·simp at hq; subst hq; exact hmp
    have CF := zH (fun w => yvv hf hwp w)
    clear hp hpm htk hwp hx hy hf hmp
    go_wp2_with (go_at_call 117; refine (CF.out _).mono ?_; rintro e w' ⟨rfl, rfl⟩)
    go_roundw
    case rel => exact ⟨k + 1, by omega, by go_num, HM2.out, HW.out.alloc HBA.out _⟩
    case measure => simp [intOf]; omega
   | false =>
    have hnm : ¬ ∀ p ∈ l, MayP p := fun h => by
     have := (ypf x y).2 (by have := h p hpm; rw [<- hx, <- hy]; exact this)
     rw [hf] at this; cases this
    have CF := zH (fun w => yvv hf hwp w)
    have HN := zH hnm; clear hp hpm htk hwp hx hy hf hnm
    go_wp2_with (go_at_call 117; refine (CF.out _).mono ?_; rintro e w' ⟨rfl, rfl⟩)
    go_ret2
    exact ⟨HW.out.alloc HBA.out _, .inl ⟨HN.out, rfl⟩⟩
  ·have hkl : k = l.length := by omega
   subst hkl
   have hm : ∀ p ∈ l, MayP p := by have := HM.out; rw [List.take_length] at this; exact this
   have HM2 := zH hm; have HR2 := zH ((HR.out.below HW.out).more HW.out.size); clear hlt hm HM
   have hsz : wr.heap.size = wr.heap.size := rfl
   go_wp2_with (first
    | (go_at_call 118; refine (yfm HR2.out hl).mono ?_; rintro e w1 ⟨⟨v1, rfl, ho1⟩, hw1⟩)
    | (go_at_call 119; refine (yjw ho1 hl hw1.size).mono ?_; rintro e w2 ⟨rfl, l', hpm, hso, hrd, hw2⟩; obtain ⟨A', c', rfl⟩ := hrd.form))
   have hll : l'.length = l.length := hpm.length_eq.symm
   have hwt : Below w.heap.size w w2 := HW.out.trans ((hw1.trans hw2).mono HW.out.size)
   have HWT := zH hwt; have HRD := zH hrd; have HPM := zH hpm; have HSO := zH hso
   have hl2 : (l'.length : Int) <= 1000000 := by omega
   have HL2 : Hid (l'.length <= 1000000) := by show _ <= _; omega
   clear hwt hrd hpm hso hw1 hw2 ho1 hll hsz; obtain ⟨wo, rfl⟩ : ∃ wo : World, wo = wr := ⟨_, rfl⟩
   go_loopw [26] (fun i wr => ∃ k : Nat, k <= l'.length /\ i = .int .i64 (k : Nat) /\ Hid (Strict (l'.take k)) /\ Hid (Below w2.heap.size w2 wr)) (fun i _ => l'.length - (intOf i).toNat)
   case atStart => exact ⟨0, Nat.zero_le _, rfl, List.Pairwise.nil, zR _ _⟩
   case round =>
    obtain ⟨k, hk, rfl, HS, HX⟩ := hrel
    by_cases hlt : k < l'.length
    ·have hkI : (k : Int) < (l'.length : Int) := by omega
     cases k with
     | zero =>
      have HS1 := zH (yqa l'); clear hk
      go_wp2
      go_quiet (fail)
      go_wp2
      go_roundw
      case rel => exact ⟨1, by omega, rfl, HS1.out, yac HX.out _⟩
      case measure => simp [intOf]; omega
     | succ k =>
      obtain ⟨p, hp⟩ : ∃ p, l'[k + 1]? = some p := ⟨_, List.getElem?_eq_getElem hlt⟩; obtain ⟨q, hq⟩ : ∃ q, l'[k]? = some q := ⟨_, List.getElem?_eq_getElem (by omega)⟩
      obtain ⟨g, o, rfl, c0, c1⟩ := (HRD.out.below HX.out).at hp; obtain ⟨g', o', e, d0, d1⟩ := (HRD.out.below HX.out).at hq
      cases e
      have HST := zH (fun h => ymv HSO.out hq hp h HS.out)
      have HNU := zH (yzm hq hp); obtain ⟨x, hx⟩ : ∃ x : Int, p.1 = x := ⟨_, rfl⟩; obtain ⟨y, hy⟩ : ∃ y : Int, q.1 = y := ⟨_, rfl⟩; rw [hx] at c0 HST HNU; rw [hy] at d0 HST HNU
      have hkk : (0 : Int) < ((k + 1 : Nat) : Int) := by omega
      by_cases he : x = y
      ·have he' : (x == y) = true := by simpa using he
       have HNN := zH (HNU.out he); clear hp hq hx hy c1 d1 hk he
       have r1 : IntKind.i64.wrap ((k : Int) + 1 - 1) = (k : Int) := by rw [show (k : Int) + 1 - 1 = k by omega]; exact IntWalk.i64_in _ (by omega)
       have r2 : (0 : Int) <= (k : Int) := by omega
       have r3 : (k : Int) < (l'.length : Int) := by omega
       have r4 : (0 : Int) <= (k : Int) + 1 := by omega
       have r5 : (k : Int) + 1 < (l'.length : Int) := by omega
       have r6 : ((k : Int) + 1).toNat = k + 1 := by omega
       go_wp2
       go_quiet (fail)
       go_wp2
       go_ret2
       exact ⟨yac (HWT.out.trans (HX.out.mono HWT.out.size)) _, .inr (.inl ⟨HM2.out, fun h => HNN.out ((yhi HPM.out).1 h), rfl⟩)⟩
      ·have he' : (x == y) = false := by simpa using he
       have HS2 := zH (HST.out he); clear hp hq hx hy c1 d1 hk he
       have r1 : IntKind.i64.wrap ((k : Int) + 1 - 1) = (k : Int) := by rw [show (k : Int) + 1 - 1 = k by omega]; exact IntWalk.i64_in _ (by omega)
       have r2 : (0 : Int) <= (k : Int) := by omega
       have r3 : (k : Int) < (l'.length : Int) := by omega
       have r4 : (0 : Int) <= (k : Int) + 1 := by omega
       have r5 : (k : Int) + 1 < (l'.length : Int) := by omega
       have r6 : ((k : Int) + 1).toNat = k + 1 := by omega
       go_wp2
       go_quiet (fail)
       clear r1 r6
       go_wp2
       go_roundw
       case rel => exact ⟨k + 1 + 1, by omega, by go_num, HS2.out, yac HX.out _⟩
       case measure => simp [intOf]; omega
    ·have hkl : k = l'.length := by omega
     subst hkl
     have hst : Strict l' := by have := HS.out; rw [List.take_length] at this; exact this
     have hmm : ∀ p ∈ l', MayP p := fun p hp => HM2.out p ((HPM.out.mem_iff).2 hp)
     have HRF := zH ((HRD.out.below HX.out).more HX.out.size)
     have hfp : findP l' = findP l := funext fun c => (yrg HPM.out ((yhi HPM.out).2 hst.uniq) c).symm
     have HFP := zH hfp; have HST := zH hst; have HMM := zH hmm; clear hlt hst hmm hfp
     go_wp2_with (go_at_call 121; refine (zai HRF.out HL2.out HST.out HMM.out).mono ?_; rintro e w5 ⟨pt, rfl, htr, hw5⟩)
     go_ret2
     rw [HFP.out] at htr; exact ⟨HWT.out.trans ((HX.out.trans (hw5.mono HX.out.size)).mono HWT.out.size), .inr (.inr ⟨HM2.out, (yhi HPM.out).2 HST.out.uniq, pt, rfl, htr⟩)⟩
end Go.Proofs.YteibnfeokgibmaaGreat.R4
