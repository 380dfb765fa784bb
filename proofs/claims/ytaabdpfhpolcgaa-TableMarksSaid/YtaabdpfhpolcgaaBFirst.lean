/-
  THE CONTRACTS of first, of Elements, of At.
-/
import Derived.Test.YtaabdpfhpolcgaaBFind
import Derived.Test.YtaabdpfhpolcgaaT2D
namespace Go.Proofs.Ytaabdpfhpolcgaa
open Go.RowKit
set_option linter.unusedVariables false
set_option linter.unusedSimpArgs false
theorem RdI.take {G : Nat → Prop} {w : World} {A : Option Addr} {m c : Nat} {l : List Int} (h : RdI G w (.slice A m c) l) {n : Nat} (hn : n ≤ l.length) : RdI G w (.slice A n c) (l.take n) := by
  have hm : m = l.length := (RdF.cap h).2
  subst hm
  have := RdF.take h hn n
  unfold RdI
  rw [List.length_take, Nat.min_eq_left hn, show iv (l.take n) = (iv l).take n by simp [iv, T2.iv, List.map_take]]
  exact this
theorem RdI.drop {G : Nat → Prop} {w : World} {A A2 : Option Addr} {m c u : Nat} {l : List Int} (h : RdI G w (.slice A m c) l) (hu : u ≤ l.length) (hA : ∀ ad : Addr, A = some ad → (if c = u then some ad else some (ad.add u)) = A2) : RdI G w (.slice A2 (l.length - u) (c - u)) (l.drop u) := by
  have hm : m = l.length := (RdF.cap h).2
  subst hm
  have := RdF.drop h hu hA
  unfold RdI
  rw [List.length_drop, show iv (l.drop u) = (iv l).drop u by simp [iv, T2.iv, List.map_drop]]
  exact this
theorem i64_take {l : List Int} (h : I64 l) (n : Nat) : I64 (l.take n) := fun x hx => h x (List.mem_of_mem_take hx)
def FirstIs (L : List PE) (ss : List Int) (w : World) (e : Ending) (w' : World) : Prop := (∃ A c, e = .returned (.tuple #[.slice A (atP L ss).1.length c, .int .i64 ((atP L ss).2 : Nat)]) ∧ RdE anyB w' (.slice A (atP L ss).1.length c) (atP L ss).1) ∧ Below w.heap.size w w'
theorem atF_hit {L : List PE} {ss : List Int} {n k : Nat} {e : PE} (hp : place L (ss.take (n + 1)) = some k) (he : L[k]? = some e) : atF L ss (n + 1) = (e.2, n + 1) := by
  rw [atF, look_place hp he]
theorem atF_miss {L : List PE} {ss : List Int} {n : Nat} (hp : place L (ss.take (n + 1)) = none) : atF L ss (n + 1) = atF L ss n := by
  rw [atF, look_none hp]
set_option maxRecDepth 100000 in
theorem first_any {F G : Nat → Prop} {w : World} {p : Nat} {L : List PE} {v : Value} {ss : List Int} (h : TabAt F w p L) (hs : RdI G w v ss) (h0 : 0 < ss.length) (hI : I64 ss) (hl : ss.length ≤ 1000000) :
    Calls Try.prog 14 #[.pointer (some ⟨p, 0, none⟩), v] w (FirstIs L ss w) := by
  obtain ⟨A, c, rfl⟩ := hs.form
  obtain ⟨A1, c1, bo, b2, b3, d0, -, -, -, hr, -, -, -⟩ := h.cells
  obtain ⟨g, o, e0, c2⟩ := hs.at (hd_at h0)
  simp only [Nat.add_zero] at c2
  have hcap := (RdF.cap hs).1
  obtain ⟨R, hR⟩ : ∃ R, atP L ss = R := ⟨_, rfl⟩
  obtain ⟨l, u⟩ := R
  unfold FirstIs
  rw [hR]
  have hR' : atF L ss (min 3 ss.length) = (l, u) := hR
  have HR := Lib.hid hR'
  have HT := Lib.hid h
  have HS := Lib.hid hs
  have HE := Lib.hid hr
  have HI := Lib.hid hI
  have hlI : (ss.length : Int) ≤ 1000000 := by omega
  have h0I : (0 : Int) < (ss.length : Int) := by omega
  obtain ⟨n, hn⟩ : ∃ n, min 3 ss.length = n := ⟨_, rfl⟩
  have hn3 : n ≤ 3 := by omega
  have hnl : n ≤ ss.length := by omega
  have HMIN : Hid (min 3 (ss.length : Int) = (n : Int)) := by show _ = _; omega
  rw [hn] at HR
  have HC2 := Lib.hid c2
  have HD0 := Lib.hid d0
  have HEA := Lib.hid e0
  clear h hs hr hI hR hR' c2 d0 e0
  clear hn
  go_enter Try.func14, Try.ntmps14
  go_wp2
  go_loopw [6] (fun i wr => ∃ m : Nat, m ≤ ss.length ∧ m ≤ 3 ∧ i = .int .i64 (m : Nat) ∧ Hid (atF L ss m = (l, u)) ∧ Hid (Below w.heap.size w wr)) (fun i _ => (intOf i).toNat)
  case atStart => exact ⟨n, hnl, hn3, by rw [HMIN.out], HR.out, Below.refl _ _⟩
  case round =>
    clear HR HMIN hnl hn3
    obtain ⟨m, hm, hm3, rfl, HF, HB⟩ := hrel
    cases m with
    | zero =>
      have hf := HF.out
      unfold atF at hf
      have h1 : impl (hd ss) = l := congrArg Prod.fst hf
      have h2 : 1 = u := congrArg Prod.snd hf
      subst h2
      have HL := Lib.hid h1
      have c3 := HEA.out
      subst c3
      have c4 : RdI G wr (.slice (some ⟨g, o, none⟩) ss.length c) ss := RdF.below HS.out HB.out (Nat.le_refl _)
      obtain ⟨g', o', e', c5⟩ := c4.at (hd_at h0)
      cases e'
      simp only [Nat.add_zero] at c5
      have HIM := Lib.hid (fun w => impl_any (hd ss) w)
      rw [h1] at HIM
      clear hf h1 c4 HF
      go_wp2_with (go_at_call 35; refine (HIM.out _).mono ?_; rintro e w1 ⟨vl, rfl, ho, hb⟩; obtain ⟨A9, c9, rfl⟩ := ho.form; have HO := Lib.hid ho; have HB2 := Lib.hid (HB.out.trans (hb.mono HB.out.size)); clear ho hb)
      go_ret2
      exact ⟨⟨_, _, rfl, HO.out.rd fun _ _ => trivial⟩, HB2.out⟩
    | succ m =>
      have hmI : ((m + 1 : Nat) : Int) ≤ (ss.length : Int) := by omega
      have hmJ : (0 : Int) < ((m + 1 : Nat) : Int) := by omega
      have HW := Lib.hid (HT.out.below HB.out (Nat.le_refl _))
      have HSk := Lib.hid ((HS.out.below HB.out (Nat.le_refl _)).take hm)
      have hcI : ((m + 1 : Nat) : Int) ≤ (c : Int) := by omega
      cases hp : place L (ss.take (m + 1)) with
      | none =>
        have HF2 : Hid (atF L ss m = (l, u)) := by show _ = _; rw [← atF_miss hp]; exact HF.out
        have HC := Lib.hid (find_no hp HW.out HSk.out (i64_take HI.out _) (by rw [List.length_take]; omega))
        clear hp
        go_wp2_with (go_at_call 34; refine (HC.out).mono ?_; rintro e w1 ⟨⟨i, rfl⟩, hb⟩; have HB2 := Lib.hid (HB.out.trans (hb.mono HB.out.size)); clear hb)
        go_roundw
        case rel => exact ⟨m, by omega, by omega, by go_num, HF2.out, HB2.out⟩
        case measure => simp [intOf]
      | some k =>
        obtain ⟨e, he, hes⟩ := place_some hp
        have hf := HF.out
        rw [atF_hit hp he] at hf
        have h1 : e.2 = l := congrArg Prod.fst hf
        have h2 : m + 1 = u := congrArg Prod.snd hf
        subst h2
        have HC := Lib.hid (find_yes hp HW.out HSk.out)
        have hkL := place_lt hp
        have hkI : (k : Int) < (L.length : Int) := by omega
        obtain ⟨g1, o1, vs, vl, rfl, -, c3, -, hrl⟩ := (HE.out.below HB.out (Nat.le_refl _)).at he
        rw [h1] at hrl
        obtain ⟨A8, c8, rfl⟩ := hrl.form
        have d1 := (HB.out.cell (p := ⟨p, 0, none⟩) (cell_lt HD0.out)).trans HD0.out
        have HX : Hid (∀ W, Below wr.heap.size wr W → W.cell? ⟨p, 0, none⟩ = some (.slice (some ⟨g1, o1, none⟩) L.length c1) ∧ W.cell? ⟨g1, o1 + k * 2 + 1, none⟩ = some (.slice A8 l.length c8) ∧ RdE F W (.slice A8 l.length c8) l) := fun W hb =>
          ⟨(hb.cell (p := ⟨p, 0, none⟩) (cell_lt d1)).trans d1, (hb.cell (p := ⟨g1, o1 + k * 2 + 1, none⟩) (cell_lt c3)).trans c3, hrl.below hb (Nat.le_refl _)⟩
        clear hf h1 he hes hp c3 hrl d1 hkL
        go_wp2_with (go_at_call 34; refine (HC.out).mono ?_; rintro e w1 ⟨rfl, hb⟩; have HB2 := Lib.hid (HB.out.trans (hb.mono HB.out.size)); obtain ⟨x1, x2, x3⟩ := HX.out w1 hb; have HX3 := Lib.hid x3; clear hb x3)
        go_ret2
        exact ⟨⟨_, _, rfl, HX3.out.any⟩, HB2.out⟩
end Go.Proofs.Ytaabdpfhpolcgaa
