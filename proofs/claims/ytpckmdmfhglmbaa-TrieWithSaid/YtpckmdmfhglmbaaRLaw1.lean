/-
  THE WALK of the law TrieTells.
-/
import Derived.Test.YtpckmdmfhglmbaaRBlocks
namespace Go.Proofs.Ytpckmdmfhglmbaa
open Go.RowKit
set_option linter.unusedVariables false
set_option linter.unusedSimpArgs false
def DupAt (l : List (Int × Int)) (i m : Nat) : Prop := ∃ (k : Nat) (pk pi : Int × Int), k < m ∧ l[k]? = some pk ∧ l[i]? = some pi ∧ pk.1 = pi.1
def DupFrom (l : List (Int × Int)) (j : Nat) : Prop := ∃ i : Nat, j ≤ i ∧ DupAt l i i
theorem dupFrom_step (l : List (Int × Int)) (i : Nat) : DupFrom l i ↔ DupFrom l (i + 1) ∨ DupAt l i i := by
  constructor
  · rintro ⟨k, hk, h⟩
    by_cases e : i = k
    · subst e; exact .inr h
    · exact .inl ⟨k, by omega, h⟩
  · rintro (⟨k, hk, h⟩ | h)
    · exact ⟨k, by omega, h⟩
    · exact ⟨i, Nat.le_refl _, h⟩
theorem dupAt_step {l : List (Int × Int)} {i m : Nat} {pk pi : Int × Int} (hk : l[m]? = some pk) (hi : l[i]? = some pi) : DupAt l i (m + 1) ↔ DupAt l i m ∨ pk.1 = pi.1 := by
  constructor
  · rintro ⟨k, qk, qi, h1, h2, h3, h4⟩
    rw [hi] at h3
    cases h3
    by_cases e : k = m
    · subst e; rw [hk] at h2; cases h2; exact .inr h4
    · exact .inl ⟨k, qk, _, by omega, h2, hi, h4⟩
  · rintro (⟨k, qk, qi, h1, h2, h3, h4⟩ | h)
    · exact ⟨k, qk, qi, by omega, h2, h3, h4⟩
    · exact ⟨m, pk, pi, by omega, hk, hi, h⟩
theorem dupFrom_end (l : List (Int × Int)) : ¬ DupFrom l l.length := by
  rintro ⟨i, hi, k, pk, pi, _, _, h, _⟩
  have := (List.getElem?_eq_some_iff.1 h).1
  omega
theorem dupFrom_all (l : List (Int × Int)) : DupFrom l 0 ↔ ¬ Uniq l := by
  constructor
  · rintro ⟨i, _, k, pk, pi, h1, h2, h3, h4⟩ hu
    obtain ⟨hk, e1⟩ := List.getElem?_eq_some_iff.1 h2
    obtain ⟨hi, e2⟩ := List.getElem?_eq_some_iff.1 h3
    have := List.pairwise_iff_getElem.1 hu k i hk hi h1
    rw [e1, e2] at this
    exact this h4
  · intro hn
    by_cases h : DupFrom l 0
    · exact h
    · exfalso
      refine hn (List.pairwise_iff_getElem.2 fun i j hi hj hij e => h ⟨j, Nat.zero_le _, i, l[i], l[j], hij, List.getElem?_eq_getElem hi, List.getElem?_eq_getElem hj, e⟩)
def WantIs (l : List (Int × Int)) (E : Int) : Prop := (E = 1 ∧ ¬ ∀ p ∈ l, MayP p) ∨ (E = 64 ∧ (∀ p ∈ l, MayP p) ∧ ¬ Uniq l) ∨ (E = 0 ∧ (∀ p ∈ l, MayP p) ∧ Uniq l)
theorem want_one {l : List (Int × Int)} {E F : Int} (h : WantIs l E) (k : WantIs l F) : E = F := by
  rcases h with ⟨rfl, h⟩ | ⟨rfl, h, h'⟩ | ⟨rfl, h, h'⟩ <;> rcases k with ⟨rfl, k⟩ | ⟨rfl, k, k'⟩ | ⟨rfl, k, k'⟩ <;> first | rfl | exact absurd k h | exact absurd h k | exact absurd k' h' | exact absurd h' k'
theorem build_w {w : World} {v : Value} {l : List (Int × Int)} (h : RdP w.heap.size w v l) (hl : l.length ≤ 1000) (hw : Wide l) :
    Calls Try.prog 7 #[v] w fun e w' => ∃ (tp : Option Addr) (E : Int), e = .returned (.tuple #[.pointer tp, .int .i64 E]) ∧ WantIs l E ∧ ((E ≠ 0 ∧ tp = none) ∨ (E = 0 ∧ ∃ p, tp = some ⟨p, 0, none⟩ ∧ TrieAt w' p (rowsF 17412 (findP l)))) ∧ Below w.heap.size w w' := by
  refine (build_any h (by omega) hw).mono fun e w' hp => ?_
  obtain ⟨hb, ⟨h1, he⟩ | ⟨h1, h2, he⟩ | ⟨h1, h2, p, he, ht⟩⟩ := hp
  · exact ⟨none, 1, he, .inl ⟨rfl, h1⟩, .inl ⟨by decide, rfl⟩, hb⟩
  · exact ⟨none, 64, he, .inr (.inl ⟨rfl, h1, h2⟩), .inl ⟨by decide, rfl⟩, hb⟩
  · exact ⟨_, 0, he, .inr (.inr ⟨rfl, h1, h2⟩), .inr ⟨rfl, p, rfl, ht⟩, hb⟩
theorem get_all {w : World} {p : Nat} {l : List (Int × Int)} (h : TrieAt w p (rowsF 17412 (findP l))) (hm : ∀ q ∈ l, MayP q) {c y : Int} (hy : findP l c = y) :
    Calls Try.prog 9 #[.pointer (some ⟨p, 0, none⟩), .int .i64 c] w fun e w' => e = .returned (.int .i64 y) ∧ ∃ n, w' = w.drewN n := by
  cases hs : signB c with
  | true => exact get_any h ((signB_iff c).1 hs) hy
  | false =>
    have : findP l c = 0 := findP_not fun q hq e => by
      have := hm q hq
      have h2 := (signB_iff c).2 ⟨by rw [← e]; exact this.1, by rw [← e]; exact this.2.1⟩
      rw [hs] at h2; cases h2
    rw [← hy, this]
    exact get_out hs w _
theorem get_allq {w : World} {p : Nat} {l : List (Int × Int)} (h : TrieAt w p (rowsF 17412 (findP l))) (hm : ∀ q ∈ l, MayP q) {c y : Int} (hy : findP l c = y) (n : Nat) :
    Calls Try.prog 9 #[.pointer (some ⟨p, 0, none⟩), .int .i64 c] (w.drewN n) fun e w' => e = .returned (.int .i64 y) ∧ ∃ m, w' = (w.drewN n).drewN m := get_all (h.drewN n) hm hy
theorem rd_drewN {w : World} {v : Value} {l : List (Int × Int)} (h : RdP w.heap.size w v l) (n : Nat) : RdP (w.drewN n).heap.size (w.drewN n) v l := h.below (below_drewN (Below.refl w.heap.size w) n)
set_option maxHeartbeats 1000000 in
set_option maxRecDepth 100000 in
theorem trieTells_walk (v : Value) (l : List (Int × Int)) (c : Int) (w : World) (h : RdP w.heap.size w v l) (hw : Wide l) (hlm : l.length ≤ maxLen) (hc : -9223372036854775808 ≤ c ∧ c ≤ 9223372036854775807) :
    Calls Try.prog 3 #[v, .int .i64 c] w fun e w' => e = .returned (.bool true) ∧ Below w.heap.size w w' := by
  obtain ⟨A, cp, rfl⟩ := h.form
  have HR := Lib.hid h
  have HWI := Lib.hid hw
  clear h hw hc
  by_cases hl : l.length ≤ 40
  · have hl' : (l.length : Int) ≤ 40 := by omega
    clear hlm
    go_enter Try.func3, Try.ntmps3
    go_wp2_with (go_at_call 7; refine (build_w HR.out (by omega) HWI.out).mono ?_; rintro e w1 ⟨tp, E, rfl, hE, hT, hw1⟩)
    have HE := Lib.hid hE
    have HT := Lib.hid hT
    have HW1 := Lib.hid hw1
    have HR1 := Lib.hid (HR.out.below hw1)
    clear hE hT hw1
    go_loopw [7, 8] (fun s i wr => ∃ (j : Nat) (W : Int), j ≤ l.length ∧ i = .int .i64 ((j : Nat) - 1 : Int) ∧ s = .int .i64 W ∧ Hid ((W = 64 ∧ DupFrom l j) ∨ (W = 0 ∧ ¬ DupFrom l j)) ∧ Hid (∃ n, wr = w1.drewN n)) (fun _ i _ => (intOf i + 1).toNat)
    case atStart => exact ⟨l.length, 0, Nat.le_refl _, rfl, rfl, .inr ⟨rfl, dupFrom_end l⟩, 0, rfl⟩
    case round =>
      obtain ⟨j, W, hj, rfl, rfl, HD, HN⟩ := hrel
      cases j with
      | succ j =>
        have e1 : (((j + 1 : Nat) : Int) - 1) = (j : Int) := by omega
        rw [e1]
        clear e1
        have hjI : (j : Int) < (l.length : Int) := by omega
        have hj0 : (0 : Int) ≤ (j : Int) := by omega
        obtain ⟨pi, hpi⟩ : ∃ pi, l[j]? = some pi := ⟨_, List.getElem?_eq_getElem (by omega)⟩
        have HPI := Lib.hid hpi
        obtain ⟨wo, hwo⟩ : ∃ wo : World, wo = wr := ⟨_, rfl⟩
        subst hwo
        clear hpi
        go_wp2
        go_loopw [7, 9] (fun s i wr => ∃ (m : Nat) (W : Int), m ≤ j ∧ i = .int .i64 (m : Nat) ∧ s = .int .i64 W ∧ Hid ((W = 64 ∧ (DupFrom l (j + 1) ∨ DupAt l j m)) ∨ (W = 0 ∧ ¬ (DupFrom l (j + 1) ∨ DupAt l j m))) ∧ Hid (∃ n, wr = w1.drewN n)) (fun _ i _ => j - (intOf i).toNat)
        case atStart =>
          refine ⟨0, W, Nat.zero_le _, rfl, rfl, ?_, HN.out⟩
          have h0 : ¬ DupAt l j 0 := by rintro ⟨k, _, _, hk, _⟩; omega
          rcases HD.out with ⟨e, h⟩ | ⟨e, h⟩
          · exact .inl ⟨e, .inl h⟩
          · exact .inr ⟨e, fun h' => h'.elim h h0⟩
        case round =>
          obtain ⟨m, W, hm, rfl, rfl, HD, HN⟩ := hrel
          by_cases hmj : m < j
          · obtain ⟨pk, hpk⟩ : ∃ pk, l[m]? = some pk := ⟨_, List.getElem?_eq_getElem (by omega)⟩
            obtain ⟨n, hn⟩ := HN.out
            have hR3 : RdP w.heap.size wr (.slice A l.length cp) l := by rw [hn]; exact HR1.out.below (below_drewN (Below.refl _ _) n)
            obtain ⟨g, o, e1, c0, -⟩ := hR3.at hpk
            obtain ⟨g', o', e2, d0, -⟩ := hR3.at HPI.out
            subst e1
            cases e2
            have hst := dupAt_step hpk HPI.out
            obtain ⟨x, hx⟩ : ∃ x : Int, pk.1 = x := ⟨_, rfl⟩
            obtain ⟨y, hy⟩ : ∃ y : Int, pi.1 = y := ⟨_, rfl⟩
            rw [hx] at c0 hst
            rw [hy] at d0 hst
            have HST := Lib.hid hst
            have hmI : (m : Int) < (j : Int) := by omega
            have hmL : (m : Int) < (l.length : Int) := by omega
            have hm0 : (0 : Int) ≤ (m : Int) := by omega
            by_cases he : x = y
            · have he' : (x == y) = true := by simpa using he
              have HD2 : Hid (DupFrom l (j + 1) ∨ DupAt l j (m + 1)) := .inr (HST.out.2 (.inr he))
              clear hpk hst hx hy he hn hR3
              go_wp2
              go_quiet (fail)
              clear he'
              go_wp2
              go_roundw
              case rel => exact ⟨m + 1, 64, by omega, by go_num, rfl, .inl ⟨rfl, HD2.out⟩, by obtain ⟨n4, h4⟩ := HN.out; exact ⟨_, by rw [h4]; exact World.drewN_drewN _ _ _⟩⟩
              case measure => simp [intOf]; omega
            · have he' : (x == y) = false := by simpa using he
              have HD2 : Hid ((W = 64 ∧ (DupFrom l (j + 1) ∨ DupAt l j (m + 1))) ∨ (W = 0 ∧ ¬ (DupFrom l (j + 1) ∨ DupAt l j (m + 1)))) := by
                show _ ∨ _
                rw [HST.out]
                rcases HD.out with ⟨e, h⟩ | ⟨e, h⟩
                · exact .inl ⟨e, h.elim .inl fun h => .inr (.inl h)⟩
                · exact .inr ⟨e, fun h' => h (h'.elim .inl fun h' => h'.elim .inr fun h' => absurd h' he)⟩
              clear hpk hst hx hy he hn hR3
              go_wp2
              go_quiet (fail)
              clear he'
              go_wp2
              go_roundw
              case rel => exact ⟨m + 1, W, by omega, by go_num, rfl, HD2.out, by obtain ⟨n4, h4⟩ := HN.out; exact ⟨_, by rw [h4]; exact World.drewN_drewN _ _ _⟩⟩
              case measure => simp [intOf]; omega
          · have hmj' : m = j := by omega
            subst hmj'
            have HD2 : Hid ((W = 64 ∧ DupFrom l m) ∨ (W = 0 ∧ ¬ DupFrom l m)) := by
              show _ ∨ _
              rw [dupFrom_step]
              exact HD.out
            clear hmj
            go_wp2
            go_roundw
            case rel => exact ⟨m, W, by omega, rfl, rfl, HD2.out, HN.out⟩
            case measure => simp [intOf]
      | zero =>
        have HW0 : Hid ((W = 64 ∧ ¬ Uniq l) ∨ (W = 0 ∧ Uniq l)) := by
          rcases HD.out with ⟨e, h⟩ | ⟨e, h⟩
          · exact .inl ⟨e, (dupFrom_all l).1 h⟩
          · right
            refine ⟨e, ?_⟩
            by_cases hu : Uniq l
            · exact hu
            · exact absurd ((dupFrom_all l).2 hu) h
        have e1 : (((0 : Nat) : Int) - 1) = -1 := rfl
        rw [e1]
        clear e1
        have HBW : Hid (Below w.heap.size w wr) := by obtain ⟨n, hn⟩ := HN.out; show Below _ _ _; rw [hn]; exact below_drewN HW1.out n
        have HTW : Hid ((E ≠ 0 ∧ tp = none) ∨ (E = 0 ∧ ∃ p, tp = some ⟨p, 0, none⟩ ∧ TrieAt wr p (rowsF 17412 (findP l)))) := by
          obtain ⟨n, hn⟩ := HN.out
          rcases HT.out with h | ⟨h, p, h2, h3⟩
          · exact .inl h
          · exact .inr ⟨h, p, h2, by rw [hn]; exact h3.drewN n⟩
        clear HD HN HT HR1
        go_wp2
        obtain ⟨wo, hwo⟩ : ∃ wo : World, wo = wr := ⟨_, rfl⟩
        subst hwo
        go_loopw [7, 10] (fun s i wr => ∃ (k : Nat) (V : Int), k ≤ l.length ∧ i = .int .i64 (k : Nat) ∧ s = .int .i64 V ∧ Hid ((V = 1 ∧ ¬ ∀ p ∈ l.take k, MayP p) ∨ (V = W ∧ ∀ p ∈ l.take k, MayP p)) ∧ Hid (Below wo.heap.size wo wr)) (fun _ i _ => l.length - (intOf i).toNat)
        case atStart => exact ⟨0, W, Nat.zero_le _, rfl, rfl, .inr ⟨rfl, fun p hp => by simp at hp⟩, Below.refl _ _⟩
        case round =>
          obtain ⟨k, V, hk, rfl, rfl, HV, HX⟩ := hrel
          by_cases hlt : k < l.length
          · obtain ⟨p, hp⟩ : ∃ p, l[k]? = some p := ⟨_, List.getElem?_eq_getElem hlt⟩
            have hR3 : RdP w.heap.size wr (.slice A l.length cp) l := HR.out.below (HBW.out.trans (HX.out.mono HBW.out.size))
            obtain ⟨g, o, rfl, c0, c1⟩ := hR3.at hp
            have htk := take_snoc hp
            obtain ⟨x, hx⟩ : ∃ x : Int, p.1 = x := ⟨_, rfl⟩
            obtain ⟨y, hy⟩ : ∃ y : Int, p.2 = y := ⟨_, rfl⟩
            rw [hx] at c0
            rw [hy] at c1
            have hkI : (k : Int) < (l.length : Int) := by omega
            have hpe : p = (x, y) := by rw [← hx, ← hy]
            cases hf : fitB x y with
            | true =>
              have hmp := (fitB_iff x y).1 hf
              have HV2 : Hid ((V = 1 ∧ ¬ ∀ p ∈ l.take (k + 1), MayP p) ∨ (V = W ∧ ∀ p ∈ l.take (k + 1), MayP p)) := by
                show _ ∨ _
                rw [htk]
                rcases HV.out with ⟨e, h⟩ | ⟨e, h⟩
                · exact .inl ⟨e, fun h' => h fun q hq => h' q (by simp [hq])⟩
                · right
                  refine ⟨e, fun q hq => ?_⟩
                  rcases List.mem_append.1 hq with hq | hq
                  · exact h q hq
                  · simp at hq; rw [hq, hpe]; exact hmp
              have CM := Lib.hid (fun w => may_any x y w)
              rw [hf] at CM
              clear hp htk hx hy hpe hf hR3 hmp
              go_wp2_with (go_at_call 8; refine (CM.out _).mono ?_; rintro e w' ⟨rfl, hb⟩)
              go_roundw
              case rel => exact ⟨k + 1, V, by omega, by go_num, rfl, HV2.out, HX.out.trans (hb.mono HX.out.size)⟩
              case measure => simp [intOf]; omega
            | false =>
              have hn1 : ¬ ∀ p ∈ l.take (k + 1), MayP p := fun h => by
                have := (fitB_iff x y).2 (by rw [← hpe]; exact h p (by rw [htk]; simp))
                rw [hf] at this; cases this
              have HN1 := Lib.hid hn1
              clear hn1
              have CM := Lib.hid (fun w => may_any x y w)
              rw [hf] at CM
              clear hp htk hx hy hpe hf hR3
              go_wp2_with (go_at_call 8; refine (CM.out _).mono ?_; rintro e w' ⟨rfl, hb⟩)
              go_roundw
              case rel => exact ⟨k + 1, 1, by omega, by go_num, rfl, .inl ⟨rfl, HN1.out⟩, HX.out.trans (hb.mono HX.out.size)⟩
              case measure => simp [intOf]; omega
          · have hkl : k = l.length := by omega
            subst hkl
            have hwv : WantIs l V := by
              have h0 := HV.out
              rw [List.take_length] at h0
              rcases h0 with ⟨e, h⟩ | ⟨e, h⟩
              · exact .inl ⟨e, h⟩
              · rcases HW0.out with ⟨e', h'⟩ | ⟨e', h'⟩
                · exact .inr (.inl ⟨e.trans e', h, h'⟩)
                · exact .inr (.inr ⟨e.trans e', h, h'⟩)
            have hEV : E = V := want_one HE.out hwv
            subst hEV
            have hbt : Below w.heap.size w wr := HBW.out.trans (HX.out.mono HBW.out.size)
            rcases HTW.out with ⟨hE0, ht⟩ | ⟨hE0, p, ht, htr⟩
            · subst ht
              have hne : (E == 0) = false := by simpa using hE0
              have hne2 : (E != 0) = true := by simpa using hE0
              have HBT := Lib.hid hbt
              clear hE0 hwv hbt hlt HV
              go_wp2_with (go_at_call 6; refine (awake_any _).mono ?_; rintro e w' ⟨rfl, hb⟩)
              go_ret
              exact ⟨rfl, HBT.out.trans (hb.mono HBT.out.size)⟩
            · subst ht
              have hmm : (∀ p ∈ l, MayP p) ∧ Uniq l := by
                rcases hwv with ⟨e, _⟩ | ⟨e, _⟩ | ⟨e, h⟩
                · omega
                · omega
                · exact h
              have HTR := Lib.hid (htr.below HX.out (Nat.le_refl _))
              have HMM := Lib.hid hmm.1
              have HUU := Lib.hid hmm.2
              have HBT := Lib.hid hbt
              have HR4 := Lib.hid (HR.out.below hbt)
              subst hE0
              clear hwv hbt hlt HV htr hmm HTW
              go_wp2
              obtain ⟨w5, hw5⟩ : ∃ w5 : World, w5 = wr := ⟨_, rfl⟩
              subst hw5
              go_loopw [11] (fun i wr => ∃ (k : Nat), k ≤ l.length ∧ i = .int .i64 (k : Nat) ∧ Hid (∃ n, wr = w5.drewN n)) (fun i _ => l.length - (intOf i).toNat)
              case atStart => exact ⟨0, Nat.zero_le _, rfl, 0, rfl⟩
              case round =>
                obtain ⟨k, hk, rfl, HN⟩ := hrel
                obtain ⟨n, hn⟩ := HN.out
                have hR3 : RdP w.heap.size wr (.slice A l.length cp) l := by rw [hn]; exact HR4.out.below (below_drewN (Below.refl _ _) n)
                have HT3 : Hid (TrieAt wr p (rowsF 17412 (findP l))) := by show TrieAt _ _ _; rw [hn]; exact HTR.out.drewN n
                have HR3 := Lib.hid hR3
                clear hn
                by_cases hlt : k < l.length
                · obtain ⟨q, hq⟩ : ∃ q, l[k]? = some q := ⟨_, List.getElem?_eq_getElem hlt⟩
                  obtain ⟨g, o, rfl, c0, c1⟩ := hR3.at hq
                  have hqm := List.mem_of_getElem? hq
                  have hfv := findP_of HUU.out hqm
                  have hmq := HMM.out q hqm
                  obtain ⟨x, hx⟩ : ∃ x : Int, q.1 = x := ⟨_, rfl⟩
                  obtain ⟨y, hy⟩ : ∃ y : Int, q.2 = y := ⟨_, rfl⟩
                  rw [hx] at c0 hfv
                  rw [hy] at c1 hfv
                  obtain ⟨z, hz⟩ : ∃ z, findP l (x + 1) = z := ⟨_, rfl⟩
                  have hx0 : 0 ≤ x := by have := hmq.1; omega
                  have hx1 : x ≤ 1114367 := by have := hmq.2.1; omega
                  have CG1 := Lib.hid (fun n => get_allq HT3.out HMM.out hfv n)
                  have CG2 := Lib.hid (fun n => get_allq HT3.out HMM.out hz n)
                  have CF := Lib.hid (fun n => find_q HR3.out (by omega) hz n)
                  have hkI : (k : Int) < (l.length : Int) := by omega
                  have hk0 : (0 : Int) ≤ (k : Int) := by omega
                  have w1 : IntKind.i64.wrap (x + 1) = x + 1 := IntWalk.i64_in _ (by omega)
                  have n1 : (y != y) = false := by simp
                  have n2 : (z != z) = false := by simp
                  have hd : decide (x < 1114367) = true ∨ decide (x < 1114367) = false := by cases decide (x < 1114367) <;> simp
                  clear hq hqm hfv hmq hx hy hz hR3
                  rcases hd with hd | hd
                  · go_wp2
                    go_quiet ((first
                      | (go_at_call 9; with_reducible exact Calls.quiet_of (CG1.out _))
                      | (go_at_call 9; with_reducible exact Calls.quiet_of (CG2.out _))
                      | (go_at_call 10; with_reducible exact Calls.quiet_of_same (CF.out _))))
                    clear w1 hd
                    go_wp2
                    go_roundw
                    case rel => exact ⟨k + 1, by omega, by go_num, by obtain ⟨n4, h4⟩ := HN.out; exact ⟨_, by rw [h4]; exact World.drewN_drewN _ _ _⟩⟩
                    case measure => simp [intOf]; omega
                  · go_wp2
                    go_quiet ((first
                      | (go_at_call 9; with_reducible exact Calls.quiet_of (CG1.out _))
                      | (go_at_call 9; with_reducible exact Calls.quiet_of (CG2.out _))
                      | (go_at_call 10; with_reducible exact Calls.quiet_of_same (CF.out _))))
                    clear w1 hd
                    go_wp2
                    go_roundw
                    case rel => exact ⟨k + 1, by omega, by go_num, by obtain ⟨n4, h4⟩ := HN.out; exact ⟨_, by rw [h4]; exact World.drewN_drewN _ _ _⟩⟩
                    case measure => simp [intOf]; omega
                · have hkl : k = l.length := by omega
                  subst hkl
                  obtain ⟨y, hy⟩ : ∃ y, findP l c = y := ⟨_, rfl⟩
                  have HY := Lib.hid hy
                  have HRW : Hid (RdP wr.heap.size wr (.slice A l.length cp) l) := hR3.more (Nat.le_trans HBT.out.size (by obtain ⟨n4, h4⟩ := HN.out; rw [h4]; exact Nat.le_refl _))
                  have HBC := Lib.hid (blocks_eq HUU.out HMM.out (by omega))
                  have HBW5 : Hid (Below w.heap.size w wr) := by obtain ⟨n4, h4⟩ := HN.out; show Below _ _ _; rw [h4]; exact below_drewN HBT.out n4
                  clear hlt hy hR3
                  go_wp2_with (first
                    | (go_at_call 9; (with_reducible refine (get_all HT3.out HMM.out HY.out).mono ?_); rintro e w' ⟨rfl, n7, rfl⟩)
                    | (go_at_call 10; (with_reducible refine (find_q HR3.out (by omega) HY.out _).mono ?_); rintro e w' ⟨rfl, rfl⟩)
                    | (go_at_call 11; (with_reducible refine (blocks_is (HT3.out.drewN _) HBC.out).mono ?_); rintro e w' ⟨rfl, rfl⟩)
                    | (go_at_call 12; (with_reducible refine (blocks_law (rd_drewN HRW.out _) (by omega) HMM.out).mono ?_); rintro e w8 ⟨rfl, hw8⟩)
                    | (go_at_call 6; refine (awake_any _).mono ?_; rintro e w9 ⟨rfl, hw9⟩))
                  go_ret
                  exact ⟨rfl, HBW5.out.trans ((((below_drewN (Below.refl wr.heap.size wr) n7).trans hw8).trans (hw9.mono hw8.size)).mono HBW5.out.size)⟩
  · have hlt : 40 < l.length := by omega
    have hltI : (40 : Int) < (l.length : Int) := by omega
    clear hl hlm
    go_enter Try.func3, Try.ntmps3
    go_wp2_with (go_at_call 6; refine (awake_any _).mono ?_; rintro e w' ⟨rfl, hb⟩)
    go_ret
    exact ⟨rfl, hb⟩
end Go.Proofs.Ytpckmdmfhglmbaa
