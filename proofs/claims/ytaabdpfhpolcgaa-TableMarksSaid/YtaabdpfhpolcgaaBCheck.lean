/-
  THE CONTRACTS of hasBeginnings and of Check.
-/
import Derived.Test.YtaabdpfhpolcgaaBEls
namespace Go.Proofs.Ytaabdpfhpolcgaa
open Go.RowKit
set_option linter.unusedVariables false
set_option linter.unusedSimpArgs false
def begTo (L : List PE) (s : List Int) (m : Nat) : Bool := (List.range m).all fun n => n == 0 || (place L (s.take n)).isSome
theorem begs_eq (L : List PE) (s : List Int) : begs L s = begTo L s s.length := rfl
theorem begTo_succ (L : List PE) (s : List Int) (m : Nat) : begTo L s (m + 1) = (begTo L s m && (m == 0 || (place L (s.take m)).isSome)) := by
  unfold begTo
  rw [List.range_succ, List.all_append]
  simp
theorem begTo_le {L : List PE} {s : List Int} {m n : Nat} (h : m ≤ n) (ht : begTo L s n = true) : begTo L s m = true := by
  unfold begTo at ht ⊢
  rw [List.all_eq_true] at ht ⊢
  exact fun x hx => ht x (by simp at hx ⊢; omega)
theorem begs_no {L : List PE} {s : List Int} {m : Nat} (h1 : 1 ≤ m) (hm : m < s.length) (hp : place L (s.take m) = none) : begs L s = false := by
  rw [begs_eq]
  unfold begTo
  rw [List.all_eq_false]
  refine ⟨m, by simpa using hm, ?_⟩
  rw [hp]
  simp; omega
set_option maxRecDepth 100000 in
theorem hasBegs_any {F G : Nat → Prop} {w : World} {p : Nat} {L : List PE} {v : Value} {s : List Int} (h : TabAt F w p L) (hs : RdI G w v s) (hI : I64 s) (hl : s.length ≤ 1000) {b : Bool} (hb : begs L s = b) :
    Calls Try.prog 41 #[.pointer (some ⟨p, 0, none⟩), v] w fun e w' => e = .returned (.bool b) ∧ Below w.heap.size w w' := by
  obtain ⟨A, c, rfl⟩ := hs.form
  have hcap := (RdF.cap hs).1
  have HT := Lib.hid h
  have HS := Lib.hid hs
  have HI := Lib.hid hI
  have HB0 := Lib.hid hb
  have hlI : (s.length : Int) ≤ 1000 := by omega
  clear h hs hI hb
  go_enter Try.func41, Try.ntmps41
  go_wp2
  go_loopw [5] (fun i wr => ∃ m : Nat, 1 ≤ m ∧ m ≤ s.length + 1 ∧ i = .int .i64 (m : Nat) ∧ Hid (begTo L s m = true) ∧ Hid (Below w.heap.size w wr)) (fun i _ => s.length + 1 - (intOf i).toNat)
  case atStart => exact ⟨1, Nat.le_refl _, by omega, rfl, rfl, Below.refl _ _⟩
  case round =>
    obtain ⟨m, hm1, hm, rfl, HB, HW⟩ := hrel
    by_cases hlt : m < s.length
    · have hmI : (m : Int) < (s.length : Int) := by omega
      have hmJ : (m : Int) ≤ (c : Int) := by omega
      have hm0 : (0 : Int) ≤ (m : Int) := by omega
      have HTw := Lib.hid (HT.out.below HW.out (Nat.le_refl _))
      have HSm := Lib.hid ((HS.out.below HW.out (Nat.le_refl _)).take (Nat.le_of_lt hlt))
      cases hp : place L (s.take m) with
      | none =>
        have HC := Lib.hid (find_no hp HTw.out HSm.out (i64_take HI.out _) (by rw [List.length_take]; omega))
        have HN : Hid (false = b) := by show _ = _; rw [← HB0.out]; exact (begs_no hm1 hlt hp).symm
        clear hp hlt
        go_wp2_with (go_at_call 34; refine (HC.out).mono ?_; rintro e w1 ⟨⟨i, rfl⟩, hb⟩; have HB2 := Lib.hid (HW.out.trans (hb.mono HW.out.size)); clear hb)
        go_ret
        exact ⟨by rw [← HN.out]; rfl, HB2.out⟩
      | some k =>
        have HC := Lib.hid (find_yes hp HTw.out HSm.out)
        have HN : Hid (begTo L s (m + 1) = true) := by show _ = _; rw [begTo_succ, HB.out, hp]; simp
        clear hp hlt
        go_wp2_with (go_at_call 34; refine (HC.out).mono ?_; rintro e w1 ⟨rfl, hb⟩; have HB2 := Lib.hid (HW.out.trans (hb.mono HW.out.size)); clear hb)
        go_roundw
        case rel => exact ⟨m + 1, by omega, by omega, by go_num, HN.out, HB2.out⟩
        case measure => simp [intOf]; omega
    · have HN : Hid (true = b) := by show _ = _; rw [← HB0.out, begs_eq]; exact (begTo_le (by omega) HB.out).symm
      have hmI : ¬ (m : Int) < (s.length : Int) := by omega
      clear hlt
      go_wp2
      go_ret
      exact ⟨by rw [← HN.out]; rfl, HW.out⟩
theorem check_no {L : List PE} {e : PE} {k : Nat} (he : L[k]? = some e) (h : goodE L e = false) : checkP L = 3 := by
  unfold checkP
  rw [if_neg]
  rw [List.all_eq_true]
  exact fun hh => by have := hh e (List.mem_of_getElem? he); rw [h] at this; cases this
set_option maxHeartbeats 1000000 in
set_option maxRecDepth 100000 in
theorem check_any {F : Nat → Prop} {w : World} {p : Nat} {L : List PE} (h : TabAt F w p L) {r : Int} (hr : checkP L = r) :
    Calls Try.prog 18 #[.pointer (some ⟨p, 0, none⟩)] w fun e w' => e = .returned (.int .i64 r) ∧ Below w.heap.size w w' := by
  obtain ⟨A1, c1, bo, b2, b3, d0, -, -, -, hrt, -, -, -⟩ := h.cells
  have HT := Lib.hid h
  have HE := Lib.hid hrt
  have HR := Lib.hid hr
  have hlen : (L.length : Int) ≤ 500 := by have := h.good.len; omega
  clear h hrt hr
  go_enter Try.func18, Try.ntmps18
  go_wp2
  clear d0
  go_loopw [10] (fun i wr => ∃ k : Nat, k ≤ L.length ∧ i = .int .i64 (k : Nat) ∧ Hid ((L.take k).all (goodE L) = true) ∧ Hid (Below w.heap.size w wr)) (fun i _ => L.length - (intOf i).toNat)
  case atStart => exact ⟨0, Nat.zero_le _, rfl, rfl, Below.refl _ _⟩
  case round =>
    obtain ⟨k, hk, rfl, HA, HW⟩ := hrel
    by_cases hlt : k < L.length
    · obtain ⟨e, he⟩ : ∃ e, L[k]? = some e := ⟨_, List.getElem?_eq_getElem hlt⟩
      obtain ⟨g, o, vs, vl, rfl, c0, c2, hrs, hrl⟩ := (HE.out.below HW.out (Nat.le_refl _)).at he
      obtain ⟨a1, n1, rfl⟩ := hrs.form
      obtain ⟨a2, n2, rfl⟩ := hrl.form
      have hkI : (k : Int) < (L.length : Int) := by omega
      have hq := HT.out.good.seq e (List.mem_of_getElem? he)
      have hw := HT.out.good.els e (List.mem_of_getElem? he)
      have hA : Below wr.heap.size wr (wr.alloc (.cells #[.slice a1 e.1.length n1, .slice a2 e.2.length n2] 40)) := (Below.refl _ wr).alloc (Nat.le_refl _) _
      have HWA := Lib.hid (HW.out.trans (hA.mono HW.out.size))
      have htk : (L.take (k + 1)).all (goodE L) = ((L.take k).all (goodE L) && goodE L e) := by rw [List.take_add_one, he, List.all_append]; simp
      obtain ⟨t1, ht1⟩ : ∃ t1, e.2.all okW = t1 := ⟨_, rfl⟩
      obtain ⟨t2, ht2⟩ : ∃ t2, begs L e.1 = t2 := ⟨_, rfl⟩
      have hge : goodE L e = (t1 && t2) := by unfold goodE; rw [ht1, ht2]
      have HC := Lib.hid (contains_any (hrl.below hA (Nat.le_refl _)) (by omega) hw.2)
      have HH := Lib.hid (hasBegs_any (HT.out.below HWA.out (Nat.le_refl _)) (hrs.below hA (Nat.le_refl _)) (sg_i64 hq.2.2) (by omega) ht2)
      rw [ht1] at HC
      obtain ⟨x1, hx1⟩ : ∃ x1, e.1.length = x1 := ⟨_, rfl⟩
      obtain ⟨x2, hx2⟩ : ∃ x2, e.2.length = x2 := ⟨_, rfl⟩
      rw [hx1] at c0 HWA HC HH
      rw [hx2] at c2 HWA HC HH
      cases t1 with
      | false =>
        have HN : Hid (3 = r) := by show _ = _; rw [← HR.out]; exact (check_no he (by rw [hge]; rfl)).symm
        clear he hrs hrl hq hw hA htk ht1 ht2 hge hx1 hx2 hlt
        go_wp2_with (go_at_call 39; refine (HC.out).mono ?_; rintro e w' ⟨rfl, rfl⟩)
        go_ret
        exact ⟨by rw [← HN.out]; rfl, HWA.out⟩
      | true =>
        cases t2 with
        | false =>
          have HN : Hid (3 = r) := by show _ = _; rw [← HR.out]; exact (check_no he (by rw [hge]; rfl)).symm
          clear he hrs hrl hq hw hA htk ht1 ht2 hge hx1 hx2 hlt
          go_wp2_with (first
            | (go_at_call 39; refine (HC.out).mono ?_; rintro e w' ⟨rfl, rfl⟩)
            | (go_at_call 41; refine (HH.out).mono ?_; rintro e w1 ⟨rfl, hb⟩; have HB2 := Lib.hid (HWA.out.trans (hb.mono HWA.out.size)); clear hb))
          go_ret
          exact ⟨by rw [← HN.out]; rfl, HB2.out⟩
        | true =>
          have HN : Hid ((L.take (k + 1)).all (goodE L) = true) := by show _ = _; rw [htk, HA.out, hge]; rfl
          clear he hrs hrl hq hw hA htk ht1 ht2 hge hx1 hx2 hlt
          go_wp2_with (first
            | (go_at_call 39; refine (HC.out).mono ?_; rintro e w' ⟨rfl, rfl⟩)
            | (go_at_call 41; refine (HH.out).mono ?_; rintro e w1 ⟨rfl, hb⟩; have HB2 := Lib.hid (HWA.out.trans (hb.mono HWA.out.size)); clear hb))
          go_roundw
          case rel => exact ⟨k + 1, by omega, by go_num, HN.out, HB2.out⟩
          case measure => simp [intOf]; omega
    · obtain rfl : k = L.length := by omega
      have HN : Hid (0 = r) := by
        have := HA.out
        rw [List.take_length] at this
        show _ = _
        rw [← HR.out]
        unfold checkP
        rw [if_pos this]
      clear hlt
      go_wp2
      go_ret
      exact ⟨by rw [← HN.out]; rfl, HW.out⟩
end Go.Proofs.Ytaabdpfhpolcgaa
