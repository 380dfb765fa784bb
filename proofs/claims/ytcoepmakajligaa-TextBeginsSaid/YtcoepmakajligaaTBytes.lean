/-
  THE CONTRACTS of signs put together, by package utext and by the document's own answer.
-/
import Derived.Test.YtcoepmakajligaaTRText
namespace Go.Proofs.Ytcoepmakajligaa
open Go.RowKit
set_option linter.unusedVariables false
set_option linter.unusedSimpArgs false
theorem byt_arg {l : List Int} {k : Nat} (hk : k < l.length) (h : isSg l[k] = false) : bytL l = [] ∧ bytE l = 1 := by
  have : l.all isSg = false := by
    rw [List.all_eq_false]; exact ⟨_, List.getElem_mem hk, by simp [h]⟩
  unfold bytL bytE; rw [this]; exact ⟨rfl, rfl⟩
theorem byt_form {l : List Int} (ha : l.all isSg = true) (h : (sgs (joinS l) == l) = false) : bytL l = [] ∧ bytE l = 3 := by
  have : ¬ sgs (joinS l) = l := by simpa using h
  unfold bytL bytE; rw [ha, if_neg this, if_neg this]; exact ⟨rfl, rfl⟩
theorem byt_good {l : List Int} (ha : l.all isSg = true) (h : (sgs (joinS l) == l) = true) : bytL l = joinS l ∧ bytE l = 0 := by
  have : sgs (joinS l) = l := by simpa using h
  unfold bytL bytE; rw [ha, if_pos this, if_pos this]; exact ⟨rfl, rfl⟩
theorem all_step {l : List Int} {k : Nat} (hk : k < l.length) (ha : (l.take k).all isSg = true) (h : isSg l[k] = true) : (l.take (k + 1)).all isSg = true := by
  rw [List.take_succ_eq_append_getElem hk, List.all_append, ha, List.all_cons, h]; rfl
theorem rsign_is {c : Int} {b : Bool} (h : Hid (isSg c = b)) (w : World) : Calls Try.prog 29 #[.int .i64 c] w fun e w' => e = .returned (.bool b) ∧ w = w' := by
  rw [← h.out]; exact rsign_any c w
theorem sign_is {c : Int} {b : Bool} (h : Hid (isSg c = b)) (w : World) : Calls Try.prog 25 #[.int .i64 c] w fun e w' => e = .returned (.bool b) ∧ w = w' := by
  rw [← h.out]; exact sign_any c w
theorem Rd.mk {B : Nat} {w : World} {A : Option Addr} {n c : Nat} {xs : List Value} (hn : n = xs.length) (h : 0 < xs.length → ∃ ad : Addr, A = some ad ∧ ad.block < B ∧ ∀ j u, xs[j]? = some u → w.cell? (ad.add j) = some u) : Rd B w (.slice A n c) xs := ⟨A, c, by rw [hn], h⟩
theorem same_is {L : List UInt8} {t : ByteArray} {l : List Int} {b : Bool} (h : (sgs L == l) = b) (ht : t.data.toList = L) (u v : Value) (w : World) {B : Nat} (hu : Rd w.heap.size w u (iv (sgs t.data.toList))) (hv : Rd B w v (iv l)) (hB : B ≤ w.heap.size) (hm : L.length ≤ 10000000) :
    Calls Try.prog 13 #[u, v] w fun e w' => e = .returned (.bool b) ∧ Below w.heap.size w w' := by
  rw [ht] at hu
  rw [← h]; exact same_any u v _ l w hu (hv.more hB) (Nat.le_trans (sgs_len L) hm)
set_option maxRecDepth 200000 in
theorem rbytes_any (v : Value) (l : List Int) (w : World) (hr : Rd w.heap.size w v (iv l)) (hm : l.length ≤ 200000) :
    Calls Try.prog 16 #[v] w fun e w' => e = .returned (.tuple #[.string ⟨(bytL l).toArray⟩, .int .i64 (bytE l)]) ∧ Below w.heap.size w w' := by
  have HV := Lib.hid hr
  obtain ⟨A, c, rfl, hr⟩ := hr
  rw [iv_len] at hr HV ⊢
  have HR := Lib.hid hr
  have AR := Lib.hid (fun k => @byt_arg l k)
  have FO := Lib.hid (@byt_form l)
  have GO := Lib.hid (@byt_good l)
  have ST := Lib.hid (fun k => @all_step l k)
  have JL := Lib.hid (joinS_len l)
  obtain ⟨S, hS⟩ : ∃ S, bytL l = S := ⟨_, rfl⟩
  obtain ⟨E, hE⟩ : ∃ E, bytE l = E := ⟨_, rfl⟩
  rw [hS, hE] at AR FO GO ⊢
  clear hr hS hE
  go_enter Try.func16, Try.ntmps16
  go_wp2
  go_loopw [4] (fun i wr => ∃ (k : Nat), k ≤ l.length ∧ i = .int .i64 k ∧ Hid ((l.take k).all isSg = true) ∧ Hid (Below w.heap.size w wr)) (fun i _ => l.length - (intOf i).toNat)
  case atStart => exact ⟨0, by omega, rfl, rfl, Below.refl _ _⟩
  case round =>
    obtain ⟨k, hk, rfl, HA, HW⟩ := hrel
    by_cases hlt : k < l.length
    · obtain ⟨ad, rfl, hab, hc⟩ := HR.out (by omega)
      have c1 := hc k _ (iv_at hlt)
      have hst := ST.out k hlt HA.out
      have har := AR.out k hlt
      obtain ⟨x, hx⟩ : ∃ x, l[k] = x := ⟨_, rfl⟩
      rw [hx] at c1 hst har
      have c2 := (HW.out.cell (p := ad.add k) (by rw [add_block]; exact hab)).trans c1
      obtain ⟨b, hb⟩ : ∃ b, isSg x = b := ⟨_, rfl⟩
      have HB := Lib.hid hb
      rw [hb] at hst har
      have HST := Lib.hid hst
      have HAR := Lib.hid har
      have i1 : (k : Int) < (l.length : Int) := by omega
      clear hc hx c1 hst har hb
      cases b
      · have HAR' := Lib.hid (HAR.out rfl)
        go_wp2_with (go_at_call 29; refine (rsign_is HB _).mono ?_; rintro e w' ⟨rfl, rfl⟩)
        go_ret2
        exact ⟨by rw [HAR'.out.1, HAR'.out.2]; rfl, HW.out⟩
      · have HST' := Lib.hid (HST.out rfl)
        go_wp2_with (go_at_call 29; refine (rsign_is HB _).mono ?_; rintro e w' ⟨rfl, rfl⟩)
        go_roundw
        case rel => exact ⟨k + 1, by omega, by go_num, HST'.out, HW.out⟩
        case measure => simp [intOf]; omega
    · obtain rfl : k = l.length := by omega
      have ha := HA.out
      rw [List.take_length] at ha
      have HA' := Lib.hid ha
      have hrd := HV.out.below HW.out
      have CJ := Lib.hid (join_any _ l wr ha (hrd.more HW.out.size) (by omega))
      obtain ⟨t, ht⟩ : ∃ t : ByteArray, (⟨(joinS l).toArray⟩ : ByteArray) = t := ⟨_, rfl⟩
      have htl : t.data.toList = joinS l := by rw [← ht]
      have hts : t.size ≤ 1000000 := by rw [← ba_len, htl]; have := JL.out; omega
      rw [ht] at CJ
      have FO' := FO.out ha
      have GO' := GO.out ha
      obtain ⟨b, hb⟩ : ∃ b, (sgs (joinS l) == l) = b := ⟨_, rfl⟩
      rw [hb] at FO' GO'
      have HB := Lib.hid hb
      have HF := Lib.hid FO'
      have HG := Lib.hid GO'
      have HT := Lib.hid ht
      have HTL := Lib.hid htl
      have HRD := Lib.hid hrd
      have CS := Lib.hid (fun w => rsigns_any t w hts)
      clear ha FO' GO' hb ht htl hrd
      have HJ : Hid ((joinS l).length ≤ 10000000) := by have := JL.out; show _ ≤ _; omega
      cases b
      · have HF' := Lib.hid (HF.out rfl)
        go_wp2_with (first
          | (go_at_call 30; refine (CJ.out).mono ?_; rintro e w1 ⟨rfl, hb1⟩)
          | (go_at_call 12; refine (CS.out _).mono ?_; rintro e w2 ⟨v2, rfl, ho2, hb2⟩)
          | (go_at_call 13; refine (same_is HB.out HTL.out _ _ _ ho2.rd ((HRD.out.below (hb1.mono HW.out.size)).below (hb2.mono (Nat.le_trans HW.out.size hb1.size))) (Nat.le_trans HW.out.size (Nat.le_trans hb1.size hb2.size)) HJ.out).mono ?_; rintro e w3 ⟨rfl, hb3⟩))
        go_ret2
        exact ⟨by rw [HF'.out.1, HF'.out.2]; rfl, HW.out.trans ((hb1.trans ((hb2.trans (hb3.mono hb2.size)).mono hb1.size)).mono HW.out.size)⟩
      · have HG' := Lib.hid (HG.out rfl)
        go_wp2_with (first
          | (go_at_call 30; refine (CJ.out).mono ?_; rintro e w1 ⟨rfl, hb1⟩)
          | (go_at_call 12; refine (CS.out _).mono ?_; rintro e w2 ⟨v2, rfl, ho2, hb2⟩)
          | (go_at_call 13; refine (same_is HB.out HTL.out _ _ _ ho2.rd ((HRD.out.below (hb1.mono HW.out.size)).below (hb2.mono (Nat.le_trans HW.out.size hb1.size))) (Nat.le_trans HW.out.size (Nat.le_trans hb1.size hb2.size)) HJ.out).mono ?_; rintro e w3 ⟨rfl, hb3⟩))
        go_ret2
        exact ⟨by rw [HG'.out.1, HG'.out.2, HT.out]; rfl, HW.out.trans ((hb1.trans ((hb2.trans (hb3.mono hb2.size)).mono hb1.size)).mono HW.out.size)⟩
theorem equal_is {L : List UInt8} {t : ByteArray} {l : List Int} {b : Bool} (h : (sgs L == l) = b) (ht : t.data.toList = L) (u v : Value) (w : World) {B : Nat} (hu : Rd w.heap.size w u (iv (sgs t.data.toList))) (hv : Rd B w v (iv l)) (hB : B ≤ w.heap.size) (hm : L.length ≤ 10000000) :
    Calls Try.prog 27 #[u, v] w fun e w' => e = .returned (.bool b) ∧ Below w.heap.size w w' := by
  rw [ht] at hu
  rw [← h]; exact equal_any u v _ l w hu (hv.more hB) (Nat.le_trans (sgs_len L) hm)
set_option maxRecDepth 200000 in
theorem bytes_any (v : Value) (l : List Int) (w : World) (hr : Rd w.heap.size w v (iv l)) (hm : l.length ≤ 200000) :
    Calls Try.prog 11 #[v] w fun e w' => e = .returned (.tuple #[.string ⟨(bytL l).toArray⟩, .int .i64 (bytE l)]) ∧ Below w.heap.size w w' := by
  have HV := Lib.hid hr
  obtain ⟨A, c, rfl, hr⟩ := hr
  rw [iv_len] at hr HV ⊢
  have HR := Lib.hid hr
  have AR := Lib.hid (fun k => @byt_arg l k)
  have FO := Lib.hid (@byt_form l)
  have GO := Lib.hid (@byt_good l)
  have ST := Lib.hid (fun k => @all_step l k)
  have JL := Lib.hid (joinS_len l)
  have JT := Lib.hid (join_take_len l)
  have JA := Lib.hid (fun k c => @join_at l k c)
  obtain ⟨S, hS⟩ : ∃ S, bytL l = S := ⟨_, rfl⟩
  obtain ⟨E, hE⟩ : ∃ E, bytE l = E := ⟨_, rfl⟩
  rw [hS, hE] at AR FO GO ⊢
  clear hr hS hE
  go_enter Try.func11, Try.ntmps11
  go_wp2
  go_loopw [4, 10] (fun u i wr => ∃ (k : Nat), k ≤ l.length ∧ i = .int .i64 k ∧ Hid ((l.take k).all isSg = true) ∧ Hid (OwnB w.heap.size wr u (joinS (l.take k))) ∧ Hid (Below w.heap.size w wr)) (fun _ i _ => l.length - (intOf i).toNat)
  case atStart => exact ⟨0, by omega, rfl, rfl, OwnB.nil _ _, Below.refl _ _⟩
  case round =>
    obtain ⟨k, hk, rfl, HA, HO, HW⟩ := hrel
    by_cases hlt : k < l.length
    · obtain ⟨ad, rfl, hab, hc⟩ := HR.out (by omega)
      have c1 := hc k _ (iv_at hlt)
      have hst := ST.out k hlt HA.out
      have har := AR.out k hlt
      have hja := JA.out k _ hlt rfl
      obtain ⟨x, hx⟩ : ∃ x, l[k] = x := ⟨_, rfl⟩
      rw [hx] at c1 hst har hja
      have c2 := (HW.out.cell (p := ad.add k) (by rw [add_block]; exact hab)).trans c1
      obtain ⟨b, hb⟩ : ∃ b, isSg x = b := ⟨_, rfl⟩
      have HB := Lib.hid hb
      rw [hb] at hst har
      have HST := Lib.hid hst
      have HAR := Lib.hid har
      have HJA := Lib.hid hja
      have HJT : Hid ((joinS (l.take k)).length ≤ 9000000) := by have := JT.out k; show _ ≤ _; omega
      have i1 : (k : Int) < (l.length : Int) := by omega
      clear hc hx c1 hst har hb hja
      cases b
      · have HAR' := Lib.hid (HAR.out rfl)
        go_wp2_with (go_at_call 25; refine (sign_is HB _).mono ?_; rintro e w' ⟨rfl, rfl⟩)
        go_ret2
        exact ⟨by rw [HAR'.out.1, HAR'.out.2]; rfl, HW.out⟩
      · have HST' := Lib.hid (HST.out rfl)
        go_wp2_with (first
          | (go_at_call 25; refine (sign_is HB _).mono ?_; rintro e w' ⟨rfl, rfl⟩)
          | (go_at_call 26; refine (app_any _ _ _ _ _ HB.out HO.out HW.out.size HJT.out).mono ?_; rintro e w2 ⟨v2, rfl, ho2, hb2⟩))
        go_roundw
        case rel => exact ⟨k + 1, by omega, by go_num, HST'.out, by rw [← HJA.out]; exact ho2, HW.out.trans hb2⟩
        case measure => simp [intOf]; omega
    · obtain rfl : k = l.length := by omega
      have ha := HA.out
      have ho := HO.out
      rw [List.take_length] at ha ho
      have HA' := Lib.hid ha
      have hrd := HV.out.below HW.out
      have k1 := str_of ho.rd
      obtain ⟨t, ht⟩ : ∃ t : ByteArray, (⟨(joinS l).toArray⟩ : ByteArray) = t := ⟨_, rfl⟩
      have htl : t.data.toList = joinS l := by rw [← ht]
      have hts : t.size ≤ 1000000 := by rw [← ba_len, htl]; have := JL.out; omega
      rw [ht] at k1
      have FO' := FO.out ha
      have GO' := GO.out ha
      obtain ⟨b, hb⟩ : ∃ b, (sgs (joinS l) == l) = b := ⟨_, rfl⟩
      rw [hb] at FO' GO'
      have HB := Lib.hid hb
      have HF := Lib.hid FO'
      have HG := Lib.hid GO'
      have HT := Lib.hid ht
      have HTL := Lib.hid htl
      have HRD := Lib.hid hrd
      have CS := Lib.hid (fun w => signs_any t w hts)
      clear ha FO' GO' hb ht htl hrd ho
      have HJ : Hid ((joinS l).length ≤ 10000000) := by have := JL.out; show _ ≤ _; omega
      cases b
      · have HF' := Lib.hid (HF.out rfl)
        go_wp2_with (first
          | (go_at_call 10; refine (CS.out _).mono ?_; rintro e w2 ⟨v2, rfl, ho2, hb2⟩)
          | (go_at_call 27; refine (equal_is HB.out HTL.out _ _ _ ho2.rd (HRD.out.below (hb2.mono HW.out.size)) (Nat.le_trans HW.out.size hb2.size) HJ.out).mono ?_; rintro e w3 ⟨rfl, hb3⟩))
        go_ret2
        exact ⟨by rw [HF'.out.1, HF'.out.2]; rfl, HW.out.trans ((hb2.trans (hb3.mono hb2.size)).mono HW.out.size)⟩
      · have HG' := Lib.hid (HG.out rfl)
        go_wp2_with (first
          | (go_at_call 10; refine (CS.out _).mono ?_; rintro e w2 ⟨v2, rfl, ho2, hb2⟩)
          | (go_at_call 27; refine (equal_is HB.out HTL.out _ _ _ ho2.rd (HRD.out.below (hb2.mono HW.out.size)) (Nat.le_trans HW.out.size hb2.size) HJ.out).mono ?_; rintro e w3 ⟨rfl, hb3⟩))
        go_ret2
        exact ⟨by rw [HG'.out.1, HG'.out.2, HT.out]; rfl, HW.out.trans ((hb2.trans (hb3.mono hb2.size)).mono HW.out.size)⟩
end Go.Proofs.Ytcoepmakajligaa
