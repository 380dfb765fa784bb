/-
  THE CONTRACTS of a folded text and of joined signs, by the document's own answer.
-/
import Derived.Test.YtcoepmakajligaaTFold
import Derived.Test.YtcoepmakajligaaTSame
namespace Go.Proofs.Ytcoepmakajligaa
open Go.RowKit
set_option linter.unusedVariables false
set_option linter.unusedSimpArgs false
/-- Signs' bytes, one by one, are what they are together. -/
theorem join_at {l : List Int} {k : Nat} {c : Int} (hk : k < l.length) (hc : l[k] = c) : joinS (l.take k) ++ one c.toNat = joinS (l.take (k + 1)) := by
  rw [List.take_succ_eq_append_getElem hk, joinS_app, hc]; simp [joinS]
theorem join_take_len (l : List Int) (k : Nat) : (joinS (l.take k)).length ≤ 4 * l.length := by
  have h1 := joinS_len (l.take k)
  rw [List.length_take] at h1; omega
theorem ba_app (a b : List UInt8) : (⟨a.toArray⟩ : ByteArray) ++ ⟨b.toArray⟩ = ⟨(a ++ b).toArray⟩ := by
  apply ByteArray.ext; simp
theorem one_at {c : Int} {m : Nat} (h : c = m) (w : World) (hc : c ≤ 9223372036854775807) :
    Calls Try.prog 31 #[.int .i64 c] w fun e w' => e = .returned (.string ⟨(one c.toNat).toArray⟩) ∧ Below w.heap.size w w' := by
  subst h; exact one_any m w hc
set_option maxRecDepth 200000 in
theorem join_any (v : Value) (l : List Int) (w : World) (hl : l.all isSg = true) (hr : Rd w.heap.size w v (iv l)) (hm : l.length ≤ 1000000) :
    Calls Try.prog 30 #[v] w fun e w' => e = .returned (.string ⟨(joinS l).toArray⟩) ∧ Below w.heap.size w w' := by
  obtain ⟨A, c, rfl, hr⟩ := hr
  rw [iv_len] at hr ⊢
  have HR := Lib.hid hr
  have JA := Lib.hid (fun k c => @join_at l k c)
  have JL := Lib.hid (join_take_len l)
  have SG := Lib.hid (List.all_eq_true.1 hl)
  obtain ⟨B, hB⟩ : ∃ B, w.heap.size = B := ⟨_, rfl⟩
  have HB := Lib.hid hB
  rw [hB] at HR ⊢
  have JE := Lib.hid (show joinS (l.take l.length) = joinS l by rw [List.take_length])
  obtain ⟨R, hR⟩ : ∃ R, joinS l = R := ⟨_, rfl⟩
  rw [hR] at JE ⊢
  clear hr hB hR hl
  go_enter Try.func30, Try.ntmps30
  go_wp2
  go_loopw [3, 4] (fun s i wr => ∃ (k : Nat) (t : ByteArray), k ≤ l.length ∧ i = .int .i64 k ∧ s = .string t ∧ Hid (t = ⟨(joinS (l.take k)).toArray⟩) ∧ Hid (Below B w wr)) (fun _ i _ => l.length - (intOf i).toNat)
  case atStart => exact ⟨0, _, by omega, rfl, rfl, rfl, Below.refl _ _⟩
  case round =>
    obtain ⟨k, t, hk, rfl, rfl, HT, HW⟩ := hrel
    by_cases hlt : k < l.length
    · obtain ⟨ad, rfl, hab, hc⟩ := HR.out (by omega)
      have c1 := hc k _ (iv_at hlt)
      obtain ⟨x, hx⟩ : ∃ x, l[k] = x := ⟨_, rfl⟩
      have hj := JA.out k x hlt hx
      have hsg := SG.out x (by rw [← hx]; exact List.getElem_mem hlt)
      have hb : 0 ≤ x ∧ x ≤ 1114367 := by
        by_cases hp : isPt x = true
        · have := isPt_iff.1 hp; omega
        · have hb : 1114240 ≤ x ∧ x ≤ 1114367 := by simpa [isSg, hp] using hsg
          omega
      rw [hx] at c1
      have c2 := (HW.out.cell (p := ad.add k) (by rw [add_block]; exact hab)).trans c1
      have hxn : x = (x.toNat : Nat) := by omega
      have HXN := Lib.hid hxn
      have HJ := Lib.hid hj
      have i1 : (k : Int) < (l.length : Int) := by omega
      have hts : t.size ≤ 9000000 := by
        have := JL.out k
        rw [HT.out]; show (joinS (l.take k)).toArray.size ≤ _
        rw [List.size_toArray]; omega
      have hos : (⟨(one x.toNat).toArray⟩ : ByteArray).size ≤ 4 := by
        show (one x.toNat).toArray.size ≤ _
        rw [List.size_toArray]; exact one_len_le _
      obtain ⟨u, hu⟩ : ∃ u : ByteArray, (⟨(one x.toNat).toArray⟩ : ByteArray) = u := ⟨_, rfl⟩
      have CO := Lib.hid (fun w => one_at HXN.out w (by omega))
      rw [hu] at CO hos
      have HU := Lib.hid hu
      have hbx := hb.2
      have hax := hb.1
      have HWS : Hid (w.heap.size ≤ wr.heap.size) := HW.out.size
      clear hc hx hj hsg hb c1 hxn hu
      go_wp2_with (first
        | (go_at_call 31; refine (CO.out _).mono ?_; rintro e w1 ⟨rfl, hb1⟩))
      go_roundw
      case rel => exact ⟨k + 1, _, by omega, by go_num, rfl, by show _ = _; rw [HT.out, ← HU.out, ba_app, HJ.out], HW.out.trans (hb1.mono (by have := HWS.out; have := HB.out; omega))⟩
      case measure => simp [intOf]; omega
    · obtain rfl : k = l.length := by omega
      have ht := HT.out
      rw [JE.out] at ht
      have HTT := Lib.hid ht
      clear ht
      go_wp2
      go_ret
      exact ⟨by rw [HTT.out]; rfl, HW.out⟩
end Go.Proofs.Ytcoepmakajligaa
