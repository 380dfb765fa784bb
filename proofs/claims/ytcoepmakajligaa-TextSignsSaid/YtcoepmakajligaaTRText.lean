/-
  THE CONTRACT of a folded text by the document's own answer.
-/
import Derived.Test.YtcoepmakajligaaTRFold
namespace Go.Proofs.Ytcoepmakajligaa
open Go.RowKit
set_option linter.unusedVariables false
set_option linter.unusedSimpArgs false
/-- A list of the call's own as a value, and its cells. -/
theorem OwnI.shape {B : Nat} {w : World} {v : Value} {l : List Int} (h : OwnI B w v l) :
    ∃ A c, v = .slice A l.length c ∧ (0 < l.length → ∃ ad : Addr, A = some ad ∧ ad.block < w.heap.size ∧ ∀ j u, (iv l)[j]? = some u → w.cell? (ad.add j) = some u) := by
  obtain ⟨A, c, e, hr⟩ := h.rd
  rw [iv_len] at e hr
  exact ⟨A, c, e, hr⟩
theorem fjoin_at {l : List Int} {k : Nat} {c : Int} (hk : k < l.length) (hc : l[k] = c) : joinS ((l.take k).map fold) ++ one (fold c).toNat = joinS ((l.take (k + 1)).map fold) := by
  rw [List.take_succ_eq_append_getElem hk, List.map_append, joinS_app, hc]; simp [joinS]
theorem fold_any' {x y : Int} (h : fold x = y) (w : World) : Calls Try.prog 19 #[.int .i64 x] w fun e w' => e = .returned (.int .i64 y) ∧ w = w' := by
  rw [← h]; exact rfold_any x w
set_option maxRecDepth 200000 in
theorem rfoldtext_any (s : ByteArray) (w : World) (hs : s.size ≤ 1000000) :
    Calls Try.prog 20 #[.string s] w fun e w' => e = .returned (.string ⟨(ft s.data.toList).toArray⟩) ∧ Below w.heap.size w w' := by
  have CS := Lib.hid (rsigns_any s w hs)
  obtain ⟨R, hR⟩ : ∃ R, ft s.data.toList = R := ⟨_, rfl⟩
  have hJ : joinS ((sgs s.data.toList).map fold) = R := hR
  have hln := sgs_len s.data.toList
  have hsg := sgs_sg s.data.toList
  obtain ⟨l, hl⟩ : ∃ l, sgs s.data.toList = l := ⟨_, rfl⟩
  rw [ba_len] at hln
  rw [hl] at CS hJ hln hsg
  rw [hR]
  clear hR hl
  have JA := Lib.hid (fun k c => @fjoin_at l k c)
  have SG := Lib.hid (List.all_eq_true.1 hsg)
  obtain ⟨B, hB⟩ : ∃ B, w.heap.size = B := ⟨_, rfl⟩
  have HB := Lib.hid hB
  rw [hB] at CS ⊢
  have JE := Lib.hid (show joinS ((l.take l.length).map fold) = R by rw [List.take_length]; exact hJ)
  have JL := Lib.hid (show ∀ k, (joinS ((l.take k).map fold)).length ≤ 4 * l.length from fun k => by
    have h1 := joinS_len ((l.take k).map fold)
    rw [List.length_map, List.length_take] at h1; omega)
  have hm : l.length ≤ 1000000 := by omega
  clear hB hJ hsg
  go_enter Try.func20, Try.ntmps20
  go_wp2_with (go_at_call 12; refine CS.out.mono ?_; rintro e w0 ⟨v, rfl, ho0, hb0⟩; obtain ⟨A, c, rfl, hr0⟩ := ho0.shape)
  have HR := Lib.hid hr0
  have HB0 := Lib.hid hb0
  have HS0 : Hid (B ≤ w0.heap.size) := by have := hb0.size; rw [HB.out] at this; exact this
  clear hr0 ho0 hb0
  go_loopw [4, 5] (fun s i wr => ∃ (k : Nat) (t : ByteArray), k ≤ l.length ∧ i = .int .i64 k ∧ s = .string t ∧ Hid (t = ⟨(joinS ((l.take k).map fold)).toArray⟩) ∧ Hid (Below w0.heap.size w0 wr)) (fun _ i _ => l.length - (intOf i).toNat)
  case atStart => exact ⟨0, _, by omega, rfl, rfl, rfl, Below.refl _ _⟩
  case round =>
    obtain ⟨k, t, hk, rfl, rfl, HT, HW⟩ := hrel
    by_cases hlt : k < l.length
    · obtain ⟨ad, rfl, hab, hc⟩ := HR.out (by omega)
      have c1 := hc k _ (iv_at hlt)
      obtain ⟨x, hx⟩ : ∃ x, l[k] = x := ⟨_, rfl⟩
      have hj := JA.out k x hlt hx
      have hsg := fold_sg (SG.out x (by rw [← hx]; exact List.getElem_mem hlt))
      obtain ⟨y, hy⟩ : ∃ y, fold x = y := ⟨_, rfl⟩
      rw [hy] at hsg hj
      have HY := Lib.hid hy
      have hb : 0 ≤ y ∧ y ≤ 1114367 := by
        by_cases hp : isPt y = true
        · have := isPt_iff.1 hp; omega
        · have hb : 1114240 ≤ y ∧ y ≤ 1114367 := by simpa [isSg, hp] using hsg
          omega
      rw [hx] at c1
      have c2 := (HW.out.cell (p := ad.add k) (by rw [add_block]; exact hab)).trans c1
      have hxn : y = (y.toNat : Nat) := by omega
      have HXN := Lib.hid hxn
      have HJ := Lib.hid hj
      have i1 : (k : Int) < (l.length : Int) := by omega
      have hts : t.size ≤ 9000000 := by
        have := JL.out k
        rw [HT.out]; show (joinS ((l.take k).map fold)).toArray.size ≤ _
        rw [List.size_toArray]; omega
      have hos : (⟨(one y.toNat).toArray⟩ : ByteArray).size ≤ 4 := by
        show (one y.toNat).toArray.size ≤ _
        rw [List.size_toArray]; exact one_len_le _
      obtain ⟨u, hu⟩ : ∃ u : ByteArray, (⟨(one y.toNat).toArray⟩ : ByteArray) = u := ⟨_, rfl⟩
      have CO := Lib.hid (fun w => one_at HXN.out w (by omega))
      rw [hu] at CO hos
      have HU := Lib.hid hu
      have hbx := hb.2
      have hax := hb.1
      have CF := Lib.hid (fun w => fold_any' HY.out w)
      have HWS : Hid (w0.heap.size ≤ wr.heap.size) := HW.out.size
      clear hc hx hj hsg hb c1 hxn hu hy
      go_wp2_with (first
        | (go_at_call 19; refine (CF.out _).mono ?_; rintro e w' ⟨rfl, rfl⟩)
        | (go_at_call 31; refine (CO.out _).mono ?_; rintro e w1 ⟨rfl, hb1⟩))
      go_roundw
      case rel => exact ⟨k + 1, _, by omega, by go_num, rfl, by show _ = _; rw [HT.out, ← HU.out, ba_app, HJ.out], HW.out.trans (hb1.mono HWS.out)⟩
      case measure => simp [intOf]; omega
    · obtain rfl : k = l.length := by omega
      have ht := HT.out
      rw [JE.out] at ht
      have HTT := Lib.hid ht
      clear ht
      go_wp2
      go_ret
      exact ⟨by rw [HTT.out]; rfl, HB0.out.trans (HW.out.mono HS0.out)⟩
end Go.Proofs.Ytcoepmakajligaa
