/-
  THE CONTRACTS of a folded text, by package utext and by the document's own answer; of signs joined.
-/
import Derived.Test.YtcoepmakajligaaTApp
namespace Go.Proofs.Ytcoepmakajligaa
open Go.RowKit
set_option linter.unusedVariables false
set_option linter.unusedSimpArgs false
theorem fold_sg {c : Int} (h : isSg c = true) : isSg (fold c) = true := by
  by_cases hp : isPt c = true
  · simp [isSg, fold_pt hp]
  · have hb : 1114240 ≤ c ∧ c ≤ 1114367 := by simpa [isSg, hp] using h
    rw [fold_hi (by omega)]; exact h
theorem ne_drop {l : List UInt8} {p : Nat} (h : p < l.length) : l.drop p ≠ [] := by
  intro e; have := congrArg List.length e; rw [List.length_drop, List.length_nil] at this; omega
theorem dec_sg_at {l : List UInt8} {p : Nat} {D : Nat × Nat} (h : p < l.length) (hD : dec (l.drop p) = D) : isSg (D.1 : Int) = true := by
  rw [← hD]; exact dec_sg (ne_drop h)
theorem ft_at {l : List UInt8} {k : Nat} {D : Nat × Nat} (hk : pos k l < l.length) (hD : dec (l.drop (pos k l)) = D) :
    joinS (((sgs l).take k).map fold) ++ one (fold (D.1 : Int)).toNat = joinS (((sgs l).take (k + 1)).map fold) := by
  rw [← take_at hk hD, List.map_append, joinS_app]; simp [joinS]
theorem ft_take_len (l : List UInt8) (k : Nat) : (joinS (((sgs l).take k).map fold)).length ≤ 4 * l.length := by
  have h1 := joinS_len (((sgs l).take k).map fold)
  have h2 := sgs_len l
  rw [List.length_map, List.length_take] at h1; omega
theorem ft_all {l : List UInt8} {k : Nat} (hk : ¬ pos k l < l.length) : joinS (((sgs l).take k).map fold) = ft l := by
  rw [List.take_of_length_le (by have := mt (pos_len k l).2 hk; omega)]; rfl
set_option maxRecDepth 200000 in
theorem foldtext_any (s : ByteArray) (w : World) (hs : s.size ≤ 1000000) :
    Calls Try.prog 17 #[.string s] w fun e w' => e = .returned (.string ⟨(ft s.data.toList).toArray⟩) ∧ Below w.heap.size w w' := by
  have PN := Lib.hid (fun k => pos_next k s.data.toList)
  have PE := Lib.hid (fun k => pos_le k s.data.toList)
  have FA := Lib.hid (fun k D => @ft_at s.data.toList k D)
  have FL := Lib.hid (ft_take_len s.data.toList)
  have FE := Lib.hid (fun k => @ft_all s.data.toList k)
  have DS := Lib.hid (fun p D => @dec_sg_at s.data.toList p D)
  obtain ⟨B, hB⟩ : ∃ B, w.heap.size = B := ⟨_, rfl⟩
  have HB := Lib.hid hB
  have hm : s.size ≤ 9223372036854775807 := by omega
  have hm' : s.size ≤ maxLen := by have : maxLen = 9223372036854775807 := by decide
                                   omega
  obtain ⟨R, hR⟩ : ∃ R, ft s.data.toList = R := ⟨_, rfl⟩
  rw [hB, hR]
  rw [hR] at FE
  simp only [ba_len] at PN PE FA FL FE DS
  clear hB hR
  go_enter Try.func17, Try.ntmps17
  go_wp2_with (first
    | (refine makeB rfl _ _ rfl w B s.size rfl rfl (by omega) (by have := HB.out; omega) ?_; intro v1 w1 ho1 hb1))
  have HO1 := Lib.hid ho1
  have HW1 := Lib.hid hb1
  clear ho1 hb1
  go_loopw [3, 4] (fun v i wr => ∃ (k p : Nat), i = .int .i64 p ∧ Hid (pos k s.data.toList = p) ∧ Hid (OwnB B wr v (joinS (((sgs s.data.toList).take k).map fold))) ∧ Hid (Below B w wr)) (fun _ i _ => s.size - (intOf i).toNat)
  case atStart => exact ⟨0, 0, rfl, rfl, HO1.out, HW1.out⟩
  case round =>
    obtain ⟨k, p, rfl, hp, HO, HW⟩ := hrel
    have h1 := PN.out k
    have h3 := PE.out (k + 1)
    have h4 := PE.out k
    have hT := FA.out k
    have hE := FE.out k
    rw [hp.out] at h1 h4 hT hE
    by_cases hlt : p < s.size
    · have h1' := h1 hlt
      obtain ⟨D, hD⟩ : ∃ D, dec (s.data.toList.drop p) = D := ⟨_, rfl⟩
      have hpos := dec_pos (s.data.toList.drop p)
      have hT' := hT D hlt hD
      have hsg := DS.out p D hlt hD
      rw [hD] at h1' hpos
      have HD := Lib.hid hD
      have H1 := Lib.hid h1'
      have HTT := Lib.hid hT'
      have HSG := Lib.hid (fold_sg hsg)
      rw [h1'] at h3
      have HBB : Hid (B ≤ wr.heap.size) := by have := HW.out.size; rw [HB.out] at this; exact this
      have HSL : Hid ((joinS (((sgs s.data.toList).take k).map fold)).length ≤ 9000000) := by
        have := FL.out k
        show _ ≤ _
        omega
      clear h1 h1' hD hp hT hT' hsg hE
      go_wp2_with (first
        | (go_at_call 24; refine (first_at hlt hm' HD.out _).mono ?_; rintro e w' ⟨rfl, rfl⟩)
        | (go_at_call 18; refine (fold_any _ _).mono ?_; rintro e w' ⟨rfl, rfl⟩)
        | (go_at_call 26; refine (app_any _ _ _ _ B HSG.out HO.out HBB.out HSL.out).mono ?_; rintro e w2 ⟨v2, rfl, ho2, hb2⟩))
      go_roundw
      case rel => exact ⟨k + 1, p + D.2, rfl, H1.out, by rw [← HTT.out]; exact ho2, HW.out.trans hb2⟩
      case measure => simp [intOf]; omega
    · have hF := hE hlt
      have ho := HO.out
      rw [hF] at ho
      have k1 := str_of ho.rd
      clear h1 h3 h4 hT hE hF ho
      go_wp2
      go_ret
      exact ⟨rfl, HW.out⟩
end Go.Proofs.Ytcoepmakajligaa
