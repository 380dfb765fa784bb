/-
  CARRIED by carry.py out of the templates of an earlier stage: XTBegin.
-/
import Derived.Test.YtdodlppnjlmnaaaT2C
import Derived.Test.YtdodlppnjlmnaaaShelf
namespace Go.Proofs.Ytdodlppnjlmnaaa.T2
open Go.RowKit
set_option linter.unusedVariables false
set_option linter.unusedSimpArgs false
theorem clone_any (s : ByteArray) (w : World) (hs : s.size ≤ 281474976710656) : Calls Try.prog 64 #[.string s] w fun e w' => e = .returned (.string s) ∧ Below w.heap.size w w' := by
  go_enter Try.func64, Try.ntmps64
  go_wp2_with (go_at_call 70; refine (Try.stringslite_Clone s w hs).mono ?_; rintro e w1 ⟨rfl, hb1⟩)
  go_ret
  exact ⟨rfl, hb1⟩
theorem pos_stay {l : List UInt8} {k K : Nat} (h : ¬ pos k l < l.length) (hK : k ≤ K) : pos K l = l.length := by
  have h1 := mt (pos_len k l).2 h
  have h2 := mt (pos_len K l).1 (by omega)
  have := pos_le K l; omega
set_option maxRecDepth 200000 in
theorem begin_any (s : ByteArray) (n : Int) (w : World) (hs : s.size ≤ 1000000) (hn : -9223372036854775808 ≤ n) (hn' : n ≤ 9223372036854775807) :
    Calls Try.prog 54 #[.string s, .int .i64 n] w fun e w' => e = .returned (.string (s.extract 0 (pos n.toNat s.data.toList))) ∧ Below w.heap.size w w' := by
  have PN := Lib.hid (fun k => pos_next k s.data.toList)
  have PE := Lib.hid (fun k => pos_le k s.data.toList)
  have PS := Lib.hid (fun k K => @pos_stay s.data.toList k K)
  have hm : s.size ≤ 9223372036854775807 := by omega
  have hm' : s.size ≤ maxLen := by have : maxLen = 9223372036854775807 := by decide
                                   omega
  obtain ⟨K, hK⟩ : ∃ K, n.toNat = K := ⟨_, rfl⟩
  have HK := Lib.hid hK
  rw [hK]
  simp only [ba_len] at PN PE PS
  clear hK
  go_enter Try.func54, Try.ntmps54
  go_wp2
  go_loop [1, 5] (fun m i => ∃ (k p : Nat), k ≤ K ∧ m = .int .i64 (n - k) ∧ i = .int .i64 p ∧ Hid (pos k s.data.toList = p)) (fun _ i => s.size - (intOf i).toNat)
  case atStart => exact ⟨0, 0, by omega, by simp, rfl, rfl⟩
  case round =>
    obtain ⟨k, p, hk, rfl, rfl, hp⟩ := hrel
    have h1 := PN.out k
    have h3 := PE.out (k + 1)
    have h4 := PE.out k
    have h5 := PS.out k K
    rw [hp.out] at h1 h4 h5
    have hKn := HK.out
    by_cases hnk : (k : Int) < n
    · by_cases hlt : p < s.size
      · have h1' := h1 hlt
        obtain ⟨D, hD⟩ : ∃ D, dec (s.data.toList.drop p) = D := ⟨_, rfl⟩
        have hpos := dec_pos (s.data.toList.drop p)
        rw [hD] at h1' hpos
        have HD := Lib.hid hD
        have H1 := Lib.hid h1'
        rw [h1'] at h3
        have hkK : k + 1 ≤ K := by omega
        have g1 : 0 < n - (k : Int) := by omega
        have g2 : n - (k : Int) ≤ 9223372036854775807 := by omega
        clear h1 h1' hD hp h5 hKn
        go_wp2_with (first
          | (go_at_call 60; refine (first_at hlt hm' HD.out _).mono ?_; rintro e w' ⟨rfl, rfl⟩))
        refine ⟨⟨k + 1, p + D.2, hkK, by go_num, rfl, H1.out⟩, ?_⟩
        simp [intOf]; omega
      · have hq := h5 hlt hk
        have HQ := Lib.hid hq
        have hpe : p = s.size := by omega
        have HPE := Lib.hid hpe
        have g1 : 0 < n - (k : Int) := by omega
        clear h1 h3 h5 hp hq hKn hpe
        have hx : (s.extract 0 p).size ≤ 281474976710656 := by rw [ByteArray.size_extract]; omega
        go_wp2_with (go_at_call 64; refine (clone_any _ _ hx).mono ?_; rintro e w1 ⟨rfl, hb1⟩)
        go_ret
        exact ⟨by rw [HQ.out, ← HPE.out]; rfl, hb1⟩
    · have hkK : k = K := by omega
      have hq : pos K s.data.toList = p := by rw [← hkK]; exact hp.out
      have HQ := Lib.hid hq
      have g1 : ¬ 0 < n - (k : Int) := by omega
      clear h1 h3 h5 hp hq hKn hkK
      have hx : (s.extract 0 p).size ≤ 281474976710656 := by rw [ByteArray.size_extract]; omega
      go_wp2_with (go_at_call 64; refine (clone_any _ _ hx).mono ?_; rintro e w1 ⟨rfl, hb1⟩)
      go_ret
      exact ⟨by rw [HQ.out]; rfl, hb1⟩
end Go.Proofs.Ytdodlppnjlmnaaa.T2
