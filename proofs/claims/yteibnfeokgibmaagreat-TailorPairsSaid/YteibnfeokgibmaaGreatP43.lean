/-
  PACKED for a claim.
-/
import Derived.Test.YteibnfeokgibmaaGreatP08
import Derived.Test.YteibnfeokgibmaaGreatP42
set_option linter.unusedVariables false
set_option linter.unusedSimpArgs false
set_option maxRecDepth 100000
namespace Go.Proofs.YteibnfeokgibmaaGreat.T2
open Go.RowKit
theorem yfm (s : ByteArray) (w : World) (hs : s.size <= 281474976710656) : Calls Tryz.prog 222 #[.string s] w fun e w' => e = .returned (.string s) /\ Below w.heap.size w w' := by
 go_enter Tryz.func222, Tryz.ntmps222
 go_wp2_with (go_at_call 229; refine (Tryz.stringslite_Clone s w hs).mono ?_; rintro e w1 ⟨rfl, hb1⟩)
 go_ret
 exact ⟨rfl, hb1⟩
theorem yys {l : List UInt8} {k K : Nat} (h : ¬ pos k l < l.length) (hK : k <= K) : pos K l = l.length := by
 have h1 := mt (ygb k l).2 h; have h2 := mt (ygb K l).1 (by omega)
 have := pos_le K l; omega
set_option maxRecDepth 200000 in
theorem ywu (s : ByteArray) (n : Int) (w : World) (hs : s.size <= 1000000) (hn : -9223372036854775808 <= n) (hn' : n <= 9223372036854775807) :
  Calls Tryz.prog 202 #[.string s, .int .i64 n] w fun e w' => e = .returned (.string (s.extract 0 (pos n.toNat s.data.toList))) /\ Below w.heap.size w w' := by
 have PN := zH (fun k => yfe k s.data.toList)
 have PE := zH (fun k => pos_le k s.data.toList)
 have PS := zH (fun k K => @yys s.data.toList k K)
 have hm : s.size <= 9223372036854775807 := by omega
 have hm' : s.size <= maxLen := by have : maxLen = 9223372036854775807 := by decide
                                   omega
 obtain ⟨K, hK⟩ : ∃ K, n.toNat = K := ⟨_, rfl⟩; have HK := zH hK; rw [hK]; simp only [ba_len] at PN PE PS; clear hK
 go_enter Tryz.func202, Tryz.ntmps202
 go_wp2
 go_loop [1, 5] (fun m i => ∃ (k p : Nat), k <= K /\ m = .int .i64 (n - k) /\ i = .int .i64 p /\ Hid (pos k s.data.toList = p)) (fun _ i => s.size - (intOf i).toNat)
 case atStart => exact ⟨0, 0, by omega, by simp, rfl, rfl⟩
 case round =>
  obtain ⟨k, p, hk, rfl, rfl, hp⟩ := hrel; have h1 := PN.out k; have h3 := PE.out (k + 1); have h4 := PE.out k; have h5 := PS.out k K; rw [hp.out] at h1 h4 h5; have hKn := HK.out
  by_cases hnk : (k : Int) < n
  ·by_cases hlt : p < s.size
   ·have h1' := h1 hlt; obtain ⟨D, hD⟩ : ∃ D, dec (s.data.toList.drop p) = D := ⟨_, rfl⟩; have hpos := ycw (s.data.toList.drop p); rw [hD] at h1' hpos; have HD := zH hD; have H1 := zH h1'; rw [h1'] at h3
    have hkK : k + 1 <= K := by omega
    have g1 : 0 < n - (k : Int) := by omega
    have g2 : n - (k : Int) <= 9223372036854775807 := by omega
    clear h1 h1' hD hp h5 hKn
    go_wp2_with (first
     | (go_at_call 144; refine (ygz hlt hm' HD.out _).mono ?_; rintro e w' ⟨rfl, rfl⟩))
    refine ⟨⟨k + 1, p + D.2, hkK, by go_num, rfl, H1.out⟩, ?_⟩
    simp [intOf]; omega
   ·have hq := h5 hlt hk; have HQ := zH hq
    have hpe : p = s.size := by omega
    have HPE := zH hpe
    have g1 : 0 < n - (k : Int) := by omega
    clear h1 h3 h5 hp hq hKn hpe
    have hx : (s.extract 0 p).size <= 281474976710656 := by rw [ByteArray.size_extract]; omega
    go_wp2_with (go_at_call 222; refine (yfm _ _ hx).mono ?_; rintro e w1 ⟨rfl, hb1⟩)
    go_ret
    exact ⟨by rw [HQ.out, <- HPE.out]; rfl, hb1⟩
  ·have hkK : k = K := by omega
   have hq : pos K s.data.toList = p := by rw [<- hkK]; exact hp.out
   have HQ := zH hq
   have g1 : ¬ 0 < n - (k : Int) := by omega
   clear h1 h3 h5 hp hq hKn hkK
   have hx : (s.extract 0 p).size <= 281474976710656 := by rw [ByteArray.size_extract]; omega
   go_wp2_with (go_at_call 222; refine (yfm _ _ hx).mono ?_; rintro e w1 ⟨rfl, hb1⟩)
   go_ret
   exact ⟨by rw [HQ.out]; rfl, hb1⟩
end Go.Proofs.YteibnfeokgibmaaGreat.T2
