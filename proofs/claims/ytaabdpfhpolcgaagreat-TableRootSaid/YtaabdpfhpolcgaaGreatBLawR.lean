/-
  THE WALK of the law TableRoot.
-/
import Derived.Test.YtaabdpfhpolcgaaGreatBLike
import Derived.Test.YtaabdpfhpolcgaaGreatBRRoot
namespace Go.Proofs.YtaabdpfhpolcgaaGreat
open Go.RowKit
set_option linter.unusedVariables false
set_option linter.unusedSimpArgs false
set_option maxHeartbeats 1000000 in
set_option maxRecDepth 100000 in
theorem tableRoot_walk (w : World) : Calls Tryz.prog 4 #[] w fun e w' => e = .returned (.bool true) ∧ Below w.heap.size w w' := by
  have EC := Lib.hid check_root
  go_enter Tryz.func4, Tryz.ntmps4
  go_wp2_with (first
    | (go_at_call 9; refine (root_any _).mono ?_; rintro e w1 ⟨p, rfl, ht, hb⟩; have HT := Lib.hid ht; have HB := Lib.hid hb; clear ht hb)
    | (go_at_call 18; refine (rroot_any _).mono ?_; rintro e w2 ⟨⟨u, rfl, hu⟩, hb⟩; have HT2 := Lib.hid (HT.out.below hb (Nat.le_refl _)); have HU := Lib.hid hu; have HB2 := Lib.hid (HB.out.trans (hb.mono HB.out.size)); clear hu hb)
    | (go_at_call 17; refine (like_any HT2.out HU.out).mono ?_; rintro e w3 ⟨rfl, hb⟩; have HT3 := Lib.hid (HT2.out.below hb (Nat.le_refl _)); have HB3 := Lib.hid (HB2.out.trans (hb.mono HB2.out.size)); clear hb)
    | (go_at_call 15; refine (check_any HT3.out EC.out).mono ?_; rintro e w4 ⟨rfl, hb⟩; have HB4 := Lib.hid (HB3.out.trans (hb.mono HB3.out.size)); clear hb)
    | (go_at_call 16; refine (awake_any _).mono ?_; rintro e w5 ⟨rfl, hb⟩; have HB5 := Lib.hid (HB4.out.trans (hb.mono HB4.out.size)); clear hb))
  go_ret
  exact ⟨rfl, HB5.out⟩
end Go.Proofs.YtaabdpfhpolcgaaGreat
