/-
  THE WALKS of the laws TextSigns and TextFolds.
-/
import Derived.Test.YtcoepmakajligaaTAwake
namespace Go.Proofs.Ytcoepmakajligaa
open Go.RowKit
set_option linter.unusedVariables false
set_option linter.unusedSimpArgs false
theorem ba_self (s : ByteArray) : (⟨s.data.toList.toArray⟩ : ByteArray) = s := by apply ByteArray.ext; simp
theorem count_is {s : ByteArray} {n : Nat} (h : (sgs s.data.toList).length = n) (hs : s.size ≤ 1000000) (w : World) : Calls Try.prog 14 #[.string s] w fun e w' => e = .returned (.int .i64 n) ∧ w = w' := by
  rw [← h]; exact count_any s w (by have : maxLen = 9223372036854775807 := by decide
                                    omega)
theorem valid_is {s : ByteArray} {b : Bool} (h : vl s.data.toList = b) (hs : s.size ≤ 1000000) (w : World) : Calls Try.prog 15 #[.string s] w fun e w' => e = .returned (.bool b) ∧ w = w' := by
  rw [← h]; exact valid_any s w (by have : maxLen = 9223372036854775807 := by decide
                                    omega)
theorem same_self {l : List Int} (u v : Value) (w : World) {B B' : Nat} (hu : Rd B w u (iv l)) (hv : Rd B' w v (iv l)) (hB : B ≤ w.heap.size) (hB' : B' ≤ w.heap.size) (hm : l.length ≤ 10000000) :
    Calls Try.prog 13 #[u, v] w fun e w' => e = .returned (.bool true) ∧ Below w.heap.size w w' := by
  have := same_any u v l l w (hu.more hB) (hv.more hB') hm
  rw [beq_self_eq_true] at this; exact this
def isCp (c : Int) : Bool := decide (c ≤ 1114111)
theorem cp_step {l : List Int} {k : Nat} {x : Int} (hk : k < l.length) (hx : l[k] = x) : (l.take (k + 1)).all isCp = ((l.take k).all isCp && isCp x) := by
  rw [List.take_succ_eq_append_getElem hk, List.all_append, hx]; simp
theorem cp_yes {x : Int} (h : x ≤ 1114111) : isCp x = true := by simp [isCp, h]
theorem cp_no {x : Int} (h : ¬ x ≤ 1114111) : isCp x = false := by simp [isCp]; omega
set_option maxRecDepth 200000 in
theorem textSigns_walk (a0 : ByteArray) (w : World) (w0 : a0.size ≤ maxLen) :
    Calls Try.prog 3 #[.string a0] w fun e w' => e = .returned (.bool true) ∧ Below w.heap.size w w' := by
  by_cases hs : a0.size ≤ 2000
  · obtain ⟨l, hl⟩ : ∃ l, sgs a0.data.toList = l := ⟨_, rfl⟩
    have hb := byt_sgs a0.data.toList
    have hlen := sgs_len a0.data.toList
    have hv : vl a0.data.toList = l.all isCp := by rw [← hl]; rfl
    rw [hl] at hb hlen
    rw [ba_len] at hlen
    have CS := Lib.hid (fun w => signs_is hl (by omega) w)
    have CR := Lib.hid (fun w => rsigns_is hl (by omega) w)
    have CC := Lib.hid (fun w => count_is (congrArg List.length hl) (by omega) w)
    have CV := Lib.hid (fun w => valid_is hv (by omega) w)
    have HBY : Hid ((⟨(bytL l).toArray⟩ : ByteArray) = a0 ∧ bytE l = 0) := ⟨by rw [hb.1, ba_self], hb.2⟩
    have HLL : Hid (l.length ≤ 200000) := by show _ ≤ _; omega
    have HLM : Hid (l.length ≤ 10000000) := by show _ ≤ _; omega
    have hl1 : l.length ≤ 2000 := by omega
    obtain ⟨B, hB⟩ : ∃ B, w.heap.size = B := ⟨_, rfl⟩
    have HB := Lib.hid hB
    rw [hB]
    clear hl hb hlen hv hB
    go_enter Try.func3, Try.ntmps3
    go_wp2_with (first
      | (go_at_call 10; refine (CS.out _).mono ?_; rintro e w1 ⟨v1, rfl, ho1, hb1⟩)
      | (go_at_call 11; refine (bytes_is HBY.out HLL.out _ _ ho1.rd (Nat.le_refl _)).mono ?_; rintro e w2 ⟨rfl, hb2⟩)
      | (go_at_call 12; refine (CR.out _).mono ?_; rintro e w3 ⟨v3, rfl, ho3, hb3⟩; obtain ⟨A, c, rfl, hr⟩ := ho3.shape))
    have HR := Lib.hid hr
    have HO3 := Lib.hid ho3
    have HRD1 := Lib.hid ((ho1.rd.below hb2).below (hb3.mono hb2.size))
    have HS3 : Hid (w1.heap.size ≤ w3.heap.size) := Nat.le_trans hb2.size hb3.size
    have HBW : Hid (Below B w w3) := by
      have h1 := HB.out
      rw [← h1]
      exact hb1.trans ((hb2.trans (hb3.mono hb2.size)).mono hb1.size)
    clear hr ho3 ho1 hb1 hb2 hb3
    have GS := Lib.hid (fun k x => @cp_step l k x)
    go_loopw [7, 8] (fun g i wr => ∃ (k : Nat) (b : Bool), k ≤ l.length ∧ i = .int .i64 k ∧ g = .bool b ∧ Hid ((l.take k).all isCp = b) ∧ Hid (Below w3.heap.size w3 wr)) (fun _ i _ => l.length - (intOf i).toNat)
    case atStart => exact ⟨0, true, by omega, rfl, rfl, rfl, Below.refl _ _⟩
    case round =>
      obtain ⟨k, b, hk, rfl, rfl, HT, HW⟩ := hrel
      by_cases hlt : k < l.length
      · obtain ⟨ad, rfl, hab, hc⟩ := HR.out (by omega)
        have c1 := hc k _ (iv_at hlt)
        have hst := GS.out k _ hlt rfl
        obtain ⟨x, hx⟩ : ∃ x, l[k] = x := ⟨_, rfl⟩
        rw [hx] at c1 hst
        have c2 := (HW.out.cell (p := ad.add k) (by rw [add_block]; exact hab)).trans c1
        have i1 : (k : Int) < (l.length : Int) := by omega
        rw [HT.out] at hst
        have HST := Lib.hid hst
        clear hc hx c1 hst
        cases b
        · go_wp2
          go_roundw
          case rel => exact ⟨k + 1, false, by omega, by go_num, rfl, by rw [HST.out]; rfl, HW.out⟩
          case measure => simp [intOf]; omega
        · by_cases hcp : x ≤ 1114111
          · go_wp2
            go_roundw
            case rel => exact ⟨k + 1, true, by omega, by go_num, rfl, by rw [HST.out, cp_yes hcp]; rfl, HW.out⟩
            case measure => simp [intOf]; omega
          · go_wp2
            go_roundw
            case rel => exact ⟨k + 1, false, by omega, by go_num, rfl, by rw [HST.out, cp_no hcp]; rfl, HW.out⟩
            case measure => simp [intOf]; omega
      · obtain rfl : k = l.length := by omega
        have ht := HT.out
        rw [List.take_length] at ht
        rw [ht] at CV
        have HB3 := Lib.hid (HBW.out.trans (HW.out.mono (by have := HBW.out.size; have := HB.out; omega)))
        clear ht
        go_wp2_with (first
          | (go_at_call 13; refine (same_self _ _ _ (HRD1.out.below (HW.out.mono HS3.out)) (HO3.out.rd.below HW.out) (Nat.le_trans HS3.out HW.out.size) HW.out.size HLM.out).mono ?_; rintro e w4 ⟨rfl, hb4⟩)
          | (go_at_call 14; refine (CC.out _).mono ?_; rintro e w' ⟨rfl, rfl⟩)
          | (go_at_call 15; refine (CV.out _).mono ?_; rintro e w' ⟨rfl, rfl⟩)
          | (go_at_call 9; refine (awake_any _).mono ?_; rintro e w5 ⟨rfl, hb5⟩))
        go_ret
        exact ⟨rfl, HB3.out.trans ((hb4.trans (hb5.mono hb4.size)).mono (by have := HB3.out.size; have := HB.out; omega))⟩
  · have hlt : 2000 < a0.size := by omega
    clear hs
    go_enter Try.func3, Try.ntmps3
    go_wp2_with (go_at_call 9; refine (awake_any _).mono ?_; rintro e w' ⟨rfl, hb⟩)
    go_ret
    exact ⟨rfl, hb⟩
set_option maxRecDepth 200000 in
theorem textFolds_walk (a0 : ByteArray) (a1 : Int) (w : World) (w0 : a0.size ≤ maxLen) (w1 : (Lit.int .i64 a1).wf = true) :
    Calls Try.prog 5 #[.string a0, .int .i64 a1] w fun e w' => e = .returned (.bool true) ∧ Below w.heap.size w w' := by
  by_cases hs : a0.size ≤ 1000
  · obtain ⟨f, hf⟩ : ∃ f : ByteArray, (⟨(ft a0.data.toList).toArray⟩ : ByteArray) = f := ⟨_, rfl⟩
    have hfl : f.data.toList = ft a0.data.toList := by rw [← hf]
    have hfs : f.size ≤ 1000000 := by
      have h1 := ft_take_len a0.data.toList (sgs a0.data.toList).length
      rw [List.take_length, ba_len] at h1
      have : f.size = (ft a0.data.toList).length := by rw [← hfl, ba_len]
      have h2 : (ft a0.data.toList).length ≤ 4 * a0.size := h1
      omega
    have hff : (⟨(ft f.data.toList).toArray⟩ : ByteArray) = f := by rw [hfl, ft_ft, ← hf]
    have C1 := Lib.hid (fun w => foldtext_any a0 w (by omega))
    have C2 := Lib.hid (fun w => rfoldtext_any a0 w (by omega))
    have C3 := Lib.hid (fun w => foldtext_any f w hfs)
    rw [hf] at C1 C2
    rw [hff] at C3
    have hn : (sgs f.data.toList).length = (sgs a0.data.toList).length := by rw [hfl, sgs_ft, List.length_map]
    have hn2 := sgs_len a0.data.toList
    rw [ba_len] at hn2
    obtain ⟨n, hnn⟩ : ∃ n, (sgs a0.data.toList).length = n := ⟨_, rfl⟩
    rw [hnn] at hn hn2
    have C4 := Lib.hid (fun w => count_is hn hfs w)
    have C5 := Lib.hid (fun w => count_is hnn (by omega) w)
    have tok : True := trivial
    have tok2 : True := trivial
    clear hf hfl hff hn hnn
    go_enter Try.func5, Try.ntmps5
    go_wp2_with (first
      | (go_at_call 17; have _t := tok; refine (C1.out _).mono ?_; rintro e w1 ⟨rfl, hb1⟩; clear _t tok)
      | (go_at_call 18; refine (fold_any _ _).mono ?_; rintro e w' ⟨rfl, rfl⟩)
      | (go_at_call 19; refine (rfold_any _ _).mono ?_; rintro e w' ⟨rfl, rfl⟩)
      | (go_at_call 20; refine (C2.out _).mono ?_; rintro e w2 ⟨rfl, hb2⟩)
      | (go_at_call 17; refine (C3.out _).mono ?_; rintro e w3 ⟨rfl, hb3⟩)
      | (go_at_call 14; have _t := tok2; refine (C4.out _).mono ?_; rintro e w' ⟨rfl, rfl⟩; clear _t tok2)
      | (go_at_call 14; refine (C5.out _).mono ?_; rintro e w' ⟨rfl, rfl⟩)
      | (go_at_call 9; refine (awake_any _).mono ?_; rintro e w5 ⟨rfl, hb5⟩))
    go_ret
    exact ⟨rfl, hb1.trans ((hb2.trans ((hb3.trans (hb5.mono hb3.size)).mono hb2.size)).mono hb1.size)⟩
  · have hlt : 1000 < a0.size := by omega
    clear hs
    go_enter Try.func5, Try.ntmps5
    go_wp2_with (go_at_call 9; refine (awake_any _).mono ?_; rintro e w' ⟨rfl, hb⟩)
    go_ret
    exact ⟨rfl, hb⟩
end Go.Proofs.Ytcoepmakajligaa
