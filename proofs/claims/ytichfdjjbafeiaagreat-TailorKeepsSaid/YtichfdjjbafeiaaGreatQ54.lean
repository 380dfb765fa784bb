/-
  PACKED for a claim.
-/
import Derived.Test.YtichfdjjbafeiaaGreatQ53
set_option linter.unusedVariables false
set_option linter.unusedSimpArgs false
set_option maxRecDepth 100000
namespace Go.Proofs.YtichfdjjbafeiaaGreat
open Go.RowKit
theorem kp_ixS (s : ByteArray) {k : Nat} {c : UInt8} (h : s.data.toList[k]? = some c) (w : World) : (Instr.index 9 (.string s) (.int .i64 (k : Int))).run Tryz.prog w = .ok (.int .u8 (c.toNat : Int)) w := by
 obtain ⟨hk, hc⟩ := List.getElem?_eq_some_iff.1 h
 have hk' : k < s.size := hk
 have h' : 0 <= (k : Int) /\ (k : Int) < (s.size : Int) := ⟨by omega, by omega⟩
 rw [run_index_string w 9 s .i64 (k : Int) Tryz.underlying9, dif_pos h']; subst hc; rfl
theorem ydr {α : Type} {p : α -> Bool} {l : List α} {k : Nat} {x : α} (h : l[k]? = some x) (hp : p x = true) (ha : (l.take k).all p = true) : (l.take (k + 1)).all p = true := by
 rw [List.take_add_one, h, List.all_append, ha]; simp [hp]
def small6 (x : S6.RV) : Bool := decide (x.seq.length + x.exp.length <= 6)
theorem yna {l : List S6.RV} (h : l.length <= 8) (ha : l.all small6 = true) : S6.RVs l := ⟨by omega, fun x hx => by
 have := List.all_eq_true.1 ha x hx
 unfold small6 at this
 have := of_decide_eq_true this
 omega⟩
theorem ypc {l : List S6.RV} (h : S6.RVs l) (hw : ∀ x ∈ l, x.seq.length <= reachBytes /\ x.exp.length <= reachBytes /\ I64 x.seq /\ I64 x.exp) : ∀ r ∈ l, RuOk r := fun r hr => by
 have h1 := h.2 r hr; have h2 := hw r hr; exact ⟨h2.2.2.1, h2.2.2.2, by omega, by omega⟩
theorem kpB_in {c : UInt8} (h : 110 <= c.toNat /\ c.toNat <= 122 \/ 48 <= c.toNat /\ c.toNat <= 57 \/ 78 <= c.toNat /\ c.toNat <= 90) : kpB c = true := by
 simp only [kpB, kpS, Bool.and_eq_true, decide_eq_true_eq, Bool.or_eq_true]
 omega
theorem kpQ_in {c : Int} (h1 : ¬ c < 97) (h2 : ¬ 109 < c) : kpQ c = true := by
 simp only [kpQ, Bool.and_eq_true, decide_eq_true_eq]
 omega
def kpT (a b : ByteArray) (j : Nat) : ByteArray := if j = 0 then a else b
set_option maxHeartbeats 16000000 in
theorem yfa (v0 : Value) (l : List S6.RV) (a b : ByteArray) (w : World) (h0 : S6.RdRs w v0 l) (hw0 : ∀ x ∈ l, x.seq.length <= reachBytes /\ x.exp.length <= reachBytes /\ I64 x.seq /\ I64 x.exp) (hl0 : l.length <= maxLen) (ha : a.size <= reachBytes) (hb : b.size <= reachBytes) :
  Calls Tryz.prog 7 #[v0, .string a, .string b] w fun e w' => e = .returned (.bool true) /\ Below w.heap.size w w' := by
 obtain ⟨A, c, rfl⟩ := h0.form; have HV := zH h0; have HWI := zH hw0; obtain ⟨n, hn⟩ : ∃ n, l.length = n := ⟨_, rfl⟩; rw [hn] at HV hl0 |-; have hcap := S6.RdRs.cap HV.out; have HN := zH hn; have HAW := zH yom; simp only [maxLen] at hl0; simp only [reachBytes] at ha hb; obtain ⟨sa, hsa⟩ : ∃ q, a.size = q := ⟨_, rfl⟩; obtain ⟨sb, hsb⟩ : ∃ q, b.size = q := ⟨_, rfl⟩; have HSA := zH hsa; have HSB := zH hsb; rw [hsa] at ha; rw [hsb] at hb
 have hsum : IntKind.i64.wrap ((a.size : Int) + (b.size : Int)) = (sa : Int) + (sb : Int) := by rw [hsa, hsb]; exact IntWalk.i64_in _ (by omega)
 clear h0 hn hw0
 by_cases h60 : 60 < sa + sb
 ·have h60I : (60 : Int) < (sa : Int) + (sb : Int) := by omega
  clear hsa hsb
  go_enter Tryz.func7, Tryz.ntmps7
  go_wp2_with (go_at_call 12; refine (HAW.out _).mono ?_; rintro e w1 ⟨rfl, hb⟩; have HB1 := zH hb; clear hb)
  go_ret
  exact ⟨rfl, HB1.out⟩
 ·have h60I : ¬ (60 : Int) < (sa : Int) + (sb : Int) := by omega
  by_cases h8 : 8 < n
  ·have h8I : (8 : Int) < (n : Int) := by omega
   clear hsa hsb
   go_enter Tryz.func7, Tryz.ntmps7
   go_wp2_with (go_at_call 12; refine (HAW.out _).mono ?_; rintro e w1 ⟨rfl, hb⟩; have HB1 := zH hb; clear hb)
   go_ret
   exact ⟨rfl, HB1.out⟩
  ·have h8I : ¬ (8 : Int) < (n : Int) := by omega
   have hn8 : n <= 8 := by omega
   have HTS : Hid (∀ j, (kpT a b j).size <= 60) := fun j => by unfold kpT; split <;> omega
   have HA60 : Hid (a.size <= 60 /\ b.size <= 60) := by show _ /\ _; omega
   have hbl := yab w (.cells #[.string a, .string b] 9); have hx0 := heap_alloc_new w (.cells #[.string a, .string b] 9)
   have HCE : Hid (∀ j, j < 2 -> (w.alloc (.cells #[.string a, .string b] 9)).cell? ⟨w.heap.size, j, none⟩ = some (.string (kpT a b j))) := fun j hj => by
    have : j = 0 \/ j = 1 := by omega
    rcases this with rfl | rfl
    iterate 2 (·exact yan hx0 rfl)
   have HBL := zH hbl; have HV1 := zH (S6.RdRs.below HV.out hbl (zN _)); obtain ⟨W1, hW1⟩ : ∃ W1, w.alloc (.cells #[.string a, .string b] 9) = W1 := ⟨_, rfl⟩; obtain ⟨g1, hg1⟩ : ∃ g, w.heap.size = g := ⟨_, rfl⟩; rw [hW1] at HCE HBL HV1; have HBL2 := HBL; rw [hg1] at HCE; clear hsa hsb hbl hx0 h60 h8
   go_enter Tryz.func7, Tryz.ntmps7
   go_wp2
   clear hW1 hg1
   go_loopw [32] (fun i wr => ∃ j : Nat, j <= 2 /\ i = .int .i64 (j : Nat) /\ Hid (0 < j -> a.data.toList.all kpB = true) /\ Hid (1 < j -> b.data.toList.all kpB = true) /\ wr = W1) (fun i _ => 2 - (intOf i).toNat)
   case atStart => exact ⟨0, by omega, rfl, fun h => absurd h (by omega), fun h => absurd h (by omega), by first | rfl | trivial⟩
   case round =>
    obtain ⟨j, hj, rfl, HJA, HJB, hwr⟩ := hrel
    replace hwr := hwr.symm
    subst hwr
    by_cases hlt : j < 2
    ·have hltI : (j : Int) < 2 := by omega
     have c1 := HCE.out j hlt; have hS60 := HTS.out j; obtain ⟨S, hS⟩ : ∃ S, kpT a b j = S := ⟨_, rfl⟩; rw [hS] at c1 hS60; obtain ⟨ns, hns⟩ : ∃ q, S.size = q := ⟨_, rfl⟩
     have hnsI : (S.size : Int) = (ns : Int) := by rw [hns]
     rw [hns] at hS60; have HS := zH hS; have HNS := zH hns; clear hS hns hlt
     go_wp2
     go_loopw [9] (fun i wr => ∃ u : Nat, u <= ns /\ i = .int .i64 (u : Nat) /\ Hid ((S.data.toList.take u).all kpB = true) /\ wr = W1) (fun i _ => ns - (intOf i).toNat)
     case atStart => exact ⟨0, Nat.zero_le _, rfl, rfl, by first | rfl | trivial⟩
     case round =>
      obtain ⟨u, hu, rfl, HU, hwr⟩ := hrel
      replace hwr := hwr.symm
      subst hwr
      by_cases hlt : u < ns
      ·have hltI2 : (u : Int) < (ns : Int) := by omega
       obtain ⟨x, hx⟩ : ∃ x, S.data.toList[u]? = some x := ⟨_, List.getElem?_eq_getElem (by have := HNS.out; show u < S.data.toList.length; rw [Array.length_toList]; show u < S.size; omega)⟩
       have hix := kp_ixS S hx
       have hin : ∀ h : 110 <= x.toNat /\ x.toNat <= 122 \/ 48 <= x.toNat /\ x.toNat <= 57 \/ 78 <= x.toNat /\ x.toNat <= 90, (S.data.toList.take (u + 1)).all kpB = true := fun h => ydr hx (kpB_in h) HU.out
       have HIN := zH hin; obtain ⟨xn, hxn⟩ : ∃ q, x.toNat = q := ⟨_, rfl⟩; rw [hxn] at hix HIN; clear hin hx hxn hlt
       rcases (show xn < 48 \/ (48 <= xn /\ xn <= 57) \/ (58 <= xn /\ xn <= 77) \/ (78 <= xn /\ xn <= 90) \/ (91 <= xn /\ xn <= 109) \/ (110 <= xn /\ xn <= 122) \/ 123 <= xn by omega) with q | q | q | q | q | q | q
       ·skip
        have q110g : ¬ (110 : Int) <= (xn : Int) := by omega
        have q122l : (xn : Int) <= 122 := by omega
        have q48g : ¬ (48 : Int) <= (xn : Int) := by omega
        have q57l : (xn : Int) <= 57 := by omega
        have q78g : ¬ (78 : Int) <= (xn : Int) := by omega
        have q90l : (xn : Int) <= 90 := by omega
        clear HIN q
        go_wp2_with (go_at_call 12; refine (HAW.out _).mono ?_; rintro e w2 ⟨rfl, hb⟩; have HB2 := zH (HBL2.out.trans (hb.mono HBL2.out.size)); clear hb)
        go_ret
        exact ⟨rfl, HB2.out⟩
       ·skip
        have q110g : ¬ (110 : Int) <= (xn : Int) := by omega
        have q122l : (xn : Int) <= 122 := by omega
        have q48g : (48 : Int) <= (xn : Int) := by omega
        have q57l : (xn : Int) <= 57 := by omega
        have q78g : ¬ (78 : Int) <= (xn : Int) := by omega
        have q90l : (xn : Int) <= 90 := by omega
        have HI2 := zH (HIN.out (by omega))
        clear HIN q
        go_wp2
        go_roundw
        case rel => exact ⟨u + 1, by omega, by go_num, HI2.out, by first | rfl | trivial⟩
        case measure => simp [intOf] <;> omega
       ·skip
        have q110g : ¬ (110 : Int) <= (xn : Int) := by omega
        have q122l : (xn : Int) <= 122 := by omega
        have q48g : (48 : Int) <= (xn : Int) := by omega
        have q57l : ¬ (xn : Int) <= 57 := by omega
        have q78g : ¬ (78 : Int) <= (xn : Int) := by omega
        have q90l : (xn : Int) <= 90 := by omega
        clear HIN q
        go_wp2_with (go_at_call 12; refine (HAW.out _).mono ?_; rintro e w2 ⟨rfl, hb⟩; have HB2 := zH (HBL2.out.trans (hb.mono HBL2.out.size)); clear hb)
        go_ret
        exact ⟨rfl, HB2.out⟩
       ·skip
        have q110g : ¬ (110 : Int) <= (xn : Int) := by omega
        have q122l : (xn : Int) <= 122 := by omega
        have q48g : (48 : Int) <= (xn : Int) := by omega
        have q57l : ¬ (xn : Int) <= 57 := by omega
        have q78g : (78 : Int) <= (xn : Int) := by omega
        have q90l : (xn : Int) <= 90 := by omega
        have HI2 := zH (HIN.out (by omega))
        clear HIN q
        go_wp2
        go_roundw
        case rel => exact ⟨u + 1, by omega, by go_num, HI2.out, by first | rfl | trivial⟩
        case measure => simp [intOf] <;> omega
       ·skip
        have q110g : ¬ (110 : Int) <= (xn : Int) := by omega
        have q122l : (xn : Int) <= 122 := by omega
        have q48g : (48 : Int) <= (xn : Int) := by omega
        have q57l : ¬ (xn : Int) <= 57 := by omega
        have q78g : (78 : Int) <= (xn : Int) := by omega
        have q90l : ¬ (xn : Int) <= 90 := by omega
        clear HIN q
        go_wp2_with (go_at_call 12; refine (HAW.out _).mono ?_; rintro e w2 ⟨rfl, hb⟩; have HB2 := zH (HBL2.out.trans (hb.mono HBL2.out.size)); clear hb)
        go_ret
        exact ⟨rfl, HB2.out⟩
       ·skip
        have q110g : (110 : Int) <= (xn : Int) := by omega
        have q122l : (xn : Int) <= 122 := by omega
        have q48g : (48 : Int) <= (xn : Int) := by omega
        have q57l : ¬ (xn : Int) <= 57 := by omega
        have q78g : (78 : Int) <= (xn : Int) := by omega
        have q90l : ¬ (xn : Int) <= 90 := by omega
        have HI2 := zH (HIN.out (by omega))
        clear HIN q
        go_wp2
        go_roundw
        case rel => exact ⟨u + 1, by omega, by go_num, HI2.out, by first | rfl | trivial⟩
        case measure => simp [intOf] <;> omega
       ·skip
        have q110g : (110 : Int) <= (xn : Int) := by omega
        have q122l : ¬ (xn : Int) <= 122 := by omega
        have q48g : (48 : Int) <= (xn : Int) := by omega
        have q57l : ¬ (xn : Int) <= 57 := by omega
        have q78g : (78 : Int) <= (xn : Int) := by omega
        have q90l : ¬ (xn : Int) <= 90 := by omega
        clear HIN q
        go_wp2_with (go_at_call 12; refine (HAW.out _).mono ?_; rintro e w2 ⟨rfl, hb⟩; have HB2 := zH (HBL2.out.trans (hb.mono HBL2.out.size)); clear hb)
        go_ret
        exact ⟨rfl, HB2.out⟩
      ·have hltI2 : ¬ (u : Int) < (ns : Int) := by omega
       have htk : S.data.toList.take u = S.data.toList := List.take_of_length_le (by have := HNS.out; rw [Array.length_toList]; show S.size <= u; omega)
       have hal := HU.out; rw [htk] at hal; have hs := HS.out
       have HA2 : Hid (0 < j + 1 -> a.data.toList.all kpB = true) := fun _ => by
        rcases Nat.eq_zero_or_pos j with h | h
        ·subst h; rw [show S = a from hs.symm] at hal; exact hal
        ·exact HJA.out h
       have HB2 : Hid (1 < j + 1 -> b.data.toList.all kpB = true) := fun h => by
        have h1 : ¬ j = 0 := by omega
        unfold kpT at hs; rw [if_neg h1] at hs; rw [<- hs] at hal; exact hal
       clear htk hal hs hlt
       go_wp2
       go_roundw
       case rel => exact ⟨j + 1, by omega, by go_num, HA2.out, HB2.out, by first | rfl | trivial⟩
       case measure => simp [intOf] <;> omega
    ·have hltI : ¬ (j : Int) < 2 := by omega
     have HKA := zH (HJA.out (by omega))
     have HKB := zH (HJB.out (by omega))
     clear hlt HJA HJB HCE HTS
     go_wp2
     go_loopg [10] n (fun f i wr => ∃ k : Nat, k <= n /\ i = .int .i64 (k : Nat) /\ f = n - k /\ Hid ((l.take k).all kpR = true) /\ Hid ((l.take k).all small6 = true) /\ DrewQ W1 wr)
     case atStart => exact ⟨0, Nat.zero_le _, rfl, rfl, rfl, rfl, DrewQ.refl _⟩
     case round =>
      obtain ⟨k, hk, rfl, rfl, HKR, HSM, HD⟩ := hrel
      by_cases hlt : k < n
      ·obtain ⟨x, hx⟩ : ∃ x, l[k]? = some x := ⟨_, List.getElem?_eq_getElem (by rw [HN.out]; exact hlt)⟩
       obtain ⟨g, o, A1, n1, p1, A2, n2, p2, rfl, c0, c1, c2, r1, r2, rfl, rfl⟩ := S6.RdRs.at' HV1.out hx
       replace c0 := HD.cell c0
       replace c1 := HD.cell c1
       replace c2 := HD.cell c2
       have hltI : (k : Int) < (n : Int) := by omega
       have hkc : (k : Int) < (c : Int) := by omega
       have hxw := HWI.out x (List.mem_of_getElem? hx); simp only [reachBytes] at hxw; obtain ⟨hxa, hxb, -, -⟩ := hxw; have hcp := (RdF.cap r1).1; have HR1 := zH (RdI.below r1 HD.bel0 (zN _)); obtain ⟨es, hes⟩ : ∃ z, x.seq.length = z := ⟨_, rfl⟩; obtain ⟨ee, hee⟩ : ∃ z, x.exp.length = z := ⟨_, rfl⟩; rw [hes] at c1 hxa hcp HR1; rw [hee] at c2 hxb
       have hsum2 : IntKind.i64.wrap ((es : Int) + (ee : Int)) = (es : Int) + (ee : Int) := IntWalk.i64_in _ (by omega)
       have HX := zH hx; have HES := zH hes; have HEE := zH hee; obtain ⟨xr, hxr⟩ : ∃ z, x.rel = z := ⟨_, rfl⟩; rw [hxr] at c0; have HXR := zH hxr; obtain ⟨wo, rfl⟩ : ∃ wo, wo = wr := ⟨_, rfl⟩; clear r1 r2 hes hee hx hxb hlt hxr
       go_wp2
       go_loopg [11] es (fun f i wr => ∃ u : Nat, u <= es /\ i = .int .i64 (u : Nat) /\ f = es - u /\ Hid (xr ≠ 1 -> (x.seq.take u).all kpQ = true) /\ wr = wo)
       case atStart => exact ⟨0, Nat.zero_le _, rfl, rfl, fun _ => rfl, by first | rfl | trivial⟩
       case round =>
        obtain ⟨u, hu, rfl, rfl, HU, hwr⟩ := hrel
        replace hwr := hwr.symm
        subst hwr
        by_cases hlt : u < es
        ·have hltI2 : (u : Int) < (es : Int) := by omega
         obtain ⟨y, hy⟩ : ∃ y, x.seq[u]? = some y := ⟨_, List.getElem?_eq_getElem (by rw [HES.out]; exact hlt)⟩
         obtain ⟨g2, o2, rfl, d0⟩ := HR1.out.at hy
         have huc : (u : Int) < (p1 : Int) := by omega
         by_cases h1 : xr = 1
         ·have h1b : (xr != 1) = false := by rw [h1]; rfl
          have HU2 : Hid (xr ≠ 1 -> (x.seq.take (u + 1)).all kpQ = true) := fun h => absurd h1 h
          clear hlt hy h1
          go_wp2
          go_roundg (es - (u + 1))
          case measure => omega
          case rel => exact ⟨u + 1, by omega, by first | rfl | (congr 1), rfl, HU2.out, by first | rfl | trivial⟩
         ·have h1b : (xr != 1) = true := by simpa using h1
          by_cases h97 : y < 97
          ·have h97I : decide (y < 97) = true := decide_eq_true h97
           clear hlt hy h1
           go_wp2_with (go_at_call 12; refine (HAW.out _).mono ?_; rintro e w2 ⟨rfl, hb⟩; have HB2 := zH ((HBL2.out.trans ((HD.bel0).mono HBL2.out.size)).trans (hb.mono (HBL2.out.trans ((HD.bel0).mono HBL2.out.size)).size)); clear hb)
           go_ret
           exact ⟨rfl, HB2.out⟩
          ·have h97I : decide (y < 97) = false := decide_eq_false h97
           by_cases h109 : 109 < y
           ·have h109I : decide (109 < y) = true := decide_eq_true h109
            clear hlt hy h1
            go_wp2_with (go_at_call 12; refine (HAW.out _).mono ?_; rintro e w2 ⟨rfl, hb⟩; have HB2 := zH ((HBL2.out.trans ((HD.bel0).mono HBL2.out.size)).trans (hb.mono (HBL2.out.trans ((HD.bel0).mono HBL2.out.size)).size)); clear hb)
            go_ret
            exact ⟨rfl, HB2.out⟩
           ·have h109I : decide (109 < y) = false := decide_eq_false h109
            have HU2 : Hid (xr ≠ 1 -> (x.seq.take (u + 1)).all kpQ = true) := fun h => ydr hy (kpQ_in h97 h109) (HU.out h)
            clear hlt hy h1
            go_wp2
            go_roundg (es - (u + 1))
            case measure => omega
            case rel => exact ⟨u + 1, by omega, by first | rfl | (congr 1), rfl, HU2.out, by first | rfl | trivial⟩
        ·have hltI2 : ¬ (u : Int) < (es : Int) := by omega
         have htk : x.seq.take u = x.seq := List.take_of_length_le (by rw [HES.out]; omega)
         have hq := HU.out; rw [htk] at hq
         have hkr : kpR x = true := by
          unfold kpR; rw [HXR.out]
          by_cases h1 : xr = 1
          ·rw [decide_eq_true h1, Bool.true_or]
          ·rw [hq h1, Bool.or_true]
         by_cases h6 : 6 < es + ee
         ·have h6I : (6 : Int) < (es : Int) + (ee : Int) := by omega
          clear htk hq hkr hlt
          go_wp2
          go_quiet (fail)
          go_wp2_with (go_at_call 12; refine (HAW.out _).mono ?_; rintro e w2 ⟨rfl, hb⟩)
          go_ret
          have hbq := HBL2.out.trans ((HD.bel nq).mono HBL2.out.size); exact ⟨rfl, hbq.trans (hb.mono hbq.size)⟩
         ·have h6I : ¬ (6 : Int) < (es : Int) + (ee : Int) := by omega
          have HKR2 := zH (ydr HX.out hkr HKR.out); have HSM2 := zH (ydr HX.out (p := small6) (by unfold small6; rw [HES.out, HEE.out]; exact decide_eq_true (by omega)) HSM.out)
          clear htk hq hkr hlt
          go_wp2
          go_quiet (fail)
          go_wp2
          go_roundg (n - (k + 1))
          case measure => omega
          case rel => exact ⟨k + 1, by omega, by first | rfl | (congr 1), rfl, HKR2.out, HSM2.out, HD.more _⟩
      ·have hltI : ¬ (k : Int) < (n : Int) := by omega
       have hkn : l.take k = l := List.take_of_length_le (by rw [HN.out]; omega)
       have hkr := HKR.out; have hsm := HSM.out; rw [hkn] at hkr hsm
       have hrs : S6.RVs l := yna (by rw [HN.out]; exact hn8) hsm
       have hru := ypc hrs HWI.out
       have HB0 : Hid (Below w.heap.size w wr) := HBL2.out.trans (HD.bel0.mono HBL2.out.size)
       have HV2 := zH (S6.RdRs.below HV1.out HD.bel0 (zN _)); obtain ⟨E, hE⟩ : ∃ E, appE rootP l = E := ⟨_, rfl⟩; obtain ⟨L1, hL1⟩ : ∃ L, appL rootP l = L := ⟨_, rfl⟩
       have hll : l.length <= 8 := by rw [HN.out]; exact hn8
       have CO1 := zH (fun (w1 : World) (v : Value) (h : S6.RdRs w1 v l) => S6.of_any h hrs)
       have CA1 := zH (fun (w1 : World) (p : Nat) (F : Nat -> Prop) (rv : Value) (ht : TabAt F w1 p rootP) (hr : S6.RdRs w1 rv l) => yjt ht hr (by omega) hru hE hL1)
       have HKP := zH (fun (h0 : E = 0) => kp_app (l := l) (hE.trans h0) hkr)
       rw [hL1] at HKP; clear hkn hkr hsm hrs hru hE hL1 hll hlt HKR HSM
       by_cases hE0 : E = 0
       ·subst hE0; have HKF := zH (HKP.out rfl); clear HKP
        have HCQ : Hid (∀ lv, Lv lv -> cmpW (nzW lv (elsP L1 (T2.sgs a.data.toList))) (nzW lv (elsP L1 (T2.sgs b.data.toList))) = cmpW (nzW lv (elsP rootP (T2.sgs a.data.toList))) (nzW lv (elsP rootP (T2.sgs b.data.toList)))) := fun lv hl => by
         obtain ⟨f, hf⟩ := HKF.out; exact kp_cmp hf (yfn HKA.out) (yfn HKB.out) hl
        clear HKF
        go_wp2_with (first
         | (go_at_call 13; refine (yfc _).mono ?_; rintro e w1 ⟨p, rfl, ht, hb⟩; have HT := zH (ht.mono (G := anyB) fun _ _ => trivial); have HB1 := zH (HB0.out.trans (hb.mono HB0.out.size)); have HV3 := zH (S6.RdRs.below HV2.out hb (zN _)); clear ht hb)
         | (go_at_call 15; refine (CO1.out _ _ HV3.out).mono ?_; rintro e w2 ⟨⟨v2, rfl, hr⟩, hb⟩; have HR2 := zH hr; have HT2 := zH (HT.out.below hb (zN _)); have HB2 := zH (HB1.out.trans (hb.mono HB1.out.size)); clear hr hb)
         | (go_at_call 14; refine (CA1.out _ _ _ _ HT2.out HR2.out).mono ?_; rintro e w3 ⟨h1, -, hb⟩; have h2 := h1 rfl; obtain ⟨p3, rfl, ht⟩ := h2; have HA3 := zH (ht.mono (G := anyB) fun _ _ => trivial); have HT3 := zH (HT2.out.below hb (zN _)); have HB3 := zH (HB2.out.trans (hb.mono HB2.out.size)); clear h1 ht hb))
        go_loopw [15] (fun i wr => ∃ lv : Nat, 1 <= lv /\ lv <= 4 /\ i = .int .i64 (lv : Nat) /\ Hid (TabAt anyB wr p rootP) /\ Hid (TabAt anyB wr p3 L1) /\ Hid (Below w.heap.size w wr)) (fun i _ => 4 - (intOf i).toNat)
        case atStart => exact ⟨1, by omega, by omega, rfl, HT3.out, HA3.out, HB3.out⟩
        case round =>
         obtain ⟨lv, hl1, hl4, rfl, HP, HQ, HB⟩ := hrel; clear HT HT2 HT3 HA3 HB0 HB1 HB2 HB3 HV3 HR2
         by_cases hlt : lv < 4
         ·have hltI : (lv : Int) <= 3 := by omega
          have hlv : Lv lv := by unfold Lv; omega
          have hq := HCQ.out lv hlv; obtain ⟨C, hC⟩ : ∃ C, cmpW (nzW lv (elsP rootP (T2.sgs a.data.toList))) (nzW lv (elsP rootP (T2.sgs b.data.toList))) = C := ⟨_, rfl⟩; have CP := zH (fun (w1 : World) (h : TabAt anyB w1 p rootP) => ylt h a b (Nat.le_trans HA60.out.1 (by omega)) (Nat.le_trans HA60.out.2 (by omega)) hlv)
          have CQ := zH (fun (w1 : World) (h : TabAt anyB w1 p3 L1) => ylt h a b (Nat.le_trans HA60.out.1 (by omega)) (Nat.le_trans HA60.out.2 (by omega)) hlv)
          rw [hq] at CQ; rw [hC] at CP CQ
          have tk1 : True := trivial
          clear hlt hlv hq hC; obtain ⟨wo2, rfl⟩ : ∃ wo, wo = wr := ⟨_, rfl⟩
          go_wp2_with (first
           | (go_at_call 10; have _t := tk1; refine (CP.out _ HP.out).mono ?_; rintro e w4 ⟨rfl, hb⟩; have HP4 := zH (HP.out.below hb (zN _)); have HQ4 := zH (HQ.out.below hb (zN _)); have HB4 := zH (HB.out.trans (hb.mono HB.out.size)); clear hb _t tk1)
           | (go_at_call 10; refine (CQ.out _ HQ4.out).mono ?_; rintro e w5 ⟨rfl, hb⟩; have HP5 := zH (HP4.out.below hb (zN _)); have HQ5 := zH (HQ4.out.below hb (zN _)); have HB5 := zH (HB4.out.trans (hb.mono HB4.out.size)); clear hb))
          go_roundw
          case rel => exact ⟨lv + 1, by omega, by omega, by go_num, HP5.out, HQ5.out, HB5.out⟩
          case measure => simp [intOf] <;> omega
         ·have hltI : ¬ (lv : Int) <= 3 := by omega
          clear hlt
          go_wp2_with (go_at_call 12; refine (HAW.out _).mono ?_; rintro e w4 ⟨rfl, hb⟩; have HB4 := zH (HB.out.trans (hb.mono HB.out.size)); clear hb)
          go_ret
          exact ⟨rfl, HB4.out⟩
       ·have HE0 := zH hE0
        have hen : (E != 0) = true := by simpa using hE0
        clear hE0 HKP
        go_wp2_with (first
         | (go_at_call 13; refine (yfc _).mono ?_; rintro e w1 ⟨p, rfl, ht, hb⟩; have HT := zH (ht.mono (G := anyB) fun _ _ => trivial); have HB1 := zH (HB0.out.trans (hb.mono HB0.out.size)); have HV3 := zH (S6.RdRs.below HV2.out hb (zN _)); clear ht hb)
         | (go_at_call 15; refine (CO1.out _ _ HV3.out).mono ?_; rintro e w2 ⟨⟨v2, rfl, hr⟩, hb⟩; have HR2 := zH hr; have HT2 := zH (HT.out.below hb (zN _)); have HB2 := zH (HB1.out.trans (hb.mono HB1.out.size)); clear hr hb)
         | (go_at_call 14; refine (CA1.out _ _ _ _ HT2.out HR2.out).mono ?_; rintro e w3 ⟨-, h1, hb⟩; have h2 := h1 HE0.out; subst h2; have HB3 := zH (HB2.out.trans (hb.mono HB2.out.size)); clear h1 hb)
         | (go_at_call 12; refine (HAW.out _).mono ?_; rintro e w4 ⟨rfl, hb⟩; have HB4 := zH (HB3.out.trans (hb.mono HB3.out.size)); clear hb))
        go_ret
        exact ⟨rfl, HB4.out⟩
end Go.Proofs.YtichfdjjbafeiaaGreat
