/-
  PACKED for a claim.
-/
import Derived.Test.YtichfdjjbafeiaaGreatF52
import Derived.Test.YtichfdjjbafeiaaGreatF53
set_option linter.unusedVariables false
set_option linter.unusedSimpArgs false
set_option maxRecDepth 100000
namespace Go.Proofs.YtichfdjjbafeiaaGreat
open Go.RowKit
theorem yky (w : World) (x : Int) (T : TypeId) : RdI anyB (w.alloc (.cells #[.int .i64 x] T)) (.slice (some ⟨w.heap.size, 0, none⟩) 1 1) [x] := RdF.new (n := 1) w (iv [x]) T (zN 1)
theorem ymh (w : World) {r1 r2 x y : Int} {g1 g2 : Nat} (h1 : RdI anyB w (.slice (some ⟨g1, 0, none⟩) 1 1) [x]) (h2 : RdI anyB w (.slice (some ⟨g2, 0, none⟩) 1 1) [y]) (T : TypeId) :
  S6.RdRs (w.alloc (.cells #[.int .i64 r1, .slice (some ⟨g1, 0, none⟩) 1 1, .slice none 0 0, .int .i64 r2, .slice (some ⟨g2, 0, none⟩) 1 1, .slice none 0 0] T)) (.slice (some ⟨w.heap.size, 0, none⟩) 2 2) [⟨r1, [x], []⟩, ⟨r2, [y], []⟩] := by
 refine ⟨[⟨r1, .slice (some ⟨g1, 0, none⟩) 1 1, .slice none 0 0, [x], []⟩, ⟨r2, .slice (some ⟨g2, 0, none⟩) 1 1, .slice none 0 0, [y], []⟩], rfl, RdF.new (n := 2) w (S6.rcells [⟨r1, .slice (some ⟨g1, 0, none⟩) 1 1, .slice none 0 0, [x], []⟩, ⟨r2, .slice (some ⟨g2, 0, none⟩) 1 1, .slice none 0 0, [y], []⟩]) T (zN 2), fun m hm => ?_⟩
 have hb := yab w (.cells #[.int .i64 r1, .slice (some ⟨g1, 0, none⟩) 1 1, .slice none 0 0, .int .i64 r2, .slice (some ⟨g2, 0, none⟩) 1 1, .slice none 0 0] T); simp only [List.mem_cons, List.not_mem_nil, or_false] at hm
 rcases hm with rfl | rfl
 ·exact ⟨h1.below hb (zN _), RdF.nil _ _⟩
 ·exact ⟨h2.below hb (zN _), RdF.nil _ _⟩
theorem yun (r1 r2 x y : Int) : S6.RVs [⟨r1, [x], []⟩, ⟨r2, [y], []⟩] := ⟨by simp, fun x hx => by
 simp only [List.mem_cons, List.not_mem_nil, or_false] at hx
 rcases hx with rfl | rfl <;> simp⟩
theorem two_ru {r1 r2 x y : Int} (hx : -9223372036854775808 <= x /\ x <= 9223372036854775807) (hy : -9223372036854775808 <= y /\ y <= 9223372036854775807) : ∀ r ∈ [(⟨r1, [x], []⟩ : S6.RV), ⟨r2, [y], []⟩], RuOk r := by
 intro r hr; simp only [List.mem_cons, List.not_mem_nil, or_false] at hr
 have hn : I64 [] := fun z hz => by cases hz
 rcases hr with rfl | rfl
 ·exact ⟨fun z hz => by simp only [List.mem_cons, List.not_mem_nil, or_false] at hz; subst hz; exact hx, hn, by simp, by simp⟩
 ·exact ⟨fun z hz => by simp only [List.mem_cons, List.not_mem_nil, or_false] at hz; subst hz; exact hy, hn, by simp, by simp⟩
theorem yrd {F : Nat -> Prop} {w : World} {A : Option Addr} {n c : Nat} {L : List PE} (h : RdT F w (.slice A n c) L) : n <= c := by
 obtain ⟨M, -, h1, -⟩ := h; obtain ⟨A', c', e, h2, -⟩ := h1
 cases e
 exact h2
theorem and16 (n : Int) : bits .and .i64 n 65535 = n % 65536 := T2.yea 16 (by omega) n
theorem yto {i f : Nat} {L : List PE} (h : flB i (f + 1) L = true) : (appE L flR = 60 ↔ top3 L = 127) /\ (appE L flR = 0 \/ appE L flR = 60) /\ (appE L flR = 0 -> flB (i + 1) f (appL L flR) = true) /\ (appE L flR = 60 -> 100 < i) := by
 unfold flB at h; rw [Bool.and_eq_true, Bool.and_eq_true] at h; obtain ⟨⟨h1, h2⟩, h3⟩ := h; refine ⟨?_, ?_, fun e => ?_, fun e => ?_⟩
 ·exact decide_eq_decide.1 (beq_iff_eq.1 h1)
 ·rcases Bool.or_eq_true _ _ ▸ h2 with h | h
  ·exact .inl (of_decide_eq_true h)
  ·exact .inr (of_decide_eq_true h)
 ·rw [if_pos e] at h3; exact h3
 ·rw [if_neg (by rw [e]; decide)] at h3; exact of_decide_eq_true h3
def tpL (m : Nat) (l : List Nat) : Nat := l.foldl (fun m x => Nat.max m (wgt 3 x)) m
theorem yif {L : List PE} {k : Nat} {e : PE} (h : L[k]? = some e) : top3 (L.take (k + 1)) = tpL (top3 (L.take k)) e.2 := by
 unfold top3; rw [List.take_add_one, h, List.foldl_append]; rfl
theorem yko {l : List Nat} {m k x : Nat} (h : l[k]? = some x) : tpL m (l.take (k + 1)) = Nat.max (tpL m (l.take k)) (wgt 3 x) := by
 unfold tpL; rw [List.take_add_one, h, List.foldl_append]; rfl
theorem ywb (w : World) : S6.RdRs (((w.alloc (.cells #[.int .i64 97] 3)).alloc (.cells #[.int .i64 49] 3)).alloc (.cells #[.int .i64 1, .slice (some ⟨w.heap.size, 0, none⟩) 1 1, .slice none 0 0, .int .i64 4, .slice (some ⟨w.heap.size + 1, 0, none⟩) 1 1, .slice none 0 0] 39)) (.slice (some ⟨w.heap.size + 1 + 1, 0, none⟩) 2 2) flR := by
 have h1 := yky w 97 3; have h2 := yky (w.alloc (.cells #[.int .i64 97] 3)) 49 3
 have e1 : (w.alloc (.cells #[.int .i64 97] 3)).heap.size = w.heap.size + 1 := World.size_alloc ..
 have e2 : ((w.alloc (.cells #[.int .i64 97] 3)).alloc (.cells #[.int .i64 49] 3)).heap.size = w.heap.size + 1 + 1 := by rw [World.size_alloc, e1]
 rw [e1] at h2; have h3 := ymh (r1 := 1) (r2 := 4) ((w.alloc (.cells #[.int .i64 97] 3)).alloc (.cells #[.int .i64 49] 3)) (h1.below (yab _ _) (zN _)) h2 39; rw [e2] at h3; exact h3
theorem yex (w : World) (a b c : Obj) : Below w.heap.size w (((w.alloc a).alloc b).alloc c) := by
 have h1 := yab w a; have h2 := yab (w.alloc a) b; have h3 := yab ((w.alloc a).alloc b) c; exact (h1.trans (h2.mono h1.size)).trans (h3.mono (h1.trans (h2.mono h1.size)).size)
set_option maxHeartbeats 16000000 in
theorem yfb (n0 : Int) (w : World) :
  Calls Tryz.prog 4 #[.int .i64 n0] w fun e w' => e = .returned (.bool true) /\ Below w.heap.size w w' := by
 obtain ⟨m16, hm16⟩ : ∃ q : Nat, (q : Int) = n0 % 65536 := ⟨(n0 % 65536).toNat, by omega⟩
 have hand := and16 n0; rw [<- hm16] at hand; obtain ⟨n, hn⟩ : ∃ k, m16 % 200 = k := ⟨_, rfl⟩
 have hn200 : n < 200 := by omega
 have hrem : (m16 : Int).tmod 200 = (n : Int) := by rw [Int.tmod_eq_emod_of_nonneg (by omega)]; omega
 have HAW := zH ynm; have CO := zH (fun (w1 : World) (v : Value) (h : S6.RdRs w1 v flR) => S6.of_any h (yun 1 4 97 49))
 have HFM := zH ywb; clear hn hm16
 go_enter Tryz.func4, Tryz.ntmps4
 go_wp2_with (go_at_call 13; refine (yhj _).mono ?_; rintro e w1 ⟨p, rfl, ht, hb⟩; have HT1 := zH (ht.mono (G := anyB) fun _ _ => trivial); have HB1 := zH hb; clear ht hb)
 go_loopw [3, 4] (fun tv i wr => ∃ (k : Nat) (L : List PE) (q : Nat), k <= n /\ tv = .pointer (some ⟨q, 0, none⟩) /\ i = .int .i64 (k : Nat) /\ Hid (TabAt anyB wr q L) /\ Hid (flB k (200 - k) L = true) /\ Hid (Below w.heap.size w wr)) (fun _ i _ => n - (intOf i).toNat)
 case atStart => exact ⟨0, rootP, p, Nat.zero_le _, rfl, rfl, HT1.out, fl_row, HB1.out⟩
 case round =>
  obtain ⟨k, L, q, hk, rfl, rfl, HT, HF, HB⟩ := hrel; obtain ⟨wo, rfl⟩ : ∃ wo, wo = wr := ⟨_, rfl⟩
  by_cases hlt : k < n
  ·have hltI : (k : Int) < (n : Int) := by omega
   have hf := HF.out; obtain ⟨f, hff⟩ : ∃ f, 200 - k = f + 1 := ⟨199 - k, by omega⟩
   rw [hff] at hf; obtain ⟨e1, e2, e3, e4⟩ := yto hf; obtain ⟨E, hE⟩ : ∃ E, appE L flR = E := ⟨_, rfl⟩; obtain ⟨L', hL'⟩ : ∃ L', appL L flR = L' := ⟨_, rfl⟩; have CA := zH (fun (w1 : World) (p : Nat) (F : Nat -> Prop) (rv : Value) (ht : TabAt F w1 p L) (hr : S6.RdRs w1 rv flR) => yjg ht hr (by decide) (two_ru (by decide) (by decide)) hE hL')
   rw [hE, hL'] at e3; rw [hE] at e1 e2 e4; obtain ⟨T, hT⟩ : ∃ T, top3 L = T := ⟨_, rfl⟩; rw [hT] at e1; have HE1 := zH e1; have HE3 := zH e3; have HE4 := zH e4; have HTT := zH hT
   have hf2 : f = 200 - (k + 1) := by omega
   have HF2 := zH hf2; have hGd := HT.out.good; have HEL := zH (fun (e : PE) (he : e ∈ L) => (hGd.els e he))
   obtain ⟨N, hN⟩ : ∃ N, L.length = N := ⟨_, rfl⟩; have HN := zH hN
   have hN5 : N <= 500 := by rw [<- hN]; exact hGd.len
   clear hf e1 e3 e4 hE hL' hT hff hf2 hGd hN hlt
   rcases e2 with rfl | rfl
   ·have HF3 := zH (HE3.out rfl)
    have ht7 : ¬ T = 127 := fun h => absurd (HE1.out.2 h) (by decide)
    have ht7I : ((T : Int) == 127) = false := by rw [beq_eq_false_iff_ne]; omega
    clear HE1 HE3 HE4 ht7
    go_wp2_with (first
     | (go_at_call 15; refine (CO.out _ _ (HFM.out _)).mono ?_; rintro e w2 ⟨⟨v2, rfl, hr⟩, hb⟩; have hb2 := (yex wo _ _ _).trans (hb.mono (yex wo _ _ _).size); have HR2 := zH hr; have HT2 := zH (HT.out.below hb2 (zN _)); have HB2 := zH (HB.out.trans (hb2.mono HB.out.size)); clear hr hb hb2)
     | (go_at_call 14; refine (CA.out _ _ _ _ HT2.out HR2.out).mono ?_; rintro e w3 ⟨h1, -, hb⟩; have h2 := h1 rfl; obtain ⟨p3, rfl, ht⟩ := h2; have HA3 := zH (ht.mono (G := anyB) fun _ _ => trivial); have HT3 := zH (HT2.out.below hb (zN _)); have HB3 := zH (HB2.out.trans (hb.mono HB2.out.size)); clear h1 ht hb)
     | (go_at_call 16; refine (ydg HT3.out).mono ?_; rintro r w4 ⟨⟨A, c, rfl, hrd⟩, hb⟩; rw [HN.out] at hrd |-; have HE := zH hrd; have HA4 := zH (HA3.out.below hb (zN _)); have HB4 := zH (HB3.out.trans (hb.mono HB3.out.size)); clear hrd hb))
    have hcN : N <= c := yrd HE.out
    go_loopw [7, 9] (fun tp i wr => ∃ (j m : Nat), j <= N /\ tp = .int .i64 (m : Nat) /\ i = .int .i64 (j : Nat) /\ Hid (top3 (L.take j) = m) /\ wr = w4) (fun _ i _ => N - (intOf i).toNat)
    case atStart => exact ⟨0, 0, Nat.zero_le _, rfl, rfl, rfl, rfl⟩
    case round =>
     obtain ⟨j, m, hj, rfl, rfl, HM, hwr⟩ := hrel
     replace hwr := hwr.symm
     subst hwr
     by_cases hlt : j < N
     ·have hltI : (j : Int) < (N : Int) := by omega
      have hjc : (j : Int) < (c : Int) := by omega
      obtain ⟨en, hen⟩ : ∃ x, L[j]? = some x := ⟨_, List.getElem?_eq_getElem (by rw [HN.out]; exact hlt)⟩
      obtain ⟨g, o, vs, vl, rfl, c0, c1, r1, r2⟩ := HE.out.at hen; obtain ⟨Al, cl, rfl⟩ := r2.form; obtain ⟨nl, hnl⟩ : ∃ z, en.2.length = z := ⟨_, rfl⟩; have hlcap := (RdF.cap r2).1; have hnl8 := (HEL.out en (List.mem_of_getElem? hen)).1; rw [hnl] at c1 r2 hlcap hnl8; have HR2e := zH r2; have HNL := zH hnl; have HTK := zH (yif hen); have HEM := zH (HEL.out en (List.mem_of_getElem? hen)).2; clear c0 r1 r2 hnl hen hlt
      go_wp2
      go_loopw [7, 10] (fun tp i wr => ∃ (u x : Nat), u <= nl /\ tp = .int .i64 (x : Nat) /\ i = .int .i64 (u : Nat) /\ Hid (tpL m (en.2.take u) = x) /\ wr = w4) (fun _ i _ => nl - (intOf i).toNat)
      case atStart => exact ⟨0, m, Nat.zero_le _, rfl, rfl, rfl, rfl⟩
      case round =>
       obtain ⟨u, x, hu, rfl, rfl, HX, hwr⟩ := hrel
       replace hwr := hwr.symm
       subst hwr
       by_cases hlt : u < nl
       ·have hltI2 : (u : Int) < (nl : Int) := by omega
        have huc : (u : Int) < (cl : Int) := by omega
        obtain ⟨y, hy⟩ : ∃ y, en.2[u]? = some y := ⟨_, List.getElem?_eq_getElem (by rw [HNL.out]; exact hlt)⟩
        obtain ⟨g2, o2, rfl, c2⟩ := HR2e.out.at hy; obtain ⟨z, hz⟩ : ∃ z, wgt 3 y = z := ⟨_, rfl⟩; have CW := zH (fun w => ybc (.inr (.inr rfl)) hz (HEM.out y (List.mem_of_getElem? hy)) w)
        have hst := yko (m := m) hy; rw [HX.out, hz] at hst; have HST := zH hst; clear hst hy hz hlt
        by_cases hgt : x < z
        ·have hgtI : (x : Int) < (z : Int) := by omega
         have HMX : Hid (Nat.max x z = z) := Nat.max_eq_right (by omega)
         go_wp2_with (go_at_call 17; refine (CW.out _).mono ?_; rintro e w' ⟨rfl, rfl⟩)
         go_roundw
         case rel => exact ⟨u + 1, z, by omega, by go_num, by go_num, by rw [HST.out, HMX.out]; rfl, by first | rfl | trivial⟩
         case measure => simp [intOf] <;> omega
        ·have hgtI : ¬ (x : Int) < (z : Int) := by omega
         have HMX : Hid (Nat.max x z = x) := Nat.max_eq_left (by omega)
         go_wp2_with (go_at_call 17; refine (CW.out _).mono ?_; rintro e w' ⟨rfl, rfl⟩)
         go_roundw
         case rel => exact ⟨u + 1, x, by omega, by go_num, by go_num, by rw [HST.out, HMX.out]; rfl, by first | rfl | trivial⟩
         case measure => simp [intOf] <;> omega
       ·have hltI2 : ¬ (u : Int) < (nl : Int) := by omega
        have hul : en.2.take u = en.2 := List.take_of_length_le (by rw [HNL.out]; omega)
        have hx := HX.out; rw [hul] at hx; have HX2 := zH hx; clear hul hx hlt
        go_wp2
        go_roundw
        case rel => exact ⟨j + 1, x, by omega, by go_num, by go_num, by rw [HTK.out, HM.out]; exact HX2.out, by first | rfl | trivial⟩
        case measure => simp [intOf] <;> omega
     ·have hltI : ¬ (j : Int) < (N : Int) := by omega
      have hjl : L.take j = L := List.take_of_length_le (by rw [HN.out]; omega)
      have hm := HM.out; rw [hjl, HTT.out] at hm; subst hm; clear hjl hlt
      go_wp2
      go_roundw
      case rel => exact ⟨k + 1, L', p3, by omega, rfl, by go_num, HA4.out, by have := HF3.out; rw [HF2.out] at this; exact this, HB4.out⟩
      case measure => simp [intOf] <;> omega
   ·have ht7 : T = 127 := HE1.out.1 rfl
    have ht7I : ((T : Int) == 127) = true := by rw [beq_iff_eq]; omega
    have hk100 : 100 < k := HE4.out rfl
    have hk100I : (100 : Int) < (k : Int) := by omega
    clear HE1 HE3 HE4 ht7 hk100
    go_wp2_with (first
     | (go_at_call 15; refine (CO.out _ _ (HFM.out _)).mono ?_; rintro e w2 ⟨⟨v2, rfl, hr⟩, hb⟩; have hb2 := (yex wo _ _ _).trans (hb.mono (yex wo _ _ _).size); have HR2 := zH hr; have HT2 := zH (HT.out.below hb2 (zN _)); have HB2 := zH (HB.out.trans (hb2.mono HB.out.size)); clear hr hb hb2)
     | (go_at_call 14; refine (CA.out _ _ _ _ HT2.out HR2.out).mono ?_; rintro e w3 ⟨-, h1, hb⟩; have h2 := h1 (by decide); subst h2; have HT3 := zH (HT2.out.below hb (zN _)); have HB3 := zH (HB2.out.trans (hb.mono HB2.out.size)); clear h1 hb)
     | (go_at_call 16; refine (ydg HT3.out).mono ?_; rintro r w4 ⟨⟨A, c, rfl, hrd⟩, hb⟩; rw [HN.out] at hrd |-; have HE := zH hrd; have HB4 := zH (HB3.out.trans (hb.mono HB3.out.size)); clear hrd hb))
    have hcN : N <= c := yrd HE.out
    go_loopw [7, 9] (fun tp i wr => ∃ (j m : Nat), j <= N /\ tp = .int .i64 (m : Nat) /\ i = .int .i64 (j : Nat) /\ Hid (top3 (L.take j) = m) /\ wr = w4) (fun _ i _ => N - (intOf i).toNat)
    case atStart => exact ⟨0, 0, Nat.zero_le _, rfl, rfl, rfl, rfl⟩
    case round =>
     obtain ⟨j, m, hj, rfl, rfl, HM, hwr⟩ := hrel
     replace hwr := hwr.symm
     subst hwr
     by_cases hlt : j < N
     ·have hltI : (j : Int) < (N : Int) := by omega
      have hjc : (j : Int) < (c : Int) := by omega
      obtain ⟨en, hen⟩ : ∃ x, L[j]? = some x := ⟨_, List.getElem?_eq_getElem (by rw [HN.out]; exact hlt)⟩
      obtain ⟨g, o, vs, vl, rfl, c0, c1, r1, r2⟩ := HE.out.at hen; obtain ⟨Al, cl, rfl⟩ := r2.form; obtain ⟨nl, hnl⟩ : ∃ z, en.2.length = z := ⟨_, rfl⟩; have hlcap := (RdF.cap r2).1; have hnl8 := (HEL.out en (List.mem_of_getElem? hen)).1; rw [hnl] at c1 r2 hlcap hnl8; have HR2e := zH r2; have HNL := zH hnl; have HTK := zH (yif hen); have HEM := zH (HEL.out en (List.mem_of_getElem? hen)).2; clear c0 r1 r2 hnl hen hlt
      go_wp2
      go_loopw [7, 10] (fun tp i wr => ∃ (u x : Nat), u <= nl /\ tp = .int .i64 (x : Nat) /\ i = .int .i64 (u : Nat) /\ Hid (tpL m (en.2.take u) = x) /\ wr = w4) (fun _ i _ => nl - (intOf i).toNat)
      case atStart => exact ⟨0, m, Nat.zero_le _, rfl, rfl, rfl, rfl⟩
      case round =>
       obtain ⟨u, x, hu, rfl, rfl, HX, hwr⟩ := hrel
       replace hwr := hwr.symm
       subst hwr
       by_cases hlt : u < nl
       ·have hltI2 : (u : Int) < (nl : Int) := by omega
        have huc : (u : Int) < (cl : Int) := by omega
        obtain ⟨y, hy⟩ : ∃ y, en.2[u]? = some y := ⟨_, List.getElem?_eq_getElem (by rw [HNL.out]; exact hlt)⟩
        obtain ⟨g2, o2, rfl, c2⟩ := HR2e.out.at hy; obtain ⟨z, hz⟩ : ∃ z, wgt 3 y = z := ⟨_, rfl⟩; have CW := zH (fun w => ybc (.inr (.inr rfl)) hz (HEM.out y (List.mem_of_getElem? hy)) w)
        have hst := yko (m := m) hy; rw [HX.out, hz] at hst; have HST := zH hst; clear hst hy hz hlt
        by_cases hgt : x < z
        ·have hgtI : (x : Int) < (z : Int) := by omega
         have HMX : Hid (Nat.max x z = z) := Nat.max_eq_right (by omega)
         go_wp2_with (go_at_call 17; refine (CW.out _).mono ?_; rintro e w' ⟨rfl, rfl⟩)
         go_roundw
         case rel => exact ⟨u + 1, z, by omega, by go_num, by go_num, by rw [HST.out, HMX.out]; rfl, by first | rfl | trivial⟩
         case measure => simp [intOf] <;> omega
        ·have hgtI : ¬ (x : Int) < (z : Int) := by omega
         have HMX : Hid (Nat.max x z = x) := Nat.max_eq_left (by omega)
         go_wp2_with (go_at_call 17; refine (CW.out _).mono ?_; rintro e w' ⟨rfl, rfl⟩)
         go_roundw
         case rel => exact ⟨u + 1, x, by omega, by go_num, by go_num, by rw [HST.out, HMX.out]; rfl, by first | rfl | trivial⟩
         case measure => simp [intOf] <;> omega
       ·have hltI2 : ¬ (u : Int) < (nl : Int) := by omega
        have hul : en.2.take u = en.2 := List.take_of_length_le (by rw [HNL.out]; omega)
        have hx := HX.out; rw [hul] at hx; have HX2 := zH hx; clear hul hx hlt
        go_wp2
        go_roundw
        case rel => exact ⟨j + 1, x, by omega, by go_num, by go_num, by rw [HTK.out, HM.out]; exact HX2.out, by first | rfl | trivial⟩
        case measure => simp [intOf] <;> omega
     ·have hltI : ¬ (j : Int) < (N : Int) := by omega
      have hjl : L.take j = L := List.take_of_length_le (by rw [HN.out]; omega)
      have hm := HM.out; rw [hjl, HTT.out] at hm; subst hm; clear hjl hlt
      go_wp2_with (go_at_call 12; refine (HAW.out _).mono ?_; rintro e w5 ⟨rfl, hb⟩; have HB5 := zH (HB4.out.trans (hb.mono HB4.out.size)); clear hb)
      go_ret
      exact ⟨rfl, HB5.out⟩
  ·have hltI : ¬ (k : Int) < (n : Int) := by omega
   clear hlt
   go_wp2_with (go_at_call 12; refine (HAW.out _).mono ?_; rintro e w2 ⟨rfl, hb⟩; have HB2 := zH (HB.out.trans (hb.mono HB.out.size)); clear hb)
   go_ret
   exact ⟨rfl, HB2.out⟩
end Go.Proofs.YtichfdjjbafeiaaGreat
