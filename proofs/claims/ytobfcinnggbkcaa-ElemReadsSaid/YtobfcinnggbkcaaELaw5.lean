/-
  THE WALK of the law ElemReads.
-/
import Derived.Test.YtobfcinnggbkcaaELaw3
import Derived.RegionTactic
import Derived.BigRegion
namespace Go.Proofs.Ytobfcinnggbkcaa
open Go.RowKit
set_option linter.unusedVariables false
set_option linter.unusedSimpArgs false
theorem conv_1 (w : World) (n : Nat) (hn : n < 256) : (convert 39 9 (.slice (some ⟨w.heap.size, 0, none⟩) 1 1)).run Try.prog (w.alloc (.cells #[.int .u8 (n : Int)] 5)) = .ok (.string ⟨#[UInt8.ofNat n]⟩) (w.alloc (.cells #[.int .u8 (n : Int)] 5)) := by
  have h := OwnB.one w w.heap.size (Nat.le_refl _) (UInt8.ofNat n)
  have e : (UInt8.ofNat n).toNat = n := by rw [UInt8.toNat_ofNat']; omega
  rw [e] at h
  exact str_of h.rd
theorem conv_1d (w : World) (n : Nat) (hn : n < 256) : (convert 39 9 (.slice (some ⟨w.heap.size, 0, none⟩) 1 1)).run Try.prog (w.alloc (.cells #[.int .u8 (n : Int)] 5)).drew = .ok (.string ⟨#[UInt8.ofNat n]⟩) (w.alloc (.cells #[.int .u8 (n : Int)] 5)).drew :=
  conv_1 w.drew n hn
theorem conv_2d (w : World) (n : Nat) (hn : n < 256) : (convert 39 9 (.slice (some ⟨w.heap.size + 1, 0, none⟩) 1 1)).run Try.prog ((w.alloc (.cells #[.int .u8 (n : Int)] 5)).alloc (.cells #[.int .u8 (n : Int)] 5)).drew.drew = .ok (.string ⟨#[UInt8.ofNat n]⟩) ((w.alloc (.cells #[.int .u8 (n : Int)] 5)).alloc (.cells #[.int .u8 (n : Int)] 5)).drew.drew := by
  have h := conv_1 (w.alloc (.cells #[.int .u8 (n : Int)] 5)).drew.drew n hn
  have e : (w.alloc (.cells #[.int .u8 (n : Int)] 5)).drew.drew.heap.size = w.heap.size + 1 := World.size_alloc ..
  rw [e] at h
  exact h
theorem tm_bd {i L : Int} (hL : 0 < L) (hL' : L ≤ 13) : 0 ≤ (wrap64 (i.tmod L + L)).tmod L ∧ (wrap64 (i.tmod L + L)).tmod L < L := by
  have h1 : -L < i.tmod L ∧ i.tmod L < L := by
    have h2 := Int.natAbs_tmod i L
    have h3 : i.natAbs % L.natAbs < L.natAbs := Nat.mod_lt _ (by omega)
    omega
  have h2 : wrap64 (i.tmod L + L) = i.tmod L + L := IntWalk.wrap64_in _ (by omega)
  rw [h2, Int.tmod_eq_emod_of_nonneg (by omega)]
  exact ⟨Int.emod_nonneg _ (by omega), Int.emod_lt_of_pos _ hL⟩
theorem str_ne {s t : ByteArray} (h : s ≠ t) : (s.toList == t.toList) = false := by
  rw [beq_eq_false_iff_ne]
  intro h'
  apply h
  apply ByteArray.ext
  apply Array.toList_inj.1
  have := congrArg List.toArray h'
  simpa [ByteArray.toList_eq] using h'
set_option maxHeartbeats 1000000 in
set_option maxRecDepth 200000 in
theorem reads_0n (n k b : Nat) (i h : Int) (T S : ByteArray) (z : Int) (hz : bits .and .i64 h 3 = z) (hz1 : (z == 1) = false) (hz2 : (z == 2) = false) (w : World) (hn : n < 4294967296) (hT1 : Hid ((⟨(etext n).toArray⟩ : ByteArray) = T)) (hk : (wrap64 (i.tmod ↑T.size + ↑T.size)).tmod ↑T.size = ↑k) (hkN1 : k + 1 ≤ T.size) (hb : b < 256)
    (hS : T.extract 0 k ++ ⟨#[UInt8.ofNat b]⟩ ++ T.extract (k + 1) T.size = S) (hTs : T.size ≤ 13) (hTs2 : 12 ≤ T.size) (hSs : S.size ≤ 100) (hR : Hid (prs S.data.toList = none)) :
    Calls Try.prog 6 #[.int .u32 n, .int .i64 i, .int .u8 b, .int .i64 h] w fun e w' => e = .returned (.bool true) ∧ Below w.heap.size w w' := by
  obtain ⟨p, s, t, v, g1, g2, g3, g4, hp, hs, ht, hT2⟩ := parts_of hn
  have G1 := Lib.hid g1
  have G2 := Lib.hid g2
  have G3 := Lib.hid g3
  have G4 := Lib.hid g4
  have hT : Hid ((⟨(91 :: ((if v then [42] else []) ++ body p s t)).toArray⟩ : ByteArray) = T) := by have := hT1.out; rw [hT2] at this; exact this
  have k1 := fun w => conv_1d w b hb
  have k0 := fun w => conv_2d w b hb
  have hkN : k ≤ T.size := by omega
  have hkl : (k : Int) < (T.size : Int) := by omega
  have hkI1 : (k : Int) + 1 ≤ (T.size : Int) := by omega
  have hSs' : S.size ≤ 1000000 := by omega
  have hne : (S.toList == T.toList) = false := by
    apply str_ne
    intro e
    have h1 := hR.out
    rw [e, ← hT1.out] at h1
    have h2 := prs_text hn
    rw [show (⟨(etext n).toArray⟩ : ByteArray).data.toList = etext n by simp, h2] at h1
    cases h1
  clear g1 g2 g3 g4 hT1 hT2
  go_enter Try.func6, Try.ntmps6
  go_wp2_with (first
    | (go_at_call 16; refine (rof_any n p s t v hn G1 G2 G3 G4 _).mono ?_; rintro e w1 ⟨rfl, hb1⟩)
    | (go_at_call 15; refine (rtext_is hT hp hs ht _).mono ?_; rintro e w2 ⟨rfl, hb2⟩))
  go_region
  go_wp2_with (first
    | (go_at_call 17; refine (parse_no hR.out hSs' _).mono ?_; rintro e w3 ⟨rfl, hb3⟩)
    | (go_at_call 8; refine (awake_any _).mono ?_; rintro e w6 ⟨rfl, hb6⟩))
  go_ret
  have HA : Below w.heap.size w w2 := below_kept hb1 (Nat.le_refl _) hb2
  exact ⟨rfl, below_kept (below_kept ((HA.alloc HA.size _).drew) (Nat.le_refl _) hb3) (Nat.le_refl _) hb6⟩
set_option maxHeartbeats 1000000 in
set_option maxRecDepth 200000 in
theorem reads_0y (n k b : Nat) (i h : Int) (T S : ByteArray) (z : Int) (hz : bits .and .i64 h 3 = z) (hz1 : (z == 1) = false) (hz2 : (z == 2) = false) (w : World) (hn : n < 4294967296) (hT1 : Hid ((⟨(etext n).toArray⟩ : ByteArray) = T)) (hk : (wrap64 (i.tmod ↑T.size + ↑T.size)).tmod ↑T.size = ↑k) (hkN1 : k + 1 ≤ T.size) (hb : b < 256)
    (hS : T.extract 0 k ++ ⟨#[UInt8.ofNat b]⟩ ++ T.extract (k + 1) T.size = S) (hTs : T.size ≤ 13) (hTs2 : 12 ≤ T.size) (hSs : S.size ≤ 100) (m : Nat) (hR : Hid (prs S.data.toList = some m)) :
    Calls Try.prog 6 #[.int .u32 n, .int .i64 i, .int .u8 b, .int .i64 h] w fun e w' => e = .returned (.bool true) ∧ Below w.heap.size w w' := by
  obtain ⟨p, s, t, v, g1, g2, g3, g4, hp, hs, ht, hT2⟩ := parts_of hn
  have G1 := Lib.hid g1
  have G2 := Lib.hid g2
  have G3 := Lib.hid g3
  have G4 := Lib.hid g4
  have hT : Hid ((⟨(91 :: ((if v then [42] else []) ++ body p s t)).toArray⟩ : ByteArray) = T) := by have := hT1.out; rw [hT2] at this; exact this
  have k1 := fun w => conv_1d w b hb
  have k0 := fun w => conv_2d w b hb
  have hkN : k ≤ T.size := by omega
  have hkl : (k : Int) < (T.size : Int) := by omega
  have hkI1 : (k : Int) + 1 ≤ (T.size : Int) := by omega
  have hSs' : S.size ≤ 1000000 := by omega
  obtain ⟨hm, hSe⟩ := prs_some hR.out
  obtain ⟨p', s', t', v', r1, r2, r3, r4, hp', hs', ht', hR2⟩ := parts_of hm
  have R1 := Lib.hid r1
  have R2 := Lib.hid r2
  have R3 := Lib.hid r3
  have R4 := Lib.hid r4
  have hRT : Hid ((⟨(91 :: ((if v' then [42] else []) ++ body p' s' t')).toArray⟩ : ByteArray) = S) := by
    show _ = _
    rw [← hR2, hSe]
  clear r1 r2 r3 r4 hSe hR2
  clear g1 g2 g3 g4 hT1 hT2
  go_enter Try.func6, Try.ntmps6
  go_wp2_with (first
    | (go_at_call 16; refine (rof_any n p s t v hn G1 G2 G3 G4 _).mono ?_; rintro e w1 ⟨rfl, hb1⟩)
    | (go_at_call 15; refine (rtext_is hT hp hs ht _).mono ?_; rintro e w2 ⟨rfl, hb2⟩))
  go_region
  go_wp2_with (first
    | (go_at_call 17; refine (parse_yes hR.out hSs' _).mono ?_; rintro e w3 ⟨rfl, hb3⟩)
    | (go_at_call 16; refine (rof_any m p' s' t' v' hm R1 R2 R3 R4 _).mono ?_; rintro e w4 ⟨rfl, hb4⟩)
    | (go_at_call 15; refine (rtext_is hRT hp' hs' ht' _).mono ?_; rintro e w5 ⟨rfl, hb5⟩)
    | (go_at_call 8; refine (awake_any _).mono ?_; rintro e w6 ⟨rfl, hb6⟩))
  go_ret
  have HA : Below w.heap.size w w2 := below_kept hb1 (Nat.le_refl _) hb2
  exact ⟨rfl, below_kept (below_kept (below_kept (below_kept ((HA.alloc HA.size _).drew) (Nat.le_refl _) hb3) (Nat.le_refl _) hb4) (Nat.le_refl _) hb5) (Nat.le_refl _) hb6⟩
set_option maxHeartbeats 1000000 in
set_option maxRecDepth 200000 in
theorem reads_1n (n k b : Nat) (i h : Int) (T S : ByteArray) (hz : bits .and .i64 h 3 = 1) (w : World) (hn : n < 4294967296) (hT1 : Hid ((⟨(etext n).toArray⟩ : ByteArray) = T)) (hk : (wrap64 (i.tmod ↑T.size + ↑T.size)).tmod ↑T.size = ↑k) (hkN1 : k + 1 ≤ T.size) (hb : b < 256)
    (hS : T.extract 0 k ++ T.extract (k + 1) T.size = S) (hTs : T.size ≤ 13) (hTs2 : 12 ≤ T.size) (hSs : S.size ≤ 100) (hR : Hid (prs S.data.toList = none)) :
    Calls Try.prog 6 #[.int .u32 n, .int .i64 i, .int .u8 b, .int .i64 h] w fun e w' => e = .returned (.bool true) ∧ Below w.heap.size w w' := by
  obtain ⟨p, s, t, v, g1, g2, g3, g4, hp, hs, ht, hT2⟩ := parts_of hn
  have G1 := Lib.hid g1
  have G2 := Lib.hid g2
  have G3 := Lib.hid g3
  have G4 := Lib.hid g4
  have hT : Hid ((⟨(91 :: ((if v then [42] else []) ++ body p s t)).toArray⟩ : ByteArray) = T) := by have := hT1.out; rw [hT2] at this; exact this
  have k1 := fun w => conv_1d w b hb
  have k0 := fun w => conv_2d w b hb
  have hkN : k ≤ T.size := by omega
  have hkl : (k : Int) < (T.size : Int) := by omega
  have hkI1 : (k : Int) + 1 ≤ (T.size : Int) := by omega
  have hSs' : S.size ≤ 1000000 := by omega
  have hne : (S.toList == T.toList) = false := by
    apply str_ne
    intro e
    have h1 := hR.out
    rw [e, ← hT1.out] at h1
    have h2 := prs_text hn
    rw [show (⟨(etext n).toArray⟩ : ByteArray).data.toList = etext n by simp, h2] at h1
    cases h1
  clear g1 g2 g3 g4 hT1 hT2
  go_enter Try.func6, Try.ntmps6
  go_wp2_with (first
    | (go_at_call 16; refine (rof_any n p s t v hn G1 G2 G3 G4 _).mono ?_; rintro e w1 ⟨rfl, hb1⟩)
    | (go_at_call 15; refine (rtext_is hT hp hs ht _).mono ?_; rintro e w2 ⟨rfl, hb2⟩))
  go_region
  go_wp2
  go_region
  go_wp2_with (first
    | (go_at_call 17; refine (parse_no hR.out hSs' _).mono ?_; rintro e w3 ⟨rfl, hb3⟩)
    | (go_at_call 8; refine (awake_any _).mono ?_; rintro e w6 ⟨rfl, hb6⟩))
  go_ret
  have HA : Below w.heap.size w w2 := below_kept hb1 (Nat.le_refl _) hb2
  exact ⟨rfl, below_kept (below_kept (((HA.alloc HA.size _).drew).drew) (Nat.le_refl _) hb3) (Nat.le_refl _) hb6⟩
set_option maxHeartbeats 1000000 in
set_option maxRecDepth 200000 in
theorem reads_1y (n k b : Nat) (i h : Int) (T S : ByteArray) (hz : bits .and .i64 h 3 = 1) (w : World) (hn : n < 4294967296) (hT1 : Hid ((⟨(etext n).toArray⟩ : ByteArray) = T)) (hk : (wrap64 (i.tmod ↑T.size + ↑T.size)).tmod ↑T.size = ↑k) (hkN1 : k + 1 ≤ T.size) (hb : b < 256)
    (hS : T.extract 0 k ++ T.extract (k + 1) T.size = S) (hTs : T.size ≤ 13) (hTs2 : 12 ≤ T.size) (hSs : S.size ≤ 100) (m : Nat) (hR : Hid (prs S.data.toList = some m)) :
    Calls Try.prog 6 #[.int .u32 n, .int .i64 i, .int .u8 b, .int .i64 h] w fun e w' => e = .returned (.bool true) ∧ Below w.heap.size w w' := by
  obtain ⟨p, s, t, v, g1, g2, g3, g4, hp, hs, ht, hT2⟩ := parts_of hn
  have G1 := Lib.hid g1
  have G2 := Lib.hid g2
  have G3 := Lib.hid g3
  have G4 := Lib.hid g4
  have hT : Hid ((⟨(91 :: ((if v then [42] else []) ++ body p s t)).toArray⟩ : ByteArray) = T) := by have := hT1.out; rw [hT2] at this; exact this
  have k1 := fun w => conv_1d w b hb
  have k0 := fun w => conv_2d w b hb
  have hkN : k ≤ T.size := by omega
  have hkl : (k : Int) < (T.size : Int) := by omega
  have hkI1 : (k : Int) + 1 ≤ (T.size : Int) := by omega
  have hSs' : S.size ≤ 1000000 := by omega
  obtain ⟨hm, hSe⟩ := prs_some hR.out
  obtain ⟨p', s', t', v', r1, r2, r3, r4, hp', hs', ht', hR2⟩ := parts_of hm
  have R1 := Lib.hid r1
  have R2 := Lib.hid r2
  have R3 := Lib.hid r3
  have R4 := Lib.hid r4
  have hRT : Hid ((⟨(91 :: ((if v' then [42] else []) ++ body p' s' t')).toArray⟩ : ByteArray) = S) := by
    show _ = _
    rw [← hR2, hSe]
  clear r1 r2 r3 r4 hSe hR2
  clear g1 g2 g3 g4 hT1 hT2
  go_enter Try.func6, Try.ntmps6
  go_wp2_with (first
    | (go_at_call 16; refine (rof_any n p s t v hn G1 G2 G3 G4 _).mono ?_; rintro e w1 ⟨rfl, hb1⟩)
    | (go_at_call 15; refine (rtext_is hT hp hs ht _).mono ?_; rintro e w2 ⟨rfl, hb2⟩))
  go_region
  go_wp2
  go_region
  go_wp2_with (first
    | (go_at_call 17; refine (parse_yes hR.out hSs' _).mono ?_; rintro e w3 ⟨rfl, hb3⟩)
    | (go_at_call 16; refine (rof_any m p' s' t' v' hm R1 R2 R3 R4 _).mono ?_; rintro e w4 ⟨rfl, hb4⟩)
    | (go_at_call 15; refine (rtext_is hRT hp' hs' ht' _).mono ?_; rintro e w5 ⟨rfl, hb5⟩)
    | (go_at_call 8; refine (awake_any _).mono ?_; rintro e w6 ⟨rfl, hb6⟩))
  go_ret
  have HA : Below w.heap.size w w2 := below_kept hb1 (Nat.le_refl _) hb2
  exact ⟨rfl, below_kept (below_kept (below_kept (below_kept (((HA.alloc HA.size _).drew).drew) (Nat.le_refl _) hb3) (Nat.le_refl _) hb4) (Nat.le_refl _) hb5) (Nat.le_refl _) hb6⟩
set_option maxHeartbeats 1000000 in
set_option maxRecDepth 200000 in
theorem reads_2n (n k b : Nat) (i h : Int) (T S : ByteArray) (hz : bits .and .i64 h 3 = 2) (w : World) (hn : n < 4294967296) (hT1 : Hid ((⟨(etext n).toArray⟩ : ByteArray) = T)) (hk : (wrap64 (i.tmod ↑T.size + ↑T.size)).tmod ↑T.size = ↑k) (hkN1 : k + 1 ≤ T.size) (hb : b < 256)
    (hS : T.extract 0 k ++ ⟨#[UInt8.ofNat b]⟩ ++ T.extract k T.size = S) (hTs : T.size ≤ 13) (hTs2 : 12 ≤ T.size) (hSs : S.size ≤ 100) (hR : Hid (prs S.data.toList = none)) :
    Calls Try.prog 6 #[.int .u32 n, .int .i64 i, .int .u8 b, .int .i64 h] w fun e w' => e = .returned (.bool true) ∧ Below w.heap.size w w' := by
  obtain ⟨p, s, t, v, g1, g2, g3, g4, hp, hs, ht, hT2⟩ := parts_of hn
  have G1 := Lib.hid g1
  have G2 := Lib.hid g2
  have G3 := Lib.hid g3
  have G4 := Lib.hid g4
  have hT : Hid ((⟨(91 :: ((if v then [42] else []) ++ body p s t)).toArray⟩ : ByteArray) = T) := by have := hT1.out; rw [hT2] at this; exact this
  have k1 := fun w => conv_1d w b hb
  have k0 := fun w => conv_2d w b hb
  have hkN : k ≤ T.size := by omega
  have hkl : (k : Int) < (T.size : Int) := by omega
  have hkI1 : (k : Int) + 1 ≤ (T.size : Int) := by omega
  have hSs' : S.size ≤ 1000000 := by omega
  have hne : (S.toList == T.toList) = false := by
    apply str_ne
    intro e
    have h1 := hR.out
    rw [e, ← hT1.out] at h1
    have h2 := prs_text hn
    rw [show (⟨(etext n).toArray⟩ : ByteArray).data.toList = etext n by simp, h2] at h1
    cases h1
  clear g1 g2 g3 g4 hT1 hT2
  go_enter Try.func6, Try.ntmps6
  go_wp2_with (first
    | (go_at_call 16; refine (rof_any n p s t v hn G1 G2 G3 G4 _).mono ?_; rintro e w1 ⟨rfl, hb1⟩)
    | (go_at_call 15; refine (rtext_is hT hp hs ht _).mono ?_; rintro e w2 ⟨rfl, hb2⟩))
  go_region
  go_wp2
  go_region
  go_wp2_with (first
    | (go_at_call 17; refine (parse_no hR.out hSs' _).mono ?_; rintro e w3 ⟨rfl, hb3⟩)
    | (go_at_call 8; refine (awake_any _).mono ?_; rintro e w6 ⟨rfl, hb6⟩))
  go_ret
  have HA : Below w.heap.size w w2 := below_kept hb1 (Nat.le_refl _) hb2
  exact ⟨rfl, below_kept (below_kept ((((HA.alloc HA.size _).alloc (by rw [World.size_alloc]; have := HA.size; omega) _).drew).drew) (Nat.le_refl _) hb3) (Nat.le_refl _) hb6⟩
set_option maxHeartbeats 1000000 in
set_option maxRecDepth 200000 in
theorem reads_2y (n k b : Nat) (i h : Int) (T S : ByteArray) (hz : bits .and .i64 h 3 = 2) (w : World) (hn : n < 4294967296) (hT1 : Hid ((⟨(etext n).toArray⟩ : ByteArray) = T)) (hk : (wrap64 (i.tmod ↑T.size + ↑T.size)).tmod ↑T.size = ↑k) (hkN1 : k + 1 ≤ T.size) (hb : b < 256)
    (hS : T.extract 0 k ++ ⟨#[UInt8.ofNat b]⟩ ++ T.extract k T.size = S) (hTs : T.size ≤ 13) (hTs2 : 12 ≤ T.size) (hSs : S.size ≤ 100) (m : Nat) (hR : Hid (prs S.data.toList = some m)) :
    Calls Try.prog 6 #[.int .u32 n, .int .i64 i, .int .u8 b, .int .i64 h] w fun e w' => e = .returned (.bool true) ∧ Below w.heap.size w w' := by
  obtain ⟨p, s, t, v, g1, g2, g3, g4, hp, hs, ht, hT2⟩ := parts_of hn
  have G1 := Lib.hid g1
  have G2 := Lib.hid g2
  have G3 := Lib.hid g3
  have G4 := Lib.hid g4
  have hT : Hid ((⟨(91 :: ((if v then [42] else []) ++ body p s t)).toArray⟩ : ByteArray) = T) := by have := hT1.out; rw [hT2] at this; exact this
  have k1 := fun w => conv_1d w b hb
  have k0 := fun w => conv_2d w b hb
  have hkN : k ≤ T.size := by omega
  have hkl : (k : Int) < (T.size : Int) := by omega
  have hkI1 : (k : Int) + 1 ≤ (T.size : Int) := by omega
  have hSs' : S.size ≤ 1000000 := by omega
  obtain ⟨hm, hSe⟩ := prs_some hR.out
  obtain ⟨p', s', t', v', r1, r2, r3, r4, hp', hs', ht', hR2⟩ := parts_of hm
  have R1 := Lib.hid r1
  have R2 := Lib.hid r2
  have R3 := Lib.hid r3
  have R4 := Lib.hid r4
  have hRT : Hid ((⟨(91 :: ((if v' then [42] else []) ++ body p' s' t')).toArray⟩ : ByteArray) = S) := by
    show _ = _
    rw [← hR2, hSe]
  clear r1 r2 r3 r4 hSe hR2
  clear g1 g2 g3 g4 hT1 hT2
  go_enter Try.func6, Try.ntmps6
  go_wp2_with (first
    | (go_at_call 16; refine (rof_any n p s t v hn G1 G2 G3 G4 _).mono ?_; rintro e w1 ⟨rfl, hb1⟩)
    | (go_at_call 15; refine (rtext_is hT hp hs ht _).mono ?_; rintro e w2 ⟨rfl, hb2⟩))
  go_region
  go_wp2
  go_region
  go_wp2_with (first
    | (go_at_call 17; refine (parse_yes hR.out hSs' _).mono ?_; rintro e w3 ⟨rfl, hb3⟩)
    | (go_at_call 16; refine (rof_any m p' s' t' v' hm R1 R2 R3 R4 _).mono ?_; rintro e w4 ⟨rfl, hb4⟩)
    | (go_at_call 15; refine (rtext_is hRT hp' hs' ht' _).mono ?_; rintro e w5 ⟨rfl, hb5⟩)
    | (go_at_call 8; refine (awake_any _).mono ?_; rintro e w6 ⟨rfl, hb6⟩))
  go_ret
  have HA : Below w.heap.size w w2 := below_kept hb1 (Nat.le_refl _) hb2
  exact ⟨rfl, below_kept (below_kept (below_kept (below_kept ((((HA.alloc HA.size _).alloc (by rw [World.size_alloc]; have := HA.size; omega) _).drew).drew) (Nat.le_refl _) hb3) (Nat.le_refl _) hb4) (Nat.le_refl _) hb5) (Nat.le_refl _) hb6⟩
theorem ext_size (T : ByteArray) (a b : Nat) (hT : T.size ≤ 13) : (T.extract a b).size ≤ 13 := by
  rw [ByteArray.size_extract]; omega
theorem elemReads_walk (a0 a1 a2 a3 : Int) (w : World) (w0 : 0 ≤ a0 ∧ a0 ≤ 4294967295) (w1 : -9223372036854775808 ≤ a1 ∧ a1 ≤ 9223372036854775807) (w2 : 0 ≤ a2 ∧ a2 ≤ 255) (w3 : -9223372036854775808 ≤ a3 ∧ a3 ≤ 9223372036854775807) :
    Calls Try.prog 6 #[.int .u32 a0, .int .i64 a1, .int .u8 a2, .int .i64 a3] w fun e w' => e = .returned (.bool true) ∧ Below w.heap.size w w' := by
  obtain ⟨n, rfl⟩ := Int.eq_ofNat_of_zero_le w0.1
  obtain ⟨b, rfl⟩ := Int.eq_ofNat_of_zero_le w2.1
  have hn : n < 4294967296 := by omega
  have hb : b < 256 := by omega
  obtain ⟨T, hT0⟩ : ∃ T, (⟨(etext n).toArray⟩ : ByteArray) = T := ⟨_, rfl⟩
  have hTs := etext_size n
  rw [hT0] at hTs
  have hTs2 : 12 ≤ T.size := by rw [← hT0, ba_size, etext_len]; split <;> omega
  have hbd := @tm_bd a1 (T.size : Int) (by omega) (by omega)
  obtain ⟨k, hk⟩ := Int.eq_ofNat_of_zero_le hbd.1
  rw [hk] at hbd
  have hk1 : k + 1 ≤ T.size := by have := hbd.2; omega
  have z0 := ext_size T 0 k hTs
  have z1 := ext_size T (k + 1) T.size hTs
  have z2 := ext_size T k T.size hTs
  have z3 : (⟨#[UInt8.ofNat b]⟩ : ByteArray).size = 1 := rfl
  obtain ⟨z, hz⟩ : ∃ z, bits .and .i64 a3 3 = z := ⟨_, rfl⟩
  by_cases h1 : z = 1
  · subst h1
    obtain ⟨S, hS⟩ : ∃ S, T.extract 0 k ++ T.extract (k + 1) T.size = S := ⟨_, rfl⟩
    have hSs : S.size ≤ 100 := by rw [← hS, ByteArray.size_append]; omega
    cases hR : prs S.data.toList with
    | none => exact reads_1n n k b a1 a3 T S hz w hn hT0 hk hk1 hb hS hTs hTs2 hSs hR
    | some m => exact reads_1y n k b a1 a3 T S hz w hn hT0 hk hk1 hb hS hTs hTs2 hSs m hR
  by_cases h2 : z = 2
  · subst h2
    obtain ⟨S, hS⟩ : ∃ S, T.extract 0 k ++ ⟨#[UInt8.ofNat b]⟩ ++ T.extract k T.size = S := ⟨_, rfl⟩
    have hSs : S.size ≤ 100 := by rw [← hS, ByteArray.size_append, ByteArray.size_append]; omega
    cases hR : prs S.data.toList with
    | none => exact reads_2n n k b a1 a3 T S hz w hn hT0 hk hk1 hb hS hTs hTs2 hSs hR
    | some m => exact reads_2y n k b a1 a3 T S hz w hn hT0 hk hk1 hb hS hTs hTs2 hSs m hR
  · obtain ⟨S, hS⟩ : ∃ S, T.extract 0 k ++ ⟨#[UInt8.ofNat b]⟩ ++ T.extract (k + 1) T.size = S := ⟨_, rfl⟩
    have hSs : S.size ≤ 100 := by rw [← hS, ByteArray.size_append, ByteArray.size_append]; omega
    cases hR : prs S.data.toList with
    | none => exact reads_0n n k b a1 a3 T S z hz (by simpa using h1) (by simpa using h2) w hn hT0 hk hk1 hb hS hTs hTs2 hSs hR
    | some m => exact reads_0y n k b a1 a3 T S z hz (by simpa using h1) (by simpa using h2) w hn hT0 hk hk1 hb hS hTs hTs2 hSs m hR
end Go.Proofs.Ytobfcinnggbkcaa
