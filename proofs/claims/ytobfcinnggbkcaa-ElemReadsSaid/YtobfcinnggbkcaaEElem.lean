/-
  THE CONTRACT of an element's text, by package elem.
-/
import Derived.Test.YtobfcinnggbkcaaEApp
namespace Go.Proofs.Ytobfcinnggbkcaa
open Go.RowKit
set_option linter.unusedVariables false
set_option linter.unusedSimpArgs false
theorem len4 (l : List UInt8) (v : Nat) : (l ++ hexd v 4).length = l.length + 4 := by rw [List.length_append, hexd_len]
theorem len2 (l : List UInt8) (v : Nat) : (l ++ hexd v 2).length = l.length + 2 := by rw [List.length_append, hexd_len]
set_option maxHeartbeats 1000000 in
theorem text_any (e p s t : Nat) (v : Bool) (he : e < 4294967296) (hp : Hid (e / 65536 = p)) (hs : Hid (e / 256 % 256 = s)) (ht : Hid (e / 2 % 128 = t)) (hv : Hid ((e % 2 = 1) = (v = true))) (w : World) :
    Calls Try.prog 14 #[.int .u32 e] w fun r w' => r = .returned (.string ⟨(91 :: ((if v then [42] else []) ++ body p s t)).toArray⟩) ∧ Below w.heap.size w w' := by
  have bp : p < 65536 := by have := hp.out; omega
  have bs : s < 65536 := by have := hs.out; omega
  have bt : t < 65536 := by have := ht.out; omega
  obtain ⟨B, hB⟩ : ∃ B, w.heap.size = B := ⟨_, rfl⟩
  have O1 := OwnB.one w B (by omega) 91
  have HB0 : Hid (B ≤ w.heap.size) := Nat.le_of_eq hB.symm
  have HB1 : Hid (B ≤ (w.alloc (.cells #[.int .u8 91] 5)).heap.size) := by rw [World.size_alloc]; exact Nat.le_succ_of_le HB0.out
  have HBW : Hid (Below B w (w.alloc (.cells #[.int .u8 91] 5))) := (Below.refl _ _).alloc HB0.out _
  have HB := Lib.hid hB
  have HO1 : Hid (OwnB B (w.alloc (.cells #[.int .u8 91] 5)) (.slice (some ⟨w.heap.size, 0, none⟩) 1 1) [91]) := O1
  rw [hB]
  clear O1 hB
  cases v
  · have L1O := HO1; have L1B := HB1; have L1W := HBW
    clear HO1 HB1 HBW
    have L1L : Hid (([91] : List UInt8).length ≤ 9000000) := by show _ ≤ 9000000; simp
    have L2 : Hid (([91] ++ hexd p 4).length + ([46] : List UInt8).length ≤ 10000000) := by show _ ≤ 10000000; simp [hexd_len]
    have L3 : Hid (([91] ++ hexd p 4 ++ [46]).length ≤ 9000000) := by show _ ≤ 9000000; simp [hexd_len]
    have L4 : Hid (([91] ++ hexd p 4 ++ [46] ++ hexd s 2).length + ([46] : List UInt8).length ≤ 10000000) := by show _ ≤ 10000000; simp [hexd_len]
    have L5 : Hid (([91] ++ hexd p 4 ++ [46] ++ hexd s 2 ++ [46]).length ≤ 9000000) := by show _ ≤ 9000000; simp [hexd_len]
    have L6 : Hid (([91] ++ hexd p 4 ++ [46] ++ hexd s 2 ++ [46] ++ hexd t 2).length + ([93] : List UInt8).length ≤ 10000000) := by show _ ≤ 10000000; simp [hexd_len]
    go_enter Try.func14, Try.ntmps14
    go_wp2_with (first
      | (go_at_call 11; refine (var_any _ false he hv.out _).mono ?_; rintro e w' ⟨rfl, rfl⟩)
      | (go_at_call 10; (with_reducible refine (weight_1' hp.out he _).mono ?_); rintro e w' ⟨rfl, rfl⟩)
      | (go_at_call 10; (with_reducible refine (weight_2' hs.out he _).mono ?_); rintro e w' ⟨rfl, rfl⟩)
      | (go_at_call 10; (with_reducible refine (weight_3' ht.out he _).mono ?_); rintro e w' ⟨rfl, rfl⟩)
      | (go_at_call 21; (with_reducible refine (digits_4 _ p _ _ B bp L1O.out L1B.out L1L.out).mono ?_); rintro e w2 ⟨v2, rfl, ho2, hb2⟩; have HO2 := Lib.hid ho2; have HB2 := Lib.hid (Nat.le_trans L1B.out hb2.size); have HW2 := Lib.hid (L1W.out.trans hb2); clear ho2 hb2)
      | (at_builtin; refine pushB rfl (.tmp 13) (.tmp 14) rfl _ B _ _ [46] 1 rfl HO2.out rfl HB2.out L2.out ?_; intro v3 w3 ho3 hb3; have HO3 := Lib.hid ho3; have HB3 := Lib.hid (Nat.le_trans HB2.out hb3.size); have HW3 := Lib.hid (HW2.out.trans hb3); clear ho3 hb3)
      | (go_at_call 21; (with_reducible refine (digits_2 _ s _ _ B bs HO3.out HB3.out L3.out).mono ?_); rintro e w4 ⟨v4, rfl, ho4, hb4⟩; have HO4 := Lib.hid ho4; have HB4 := Lib.hid (Nat.le_trans HB3.out hb4.size); have HW4 := Lib.hid (HW3.out.trans hb4); clear ho4 hb4)
      | (at_builtin; refine pushB rfl (.tmp 19) (.tmp 20) rfl _ B _ _ [46] 1 rfl HO4.out rfl HB4.out L4.out ?_; intro v5 w5 ho5 hb5; have HO5 := Lib.hid ho5; have HB5 := Lib.hid (Nat.le_trans HB4.out hb5.size); have HW5 := Lib.hid (HW4.out.trans hb5); clear ho5 hb5)
      | (go_at_call 21; (with_reducible refine (digits_2 _ t _ _ B bt HO5.out HB5.out L5.out).mono ?_); rintro e w6 ⟨v6, rfl, ho6, hb6⟩; have HO6 := Lib.hid ho6; have HB6 := Lib.hid (Nat.le_trans HB5.out hb6.size); have HW6 := Lib.hid (HW5.out.trans hb6); clear ho6 hb6)
      | (at_builtin; refine pushB rfl (.tmp 25) (.tmp 26) rfl _ B _ _ [93] 1 rfl HO6.out rfl HB6.out L6.out ?_; intro v7 w7 ho7 hb7; have kc := str_of ho7.rd; have HW7 := Lib.hid (HW6.out.trans hb7); clear ho7 hb7))
    go_ret
    exact ⟨str_eq (by simp [body]), HW7.out⟩
  · have L0 : Hid (([91] : List UInt8).length + ([42] : List UInt8).length ≤ 10000000) := by show _ ≤ 10000000; simp
    have L1L : Hid ((([91] ++ [42]) : List UInt8).length ≤ 9000000) := by show _ ≤ 9000000; simp
    have L2 : Hid ((([91] ++ [42]) ++ hexd p 4).length + ([46] : List UInt8).length ≤ 10000000) := by show _ ≤ 10000000; simp [hexd_len]
    have L3 : Hid ((([91] ++ [42]) ++ hexd p 4 ++ [46]).length ≤ 9000000) := by show _ ≤ 9000000; simp [hexd_len]
    have L4 : Hid ((([91] ++ [42]) ++ hexd p 4 ++ [46] ++ hexd s 2).length + ([46] : List UInt8).length ≤ 10000000) := by show _ ≤ 10000000; simp [hexd_len]
    have L5 : Hid ((([91] ++ [42]) ++ hexd p 4 ++ [46] ++ hexd s 2 ++ [46]).length ≤ 9000000) := by show _ ≤ 9000000; simp [hexd_len]
    have L6 : Hid ((([91] ++ [42]) ++ hexd p 4 ++ [46] ++ hexd s 2 ++ [46] ++ hexd t 2).length + ([93] : List UInt8).length ≤ 10000000) := by show _ ≤ 10000000; simp [hexd_len]
    go_enter Try.func14, Try.ntmps14
    go_wp2_with (first
      | (go_at_call 11; refine (var_any _ true he hv.out _).mono ?_; rintro e w' ⟨rfl, rfl⟩)
      | (at_builtin; refine pushB rfl (.tmp 7) (.tmp 8) rfl _ B _ _ [42] 1 rfl HO1.out (by show Value.slice (some ⟨w.heap.size + 1, 0, none⟩) 1 1 = _; rw [World.size_alloc]; rfl) HB1.out L0.out ?_; intro v1 w1 ho1 hb1; have L1O := Lib.hid ho1; have L1B := Lib.hid (Nat.le_trans HB1.out hb1.size); have L1W := Lib.hid (HBW.out.trans hb1); clear ho1 hb1)
      | (go_at_call 10; (with_reducible refine (weight_1' hp.out he _).mono ?_); rintro e w' ⟨rfl, rfl⟩)
      | (go_at_call 10; (with_reducible refine (weight_2' hs.out he _).mono ?_); rintro e w' ⟨rfl, rfl⟩)
      | (go_at_call 10; (with_reducible refine (weight_3' ht.out he _).mono ?_); rintro e w' ⟨rfl, rfl⟩)
      | (go_at_call 21; (with_reducible refine (digits_4 _ p _ _ B bp L1O.out L1B.out L1L.out).mono ?_); rintro e w2 ⟨v2, rfl, ho2, hb2⟩; have HO2 := Lib.hid ho2; have HB2 := Lib.hid (Nat.le_trans L1B.out hb2.size); have HW2 := Lib.hid (L1W.out.trans hb2); clear ho2 hb2)
      | (at_builtin; refine pushB rfl (.tmp 13) (.tmp 14) rfl _ B _ _ [46] 1 rfl HO2.out rfl HB2.out L2.out ?_; intro v3 w3 ho3 hb3; have HO3 := Lib.hid ho3; have HB3 := Lib.hid (Nat.le_trans HB2.out hb3.size); have HW3 := Lib.hid (HW2.out.trans hb3); clear ho3 hb3)
      | (go_at_call 21; (with_reducible refine (digits_2 _ s _ _ B bs HO3.out HB3.out L3.out).mono ?_); rintro e w4 ⟨v4, rfl, ho4, hb4⟩; have HO4 := Lib.hid ho4; have HB4 := Lib.hid (Nat.le_trans HB3.out hb4.size); have HW4 := Lib.hid (HW3.out.trans hb4); clear ho4 hb4)
      | (at_builtin; refine pushB rfl (.tmp 19) (.tmp 20) rfl _ B _ _ [46] 1 rfl HO4.out rfl HB4.out L4.out ?_; intro v5 w5 ho5 hb5; have HO5 := Lib.hid ho5; have HB5 := Lib.hid (Nat.le_trans HB4.out hb5.size); have HW5 := Lib.hid (HW4.out.trans hb5); clear ho5 hb5)
      | (go_at_call 21; (with_reducible refine (digits_2 _ t _ _ B bt HO5.out HB5.out L5.out).mono ?_); rintro e w6 ⟨v6, rfl, ho6, hb6⟩; have HO6 := Lib.hid ho6; have HB6 := Lib.hid (Nat.le_trans HB5.out hb6.size); have HW6 := Lib.hid (HW5.out.trans hb6); clear ho6 hb6)
      | (at_builtin; refine pushB rfl (.tmp 25) (.tmp 26) rfl _ B _ _ [93] 1 rfl HO6.out rfl HB6.out L6.out ?_; intro v7 w7 ho7 hb7; have kc := str_of ho7.rd; have HW7 := Lib.hid (HW6.out.trans hb7); clear ho7 hb7))
    go_ret
    exact ⟨str_eq (by simp [body]), HW7.out⟩
end Go.Proofs.Ytobfcinnggbkcaa
