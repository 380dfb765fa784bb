/-
  THE CONTRACT of a sign's bytes by the document's own answer.
-/
import Derived.Test.YtcoepmakajligaaTMem
namespace Go.Proofs.Ytcoepmakajligaa
open Go.RowKit
set_option linter.unusedVariables false
set_option linter.unusedSimpArgs false
theorem conv_new (w : World) (xs : List Value) (l : List UInt8) (n : Nat) (hx : xs = bv l) (hn : n = l.length) :
    (convert 41 9 (.slice (some ⟨w.heap.size, 0, none⟩) n n)).run Try.prog (w.alloc (.cells xs.toArray 5)) = .ok (.string ⟨l.toArray⟩) (w.alloc (.cells xs.toArray 5)) := by
  subst hx hn
  refine str_of (B := w.heap.size + 1) ⟨_, _, by rw [bv_len], fun _ => ⟨_, rfl, ?_, cells_new w (bv l) _⟩⟩
  exact Nat.lt_succ_self _
theorem bv_of (x : Int) (n : Nat) (hn : n < 256) (h : x = n) : Value.int .u8 x = .int .u8 ((UInt8.ofNat n).toNat : Int) := by rw [h, to_ofNat hn]
theorem conv_1 (w : World) (a : Nat) (ha : a < 256) : (convert 41 9 (.slice (some ⟨w.heap.size, 0, none⟩) 1 1)).run Try.prog (w.alloc (.cells #[.int .u8 (a : Int)] 5)) = .ok (.string ⟨#[UInt8.ofNat a]⟩) (w.alloc (.cells #[.int .u8 (a : Int)] 5)) :=
  conv_new w [.int .u8 (a : Int)] [UInt8.ofNat a] 1 (by simp [bv, to_ofNat ha]) rfl
theorem conv_2 (w : World) (a b : Nat) (ha : a < 256) (hb : b < 256) : (convert 41 9 (.slice (some ⟨w.heap.size, 0, none⟩) 2 2)).run Try.prog (w.alloc (.cells #[.int .u8 (a : Int), .int .u8 (b : Int)] 5)) = .ok (.string ⟨#[UInt8.ofNat a, UInt8.ofNat b]⟩) (w.alloc (.cells #[.int .u8 (a : Int), .int .u8 (b : Int)] 5)) :=
  conv_new w [.int .u8 (a : Int), .int .u8 (b : Int)] [UInt8.ofNat a, UInt8.ofNat b] 2 (by simp [bv, to_ofNat ha, to_ofNat hb]) rfl
theorem conv_3 (w : World) (a b c : Nat) (ha : a < 256) (hb : b < 256) (hc : c < 256) : (convert 41 9 (.slice (some ⟨w.heap.size, 0, none⟩) 3 3)).run Try.prog (w.alloc (.cells #[.int .u8 (a : Int), .int .u8 (b : Int), .int .u8 (c : Int)] 5)) = .ok (.string ⟨#[UInt8.ofNat a, UInt8.ofNat b, UInt8.ofNat c]⟩) (w.alloc (.cells #[.int .u8 (a : Int), .int .u8 (b : Int), .int .u8 (c : Int)] 5)) :=
  conv_new w [.int .u8 (a : Int), .int .u8 (b : Int), .int .u8 (c : Int)] [UInt8.ofNat a, UInt8.ofNat b, UInt8.ofNat c] 3 (by simp [bv, to_ofNat ha, to_ofNat hb, to_ofNat hc]) rfl
theorem conv_4 (w : World) (a b c d : Nat) (ha : a < 256) (hb : b < 256) (hc : c < 256) (hd : d < 256) : (convert 41 9 (.slice (some ⟨w.heap.size, 0, none⟩) 4 4)).run Try.prog (w.alloc (.cells #[.int .u8 (a : Int), .int .u8 (b : Int), .int .u8 (c : Int), .int .u8 (d : Int)] 5)) = .ok (.string ⟨#[UInt8.ofNat a, UInt8.ofNat b, UInt8.ofNat c, UInt8.ofNat d]⟩) (w.alloc (.cells #[.int .u8 (a : Int), .int .u8 (b : Int), .int .u8 (c : Int), .int .u8 (d : Int)] 5)) :=
  conv_new w [.int .u8 (a : Int), .int .u8 (b : Int), .int .u8 (c : Int), .int .u8 (d : Int)] [UInt8.ofNat a, UInt8.ofNat b, UInt8.ofNat c, UInt8.ofNat d] 4 (by simp [bv, to_ofNat ha, to_ofNat hb, to_ofNat hc, to_ofNat hd]) rfl
theorem ofNat_mod (n : Nat) : UInt8.ofNat (n % 256) = UInt8.ofNat n := by
  apply UInt8.toNat.inj; rw [UInt8.toNat_ofNat', UInt8.toNat_ofNat']; omega
theorem one_w1 (c : Int) (R : ByteArray) (w : World) (hz : 0 ≤ c) (hc : c ≤ 9223372036854775807) (h0 : 1114112 ≤ c)
    (k1 : ∀ w : World, (convert 41 9 (.slice (some ⟨w.heap.size, 0, none⟩) 1 1)).run Try.prog (w.alloc (.cells #[.int .u8 ((c - 1114112) % 256)] 5)) = .ok (.string R) (w.alloc (.cells #[.int .u8 ((c - 1114112) % 256)] 5))) :
    Calls Try.prog 31 #[.int .i64 c] w fun e w' => e = .returned (.string R) ∧ Below w.heap.size w w' := by
  go_enter Try.func31, Try.ntmps31
  go_wp2
  go_ret
  exact ⟨rfl, (Below.refl _ _).alloc (Nat.le_refl _) _⟩
theorem one_w2 (c : Int) (R : ByteArray) (w : World) (hz : 0 ≤ c) (hc : c ≤ 9223372036854775807) (h0 : ¬ 1114112 ≤ c) (h1 : c < 128)
    (k1 : ∀ w : World, (convert 41 9 (.slice (some ⟨w.heap.size, 0, none⟩) 1 1)).run Try.prog (w.alloc (.cells #[.int .u8 (c)] 5)) = .ok (.string R) (w.alloc (.cells #[.int .u8 (c)] 5))) :
    Calls Try.prog 31 #[.int .i64 c] w fun e w' => e = .returned (.string R) ∧ Below w.heap.size w w' := by
  go_enter Try.func31, Try.ntmps31
  go_wp2
  go_ret
  exact ⟨rfl, (Below.refl _ _).alloc (Nat.le_refl _) _⟩
theorem one_w3 (c : Int) (R : ByteArray) (w : World) (hz : 0 ≤ c) (hc : c ≤ 9223372036854775807) (h0 : ¬ 1114112 ≤ c) (h1 : ¬ c < 128) (h2 : c < 2048)
    (k1 : ∀ w : World, (convert 41 9 (.slice (some ⟨w.heap.size, 0, none⟩) 2 2)).run Try.prog (w.alloc (.cells #[.int .u8 (192 + c / 64), .int .u8 (128 + c % 64)] 5)) = .ok (.string R) (w.alloc (.cells #[.int .u8 (192 + c / 64), .int .u8 (128 + c % 64)] 5))) :
    Calls Try.prog 31 #[.int .i64 c] w fun e w' => e = .returned (.string R) ∧ Below w.heap.size w w' := by
  go_enter Try.func31, Try.ntmps31
  go_wp2
  go_ret
  exact ⟨rfl, (Below.refl _ _).alloc (Nat.le_refl _) _⟩
theorem one_w4 (c : Int) (R : ByteArray) (w : World) (hz : 0 ≤ c) (hc : c ≤ 9223372036854775807) (h0 : ¬ 1114112 ≤ c) (h1 : ¬ c < 128) (h2 : ¬ c < 2048) (h3 : c < 65536)
    (k1 : ∀ w : World, (convert 41 9 (.slice (some ⟨w.heap.size, 0, none⟩) 3 3)).run Try.prog (w.alloc (.cells #[.int .u8 (224 + c / 4096), .int .u8 (128 + c / 64 % 64), .int .u8 (128 + c % 64)] 5)) = .ok (.string R) (w.alloc (.cells #[.int .u8 (224 + c / 4096), .int .u8 (128 + c / 64 % 64), .int .u8 (128 + c % 64)] 5))) :
    Calls Try.prog 31 #[.int .i64 c] w fun e w' => e = .returned (.string R) ∧ Below w.heap.size w w' := by
  go_enter Try.func31, Try.ntmps31
  go_wp2
  go_ret
  exact ⟨rfl, (Below.refl _ _).alloc (Nat.le_refl _) _⟩
theorem one_w5 (c : Int) (R : ByteArray) (w : World) (hz : 0 ≤ c) (hc : c ≤ 9223372036854775807) (h0 : ¬ 1114112 ≤ c) (h1 : ¬ c < 128) (h2 : ¬ c < 2048) (h3 : ¬ c < 65536)
    (k1 : ∀ w : World, (convert 41 9 (.slice (some ⟨w.heap.size, 0, none⟩) 4 4)).run Try.prog (w.alloc (.cells #[.int .u8 (240 + c / 262144), .int .u8 (128 + c / 4096 % 64), .int .u8 (128 + c / 64 % 64), .int .u8 (128 + c % 64)] 5)) = .ok (.string R) (w.alloc (.cells #[.int .u8 (240 + c / 262144), .int .u8 (128 + c / 4096 % 64), .int .u8 (128 + c / 64 % 64), .int .u8 (128 + c % 64)] 5))) :
    Calls Try.prog 31 #[.int .i64 c] w fun e w' => e = .returned (.string R) ∧ Below w.heap.size w w' := by
  go_enter Try.func31, Try.ntmps31
  go_wp2
  go_ret
  exact ⟨rfl, (Below.refl _ _).alloc (Nat.le_refl _) _⟩
theorem one_any (c : Nat) (w : World) (hc : (c : Int) ≤ 9223372036854775807) :
    Calls Try.prog 31 #[.int .i64 c] w fun e w' => e = .returned (.string ⟨(one c).toArray⟩) ∧ Below w.heap.size w w' := by
  rcases one_ways c with h | h | ⟨h, h'⟩ | ⟨h, h'⟩ | ⟨h, h'⟩
  · rw [one_raw h]
    refine one_w1 c _ w (by omega) hc (by omega) (fun w => ?_)
    have k1 := conv_1 w ((c - 1114112) % 256) (by omega)
    have e0 : (((c - 1114112) % 256 : Nat) : Int) = ((c : Int) - 1114112) % 256 := by omega
    rw [e0, ofNat_mod] at k1
    exact k1
  · rw [one_1 h]
    refine one_w2 c _ w (by omega) hc (by omega) (by omega) (fun w => ?_)
    have k1 := conv_1 w c (by omega)
    exact k1
  · rw [one_2 h h']
    refine one_w3 c _ w (by omega) hc (by omega) (by omega) (by omega) (fun w => ?_)
    have k1 := conv_2 w (192 + c / 64) (128 + c % 64) (by omega) (by omega)
    have e0 : ((192 + c / 64 : Nat) : Int) = 192 + (c : Int) / 64 := by omega
    have e1 : ((128 + c % 64 : Nat) : Int) = 128 + (c : Int) % 64 := by omega
    rw [e0, e1] at k1
    exact k1
  · rw [one_3 h h']
    refine one_w4 c _ w (by omega) hc (by omega) (by omega) (by omega) (by omega) (fun w => ?_)
    have k1 := conv_3 w (224 + c / 4096) (128 + c / 64 % 64) (128 + c % 64) (by omega) (by omega) (by omega)
    have e0 : ((224 + c / 4096 : Nat) : Int) = 224 + (c : Int) / 4096 := by omega
    have e1 : ((128 + c / 64 % 64 : Nat) : Int) = 128 + (c : Int) / 64 % 64 := by omega
    have e2 : ((128 + c % 64 : Nat) : Int) = 128 + (c : Int) % 64 := by omega
    rw [e0, e1, e2] at k1
    exact k1
  · rw [one_4 h h']
    refine one_w5 c _ w (by omega) hc (by omega) (by omega) (by omega) (by omega) (fun w => ?_)
    have k1 := conv_4 w (240 + c / 262144) (128 + c / 4096 % 64) (128 + c / 64 % 64) (128 + c % 64) (by omega) (by omega) (by omega) (by omega)
    have e0 : ((240 + c / 262144 : Nat) : Int) = 240 + (c : Int) / 262144 := by omega
    have e1 : ((128 + c / 4096 % 64 : Nat) : Int) = 128 + (c : Int) / 4096 % 64 := by omega
    have e2 : ((128 + c / 64 % 64 : Nat) : Int) = 128 + (c : Int) / 64 % 64 := by omega
    have e3 : ((128 + c % 64 : Nat) : Int) = 128 + (c : Int) % 64 := by omega
    rw [e0, e1, e2, e3] at k1
    exact k1
end Go.Proofs.Ytcoepmakajligaa
