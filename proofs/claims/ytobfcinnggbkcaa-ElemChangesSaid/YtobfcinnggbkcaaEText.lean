/-
  THE CONTRACTS of digits and of an element's text, by package elem and by the document's own answer.
-/
import Derived.Test.YtobfcinnggbkcaaEOk
import Derived.Below
import Derived.WalkLawsBesides
namespace Go.Proofs.Ytobfcinnggbkcaa
open Go.RowKit
set_option linter.unusedVariables false
set_option linter.unusedSimpArgs false
def digB : ByteArray := ⟨#[48, 49, 50, 51, 52, 53, 54, 55, 56, 57, 97, 98, 99, 100, 101, 102]⟩
theorem dig_part {K : Nat} (h : K < 16) : (⟨#[48, 49, 50, 51, 52, 53, 54, 55, 56, 57, 97, 98, 99, 100, 101, 102]⟩ : ByteArray).extract K (K + 1) = ⟨#[hx K]⟩ := by
  have h : K = 0 ∨ K = 1 ∨ K = 2 ∨ K = 3 ∨ K = 4 ∨ K = 5 ∨ K = 6 ∨ K = 7 ∨ K = 8 ∨ K = 9 ∨ K = 10 ∨ K = 11 ∨ K = 12 ∨ K = 13 ∨ K = 14 ∨ K = 15 := by omega
  unfold hx
  rcases h with rfl | rfl | rfl | rfl | rfl | rfl | rfl | rfl | rfl | rfl | rfl | rfl | rfl | rfl | rfl | rfl <;> rfl
theorem run_dig {K : Nat} (h : K < 16) (w : World) : (Instr.slice 9 (.string ⟨#[48, 49, 50, 51, 52, 53, 54, 55, 56, 57, 97, 98, 99, 100, 101, 102]⟩) (some (.int .i64 (K : Int))) (some (.int .i64 ((K : Int) + 1))) none).run Try.prog w = .ok (.string ⟨#[hx K]⟩) w := by
  have := run_slice_string (P := Try.prog) w 9 ⟨#[48, 49, 50, 51, 52, 53, 54, 55, 56, 57, 97, 98, 99, 100, 101, 102]⟩ .i64 .i64 (K : Int) ((K : Int) + 1) Try.underlying9 (by omega) (by omega) (by show _ ≤ ((16 : Nat) : Int); omega)
  rw [this, ← dig_part h]; congr 2
theorem str_eq {b c : ByteArray} (h : b = c) : Ending.returned (.string b) = Ending.returned (.string c) := by rw [h]
theorem ba_app (a b : List UInt8) : (⟨a.toArray⟩ : ByteArray) ++ ⟨b.toArray⟩ = ⟨(a ++ b).toArray⟩ := by
  apply ByteArray.ext; simp [ByteArray.data_append]
theorem ba_cons (x : UInt8) (b : List UInt8) : (⟨#[x]⟩ : ByteArray) ++ ⟨b.toArray⟩ = ⟨(x :: b).toArray⟩ := ba_app [x] b
theorem ba_size (l : List UInt8) : (⟨l.toArray⟩ : ByteArray).size = l.length := by show l.toArray.size = _; simp
theorem nib (v k : Nat) : bits .and .i64 ((v : Int) / 2 ^ (4 * k)) 15 = ((v / 16 ^ k % 16 : Nat) : Int) := by
  have h : bits .and .i64 ((v : Int) / 2 ^ (4 * k)) 15 = (v : Int) / 2 ^ (4 * k) % 16 := and_i64_k 4 (by omega) _
  rw [h, Int.natCast_emod, Int.natCast_ediv, Int.natCast_pow, show (2 : Int) ^ (4 * k) = ((16 : Nat) : Int) ^ k by rw [Int.pow_mul]; rfl]; rfl
theorem rhex_any (v n : Nat) (hv : v < 65536) (hn : n ≤ 4) (w : World) :
    Calls Try.prog 22 #[.int .i64 v, .int .i64 n] w fun r w' => r = .returned (.string ⟨(hexd v n).toArray⟩) ∧ w' = w := by
  go_enter Try.func22, Try.ntmps22
  go_wp2
  go_loop [5, 6] (fun u i => ∃ (k : Nat) (t : ByteArray), k ≤ n ∧ i = .int .i64 k ∧ u = .string t ∧ Hid (t = ⟨(hexd v k).toArray⟩)) (fun _ i => n - (intOf i).toNat)
  case atStart => exact ⟨0, _, Nat.zero_le _, rfl, rfl, rfl⟩
  case round =>
    obtain ⟨k, t, hk, rfl, rfl, HT⟩ := hrel
    by_cases hlt : k < n
    · obtain ⟨d, hd⟩ : ∃ d, v / 16 ^ k % 16 = d := ⟨_, rfl⟩
      have hd16 : d < 16 := by omega
      have hnib := nib v k
      rw [hd] at hnib
      have HD := Lib.hid hd
      have hsl := run_dig hd16
      have hz : t.size ≤ 4 := by have := HT.out; subst this; rw [ba_size, hexd_len]; omega
      clear hd
      go_wp2
      go_round
      case rel => exact ⟨k + 1, _, by omega, by go_num, rfl, by show _ = _; rw [HT.out, ba_cons]; simp only [hexd]; rw [HD.out]⟩
      case measure => simp [intOf]; omega
    · obtain rfl : k = n := by omega
      go_wp2
      go_ret
      exact ⟨str_eq HT.out, rfl⟩
theorem rhex_is {v n : Nat} {t : ByteArray} (h : Hid ((⟨(hexd v n).toArray⟩ : ByteArray) = t)) (hv : v < 65536) (hn : n ≤ 4) (w : World) :
    Calls Try.prog 22 #[.int .i64 v, .int .i64 n] w fun r w' => r = .returned (.string t) ∧ w' = w := by
  rw [← h.out]; exact rhex_any v n hv hn w
theorem rhex_4 {v : Nat} {t : ByteArray} (h : Hid ((⟨(hexd v 4).toArray⟩ : ByteArray) = t)) (hv : v < 65536) (w : World) :
    Calls Try.prog 22 #[.int .i64 v, .int .i64 4] w fun r w' => r = .returned (.string t) ∧ w' = w := rhex_is h hv (by omega) w
theorem rhex_2 {v : Nat} {t : ByteArray} (h : Hid ((⟨(hexd v 2).toArray⟩ : ByteArray) = t)) (hv : v < 65536) (w : World) :
    Calls Try.prog 22 #[.int .i64 v, .int .i64 2] w fun r w' => r = .returned (.string t) ∧ w' = w := rhex_is h hv (by omega) w
theorem rtext_any (p s t : Nat) (v : Bool) (hp : p < 65536) (hs : s < 256) (ht : t < 128) (w : World) :
    Calls Try.prog 15 #[.agg #[.int .i64 p, .int .i64 s, .int .i64 t, .bool v]] w fun r w' => r = .returned (.string ⟨(91 :: ((if v then [42] else []) ++ body p s t)).toArray⟩) ∧ Below w.heap.size w w' := by
  obtain ⟨h1, H1⟩ : ∃ h1, Hid ((⟨(hexd p 4).toArray⟩ : ByteArray) = h1) := ⟨_, rfl⟩
  obtain ⟨h2, H2⟩ : ∃ h1, Hid ((⟨(hexd s 2).toArray⟩ : ByteArray) = h1) := ⟨_, rfl⟩
  obtain ⟨h3, H3⟩ : ∃ h1, Hid ((⟨(hexd t 2).toArray⟩ : ByteArray) = h1) := ⟨_, rfl⟩
  have z1 : h1.size ≤ 4 := by have := H1.out; subst this; rw [ba_size, hexd_len]; omega
  have z2 : h2.size ≤ 2 := by have := H2.out; subst this; rw [ba_size, hexd_len]; omega
  have z3 : h3.size ≤ 2 := by have := H3.out; subst this; rw [ba_size, hexd_len]; omega
  have hs' : s < 65536 := by omega
  have ht' : t < 65536 := by omega
  cases v
  all_goals
    go_enter Try.func15, Try.ntmps15
    go_wp2
    go_quiet ((first
      | (go_at_call 22; with_reducible exact Calls.quiet_of_same (rhex_4 H1 hp _))
      | (go_at_call 22; with_reducible exact Calls.quiet_of_same (rhex_2 H2 hs' _))
      | (go_at_call 22; with_reducible exact Calls.quiet_of_same (rhex_2 H3 ht' _))))
    go_wp2
    go_ret
    refine ⟨str_eq ?_, below_drewN ((Below.refl _ _).alloc (Nat.le_refl _) _) _⟩
    have := H1.out; have := H2.out; have := H3.out
    subst h1; subst h2; subst h3
    apply ByteArray.ext
    simp [ByteArray.data_append, body]
end Go.Proofs.Ytobfcinnggbkcaa
