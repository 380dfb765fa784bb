/-
  THE CONTRACTS of the program's mark and relation.
-/
import Derived.Test.YtdodlppnjlmnaaaSSeq
namespace Go.Proofs.Ytdodlppnjlmnaaa
open Go.RowKit
set_option linter.unusedVariables false
set_option linter.unusedSimpArgs false
open T2 (gb dec one isSg isPt sgs)
def mkS (r : Int) : ByteArray := if r = 1 then ⟨#[38]⟩ else if r = 2 then ⟨#[60]⟩ else if r = 3 then ⟨#[60, 60]⟩ else if r = 4 then ⟨#[60, 60, 60]⟩ else if r = 5 then ⟨#[61]⟩ else ⟨#[]⟩
theorem mkS_list (r : Int) : (mkS r).data.toList = mk r.toNat := by
  unfold mkS
  by_cases h1 : r = 1
  · subst h1; rfl
  by_cases h2 : r = 2
  · subst h2; rfl
  by_cases h3 : r = 3
  · subst h3; rfl
  by_cases h4 : r = 4
  · subst h4; rfl
  by_cases h5 : r = 5
  · subst h5; rfl
  rw [if_neg h1, if_neg h2, if_neg h3, if_neg h4, if_neg h5]
  match hr : r.toNat with
  | 0 => rfl
  | 1 => omega
  | 2 => omega
  | 3 => omega
  | 4 => omega
  | 5 => omega
  | n + 6 => rfl
theorem mark_any {r : Int} {t : ByteArray} (ht : mkS r = t) (w : World) : Calls Try.prog 21 #[.int .i64 r] w fun e w' => e = .returned (.string t) ∧ w = w' := by
  subst ht
  unfold mkS
  by_cases h1 : r = 1
  · subst h1
    go_enter Try.func21, Try.ntmps21
    go_wp2
    go_ret
    exact ⟨rfl, rfl⟩
  by_cases h2 : r = 2
  · subst h2
    go_enter Try.func21, Try.ntmps21
    go_wp2
    go_ret
    exact ⟨rfl, rfl⟩
  by_cases h3 : r = 3
  · subst h3
    go_enter Try.func21, Try.ntmps21
    go_wp2
    go_ret
    exact ⟨rfl, rfl⟩
  by_cases h4 : r = 4
  · subst h4
    go_enter Try.func21, Try.ntmps21
    go_wp2
    go_ret
    exact ⟨rfl, rfl⟩
  by_cases h5 : r = 5
  · subst h5
    go_enter Try.func21, Try.ntmps21
    go_wp2
    go_ret
    exact ⟨rfl, rfl⟩
  rw [if_neg h1, if_neg h2, if_neg h3, if_neg h4, if_neg h5]
  go_enter Try.func21, Try.ntmps21
  go_wp2
  go_ret
  exact ⟨rfl, rfl⟩
theorem mkS_len {n : Nat} : (mkS (n : Int)).size = (mk n).length := by
  have := mkS_list (n : Int)
  rw [Int.toNat_natCast] at this
  rw [← this, T2.ba_len]
theorem rel_any {w : World} {g : Nat} {s : ByteArray} {k : Nat} (h : RD TP w g s k) (hk : k ≤ s.size) (hs : s.size ≤ 1000000) {last r c : Nat} (hl : last ≤ 5) (hR : relL (s.data.toList.drop k) last = (r, c)) :
    Calls Try.prog 29 #[.pointer (some ⟨g, 0, none⟩), .int .i64 (last : Nat)] w
      fun e w' => e = .returned (.tuple #[.int .i64 (r : Nat), .bool (decide (r ≠ 0))]) ∧ RD TP w' g s (k + c) ∧ Mv g w w' := by
  have HR := Lib.hid h
  have HF := Lib.hid hR
  have HZ := Lib.hid (Mv.refl g w)
  clear h hR
  go_enter Try.func29, Try.ntmps29
  go_wp2
  go_loopg [4] last (fun n v wr => v = .int .i64 (n : Nat) ∧ n ≤ 5 ∧ Hid (relL (s.data.toList.drop k) n = (r, c)) ∧ Hid (RD TP wr g s k) ∧ Hid (Mv g w wr))
  case atStart => exact ⟨rfl, hl, HF.out, HR.out, HZ.out⟩
  case round =>
    obtain ⟨rfl, hn, HJ, HRJ, HM⟩ := hrel
    clear HR HF HZ
    cases gk with
    | zero =>
      have h9 := HJ.out
      rw [relL] at h9
      injection h9 with h1 h2
      subst h1 h2
      clear HJ
      go_wp2
      go_ret2
      exact ⟨rfl, HRJ.out, HM.out⟩
    | succ n =>
      have hge : (1 : Int) ≤ ((n + 1 : Nat) : Int) := by omega
      obtain ⟨t, ht⟩ : ∃ t, mkS ((n + 1 : Nat) : Int) = t := ⟨_, rfl⟩
      have htl := mkS_list ((n + 1 : Nat) : Int)
      have hts := mkS_len (n := n + 1)
      rw [ht, Int.toNat_natCast] at htl
      rw [ht] at hts
      have HT := Lib.hid (mark_any ht)
      obtain ⟨b, hb⟩ : ∃ b, (mk (n + 1)).isPrefixOf (s.data.toList.drop k) = b := ⟨_, rfl⟩
      have HK := Lib.hid (take_any HRJ.out (p := t) (b := b) (by rw [htl]; exact hb) hk hs)
      have h9 := HJ.out
      rw [relL, hb] at h9
      have HTS := Lib.hid hts
      clear HJ ht htl hb hts
      obtain ⟨i, hi⟩ : ∃ i : Int, ((n + 1 : Nat) : Int) = i := ⟨_, rfl⟩
      rw [hi] at HT hge ⊢
      have HI := Lib.hid hi
      have hi5 : i ≤ 5 := by omega
      clear hi
      cases b with
      | true =>
        rw [if_pos rfl] at h9
        injection h9 with h1 h2
        subst h1
        have H2 := Lib.hid h2
        clear h2
        go_wp2_with (first
          | (go_at_call 21; refine (HT.out _).mono ?_; rintro e w1 ⟨rfl, rfl⟩)
          | (go_at_call 31; refine HK.out.mono ?_; rintro e w2 ⟨rfl, hr, hm⟩; have HR2 := Lib.hid hr; have HM2 := Lib.hid hm; clear hr hm))
        go_ret2
        have hr : RD TP w2 g s (k + t.size) := by simpa using HR2.out
        rw [HTS.out, H2.out] at hr
        exact ⟨by rw [← HI.out]; rfl, hr, HM.out.trans HM2.out⟩
      | false =>
        rw [if_neg (by simp)] at h9
        have HJ2 := Lib.hid h9
        clear h9
        go_wp2_with (first
          | (go_at_call 21; refine (HT.out _).mono ?_; rintro e w1 ⟨rfl, rfl⟩)
          | (go_at_call 31; refine HK.out.mono ?_; rintro e w2 ⟨rfl, hr, hm⟩; have HR2 := Lib.hid hr; have HM2 := Lib.hid hm; clear hr hm))
        go_roundg n
        case measure => omega
        case rel => exact ⟨by have := HI.out; congr 1; omega, by omega, HJ2.out, HR2.out, HM.out.trans HM2.out⟩
end Go.Proofs.Ytdodlppnjlmnaaa
