/-
  THE CONTRACT of lay, whatever the block, however often.
-/
import Derived.Test.YtpckmdmfhglmbaaRLay2
namespace Go.Proofs.Ytpckmdmfhglmbaa
open Go.RowKit
set_option linter.unusedVariables false
set_option linter.unusedSimpArgs false
theorem lay_none {B : Nat} {w : World} {bp : Nat} {r : List (List Int)} (h : Bld B w bp r) (hB : B ≤ w.heap.size) (x : List Int) (p : Value) :
    Calls Try.prog 24 #[p, bval x, .int .i64 0] w fun e w' => e = .returned (.tuple #[]) ∧ Bld B w' bp r ∧ Below B w w' := by
  have H := Lib.hid h
  clear h
  unfold bval
  obtain ⟨cs, hcs⟩ : ∃ cs, cs = cellsB x := ⟨_, rfl⟩
  rw [← hcs]
  clear hcs
  go_enter Try.func24, Try.ntmps24
  go_wp2
  exact bodyPost_ret (v := .tuple #[]) (by simp [results, Try.results24, go_sem]) rfl ⟨rfl, H.out.kept (World.grownBy_alloc _ _ _), (Below.refl _ _).alloc hB _⟩
theorem Bld.le {B : Nat} {w : World} {bp : Nat} {r : List (List Int)} (h : Bld B w bp r) : B ≤ bp ∧ bp < w.heap.size := by
  obtain ⟨bt, bm, vi, vb, h⟩ := h
  exact ⟨h.hbp, heap_lt h.hp⟩
theorem lay_any {B : Nat} {w : World} {bp : Nat} {r : List (List Int)} (h : Bld B w bp r) {x : List Int} (hx : GoodR x) (n : Nat) (hl : r.length + n ≤ 20000) :
    Calls Try.prog 24 #[.pointer (some ⟨bp, 0, none⟩), bval x, .int .i64 (n : Nat)] w fun e w' => e = .returned (.tuple #[]) ∧ Bld B w' bp (r ++ List.replicate n x) ∧ Below B w w' := by
  cases n with
  | zero =>
    have hB := h.le
    exact (lay_none h (by omega) x _).mono fun e w' ⟨he, hb, hw⟩ => ⟨he, by rw [List.replicate_zero, List.append_nil]; exact hb, hw⟩
  | succ n =>
    obtain ⟨bt, bm, vi, vb, h⟩ := h
    have hf := firsts_len r
    by_cases hm : x ∈ r
    · have hm' := (mem_firsts r x).2 hm
      refine (lay_old h hx hm' (n + 1) (by omega) (by rw [ixs_len]; omega)).mono fun e w' ⟨he, ⟨vi', hb⟩, hw⟩ => ⟨he, ⟨bt, bm, vi', vb, ?_⟩, hw⟩
      rw [ixs_rep, firsts_rep, if_pos hm, addF, if_pos hm']
      exact hb
    · have hm' : x ∉ firsts r := fun h => hm ((mem_firsts r x).1 h)
      refine (lay_new h hx hm' (n + 1) (by omega) (by rw [ixs_len]; omega) (by omega)).mono fun e w' ⟨he, ⟨vi', vb', hb⟩, hw⟩ => ⟨he, ⟨bt, bm, vi', vb', ?_⟩, hw⟩
      rw [ixs_rep, firsts_rep, if_neg hm, addF, if_neg hm']
      exact hb
/-- What is laid in all is a trie. -/
theorem Bld.trie {B : Nat} {w : World} {bp : Nat} {r : List (List Int)} (h : Bld B w bp r) (hg : ∀ x ∈ r, GoodR x) (hl : r.length = 17412) : ∃ bt, w.cell? ⟨bp, 0, none⟩ = some (.pointer (some ⟨bt, 0, none⟩)) ∧ TrieAt w bt r := by
  obtain ⟨bt, bm, vi, vb, h⟩ := h
  exact ⟨bt, cell_of_row w bp 0 _ _ _ h.hp, ⟨vi, vb, h.ht, own_mono h.hi (Nat.zero_le _), own_mono h.hk (Nat.zero_le _)⟩, hg, hl⟩
end Go.Proofs.Ytpckmdmfhglmbaa
