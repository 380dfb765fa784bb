/-
  THE CONTRACTS of Build at pairs that may be there, and of awake.
-/
import Derived.Test.YtpckmdmfhglmbaaRBuild
import Derived.Test.YtpckmdmfhglmbaaRCountP
namespace Go.Proofs.Ytpckmdmfhglmbaa
open Go.RowKit
set_option linter.unusedVariables false
set_option linter.unusedSimpArgs false
theorem RdP.nil (B : Nat) (w : World) : RdP B w (.slice none 0 0) [] := ⟨none, 0, rfl, Nat.le_refl _, fun h => absurd h (by simp)⟩
theorem build_ok {w : World} {v : Value} {l : List (Int × Int)} (h : RdP w.heap.size w v l) (hl : l.length ≤ 1000) (hm : ∀ p ∈ l, MayP p) (hu : Uniq l) {n : Nat} (hn : blocksP l = n) :
    Calls Try.prog 7 #[v] w fun e w' => ∃ p, e = .returned (.tuple #[.pointer (some ⟨p, 0, none⟩), .int .i64 0]) ∧ TrieAt w' p (rowsF 17412 (findP l)) ∧ (firsts (rowsF 17412 (findP l))).length = n ∧ Below w.heap.size w w' := by
  refine (build_any h (by omega) (fun p hp => by have := hm p hp; unfold MayP at this; omega)).mono fun e w' hp => ?_
  obtain ⟨hb, h1 | h1 | h1⟩ := hp
  · exact absurd hm h1.1
  · exact absurd hu h1.2.1
  · obtain ⟨_, _, p, he, ht⟩ := h1
    exact ⟨p, he, ht, by rw [blocks_eq hu hm (by omega), hn], hb⟩
theorem two_blocks : blocksP [(5, 1), (69, 1)] = 2 := by decide +kernel
theorem blocks_is {w : World} {p : Nat} {r : List (List Int)} {n : Nat} (h : TrieAt w p r) (hn : (firsts r).length = n) :
    Calls Try.prog 11 #[.pointer (some ⟨p, 0, none⟩)] w fun e w' => e = .returned (.int .i64 (n : Nat)) ∧ w = w' := by
  rw [← hn]; exact blocks_any h
theorem get_any {w : World} {p : Nat} {f : Int → Int} (h : TrieAt w p (rowsF 17412 f)) {c y : Int} (hc : 0 ≤ c ∧ c ≤ 1114367) (hy : f c = y) :
    Calls Try.prog 9 #[.pointer (some ⟨p, 0, none⟩), .int .i64 c] w fun e w' => e = .returned (.int .i64 y) ∧ ∃ n, w' = w.drewN n := by
  have hcc : ((c.toNat : Nat) : Int) = c := by omega
  have := get_in h c.toNat (by omega)
  rw [atR_rowsF _ _ _ (by omega), hcc, hy] at this
  exact this
theorem TrieAt.drewN {w : World} {p : Nat} {r : List (List Int)} (h : TrieAt w p r) (n : Nat) : TrieAt (w.drewN n) p r := h.below (below_drewN (Below.refl w.heap.size w) n) (Nat.le_refl _)
theorem rd_two (w : World) (a b c d : Int) : RdP (w.alloc (.cells #[.int .i64 a, .int .i64 b, .int .i64 c, .int .i64 d] 29)).heap.size (w.alloc (.cells #[.int .i64 a, .int .i64 b, .int .i64 c, .int .i64 d] 29)) (.slice (some ⟨w.heap.size, 0, none⟩) 2 2) [(a, b), (c, d)] := by
  refine ⟨_, 2, rfl, Nat.le_refl _, fun _ => ⟨w.heap.size, 0, rfl, by simp, fun j u hu => ?_⟩⟩
  have := cells_new w [.int .i64 a, .int .i64 b, .int .i64 c, .int .i64 d] 29 j u hu
  rw [Addr.add_lit] at this
  exact this
theorem awake_any (w : World) : Calls Try.prog 6 #[] w fun e w' => e = .returned (.bool true) ∧ Below w.heap.size w w' := by
  have H1 := fun w : World => Lib.hid (build_ok (RdP.nil w.heap.size w) (by simp) (by simp) List.Pairwise.nil (n := 1) rfl)
  have H2 := fun w : World => Lib.hid (build_ok (rd_two w 5 1 69 1) (by simp) (by intro p hp; simp at hp; rcases hp with rfl | rfl <;> decide) (by simp [Uniq]) two_blocks)
  have V1 : Hid (findP [(5, 1), (69, 1)] 69 = 1) := rfl
  have V2 : Hid (findP [(5, 1), (69, 1)] 6 = 0) := rfl
  go_enter Try.func6, Try.ntmps6
  go_wp2_with (first
    | (go_at_call 7; (with_reducible refine ((H1 _).out).mono ?_); rintro e w1 ⟨p1, rfl, ht1, hn1, hw1⟩; have N1 := Lib.hid hn1; clear hn1)
    | (go_at_call 7; (with_reducible refine ((H2 _).out).mono ?_); rintro e w2 ⟨p2, rfl, ht2, hn2, hw2⟩; have N2 := Lib.hid hn2; clear hn2;
       have HA := Lib.hid (((Below.refl w1.heap.size w1).alloc (Nat.le_refl _) _).trans (hw2.mono (by simp))))
    | (go_at_call 11; (with_reducible refine (blocks_is (ht1.below HA.out (Nat.le_refl _)) N1.out).mono ?_); rintro e w' ⟨rfl, rfl⟩)
    | (go_at_call 11; (with_reducible refine (blocks_is ht2 N2.out).mono ?_); rintro e w' ⟨rfl, rfl⟩)
    | (go_at_call 9; (with_reducible refine (get_any ht2 (by omega) V1.out).mono ?_); rintro e w' ⟨rfl, n1, rfl⟩)
    | (go_at_call 9; (with_reducible refine (get_any (ht2.drewN _) (by omega) V2.out).mono ?_); rintro e w' ⟨rfl, n2, rfl⟩))
  go_ret
  exact ⟨rfl, below_drewN (hw1.trans (HA.out.mono hw1.size)) _⟩
end Go.Proofs.Ytpckmdmfhglmbaa
