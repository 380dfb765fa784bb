/-
  THE CONTRACT of others.
-/
import Derived.Test.YtaabdpfhpolcgaaBComp
namespace Go.Proofs.Ytaabdpfhpolcgaa
open Go.RowKit
set_option linter.unusedVariables false
set_option linter.unusedSimpArgs false
theorem with3_is {e n : Nat} {v : Int} (h : (e : Int) / 256 * 256 + v % 128 * 2 + (e : Int) % 2 = n) (he : e < 4294967296) (h1 : 0 ≤ v) (h2 : v ≤ 100) (w : World) :
    Calls Try.prog 47 #[.int .u32 (e : Int), .int .i64 3, .int .i64 v] w fun r w' => r = .returned (.int .u32 (n : Nat)) ∧ w = w' := E3.with_3' h he (by omega) (by omega) w
theorem Ent.thru {B : Nat} {w w' : World} {m : ME} (h : Ent B w m) (o : Obj) (hb : Below (w.alloc o).heap.size (w.alloc o) w') : Ent B w' m :=
  (h.below ((Below.refl _ w).alloc (Nat.le_refl _) o) (Nat.le_refl _)).below hb (Nat.le_refl _)
theorem below_thru {w0 w w' : World} (h : Below w0.heap.size w0 w) (o : Obj) (hb : Below (w.alloc o).heap.size (w.alloc o) w') : Below w0.heap.size w0 w' :=
  (h.alloc h.size o).trans (hb.mono (by have := h.size; simp; omega))
theorem ownE_nil (B : Nat) (w : World) : OwnE B w (.slice none 0 0) [] := World.ownsRow_nil w B _ _
theorem ownM_lit (w : World) (N : List ME) (hl : N.length ≤ 1000) {B : Nat} (hB : B ≤ w.heap.size) : OwnM B (w.alloc (.cells (mcells N).toArray 40)) (.slice (some ⟨w.heap.size, 0, none⟩) N.length N.length) N := by
  have := World.ownsRow_lit (base := B) (e := 40) (size := 2) w (mcells N).toArray N.length hB (by simp only [maxLen]; omega) (by simp [mcells_len])
  unfold OwnM
  simpa using this
set_option maxHeartbeats 2000000 in
theorem others_any (w : World) : Calls Try.prog 25 #[] w (GotM w.heap.size w othP) := by
  obtain ⟨a, ha⟩ : ∃ a, letW 97 = a := ⟨_, rfl⟩
  obtain ⟨e, he⟩ : ∃ e, letW 101 = e := ⟨_, rfl⟩
  obtain ⟨s, hs⟩ : ∃ s, letW 115 = s := ⟨_, rfl⟩
  have ha0 : a = 16785412 := by rw [← ha]; rfl
  have he0 : e = 18882564 := by rw [← he]; rfl
  have hs0 : s = 26222596 := by rw [← hs]; rfl
  have CA := Lib.hid (fun w => letter_any (c := 97) (x := 97) (.inr ⟨by omega, by omega⟩) rfl ha w)
  have CE := Lib.hid (fun w => letter_any (c := 101) (x := 101) (.inr ⟨by omega, by omega⟩) rfl he w)
  have CS := Lib.hid (fun w => letter_any (c := 115) (x := 115) (.inr ⟨by omega, by omega⟩) rfl hs w)
  obtain ⟨s4, hs4⟩ : ∃ s4, E3.mk 400 32 4 0 = s4 := ⟨_, rfl⟩
  obtain ⟨a10, ha10⟩ : ∃ a10, E3.mk 256 32 10 0 = a10 := ⟨_, rfl⟩
  obtain ⟨e10, he10⟩ : ∃ e10, E3.mk 288 32 10 0 = e10 := ⟨_, rfl⟩
  obtain ⟨a4, ha4⟩ : ∃ a4, E3.mk 256 32 4 0 = a4 := ⟨_, rfl⟩
  obtain ⟨e4, he4⟩ : ∃ e4, E3.mk 288 32 4 0 = e4 := ⟨_, rfl⟩
  have WS := Lib.hid (fun w => with3_is (e := s) (n := s4) (v := 4) (by rw [hs0, ← hs4]; decide) (by omega) (by omega) (by omega) w)
  have WA := Lib.hid (fun w => with3_is (e := a) (n := a10) (v := 10) (by rw [ha0, ← ha10]; decide) (by omega) (by omega) (by omega) w)
  have WE := Lib.hid (fun w => with3_is (e := e) (n := e10) (v := 10) (by rw [he0, ← he10]; decide) (by omega) (by omega) (by omega) w)
  have WA4 := Lib.hid (fun w => with3_is (e := a) (n := a4) (v := 4) (by rw [ha0, ← ha4]; decide) (by omega) (by omega) (by omega) w)
  have WE4 := Lib.hid (fun w => with3_is (e := e) (n := e4) (v := 4) (by rw [he0, ← he4]; decide) (by omega) (by omega) (by omega) w)
  have HP : Hid (othP = [([223], [s4, s4]), ([198], [a10, e10]), ([230], [a4, e4]), ([173], [])]) := by show _ = _; unfold othP; rw [hs4, ha10, he10, ha4, he4]
  have t1 : True := trivial
  have t2 : True := trivial
  have t3 : True := trivial
  clear ha he hs ha0 he0 hs0 hs4 ha10 he10 ha4 he4
  go_enter Try.func25, Try.ntmps25
  go_wp2_with (first
    | (go_at_call 45; (with_reducible refine (CA.out _).mono ?_); rintro e w' ⟨rfl, rfl⟩)
    | (go_at_call 45; (with_reducible refine (CE.out _).mono ?_); rintro e w' ⟨rfl, rfl⟩)
    | (go_at_call 45; (with_reducible refine (CS.out _).mono ?_); rintro e w' ⟨rfl, rfl⟩)
    | (go_at_call 47; (with_reducible refine (WS.out _).mono ?_); rintro e w' ⟨rfl, rfl⟩)
    | (go_at_call 47; (with_reducible refine (WA.out _).mono ?_); rintro e w' ⟨rfl, rfl⟩)
    | (go_at_call 47; (with_reducible refine (WE.out _).mono ?_); rintro e w' ⟨rfl, rfl⟩)
    | (go_at_call 47; (with_reducible refine (WA4.out _).mono ?_); rintro e w' ⟨rfl, rfl⟩)
    | (go_at_call 47; (with_reducible refine (WE4.out _).mono ?_); rintro e w' ⟨rfl, rfl⟩)
    | (go_at_call 43; have _t := t1; refine (one_ent (B := w.heap.size) (ownE_lit w [s4, s4] (by simp) (Nat.le_refl _)) (by simp) _).mono ?_; rintro e w1 ⟨v1, rfl, he, hb⟩; have E1 := Lib.hid he; have B1 := Lib.hid (below_thru (Below.refl _ w) _ hb); clear hb he _t t1)
    | (go_at_call 43; have _t := t2; refine (one_ent (B := w.heap.size) (ownE_lit w1 [a10, e10] (by simp) B1.out.size) (by simp; exact Nat.le_succ_of_le B1.out.size) _).mono ?_; rintro e w2 ⟨v2, rfl, he, hb⟩; have E2 := Lib.hid he; have E12 := Lib.hid (E1.out.thru _ hb); have B2 := Lib.hid (below_thru B1.out _ hb); clear hb he _t t2)
    | (go_at_call 43; have _t := t3; refine (one_ent (B := w.heap.size) (ownE_lit w2 [a4, e4] (by simp) B2.out.size) (by simp; exact Nat.le_succ_of_le B2.out.size) _).mono ?_; rintro e w3 ⟨v3, rfl, he, hb⟩; have E3' := Lib.hid he; have E13 := Lib.hid (E12.out.thru _ hb); have E23 := Lib.hid (E2.out.thru _ hb); have B3 := Lib.hid (below_thru B2.out _ hb); clear hb he _t t3)
    | (go_at_call 43; refine (one_ent (B := w.heap.size) (W := w3) (ownE_nil w.heap.size w3) B3.out.size _).mono ?_; rintro e w4 ⟨v4, rfl, he, hb⟩; have E4' := Lib.hid he; have E14 := Lib.hid (E13.out.below hb (Nat.le_refl _)); have E24 := Lib.hid (E23.out.below hb (Nat.le_refl _)); have E34 := Lib.hid (E3'.out.below hb (Nat.le_refl _)); have B4 := Lib.hid (B3.out.trans (hb.mono B3.out.size)); clear hb he))
  go_ret
  rw [HP.out]
  refine ⟨_, [⟨v1, _, [223], [s4, s4]⟩, ⟨v2, _, [198], [a10, e10]⟩, ⟨v3, _, [230], [a4, e4]⟩, ⟨v4, _, [173], []⟩], rfl, rfl, ownM_lit w4 _ (by simp) B4.out.size, ?_, B4.out.alloc B4.out.size _⟩
  intro m hm
  have hst : ∀ {m : ME}, Ent w.heap.size w4 m → Ent w.heap.size (w4.alloc (.cells (mcells [⟨v1, .slice (some ⟨w.heap.size, 0, none⟩) 2 2, [223], [s4, s4]⟩, ⟨v2, .slice (some ⟨w1.heap.size, 0, none⟩) 2 2, [198], [a10, e10]⟩, ⟨v3, .slice (some ⟨w2.heap.size, 0, none⟩) 2 2, [230], [a4, e4]⟩, ⟨v4, .slice none 0 0, [173], []⟩]).toArray 40)) m := fun h => h.below ((Below.refl _ w4).alloc (Nat.le_refl _) _) (Nat.le_refl _)
  simp only [List.mem_cons, List.not_mem_nil, or_false] at hm
  rcases hm with rfl | rfl | rfl | rfl
  · exact hst E14.out
  · exact hst E24.out
  · exact hst E34.out
  · exact hst E4'.out
end Go.Proofs.Ytaabdpfhpolcgaa
