/-
  THE CONTRACTS of slices.Clone: of numbers, of elements, of entries.
-/
import Derived.Test.YtaabdpfhpolcgaaGreatBAwake
namespace Go.Proofs.YtaabdpfhpolcgaaGreat
open Go.RowKit
set_option linter.unusedVariables false
set_option linter.unusedSimpArgs false
theorem int_info : (Tryz.prog.info? 3).map (fun i => (i.zero, i.size, i.bytes)) = some (some (.int .i64 0), 1, 8) := by kernel_rfl
theorem cloneI_nil (n c : Nat) (w : World) : Calls Tryz.prog 42 #[.slice none n c] w fun e w' => e = .returned (.slice none 0 0) ∧ w = w' := by
  have q22 : ∀ (w : World) (a : Option Addr) (n c n' c' : Nat), (binOp .eql 33 (.slice a n c) (.slice none n' c')).run Tryz.prog w = .ok (.bool a.isNone) w := fun w a n c n' c' => Lib.run_eql_slice_nil w _ _ a n c n' c' Tryz.underlying33
  go_enter Tryz.func42, Tryz.ntmps42
  go_wp2
  go_ret
  exact ⟨rfl, rfl⟩
theorem cloneI_some (ad : Addr) (n : Nat) (xs : List Value) (c : Nat) (w : World) (hn : n ≤ 1000000) (hl : xs.length = n * 1) (h1 : ∀ u ∈ xs, u.oneCell' = true) (hc : ∀ j u, xs[j]? = some u → w.cell? (ad.add j) = some u) :
    Calls Tryz.prog 42 #[.slice (some ad) n c] w fun e w' => (∃ v, e = .returned v ∧ w'.ownsRow w.heap.size 3 1 v n xs) ∧ Below w.heap.size w w' := by
  have q22 : ∀ (w : World) (a : Option Addr) (n c n' c' : Nat), (binOp .eql 33 (.slice a n c) (.slice none n' c')).run Tryz.prog w = .ok (.bool a.isNone) w := fun w a n c n' c' => Lib.run_eql_slice_nil w _ _ a n c n' c' Tryz.underlying33
  obtain ⟨i0, hi0, hz0, hz1, hz2⟩ := info_parts int_info
  have HC : Hid (∀ j u, xs[j]? = some u → (w.alloc (.cells #[] 3)).cell? (ad.add j) = some u) := fun j u hu => (World.grownBy_alloc w (.cells #[] 3) none).cell (hc j u hu) (by simp)
  have HI := Lib.hid hi0
  have HZ0 := Lib.hid hz0
  have HZ1 := Lib.hid hz1
  have HZ2 := Lib.hid hz2
  have HL : Hid (0 + n ≤ maxLen) := by show _ ≤ _; simp only [maxLen]; omega
  have HL2 : Hid ((0 + n) * 8 ≤ 140737488355328) := by show _ ≤ _; omega
  have HP := Lib.hid hl
  have HP1 := Lib.hid h1
  clear hc hi0 hz0 hz1 hz2 hl h1
  go_enter Tryz.func42, Tryz.ntmps42
  go_wp2_with (at_builtin; refine wpList_append_own_at _ rfl _ _ 33 rfl w.heap.size 3 i0 _ 1 8 Tryz.underlying33 HI.out HZ0.out HZ1.out HZ2.out rfl (by omega) _ _ _ rfl (World.ownsRow_made w #[] 0 (Nat.le_refl _) (Nat.zero_le _) (by simp)) ad n c xs rfl HP.out HC.out HP1.out HL.out HL2.out (by simp) ?_; intro v' w1 hown hgrow hnil hat)
  go_ret
  refine ⟨⟨v', rfl, ?_⟩, ?_⟩
  · have := hown
    rw [Nat.zero_add, List.nil_append] at this
    exact this
  · exact ((Below.refl _ w).alloc (Nat.le_refl _) _).grown hgrow (by simp) (by intro k hk; cases hk; exact Nat.le_refl _)
theorem cloneI_any {F : Nat → Prop} {w : World} {v : Value} {n : Nat} {xs : List Value} (h : RdF F w v n xs) (hn : n ≤ 1000000) (hl : xs.length = n * 1) (h1 : ∀ u ∈ xs, u.oneCell' = true) :
    Calls Tryz.prog 42 #[v] w fun e w' => (∃ v', e = .returned v' ∧ w'.ownsRow w.heap.size 3 1 v' n xs) ∧ Below w.heap.size w w' := by
  obtain ⟨A, c, rfl, hc, hr⟩ := h
  cases A with
  | none =>
    have h0 : n = 0 := by
      rcases Nat.eq_zero_or_pos n with h0 | h0
      · exact h0
      · obtain ⟨g, o, e, _⟩ := hr h0; cases e
    subst h0
    obtain rfl : xs = [] := List.eq_nil_of_length_eq_zero (by omega)
    exact (cloneI_nil 0 c w).mono fun e w' ⟨he, hw⟩ => ⟨⟨_, he, by subst hw; exact World.ownsRow_nil w _ _ _⟩, by subst hw; exact Below.refl _ _⟩
  | some ad =>
    refine cloneI_some ad n xs c w hn hl h1 fun j u hu => ?_
    have h0 : 0 < n := by
      have := (List.getElem?_eq_some_iff.1 hu).1
      rcases Nat.eq_zero_or_pos n with h0 | h0
      · subst h0; omega
      · exact h0
    obtain ⟨g, o, e, -, hcell⟩ := hr h0
    cases e
    rw [Addr.add_lit]
    exact hcell j u hu
theorem cloneE_nil (n c : Nat) (w : World) : Calls Tryz.prog 43 #[.slice none n c] w fun e w' => e = .returned (.slice none 0 0) ∧ w = w' := by
  have q22 : ∀ (w : World) (a : Option Addr) (n c n' c' : Nat), (binOp .eql 24 (.slice a n c) (.slice none n' c')).run Tryz.prog w = .ok (.bool a.isNone) w := fun w a n c n' c' => Lib.run_eql_slice_nil w _ _ a n c n' c' Tryz.underlying24
  go_enter Tryz.func43, Tryz.ntmps43
  go_wp2
  go_ret
  exact ⟨rfl, rfl⟩
theorem cloneE_some (ad : Addr) (n : Nat) (xs : List Value) (c : Nat) (w : World) (hn : n ≤ 1000000) (hl : xs.length = n * 1) (h1 : ∀ u ∈ xs, u.oneCell' = true) (hc : ∀ j u, xs[j]? = some u → w.cell? (ad.add j) = some u) :
    Calls Tryz.prog 43 #[.slice (some ad) n c] w fun e w' => (∃ v, e = .returned v ∧ w'.ownsRow w.heap.size 26 1 v n xs) ∧ Below w.heap.size w w' := by
  have q22 : ∀ (w : World) (a : Option Addr) (n c n' c' : Nat), (binOp .eql 24 (.slice a n c) (.slice none n' c')).run Tryz.prog w = .ok (.bool a.isNone) w := fun w a n c n' c' => Lib.run_eql_slice_nil w _ _ a n c n' c' Tryz.underlying24
  obtain ⟨i0, hi0, hz0, hz1, hz2⟩ := info_parts elem_info
  have HC : Hid (∀ j u, xs[j]? = some u → (w.alloc (.cells #[] 26)).cell? (ad.add j) = some u) := fun j u hu => (World.grownBy_alloc w (.cells #[] 26) none).cell (hc j u hu) (by simp)
  have HI := Lib.hid hi0
  have HZ0 := Lib.hid hz0
  have HZ1 := Lib.hid hz1
  have HZ2 := Lib.hid hz2
  have HL : Hid (0 + n ≤ maxLen) := by show _ ≤ _; simp only [maxLen]; omega
  have HL2 : Hid ((0 + n) * 4 ≤ 140737488355328) := by show _ ≤ _; omega
  have HP := Lib.hid hl
  have HP1 := Lib.hid h1
  clear hc hi0 hz0 hz1 hz2 hl h1
  go_enter Tryz.func43, Tryz.ntmps43
  go_wp2_with (at_builtin; refine wpList_append_own_at _ rfl _ _ 24 rfl w.heap.size 26 i0 _ 1 4 Tryz.underlying24 HI.out HZ0.out HZ1.out HZ2.out rfl (by omega) _ _ _ rfl (World.ownsRow_made w #[] 0 (Nat.le_refl _) (Nat.zero_le _) (by simp)) ad n c xs rfl HP.out HC.out HP1.out HL.out HL2.out (by simp) ?_; intro v' w1 hown hgrow hnil hat)
  go_ret
  refine ⟨⟨v', rfl, ?_⟩, ?_⟩
  · have := hown
    rw [Nat.zero_add, List.nil_append] at this
    exact this
  · exact ((Below.refl _ w).alloc (Nat.le_refl _) _).grown hgrow (by simp) (by intro k hk; cases hk; exact Nat.le_refl _)
theorem cloneE_any {F : Nat → Prop} {w : World} {v : Value} {n : Nat} {xs : List Value} (h : RdF F w v n xs) (hn : n ≤ 1000000) (hl : xs.length = n * 1) (h1 : ∀ u ∈ xs, u.oneCell' = true) :
    Calls Tryz.prog 43 #[v] w fun e w' => (∃ v', e = .returned v' ∧ w'.ownsRow w.heap.size 26 1 v' n xs) ∧ Below w.heap.size w w' := by
  obtain ⟨A, c, rfl, hc, hr⟩ := h
  cases A with
  | none =>
    have h0 : n = 0 := by
      rcases Nat.eq_zero_or_pos n with h0 | h0
      · exact h0
      · obtain ⟨g, o, e, _⟩ := hr h0; cases e
    subst h0
    obtain rfl : xs = [] := List.eq_nil_of_length_eq_zero (by omega)
    exact (cloneE_nil 0 c w).mono fun e w' ⟨he, hw⟩ => ⟨⟨_, he, by subst hw; exact World.ownsRow_nil w _ _ _⟩, by subst hw; exact Below.refl _ _⟩
  | some ad =>
    refine cloneE_some ad n xs c w hn hl h1 fun j u hu => ?_
    have h0 : 0 < n := by
      have := (List.getElem?_eq_some_iff.1 hu).1
      rcases Nat.eq_zero_or_pos n with h0 | h0
      · subst h0; omega
      · exact h0
    obtain ⟨g, o, e, -, hcell⟩ := hr h0
    cases e
    rw [Addr.add_lit]
    exact hcell j u hu
theorem cloneM_nil (n c : Nat) (w : World) : Calls Tryz.prog 44 #[.slice none n c] w fun e w' => e = .returned (.slice none 0 0) ∧ w = w' := by
  have q22 : ∀ (w : World) (a : Option Addr) (n c n' c' : Nat), (binOp .eql 79 (.slice a n c) (.slice none n' c')).run Tryz.prog w = .ok (.bool a.isNone) w := fun w a n c n' c' => Lib.run_eql_slice_nil w _ _ a n c n' c' Tryz.underlying79
  go_enter Tryz.func44, Tryz.ntmps44
  go_wp2
  go_ret
  exact ⟨rfl, rfl⟩
theorem cloneM_some (ad : Addr) (n : Nat) (xs : List Value) (c : Nat) (w : World) (hn : n ≤ 1000000) (hl : xs.length = n * 2) (h1 : ∀ u ∈ xs, u.oneCell' = true) (hc : ∀ j u, xs[j]? = some u → w.cell? (ad.add j) = some u) :
    Calls Tryz.prog 44 #[.slice (some ad) n c] w fun e w' => (∃ v, e = .returned v ∧ w'.ownsRow w.heap.size 83 2 v n xs) ∧ Below w.heap.size w w' := by
  have q22 : ∀ (w : World) (a : Option Addr) (n c n' c' : Nat), (binOp .eql 79 (.slice a n c) (.slice none n' c')).run Tryz.prog w = .ok (.bool a.isNone) w := fun w a n c n' c' => Lib.run_eql_slice_nil w _ _ a n c n' c' Tryz.underlying79
  obtain ⟨i0, hi0, hz0, hz1, hz2⟩ := info_parts entry_info
  have HC : Hid (∀ j u, xs[j]? = some u → (w.alloc (.cells #[] 83)).cell? (ad.add j) = some u) := fun j u hu => (World.grownBy_alloc w (.cells #[] 83) none).cell (hc j u hu) (by simp)
  have HI := Lib.hid hi0
  have HZ0 := Lib.hid hz0
  have HZ1 := Lib.hid hz1
  have HZ2 := Lib.hid hz2
  have HL : Hid (0 + n ≤ maxLen) := by show _ ≤ _; simp only [maxLen]; omega
  have HL2 : Hid ((0 + n) * 48 ≤ 140737488355328) := by show _ ≤ _; omega
  have HP := Lib.hid hl
  have HP1 := Lib.hid h1
  clear hc hi0 hz0 hz1 hz2 hl h1
  go_enter Tryz.func44, Tryz.ntmps44
  go_wp2_with (at_builtin; refine wpList_append_own_at _ rfl _ _ 79 rfl w.heap.size 83 i0 _ 2 48 Tryz.underlying79 HI.out HZ0.out HZ1.out HZ2.out rfl (by omega) _ _ _ rfl (World.ownsRow_made w #[] 0 (Nat.le_refl _) (Nat.zero_le _) (by simp)) ad n c xs rfl HP.out HC.out HP1.out HL.out HL2.out (by simp) ?_; intro v' w1 hown hgrow hnil hat)
  go_ret
  refine ⟨⟨v', rfl, ?_⟩, ?_⟩
  · have := hown
    rw [Nat.zero_add, List.nil_append] at this
    exact this
  · exact ((Below.refl _ w).alloc (Nat.le_refl _) _).grown hgrow (by simp) (by intro k hk; cases hk; exact Nat.le_refl _)
theorem cloneM_any {F : Nat → Prop} {w : World} {v : Value} {n : Nat} {xs : List Value} (h : RdF F w v n xs) (hn : n ≤ 1000000) (hl : xs.length = n * 2) (h1 : ∀ u ∈ xs, u.oneCell' = true) :
    Calls Tryz.prog 44 #[v] w fun e w' => (∃ v', e = .returned v' ∧ w'.ownsRow w.heap.size 83 2 v' n xs) ∧ Below w.heap.size w w' := by
  obtain ⟨A, c, rfl, hc, hr⟩ := h
  cases A with
  | none =>
    have h0 : n = 0 := by
      rcases Nat.eq_zero_or_pos n with h0 | h0
      · exact h0
      · obtain ⟨g, o, e, _⟩ := hr h0; cases e
    subst h0
    obtain rfl : xs = [] := List.eq_nil_of_length_eq_zero (by omega)
    exact (cloneM_nil 0 c w).mono fun e w' ⟨he, hw⟩ => ⟨⟨_, he, by subst hw; exact World.ownsRow_nil w _ _ _⟩, by subst hw; exact Below.refl _ _⟩
  | some ad =>
    refine cloneM_some ad n xs c w hn hl h1 fun j u hu => ?_
    have h0 : 0 < n := by
      have := (List.getElem?_eq_some_iff.1 hu).1
      rcases Nat.eq_zero_or_pos n with h0 | h0
      · subst h0; omega
      · exact h0
    obtain ⟨g, o, e, -, hcell⟩ := hr h0
    cases e
    rw [Addr.add_lit]
    exact hcell j u hu
theorem cloneI_is {F : Nat → Prop} {w : World} {v : Value} {l : List Int} (h : RdI F w v l) (hn : l.length ≤ 1000000) :
    Calls Tryz.prog 42 #[v] w fun e w' => (∃ v', e = .returned v' ∧ T2.OwnI w.heap.size w' v' l) ∧ Below w.heap.size w w' :=
  cloneI_any h hn (by rw [iv_len]; omega) fun u hu => by obtain ⟨k, _, rfl⟩ := List.mem_map.1 hu; rfl
theorem cloneE_is {F : Nat → Prop} {w : World} {v : Value} {l : List Nat} (h : RdE F w v l) (hn : l.length ≤ 1000000) :
    Calls Tryz.prog 43 #[v] w fun e w' => (∃ v', e = .returned v' ∧ OwnE w.heap.size w' v' l) ∧ Below w.heap.size w w' :=
  cloneE_any h hn (by rw [ev_len]; omega) (ev_one l)
theorem cloneM_is {F : Nat → Prop} {w : World} {v : Value} {M : List ME} (h : RdM F w v M) (hn : M.length ≤ 1000000) :
    Calls Tryz.prog 44 #[v] w fun e w' => (∃ v', e = .returned v' ∧ OwnM w.heap.size w' v' M) ∧ Below w.heap.size w w' :=
  cloneM_any h.1 hn (mcells_len M) (mcells_one h.2)
end Go.Proofs.YtaabdpfhpolcgaaGreat
