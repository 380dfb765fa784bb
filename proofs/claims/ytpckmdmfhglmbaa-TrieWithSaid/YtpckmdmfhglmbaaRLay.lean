/-
  THE CONTRACT of lay: n like blocks are laid.
-/
import Derived.Test.YtpckmdmfhglmbaaRHeld
namespace Go.Proofs.Ytpckmdmfhglmbaa
open Go.RowKit
set_option linter.unusedVariables false
set_option linter.unusedSimpArgs false
theorem bp_after {B : Nat} {w w' : World} {bp bt bm : Nat} {vi vb : Value} {ix : List Nat} {bs : List (List Int)} (h : BldAt B w bp bt bm vi vb ix bs) (hg : w.grownBy w' vi.ownBlock) : w'.cell? ⟨bp, 0, none⟩ = some (.pointer (some ⟨bt, 0, none⟩)) :=
  cell_of_row w' bp 0 _ _ _ ((hg.block _ (heap_lt h.hp) (own_apart h.hi h.hp (by decide))).trans h.hp)
theorem bt_after {B : Nat} {w w' : World} {bp bt bm : Nat} {vi vb : Value} {ix : List Nat} {bs : List (List Int)} (h : BldAt B w bp bt bm vi vb ix bs) (hg : w.grownBy w' vi.ownBlock) : w'.cell? ⟨bt, 0, none⟩ = some vi ∧ w'.frozen? ⟨bt, 0, none⟩ = false :=
  have ht := (hg.block _ (heap_lt h.ht) (own_apart h.hi h.ht (by decide))).trans h.ht
  ⟨cell_of_row w' bt 0 _ _ _ ht, frozen_of_row w' bt 0 _ _ ht⟩
set_option maxRecDepth 100000 in
theorem lay_old {B : Nat} {w : World} {bp bt bm : Nat} {vi vb : Value} {ix : List Nat} {bs : List (List Int)} (h : BldAt B w bp bt bm vi vb ix bs) {x : List Int} (hx : GoodR x) (hm : x ∈ bs) (n : Nat) (hn : 0 < n) (hl : ix.length + n ≤ 20000) :
    Calls Try.prog 24 #[.pointer (some ⟨bp, 0, none⟩), bval x, .int .i64 (n : Nat)] w fun e w' => e = .returned (.tuple #[]) ∧ (∃ vi', BldAt B w' bp bt bm vi' vb (ix ++ List.replicate n (bs.idxOf x)) bs) ∧ Below B w w' := by
  have hBs : B ≤ w.heap.size := Nat.le_of_lt (Nat.lt_of_le_of_lt h.hbp (heap_lt h.hp))
  obtain ⟨k, hk⟩ : ∃ k, bs.idxOf x = k := ⟨_, rfl⟩
  rw [hk]
  obtain ⟨cs, hcs⟩ : ∃ cs, cs = cellsB x := ⟨_, rfl⟩
  have hcl : cs.length = 64 := by rw [hcs, cellsB_len]; exact hx.1
  have hb0 : BldAt B (w.alloc (.cells cs.toArray 48)).drew bp bt bm vi vb ix bs := (h.kept (World.grownBy_alloc _ _ _)).kept (grown_drew _)
  have hlook : (Instr.lookup 59 (.map (some bm)) (.agg cs.toArray) true).run Try.prog (w.alloc (.cells cs.toArray 48)).drew = .ok (.tuple #[.int .u16 (k : Nat), .bool true]) (w.alloc (.cells cs.toArray 48)).drew := by
    have := hb0.hm.look_old hx hm
    rw [hk] at this
    rw [hcs] at this ⊢
    exact this
  have hr0 : (w.alloc (.cells cs.toArray 48)).drew.rangeAt w.heap.size 0 cs := fun j u hu => by
    have := cells_new w cs 48 j u hu
    rw [Addr.add_lit, Nat.zero_add] at this
    rw [Nat.zero_add]
    exact this
  have hc1 : (w.alloc (.cells cs.toArray 48)).drew.cell? ⟨bp, 1, none⟩ = some (.map (some bm)) := cell_of_row _ bp 1 _ _ _ hb0.hp
  have hu : Try.prog.underlying 48 = some (.array 64 21) := underBlk
  have hin : (Try.prog.info? 48).map (·.size) = some cs.length := by rw [hcl]; exact infoBlk
  have HW0 : Hid (Below B w (w.alloc (.cells cs.toArray 48)).drew) := ((Below.refl _ _).alloc hBs _).drew
  have HB0 := Lib.hid hb0
  have HL := Lib.hid hlook
  have HR := Lib.hid hr0
  have HC := Lib.hid hc1
  have hn1 : ((n : Int) == 0) = false := by rw [beq_eq_false_iff_ne]; omega
  have hn2 : (n : Int) ≤ 20000 := by omega
  have hbv : bval x = .agg cs.toArray := by rw [hcs]; rfl
  rw [hbv]
  clear hlook hr0 hc1 hb0 h hk hx hm hcs hbv
  go_enter Try.func24, Try.ntmps24
  go_wp2
  go_region_held3 (fun w' => w'.cell? ⟨bp, 1, none⟩ = some (.map (some bm)) ∧ w'.rangeAt w.heap.size 0 cs ∧ (Instr.lookup 59 (.map (some bm)) (.agg cs.toArray) true).run Try.prog w' = .ok (.tuple #[.int .u16 (k : Nat), .bool true]) w')
    (first | exact ⟨HC.out, HR.out, HL.out⟩ | assumption)
    (fail)
  go_wp2
  go_loopw [53] (fun i wr => ∃ (j : Nat), j ≤ n ∧ i = .int .i64 (j : Nat) ∧ Hid (∃ A C, BldAt B wr bp bt bm (.slice A (ix ++ List.replicate j k).length C) vb (ix ++ List.replicate j k) bs) ∧ Hid (Below B w wr)) (fun i _ => n - (intOf i).toNat)
  case atStart =>
    refine ⟨0, Nat.zero_le _, rfl, ?_, HW0.out⟩
    obtain ⟨A, C, e, -, -⟩ := own_parts HB0.out.hi
    refine ⟨A, C, ?_⟩
    rw [List.replicate_zero, List.append_nil, ← e]
    exact HB0.out
  case round =>
    obtain ⟨j, hj, rfl, HB, HW⟩ := hrel
    by_cases hlt : j < n
    · obtain ⟨A, C, hb⟩ := HB.out
      have hlen : (ix ++ List.replicate j k).length = ix.length + j := by simp
      have hnext : ix ++ List.replicate (j + 1) k = (ix ++ List.replicate j k) ++ [k] := by rw [List.replicate_succ', List.append_assoc]
      obtain ⟨l, hl'⟩ : ∃ l, ix ++ List.replicate j k = l := ⟨_, rfl⟩
      rw [hl'] at hb hlen hnext
      have HN := Lib.hid hnext
      have hbd : BldAt B wr.drew bp bt bm (.slice A l.length C) vb l bs := hb.kept (grown_drew _)
      have hba : BldAt B (wr.alloc (.cells #[.int .u16 (k : Nat)] 53)).drew bp bt bm (.slice A l.length C) vb l bs := (hb.kept (World.grownBy_alloc _ _ _)).kept (grown_drew _)
      have HBD := Lib.hid hbd
      have C0 := Lib.hid (cell_of_row _ bp 0 _ _ _ hbd.hp)
      have C1 := Lib.hid (cell_of_row _ bp 0 _ _ _ hba.hp)
      have c1 : wr.cell? ⟨bt, 0, none⟩ = some (.slice A l.length C) := cell_of_row _ bt 0 _ _ _ hb.ht
      have c2 : (wr.alloc (.cells #[.int .u16 (k : Nat)] 53)).cell? ⟨bt, 0, none⟩ = some (.slice A l.length C) := cell_of_row _ bt 0 _ _ _ hba.ht
      have hne : bt ≠ bp := fun e => hb.bp_ne e.symm
      have hBw : Hid (B ≤ wr.drew.heap.size) := Nat.le_trans hBs HW.out.size
      have hLL : Hid (l.length + 1 ≤ 10000000) := by show _ ≤ _; omega
      have hltI : (j : Int) < (n : Int) := by omega
      clear hb hbd hba hlen hnext hl'
      obtain ⟨S, hS0⟩ : ∃ S : World → Prop, S = fun w' => w'.cell? ⟨bp, 0, none⟩ = some (.pointer (some ⟨bt, 0, none⟩)) ∧ w'.cell? ⟨bt, 0, none⟩ = some (.slice A l.length C) := ⟨_, rfl⟩
      have HS : Hid (S wr.drew) := by rw [hS0]; exact ⟨C0.out, c1⟩
      have HS2 : Hid (S (wr.alloc (.cells #[.int .u16 (k : Nat)] 53)).drew) := by rw [hS0]; exact ⟨C1.out, c2⟩
      have hS := Lib.hid hS0
      clear hS0
      go_wp2
      refine till_region (m := 14) (S := S) (by kernel_rfl) ?_
      refine till_slot (i := 0) (d := 55) (v := ?_) rfl (by kernel_rfl) (by kernel_rfl) (by omega) (by kernel_rfl) (by kernel_rfl) (fun _ _ _ h => h) (Or.inl ⟨by rfl, ?_⟩) HS.out ?_
      rotate_left
      · intro w' hSw; rw [hS.out] at hSw; obtain ⟨s1, s2⟩ := hSw; go_simp <;> with_reducible rfl
      try simp only [List.setIfInBounds_toArray, List.set_cons_zero, List.set_cons_succ]
      refine till_slot (i := 1) (d := 56) (v := ?_) rfl (by kernel_rfl) (by kernel_rfl) (by omega) (by kernel_rfl) (by kernel_rfl) (fun _ _ _ h => h) (Or.inl ⟨by rfl, ?_⟩) HS.out ?_
      rotate_left
      · intro w' hSw; rw [hS.out] at hSw; obtain ⟨s1, s2⟩ := hSw; go_simp <;> with_reducible rfl
      try simp only [List.setIfInBounds_toArray, List.set_cons_zero, List.set_cons_succ]
      refine till_slot (i := 2) (d := 57) (v := ?_) rfl (by kernel_rfl) (by kernel_rfl) (by omega) (by kernel_rfl) (by kernel_rfl) (fun _ _ _ h => h) (Or.inl ⟨by rfl, ?_⟩) HS.out ?_
      rotate_left
      · intro w' hSw; rw [hS.out] at hSw; obtain ⟨s1, s2⟩ := hSw; go_simp <;> with_reducible rfl
      try simp only [List.setIfInBounds_toArray, List.set_cons_zero, List.set_cons_succ]
      refine till_slot (i := 3) (d := 58) (v := ?_) rfl (by kernel_rfl) (by kernel_rfl) (by omega) (by kernel_rfl) (by kernel_rfl) (fun _ _ _ h => h) (Or.inl ⟨by rfl, ?_⟩) HS.out ?_
      rotate_left
      · intro w' hSw; rw [hS.out] at hSw; obtain ⟨s1, s2⟩ := hSw; go_simp <;> with_reducible rfl
      try simp only [List.setIfInBounds_toArray, List.set_cons_zero, List.set_cons_succ]
      refine till_slot (i := 4) (d := 59) (v := ?_) rfl (by kernel_rfl) (by kernel_rfl) (by omega) (by kernel_rfl) (by kernel_rfl) (fun _ _ _ h => h) (Or.inl ⟨by rfl, ?_⟩) HS.out ?_
      rotate_left
      · intro w' hSw; rw [hS.out] at hSw; obtain ⟨s1, s2⟩ := hSw; go_simp <;> with_reducible rfl
      try simp only [List.setIfInBounds_toArray, List.set_cons_zero, List.set_cons_succ]
      refine till_slot (i := 5) (d := 60) (v := ?_) rfl (by kernel_rfl) (by kernel_rfl) (by omega) (by kernel_rfl) (by kernel_rfl) (fun _ _ _ h => h) (Or.inl ⟨by rfl, ?_⟩) HS.out ?_
      rotate_left
      · intro w' hSw; rw [hS.out] at hSw; obtain ⟨s1, s2⟩ := hSw; go_simp <;> with_reducible rfl
      try simp only [List.setIfInBounds_toArray, List.set_cons_zero, List.set_cons_succ]
      refine till_slot (i := 6) (d := 61) (v := ?_) rfl (by kernel_rfl) (by kernel_rfl) (by omega) (by kernel_rfl) (by kernel_rfl) (fun _ _ _ h => h) (Or.inl ⟨by rfl, ?_⟩) HS.out ?_
      rotate_left
      · intro w' hSw; rw [hS.out] at hSw; obtain ⟨s1, s2⟩ := hSw; go_simp <;> with_reducible rfl
      try simp only [List.setIfInBounds_toArray, List.set_cons_zero, List.set_cons_succ]
      refine till_slot (i := 7) (d := 62) (v := ?_) rfl (by kernel_rfl) (by kernel_rfl) (by omega) (by kernel_rfl) (by kernel_rfl) (fun _ _ _ h => h) (Or.inl ⟨by rfl, ?_⟩) HS.out ?_
      rotate_left
      · intro w' hSw; rw [hS.out] at hSw; obtain ⟨s1, s2⟩ := hSw; go_simp <;> with_reducible rfl
      try simp only [List.setIfInBounds_toArray, List.set_cons_zero, List.set_cons_succ]
      refine till_slot (i := 8) (d := 63) (v := ?_) rfl (by kernel_rfl) (by kernel_rfl) (by omega) (by kernel_rfl) (by kernel_rfl) (fun _ _ _ h => h) (Or.inl ⟨by rfl, ?_⟩) HS.out ?_
      rotate_left
      · intro w' hSw; rw [hS.out] at hSw; obtain ⟨s1, s2⟩ := hSw; go_simp <;> with_reducible rfl
      try simp only [List.setIfInBounds_toArray, List.set_cons_zero, List.set_cons_succ]
      refine till_slot (i := 9) (d := 64) (v := ?_) rfl (by kernel_rfl) (by kernel_rfl) (by omega) (by kernel_rfl) (by kernel_rfl) (fun _ _ _ h => h) (Or.inl ⟨by rfl, ?_⟩) HS.out ?_
      rotate_left
      · intro w' hSw; rw [hS.out] at hSw; obtain ⟨s1, s2⟩ := hSw; go_simp <;> with_reducible rfl
      try simp only [List.setIfInBounds_toArray, List.set_cons_zero, List.set_cons_succ]
      refine till_slot (i := 10) (d := 65) (v := ?_) rfl (by kernel_rfl) (by kernel_rfl) (by omega) (by kernel_rfl) (by kernel_rfl) (fun _ _ _ h => h) (Or.inl ⟨by rfl, ?_⟩) HS.out ?_
      rotate_left
      · intro w' hSw; rw [hS.out] at hSw; obtain ⟨s1, s2⟩ := hSw; go_simp <;> with_reducible rfl
      try simp only [List.setIfInBounds_toArray, List.set_cons_zero, List.set_cons_succ]
      refine till_slot (i := 11) (d := 66) (v := ?_) rfl (by kernel_rfl) (by kernel_rfl) (by omega) (by kernel_rfl) (by kernel_rfl) (fun _ _ _ h => h) (Or.inl ⟨by rfl, ?_⟩) HS.out ?_
      rotate_left
      · intro w' hSw; rw [hS.out] at hSw; obtain ⟨s1, s2⟩ := hSw; go_simp <;> with_reducible rfl
      try simp only [List.setIfInBounds_toArray, List.set_cons_zero, List.set_cons_succ]
      refine till_one (i := 12) rfl (by kernel_rfl) (by omega) (fun K hK => ?_)
      have HK := Lib.hid hK
      clear hK
      go_simp
      refine HK.out _ _ HS2.out ?_
      clear HK K
      try simp only [List.setIfInBounds_toArray, List.set_cons_zero, List.set_cons_succ]
      refine till_one (i := 13) rfl (by kernel_rfl) (by omega) (fun K hK => ?_)
      refine step_pushU (by rfl) (.tmp 65) (.tmp 67) (by rfl) wr.drew B _ _ k 1 (by rfl) HBD.out.hi (by rfl) hBw.out hLL.out ?_
      intro A2 C2 w2 ho2 hg2
      have d0 := bp_after HBD.out hg2
      obtain ⟨d1, d2⟩ := bt_after HBD.out hg2
      refine hK _ _ (by rw [hS.out]; exact ⟨d0, d1⟩) ?_
      clear hK K
      refine till_put (i := 13) (d := 68) rfl (by kernel_rfl) ?_
      try simp only [List.setIfInBounds_toArray, List.set_cons_zero, List.set_cons_succ]
      refine till_tail (k := 14) (by omega) (by kernel_rfl) (by kernel_rfl) ?_
      simp only [List.drop_succ_cons, List.drop_zero]
      go_wp2
      go_roundw
      case rel =>
        refine ⟨j + 1, by omega, by go_num, ?_, ?_⟩
        · have hh := HBD.out.pushed hg2 ho2
          rw [← HN.out] at hh
          refine ⟨A2, C2, ?_⟩
          have e : (ix ++ List.replicate (j + 1) k).length = l.length + 1 := by rw [HN.out]; simp
          rw [e]
          exact hh
        · exact (HW.out.drew.grown hg2 hBw.out (fun q hq => (own_lt HBD.out.hi q hq).1)).setCell HBD.out.hbt _
      case measure => simp [intOf]; omega
    · have hjn : j = n := by omega
      subst hjn
      have hb := HB.out
      clear hlt
      go_wp2
      go_end0
      obtain ⟨A, C, hb⟩ := hb
      exact ⟨rfl, ⟨_, hb⟩, HW.out⟩
end Go.Proofs.Ytpckmdmfhglmbaa
