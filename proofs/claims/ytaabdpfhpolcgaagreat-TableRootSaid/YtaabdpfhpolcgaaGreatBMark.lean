/-
  THE CONTRACT of the document's marked.
-/
import Derived.Test.YtaabdpfhpolcgaaGreatBPutC
namespace Go.Proofs.YtaabdpfhpolcgaaGreat
open Go.RowKit
set_option linter.unusedVariables false
set_option linter.unusedSimpArgs false
structure Ok (L : List PE) (n : Nat) : Prop where
  seq : ∀ e ∈ L, 1 ≤ e.1.length ∧ e.1.length ≤ 1000
  len : L.length ≤ n
theorem restR_len (R : List PE) (s : List Int) : (restR R s).length ≤ R.length := by
  cases R with
  | nil => exact Nat.le_refl _
  | cons e t => rw [restR_cons]; split <;> simp
theorem putR_len (L : List PE) (x : PE) : (putR L x).length ≤ L.length + 1 := by
  unfold putR
  have h1 := restR_len (L.dropWhile fun e => befB e.1 x.1) x.1
  have h2 := congrArg List.length (List.takeWhile_append_dropWhile (p := fun e : PE => befB e.1 x.1) (l := L))
  simp only [List.length_append, List.length_cons] at h2 ⊢
  omega
theorem putR_pos (L : List PE) (x : PE) : putR L x ≠ [] := by
  unfold putR
  simp
theorem Ok.put {L : List PE} {n : Nat} (h : Ok L n) {s : List Int} {l : List Nat} (h1 : 1 ≤ s.length) (h2 : s.length ≤ 1000) : Ok (putR L (s, l)) (n + 1) where
  seq := fun e he => by
    rcases mem_putR he with rfl | he
    · exact ⟨h1, h2⟩
    · exact h.seq e he
  len := by have := putR_len L (s, l); have := h.len; omega
theorem putO {w : World} {v sv lv : Value} {L : List PE} {s : List Int} {l : List Nat} {G H : Nat → Prop} {n : Nat} (h : RefT w v L) (ho : Ok L n) (hn : n ≤ 1000) (hz : L = [] → v = .slice none 0 0) (hs : RdI G w sv s) (hl : RdQ H w lv l) (h1 : 1 ≤ s.length) (h3 : s.length ≤ 1000) (hll : l.length ≤ 1000) {R : List PE} (hR : putR L (s, l) = R) :
    Calls Tryz.prog 59 #[.agg #[v], sv, lv] w fun e w' => (∃ u, e = .returned (.agg #[u]) ∧ RefT w' u R) ∧ Below w.heap.size w w' :=
  put_any (fun _ _ => trivial) h hs hl ho.seq h1 h3 hll (Nat.le_trans ho.len hn) hz hR
theorem q4_ex (x : Nat) : ∃ P S T V, q4 x = [.int .i64 P, .int .i64 S, .int .i64 T, .bool V] := ⟨_, _, _, _, rfl⟩
set_option maxHeartbeats 4000000 in
set_option maxRecDepth 100000 in
theorem marked_any {w : World} {v : Value} {L : List PE} {n : Nat} {c x m : Int} {b : Nat} (h : RefT w v L) (ho : Ok L n) (hn : n ≤ 900) (hz : L ≠ []) (hb : 65 ≤ b ∧ b ≤ 90) (hx : (b : Int) = x) (hm : m ∈ mkC) (hc : 0 ≤ c ∧ c ≤ 1000) {R : List PE} (hR : putR (putR L ([c], [letW b, mkW m])) ([c + 32], [letW (b + 32), mkW m]) = R) :
    Calls Tryz.prog 62 #[.agg #[v], .int .i64 c, .int .i64 x, .int .i64 m] w fun e w' => (∃ u, e = .returned (.agg #[u]) ∧ RefT w' u R) ∧ Below w.heap.size w w' := by
  obtain ⟨P1, S1, T1, V1, hq1⟩ := q4_ex (letW b)
  obtain ⟨P2, S2, T2', V2, hq2⟩ := q4_ex (mkW m)
  obtain ⟨P3, S3, T3, V3, hq3⟩ := q4_ex (letW (b + 32))
  have CL := Lib.hid (fun w => rletter_any (c := b) (x := x) (.inl hb) hx hq1 w)
  have CM := Lib.hid (fun w => rmark_any hm hq2 w)
  have CL2 := Lib.hid (fun w => rletter_any (c := b + 32) (x := x + 32) (.inr ⟨by omega, by omega⟩) (by omega) hq3 w)
  have HQ1 : Hid (qcells [letW b, mkW m] = [.int .i64 P1, .int .i64 S1, .int .i64 T1, .bool V1, .int .i64 P2, .int .i64 S2, .int .i64 T2', .bool V2]) := by show _ = _; rw [qcells_cons, qcells_cons, hq1, hq2]; rfl
  have HQ2 : Hid (qcells [letW (b + 32), mkW m] = [.int .i64 P3, .int .i64 S3, .int .i64 T3, .bool V3, .int .i64 P2, .int .i64 S2, .int .i64 T2', .bool V2]) := by show _ = _; rw [qcells_cons, qcells_cons, hq3, hq2]; rfl
  obtain ⟨l1, hl1⟩ : ∃ l, [letW b, mkW m] = l := ⟨_, rfl⟩
  obtain ⟨l2, hl2⟩ : ∃ l, [letW (b + 32), mkW m] = l := ⟨_, rfl⟩
  have HL1 : Hid (l1.length = 2) := by show _ = _; rw [← hl1]; rfl
  have HL2 : Hid (l2.length = 2) := by show _ = _; rw [← hl2]; rfl
  rw [hl1] at hR HQ1
  rw [hl2] at hR HQ2
  obtain ⟨L1, hL1⟩ : ∃ L1, putR L ([c], l1) = L1 := ⟨_, rfl⟩
  rw [hL1] at hR
  have HO1 : Hid (Ok L1 (n + 1)) := by rw [← hL1]; exact ho.put (Nat.le_refl _) (by simp)
  have HL1N : Hid (L1 ≠ []) := by show _ ≠ _; rw [← hL1]; exact putR_pos _ _
  have HT := Lib.hid h
  have HO := Lib.hid ho
  have HZ := Lib.hid hz
  have HPU := Lib.hid hL1
  have HPR := Lib.hid hR
  have r1 : IntKind.i64.wrap (c + 32) = c + 32 := IntWalk.i64_in _ (by omega)
  have r2 : IntKind.i64.wrap (x + 32) = x + 32 := IntWalk.i64_in _ (by omega)
  clear h ho hz hL1 hR hq1 hq2 hq3 hl1 hl2 hm
  go_enter Tryz.func62, Tryz.ntmps62
  go_wp2
  have H02 : Hid (Below w.heap.size w ((w.alloc (.cells #[v] 42)).alloc (.cells #[.slice none 0 0] 42))) := ((Below.refl _ w).alloc (Nat.le_refl _) _).alloc (by simp) _
  have HB0 : Hid (((w.alloc (.cells #[v] 42)).alloc (.cells #[.slice none 0 0] 42)).heap[w.heap.size]? = some (.cells #[v] 42)) := by
    show _ = _
    rw [((Below.refl (w.alloc (.cells #[v] 42)).heap.size (w.alloc (.cells #[v] 42))).alloc (Nat.le_refl _) (.cells #[.slice none 0 0] 42)).block w.heap.size (by simp)]
    exact heap_alloc_new w (.cells #[v] 42)
  have HB1 : Hid (((w.alloc (.cells #[v] 42)).alloc (.cells #[.slice none 0 0] 42)).heap[w.heap.size + 1]? = some (.cells #[.slice none 0 0] 42)) := by
    have := heap_alloc_new (w.alloc (.cells #[v] 42)) (.cells #[.slice none 0 0] 42)
    show _ = _
    simpa using this
  generalize ((w.alloc (.cells #[v] 42)).alloc (.cells #[.slice none 0 0] 42)) = w2 at H02 HB0 HB1 ⊢
  have HT2 := Lib.hid (HT.out.below H02.out (Nat.le_refl _))
  have HC0 : Hid (w2.cell? ⟨w.heap.size, 0, none⟩ = some v) := by show _ = _; rw [cell_of_row _ _ 0 _ _ _ HB0.out]; rfl
  refine any_region (m := 9) [9, 10, 11, 12, 13, 14, 15, 16, 17] [SV.eq (.agg #[v]), SV.eq (.int .i64 c), SV.ints [c], SV.eq (.int .i64 x), SV.eq (.agg #[.int .i64 P1, .int .i64 S1, .int .i64 T1, .bool V1]), SV.eq (.int .i64 m), SV.eq (.agg #[.int .i64 P2, .int .i64 S2, .int .i64 T2', .bool V2]), SV.qs l1, SV.ref L1] (by kernel_rfl) (by kernel_rfl) ?_ ?_
  · refine ⟨⟨⟨⟨⟨⟨⟨⟨⟨trivial, ?_⟩, ?_⟩, ?_⟩, ?_⟩, ?_⟩, ?_⟩, ?_⟩, ?_⟩, ?_⟩
    · refine OpIs.mk rfl ?_
      intro vs w1 hb hd K hK
      have c0 := cell_call hb HC0.out
      simp only [frameV, List.setIfInBounds_toArray, List.set_cons_zero, List.set_cons_succ, List.getD_cons_zero, List.getD_cons_succ] at hK ⊢
      have HK := Lib.hid hK
      clear hK
      go_simp
      exact HK.out _ _ rfl (Below.refl _ _)
    · refine OpIs.mk rfl ?_
      intro vs w1 hb hd K hK
      simp only [frameV, List.setIfInBounds_toArray, List.set_cons_zero, List.set_cons_succ, List.getD_cons_zero, List.getD_cons_succ] at hK ⊢
      have HK := Lib.hid hK
      clear hK
      go_simp
      exact HK.out _ _ rfl (Below.refl _ _)
    · refine OpIs.mk rfl ?_
      intro vs w1 hb hd K hK
      have d1 : vs 1 = .int .i64 c := hd 1 (by kernel_rfl)
      simp only [frameV, List.setIfInBounds_toArray, List.set_cons_zero, List.set_cons_succ, List.getD_cons_zero, List.getD_cons_succ] at hK ⊢
      simp only [d1] at hK ⊢
      have HK := Lib.hid hK
      clear hK
      go_simp
      exact HK.out _ _ (RdF.new w1 _ _ (Nat.le_refl _)) (alloc_below w1 _)
    · refine OpIs.mk rfl ?_
      intro vs w1 hb hd K hK
      simp only [frameV, List.setIfInBounds_toArray, List.set_cons_zero, List.set_cons_succ, List.getD_cons_zero, List.getD_cons_succ] at hK ⊢
      have HK := Lib.hid hK
      clear hK
      go_simp
      exact HK.out _ _ rfl (Below.refl _ _)
    · refine OpIs.mk rfl ?_
      intro vs w1 hb hd K hK
      have d3 : vs 3 = .int .i64 x := hd 3 (by kernel_rfl)
      simp only [frameV, List.setIfInBounds_toArray, List.set_cons_zero, List.set_cons_succ, List.getD_cons_zero, List.getD_cons_succ] at hK ⊢
      simp only [d3] at hK ⊢
      have HK := Lib.hid hK
      clear hK
      go_simp
      go_at_call 60
      refine (CL.out _).mono ?_
      rintro e w3 ⟨rfl, hb3⟩
      exact HK.out _ _ rfl hb3
    · refine OpIs.mk rfl ?_
      intro vs w1 hb hd K hK
      simp only [frameV, List.setIfInBounds_toArray, List.set_cons_zero, List.set_cons_succ, List.getD_cons_zero, List.getD_cons_succ] at hK ⊢
      have HK := Lib.hid hK
      clear hK
      go_simp
      exact HK.out _ _ rfl (Below.refl _ _)
    · refine OpIs.mk rfl ?_
      intro vs w1 hb hd K hK
      have d5 : vs 5 = .int .i64 m := hd 5 (by kernel_rfl)
      simp only [frameV, List.setIfInBounds_toArray, List.set_cons_zero, List.set_cons_succ, List.getD_cons_zero, List.getD_cons_succ] at hK ⊢
      simp only [d5] at hK ⊢
      have HK := Lib.hid hK
      clear hK
      go_simp
      go_at_call 61
      refine (CM.out _).mono ?_
      rintro e w3 ⟨rfl, hb3⟩
      exact HK.out _ _ rfl hb3
    · refine OpIs.mk rfl ?_
      intro vs w1 hb hd K hK
      have d4 : vs 4 = .agg #[.int .i64 P1, .int .i64 S1, .int .i64 T1, .bool V1] := hd 4 (by kernel_rfl)
      have d6 : vs 6 = .agg #[.int .i64 P2, .int .i64 S2, .int .i64 T2', .bool V2] := hd 6 (by kernel_rfl)
      simp only [frameV, List.setIfInBounds_toArray, List.set_cons_zero, List.set_cons_succ, List.getD_cons_zero, List.getD_cons_succ] at hK ⊢
      simp only [d4, d6] at hK ⊢
      have HK := Lib.hid hK
      clear hK
      go_simp
      exact HK.out _ _ (by show RdF anyB _ _ l1.length (qcells l1); rw [HQ1.out, HL1.out]; exact RdF.new w1 _ _ (Nat.le_refl _)) (alloc_below w1 _)
    · refine OpIs.mk rfl ?_
      intro vs w1 hb hd K hK
      have d0 : vs 0 = .agg #[v] := hd 0 (by kernel_rfl)
      have d2 : RdI anyB w1 (vs 2) [c] := hd 2 (by kernel_rfl)
      have d7 : RdQ anyB w1 (vs 7) l1 := hd 7 (by kernel_rfl)
      simp only [frameV, List.setIfInBounds_toArray, List.set_cons_zero, List.set_cons_succ, List.getD_cons_zero, List.getD_cons_succ] at hK ⊢
      simp only [d0] at hK ⊢
      have HK := Lib.hid hK
      clear hK
      go_simp
      go_at_call 59
      refine (putO (HT2.out.below hb (Nat.le_refl _)) HO.out (by omega) (fun e => absurd e HZ.out) d2 d7 (Nat.le_refl _) (by simp) (by rw [HL1.out]; omega) HPU.out).mono ?_
      rintro e w3 ⟨⟨u, rfl, hu⟩, hb3⟩
      exact HK.out _ _ ⟨u, rfl, hu⟩ hb3
  · intro vs w3 hb hd
    obtain ⟨u, d8, hu⟩ : ∃ u, vs 8 = .agg #[u] ∧ RefT w3 u L1 := hd 8 (by omega)
    obtain ⟨A1, k1, rfl⟩ := hu.form
    have HU := Lib.hid hu
    simp only [frameV, List.setIfInBounds_toArray, List.set_cons_zero, List.set_cons_succ, List.drop_succ_cons, List.drop_zero, d8]
    have HB3 := Lib.hid (H02.out.trans (hb.mono H02.out.size))
    have h03 : w3.heap[w.heap.size]? = some (.cells #[v] 42) := (hb.block _ (R4.heap_lt HB0.out)).trans HB0.out
    have h13 : w3.heap[w.heap.size + 1]? = some (.cells #[.slice none 0 0] 42) := (hb.block _ (R4.heap_lt HB1.out)).trans HB1.out
    have c03 : w3.cell? ⟨w.heap.size, 0, none⟩ = some v := by rw [cell_of_row _ _ 0 _ _ _ h03]; rfl
    have f03 : w3.frozen? ⟨w.heap.size, 0, none⟩ = false := frozen_of_row _ _ 0 _ _ h03
    clear hu hb hd
    go_wp2
    have hg4 := R4.grown_setCell w3 ⟨w.heap.size, 0, none⟩ (.slice A1 L1.length k1)
    have HT4 : Hid (RefT (w3.setCell ⟨w.heap.size, 0, none⟩ (.slice A1 L1.length k1)) (.slice A1 L1.length k1) L1) := HU.out.off hg4 h03 (by decide) (by decide) (by decide)
    have HC4 : Hid ((w3.setCell ⟨w.heap.size, 0, none⟩ (.slice A1 L1.length k1)).cell? ⟨w.heap.size, 0, none⟩ = some (.slice A1 L1.length k1)) := by show _ = _; rw [cell_of_row _ _ 0 _ _ _ (heap_setCell_same w3 w.heap.size 0 _ _ _ h03)]; rfl
    have HH4 : Hid ((w3.setCell ⟨w.heap.size, 0, none⟩ (.slice A1 L1.length k1)).heap[w.heap.size + 1]? = some (.cells #[.slice none 0 0] 42)) := (hg4.block _ (R4.heap_lt h13) (by simp)).trans h13
    have HB4 : Hid (Below w.heap.size w (w3.setCell ⟨w.heap.size, 0, none⟩ (.slice A1 L1.length k1))) := HB3.out.setCell (Nat.le_refl _) _
    clear hg4 c03 f03 h03 h13
    generalize w3.setCell ⟨w.heap.size, 0, none⟩ (.slice A1 L1.length k1) = w4 at HT4 HC4 HH4 HB4 ⊢
    refine any_region (m := 11) [18, 19, 20, 21, 22, 23, 24, 25, 26, 27, 28] [SV.eq (.agg #[.slice A1 L1.length k1]), SV.eq (.int .i64 c), SV.eq (.int .i64 (c + 32)), SV.ints [c + 32], SV.eq (.int .i64 x), SV.eq (.int .i64 (x + 32)), SV.eq (.agg #[.int .i64 P3, .int .i64 S3, .int .i64 T3, .bool V3]), SV.eq (.int .i64 m), SV.eq (.agg #[.int .i64 P2, .int .i64 S2, .int .i64 T2', .bool V2]), SV.qs l2, SV.ref R] (by kernel_rfl) (by kernel_rfl) ?_ ?_
    · refine ⟨⟨⟨⟨⟨⟨⟨⟨⟨⟨⟨trivial, ?_⟩, ?_⟩, ?_⟩, ?_⟩, ?_⟩, ?_⟩, ?_⟩, ?_⟩, ?_⟩, ?_⟩, ?_⟩
      · refine OpIs.mk rfl ?_
        intro vs w1 hb hd K hK
        have c0 := cell_call hb HC4.out
        simp only [frameV, List.setIfInBounds_toArray, List.set_cons_zero, List.set_cons_succ, List.getD_cons_zero, List.getD_cons_succ] at hK ⊢
        have HK := Lib.hid hK
        clear hK
        go_simp
        exact HK.out _ _ rfl (Below.refl _ _)
      · refine OpIs.mk rfl ?_
        intro vs w1 hb hd K hK
        simp only [frameV, List.setIfInBounds_toArray, List.set_cons_zero, List.set_cons_succ, List.getD_cons_zero, List.getD_cons_succ] at hK ⊢
        have HK := Lib.hid hK
        clear hK
        go_simp
        exact HK.out _ _ rfl (Below.refl _ _)
      · refine OpIs.mk rfl ?_
        intro vs w1 hb hd K hK
        have d1 : vs 1 = .int .i64 c := hd 1 (by kernel_rfl)
        simp only [frameV, List.setIfInBounds_toArray, List.set_cons_zero, List.set_cons_succ, List.getD_cons_zero, List.getD_cons_succ] at hK ⊢
        simp only [d1] at hK ⊢
        have HK := Lib.hid hK
        clear hK
        go_simp
        exact HK.out _ _ rfl (Below.refl _ _)
      · refine OpIs.mk rfl ?_
        intro vs w1 hb hd K hK
        have d2 : vs 2 = .int .i64 (c + 32) := hd 2 (by kernel_rfl)
        simp only [frameV, List.setIfInBounds_toArray, List.set_cons_zero, List.set_cons_succ, List.getD_cons_zero, List.getD_cons_succ] at hK ⊢
        simp only [d2] at hK ⊢
        have HK := Lib.hid hK
        clear hK
        go_simp
        exact HK.out _ _ (RdF.new w1 _ _ (Nat.le_refl _)) (alloc_below w1 _)
      · refine OpIs.mk rfl ?_
        intro vs w1 hb hd K hK
        simp only [frameV, List.setIfInBounds_toArray, List.set_cons_zero, List.set_cons_succ, List.getD_cons_zero, List.getD_cons_succ] at hK ⊢
        have HK := Lib.hid hK
        clear hK
        go_simp
        exact HK.out _ _ rfl (Below.refl _ _)
      · refine OpIs.mk rfl ?_
        intro vs w1 hb hd K hK
        have d4 : vs 4 = .int .i64 x := hd 4 (by kernel_rfl)
        simp only [frameV, List.setIfInBounds_toArray, List.set_cons_zero, List.set_cons_succ, List.getD_cons_zero, List.getD_cons_succ] at hK ⊢
        simp only [d4] at hK ⊢
        have HK := Lib.hid hK
        clear hK
        go_simp
        exact HK.out _ _ rfl (Below.refl _ _)
      · refine OpIs.mk rfl ?_
        intro vs w1 hb hd K hK
        have d5 : vs 5 = .int .i64 (x + 32) := hd 5 (by kernel_rfl)
        simp only [frameV, List.setIfInBounds_toArray, List.set_cons_zero, List.set_cons_succ, List.getD_cons_zero, List.getD_cons_succ] at hK ⊢
        simp only [d5] at hK ⊢
        have HK := Lib.hid hK
        clear hK
        go_simp
        go_at_call 60
        refine (CL2.out _).mono ?_
        rintro e w3 ⟨rfl, hb3⟩
        exact HK.out _ _ rfl hb3
      · refine OpIs.mk rfl ?_
        intro vs w1 hb hd K hK
        simp only [frameV, List.setIfInBounds_toArray, List.set_cons_zero, List.set_cons_succ, List.getD_cons_zero, List.getD_cons_succ] at hK ⊢
        have HK := Lib.hid hK
        clear hK
        go_simp
        exact HK.out _ _ rfl (Below.refl _ _)
      · refine OpIs.mk rfl ?_
        intro vs w1 hb hd K hK
        have d7 : vs 7 = .int .i64 m := hd 7 (by kernel_rfl)
        simp only [frameV, List.setIfInBounds_toArray, List.set_cons_zero, List.set_cons_succ, List.getD_cons_zero, List.getD_cons_succ] at hK ⊢
        simp only [d7] at hK ⊢
        have HK := Lib.hid hK
        clear hK
        go_simp
        go_at_call 61
        refine (CM.out _).mono ?_
        rintro e w3 ⟨rfl, hb3⟩
        exact HK.out _ _ rfl hb3
      · refine OpIs.mk rfl ?_
        intro vs w1 hb hd K hK
        have d6 : vs 6 = .agg #[.int .i64 P3, .int .i64 S3, .int .i64 T3, .bool V3] := hd 6 (by kernel_rfl)
        have d8 : vs 8 = .agg #[.int .i64 P2, .int .i64 S2, .int .i64 T2', .bool V2] := hd 8 (by kernel_rfl)
        simp only [frameV, List.setIfInBounds_toArray, List.set_cons_zero, List.set_cons_succ, List.getD_cons_zero, List.getD_cons_succ] at hK ⊢
        simp only [d6, d8] at hK ⊢
        have HK := Lib.hid hK
        clear hK
        go_simp
        exact HK.out _ _ (by show RdF anyB _ _ l2.length (qcells l2); rw [HQ2.out, HL2.out]; exact RdF.new w1 _ _ (Nat.le_refl _)) (alloc_below w1 _)
      · refine OpIs.mk rfl ?_
        intro vs w1 hb hd K hK
        have d0 : vs 0 = .agg #[.slice A1 L1.length k1] := hd 0 (by kernel_rfl)
        have d3 : RdI anyB w1 (vs 3) [c + 32] := hd 3 (by kernel_rfl)
        have d9 : RdQ anyB w1 (vs 9) l2 := hd 9 (by kernel_rfl)
        simp only [frameV, List.setIfInBounds_toArray, List.set_cons_zero, List.set_cons_succ, List.getD_cons_zero, List.getD_cons_succ] at hK ⊢
        simp only [d0] at hK ⊢
        have HK := Lib.hid hK
        clear hK
        go_simp
        go_at_call 59
        refine (putO (HT4.out.below hb (Nat.le_refl _)) HO1.out (by omega) (fun e => absurd e HL1N.out) d3 d9 (Nat.le_refl _) (by simp) (by rw [HL2.out]; omega) HPR.out).mono ?_
        rintro e w3 ⟨⟨u, rfl, hu⟩, hb3⟩
        exact HK.out _ _ ⟨u, rfl, hu⟩ hb3
    · intro vs2 w5 hb hd
      obtain ⟨u, d10, hu⟩ : ∃ u, vs2 10 = .agg #[u] ∧ RefT w5 u R := hd 10 (by omega)
      obtain ⟨A2, k2, rfl⟩ := hu.form
      have HU5 := Lib.hid hu
      simp only [frameV, List.setIfInBounds_toArray, List.set_cons_zero, List.set_cons_succ, List.drop_succ_cons, List.drop_zero, d10]
      have HB5 := Lib.hid (HB4.out.trans (hb.mono HB4.out.size))
      have h15 : w5.heap[w.heap.size + 1]? = some (.cells #[.slice none 0 0] 42) := (hb.block _ (R4.heap_lt HH4.out)).trans HH4.out
      have c15 : w5.cell? ⟨w.heap.size + 1, 0, none⟩ = some (.slice none 0 0) := by rw [cell_of_row _ _ 0 _ _ _ h15]; rfl
      have f15 : w5.frozen? ⟨w.heap.size + 1, 0, none⟩ = false := frozen_of_row _ _ 0 _ _ h15
      clear hu hb hd
      go_wp2
      have d3 : (w5.setCell ⟨w.heap.size + 1, 0, none⟩ (.slice A2 R.length k2)).cell? ⟨w.heap.size + 1, 0, none⟩ = some (.slice A2 R.length k2) := by rw [cell_of_row _ _ 0 _ _ _ (heap_setCell_same w5 (w.heap.size + 1) 0 _ _ _ h15)]; rfl
      exact bodyPost_ret (v := .agg #[.slice A2 R.length k2]) (by simp [results, Tryz.results62, go_sem, d3]) rfl ⟨⟨_, rfl, HU5.out.off (R4.grown_setCell w5 ⟨w.heap.size + 1, 0, none⟩ _) h15 (by decide) (by decide) (by decide)⟩, HB5.out.setCell (Nat.le_succ _) _⟩
end Go.Proofs.YtaabdpfhpolcgaaGreat
