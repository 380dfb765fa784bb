/-
  THE CONTRACT of rootEntries.
-/
import Derived.Test.YtaabdpfhpolcgaaBConc
namespace Go.Proofs.Ytaabdpfhpolcgaa
open Go.RowKit
set_option linter.unusedVariables false
set_option linter.unusedSimpArgs false
/-- A slice of entries that was made since w0. -/
def Pc (w0 w : World) (v : Value) (L : List PE) : Prop := ∃ M, pls M = L ∧ OwnM w0.heap.size w v M ∧ (∀ m ∈ M, Ent w0.heap.size w m) ∧ Below w0.heap.size w0 w
theorem Pc.below {w0 w w' : World} {v : Value} {L : List PE} (h : Pc w0 w v L) (hb : Below w.heap.size w w') : Pc w0 w' v L := by
  obtain ⟨M, h1, h2, h3, h4⟩ := h
  exact ⟨M, h1, h2.below hb (Nat.le_refl _), fun m hm => (h3 m hm).below hb (Nat.le_refl _), h4.trans (hb.mono h4.size)⟩
theorem Pc.of {w0 w w' : World} {v : Value} {L : List PE} (h : GotM w.heap.size w L (.returned v) w') (h0 : Below w0.heap.size w0 w) : Pc w0 w' v L := by
  obtain ⟨v', M, e, h1, h2, h3, h4⟩ := h
  cases e
  exact ⟨M, h1, R4.own_mono h2 h0.size, fun m hm => (h3 m hm).mono fun k hk => ⟨by have := h0.size; omega, hk.2⟩, h0.trans (h4.mono h0.size)⟩
/-- What rootEntries gives: the entries' slices lie between w and the row. -/
def RawIs (w : World) (e : Ending) (w' : World) : Prop := ∃ v M B, e = .returned v ∧ pls M = rawP ∧ OwnM B w' v M ∧ (∀ m ∈ M, EntOk (fun k => w.heap.size ≤ k ∧ k < B) w' m) ∧ w.heap.size ≤ B ∧ B ≤ w'.heap.size ∧ Below w.heap.size w w'
theorem Pc.rd {w0 w : World} {v : Value} {L : List PE} (h : Pc w0 w v L) (hL : 0 < L.length) : ∃ M, pls M = L ∧ RdM (fun k => w0.heap.size ≤ k ∧ k < w.heap.size) w v M ∧ 0 < M.length := by
  obtain ⟨M, h1, h2, h3, h4⟩ := h
  refine ⟨M, h1, h2.rd fun m hm => ?_, by rw [← h1, pls_len] at hL; exact hL⟩
  exact (h3 m hm).mono fun k hk => ⟨hk.1, by obtain ⟨cs, T, fr, h, _⟩ := hk.2; exact R4.heap_lt h⟩
theorem raw_of {w w6 w8 : World} {v v1 v2 v3 v4 v5 v6 : Value} {M1 M2 M3 M4 M5 M6 : List ME} {O : Obj} (p1 : pls M1 = (List.range 6).map varE) (p2 : pls M2 = (List.range 10).map digE) (p3 : pls M3 = (List.range 26).flatMap letE) (p4 : pls M4 = (List.range 8).map mkE) (p5 : pls M5 = runs.flatMap compR) (p6 : pls M6 = othP)
    (r1 : RdM (fun k => w.heap.size ≤ k ∧ k < w6.heap.size) w6 v1 M1) (r2 : RdM (fun k => w.heap.size ≤ k ∧ k < w6.heap.size) w6 v2 M2) (r3 : RdM (fun k => w.heap.size ≤ k ∧ k < w6.heap.size) w6 v3 M3) (r4 : RdM (fun k => w.heap.size ≤ k ∧ k < w6.heap.size) w6 v4 M4) (r5 : RdM (fun k => w.heap.size ≤ k ∧ k < w6.heap.size) w6 v5 M5) (r6 : RdM (fun k => w.heap.size ≤ k ∧ k < w6.heap.size) w6 v6 M6)
    (hb6 : Below w.heap.size w w6) (ho : OwnM (w6.alloc O).heap.size w8 v [M1, M2, M3, M4, M5, M6].flatten) (hb : Below (w6.alloc O).heap.size (w6.alloc O) w8) : RawIs w (.returned v) w8 := by
  have hA : Below w6.heap.size w6 (w6.alloc O) := (Below.refl _ w6).alloc (Nat.le_refl _) O
  have hz : (w6.alloc O).heap.size = w6.heap.size + 1 := by simp
  have hb2 : Below w6.heap.size w6 w8 := hA.trans (hb.mono (by omega))
  refine ⟨v, _, _, rfl, ?_, ho, ?_, by have := hb6.size; omega, hb.size, hb6.trans (hb2.mono hb6.size)⟩
  · simp only [List.flatten_cons, List.flatten_nil, List.append_nil, pls_app, p1, p2, p3, p4, p5, p6]
    rfl
  · intro m hm
    have key : ∀ {u : Value} {M : List ME}, RdM (fun k => w.heap.size ≤ k ∧ k < w6.heap.size) w6 u M → m ∈ M → EntOk (fun k => w.heap.size ≤ k ∧ k < (w6.alloc O).heap.size) w8 m := fun {u M} hr hm =>
      ((hr.2 m hm).below hb2 (Nat.le_refl _)).mono fun k hk => ⟨hk.1, by have := hk.2; omega⟩
    simp only [List.flatten_cons, List.flatten_nil, List.append_nil, List.mem_append] at hm
    rcases hm with hm | hm | hm | hm | hm | hm
    · exact key r1 hm
    · exact key r2 hm
    · exact key r3 hm
    · exact key r4 hm
    · exact key r5 hm
    · exact key r6 hm
theorem lens : 0 < ((List.range 6).map varE).length ∧ 0 < ((List.range 10).map digE).length ∧ 0 < ((List.range 26).flatMap letE).length ∧ 0 < ((List.range 8).map mkE).length ∧ 0 < (runs.flatMap compR).length ∧ 0 < othP.length := by decide +kernel
theorem raw_len : rawP.length = 132 := by decide +kernel
/-- The six pieces, laid in a row of slices, one behind the other. -/
theorem raw_concat {w w6 : World} {v1 v2 v3 v4 v5 v6 : Value} (p1 : Pc w w6 v1 ((List.range 6).map varE)) (p2 : Pc w w6 v2 ((List.range 10).map digE)) (p3 : Pc w w6 v3 ((List.range 26).flatMap letE)) (p4 : Pc w w6 v4 ((List.range 8).map mkE)) (p5 : Pc w w6 v5 (runs.flatMap compR)) (p6 : Pc w w6 v6 othP)
    (hb6 : Below w.heap.size w w6) : Calls Try.prog 19 #[.slice (some ⟨w6.heap.size, 0, none⟩) 6 6] (w6.alloc (.cells #[v1, v2, v3, v4, v5, v6] 36)) fun e w' => ∃ v, e = .returned v ∧ RawIs w (.returned v) w' := by
  obtain ⟨M1, e1, r1, l1⟩ := p1.rd lens.1
  obtain ⟨M2, e2, r2, l2⟩ := p2.rd lens.2.1
  obtain ⟨M3, e3, r3, l3⟩ := p3.rd lens.2.2.1
  obtain ⟨M4, e4, r4, l4⟩ := p4.rd lens.2.2.2.1
  obtain ⟨M5, e5, r5, l5⟩ := p5.rd lens.2.2.2.2.1
  obtain ⟨M6, e6, r6, l6⟩ := p6.rd lens.2.2.2.2.2
  have hA : Below w6.heap.size w6 (w6.alloc (.cells #[v1, v2, v3, v4, v5, v6] 36)) := (Below.refl _ w6).alloc (Nat.le_refl _) _
  have hlen : [M1, M2, M3, M4, M5, M6].flatten.length ≤ 1000 := by
    have h := raw_len
    have h2 : rawP = pls [M1, M2, M3, M4, M5, M6].flatten := by
      simp only [List.flatten_cons, List.flatten_nil, List.append_nil, pls_app, e1, e2, e3, e4, e5, e6]
      rfl
    rw [h2, pls_len] at h
    omega
  refine (concat_any (F := anyB) (n := 6) (Ms := [M1, M2, M3, M4, M5, M6]) (vs := [v1, v2, v3, v4, v5, v6]) rfl rfl (by omega) (fun k v hk => consts_at hk) ?_ hlen).mono ?_
  · intro k v M hv hM
    have key : ∀ {u : Value} {N : List ME}, RdM (fun k => w.heap.size ≤ k ∧ k < w6.heap.size) w6 u N → 0 < N.length → RdM anyB (w6.alloc (.cells #[v1, v2, v3, v4, v5, v6] 36)) u N ∧ 0 < N.length := fun {u N} hr h0 => by
      have h1 := hr.below hA (Nat.le_refl _)
      exact ⟨⟨h1.1, fun m hm => (h1.2 m hm).mono fun _ _ => trivial⟩, h0⟩
    match k, hv, hM with
    | 0, hv, hM => cases hv; cases hM; exact key r1 l1
    | 1, hv, hM => cases hv; cases hM; exact key r2 l2
    | 2, hv, hM => cases hv; cases hM; exact key r3 l3
    | 3, hv, hM => cases hv; cases hM; exact key r4 l4
    | 4, hv, hM => cases hv; cases hM; exact key r5 l5
    | 5, hv, hM => cases hv; cases hM; exact key r6 l6
    | k + 6, hv, hM => simp at hv
  · rintro e w' ⟨⟨v, he, ho⟩, hb⟩
    exact ⟨v, he, raw_of e1 e2 e3 e4 e5 e6 r1 r2 r3 r4 r5 r6 hb6 ho hb⟩
theorem pc_mono {f : Nat} {w0 w : World} {L : List PE} (h : Calls Try.prog f #[] w (GotM w.heap.size w L)) (h0 : Below w0.heap.size w0 w) :
    Calls Try.prog f #[] w fun e w' => (∃ A n c, e = .returned (.slice A n c) ∧ Pc w0 w' (.slice A n c) L) ∧ Below w.heap.size w w' ∧ Below w0.heap.size w0 w' := by
  refine h.mono fun e w' hg => ?_
  obtain ⟨v, M, rfl, h1, h2, h3, h4⟩ := hg
  obtain ⟨A, c, rfl⟩ := h2.form
  exact ⟨⟨A, _, c, rfl, Pc.of ⟨_, M, rfl, h1, h2, h3, h4⟩ h0⟩, h4, h0.trans (h4.mono h0.size)⟩
set_option maxHeartbeats 1000000 in
set_option maxRecDepth 100000 in
theorem rootEntries_any (w : World) : Calls Try.prog 9 #[] w (RawIs w) := by
  have B0 : Hid (Below w.heap.size w w) := Below.refl _ w
  have HL := Lib.hid lens
  go_enter Try.func9, Try.ntmps9
  go_wp2_with (first
    | (go_at_call 20; refine (pc_mono (variables_any _) B0.out).mono ?_; rintro e w1 ⟨⟨A1, n1, c1, rfl, p⟩, hb, hb0⟩; have P11 := Lib.hid p; have B1 := Lib.hid hb0; clear p hb hb0 B0)
    | (go_at_call 21; refine (pc_mono (digits_any _) B1.out).mono ?_; rintro e w2 ⟨⟨A2, n2, c2, rfl, p⟩, hb, hb0⟩; have P22 := Lib.hid p; have B2 := Lib.hid hb0; have P12 := Lib.hid (P11.out.below hb); clear p hb hb0 B1 P11)
    | (go_at_call 22; refine (pc_mono (letters_any _) B2.out).mono ?_; rintro e w3 ⟨⟨A3, n3, c3, rfl, p⟩, hb, hb0⟩; have P33 := Lib.hid p; have B3 := Lib.hid hb0; have P13 := Lib.hid (P12.out.below hb); have P23 := Lib.hid (P22.out.below hb); clear p hb hb0 B2 P12 P22)
    | (go_at_call 23; refine (pc_mono (marks_any _) B3.out).mono ?_; rintro e w4 ⟨⟨A4, n4, c4, rfl, p⟩, hb, hb0⟩; have P44 := Lib.hid p; have B4 := Lib.hid hb0; have P14 := Lib.hid (P13.out.below hb); have P24 := Lib.hid (P23.out.below hb); have P34 := Lib.hid (P33.out.below hb); clear p hb hb0 B3 P13 P23 P33)
    | (go_at_call 24; refine (pc_mono (composed_any _) B4.out).mono ?_; rintro e w5 ⟨⟨A5, n5, c5, rfl, p⟩, hb, hb0⟩; have P55 := Lib.hid p; have B5 := Lib.hid hb0; have P15 := Lib.hid (P14.out.below hb); have P25 := Lib.hid (P24.out.below hb); have P35 := Lib.hid (P34.out.below hb); have P45 := Lib.hid (P44.out.below hb); clear p hb hb0 B4 P14 P24 P34 P44)
    | (go_at_call 25; refine (pc_mono (others_any _) B5.out).mono ?_; rintro e w6 ⟨⟨A6, n6, c6, rfl, p⟩, hb, hb0⟩; have P66 := Lib.hid p; have B6 := Lib.hid hb0; have P16 := Lib.hid (P15.out.below hb); have P26 := Lib.hid (P25.out.below hb); have P36 := Lib.hid (P35.out.below hb); have P46 := Lib.hid (P45.out.below hb); have P56 := Lib.hid (P55.out.below hb); clear p hb hb0 B5 P15 P25 P35 P45 P55)
    | (go_at_call 19; have hc := raw_concat P16.out P26.out P36.out P46.out P56.out P66.out B6.out; refine hc.mono ?_; rintro e w8 ⟨v, rfl, h⟩; have HF := Lib.hid h; clear h hc))
  go_ret
  exact HF.out
end Go.Proofs.Ytaabdpfhpolcgaa
