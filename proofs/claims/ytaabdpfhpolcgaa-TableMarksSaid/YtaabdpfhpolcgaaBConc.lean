/-
  THE CONTRACTS of slices.Grow (nothing grown), of slices.Concat, of rootEntries.
-/
import Derived.Test.YtaabdpfhpolcgaaBOth
import Derived.Lib.AppendZeros
namespace Go.Proofs.Ytaabdpfhpolcgaa
open Go.RowKit
set_option linter.unusedVariables false
set_option linter.unusedSimpArgs false
theorem grow_any (n : Nat) (h0 : 0 < n) (hn : n ≤ 1000) (w : World) :
    Calls Try.prog 42 #[.slice none 0 0, .int .i64 (n : Int)] w fun e w' => (∃ A c, e = .returned (.slice A 0 c) ∧ OwnM w.heap.size w' (.slice A 0 c) []) ∧ Below w.heap.size w w' := by
  obtain ⟨i0, hi0, hz0, hz1, hz2⟩ := info_parts entry_info
  have hrun : ∀ ty, (Builtin.append_ #[36, 3] ty #[.slice none 0 0, .int .i64 (n : Int)]).run Try.prog w = _ := fun ty =>
    Lib.run_append_nil_zeros w 36 3 ty 40 i0 _ .i64 .i64 Try.underlying36 Try.underlying3 hi0 hz0 n h0 (by omega) (by omega) (by rw [hz2]; omega)
  obtain ⟨G, hG⟩ : ∃ G, grownCap w n 0 40 = G := ⟨_, rfl⟩
  have hge := grownCap_ge w n 0 40
  have hle := grownCap_le_maxLen w n 0 40 (by simp only [maxLen]; omega)
  rw [hG] at hrun hge hle
  obtain ⟨CS, hCS⟩ : ∃ CS, Builtin.zeroCells (Value.agg #[.slice none 0 0, .slice none 0 0]).cells n ++ Builtin.zeroCells (Value.agg #[.slice none 0 0, .slice none 0 0]).cells (G - n) = CS := ⟨_, rfl⟩
  have hsz : CS.size = G * 2 := by
    rw [← hCS, Array.size_append, size_zeroCells, size_zeroCells]
    have : (Value.agg #[.slice none 0 0, .slice none 0 0]).cells.size = 2 := rfl
    rw [this]; omega
  rw [hCS] at hrun
  have HR := Lib.hid hrun
  have HO := Lib.hid (World.ownsRow_made (base := w.heap.size) (e := 40) (size := 2) w.drew CS G (Nat.le_refl _) hle hsz)
  have hGI : (0 : Int) ≤ (G : Int) := by omega
  have hnI : (n : Int) ≤ 1000 := by omega
  have hnp : (0 : Int) < (n : Int) := by omega
  clear hrun hge hG hCS hsz hi0 hz0 hz1 hz2
  go_enter Try.func42, Try.ntmps42
  go_wp2_with (at_builtin; refine Lib.wpList_append_run _ rfl _ _ _ _ rfl _ _ rfl rfl _ _ (HR.out _) ?_)
  go_ret
  exact ⟨⟨_, _, rfl, HO.out⟩, ((Below.refl _ w).drew).alloc (Nat.le_refl _) _⟩
/-- append of a slice of entries that lies anywhere. -/
theorem appendM {ops : Array Oper} {rest : List Oper} {o : Oper} {a : Act} {Q : Exit → Act → World → Prop} (hgd : o.guard = none) (s x : Operand)
    (ho : o.op = .call { callee := .builtin .append, args := #[s, x], argTypes := #[36, 36] })
    (w : World) (B : Nat) (v : Value) (M N : List ME) (ad : Addr) (C : Nat) (hs : a.eval s = v) (hown : OwnM B w v M) (hx : a.eval x = .slice (some ad) N.length C)
    (hsrc : ∀ j u, (mcells N)[j]? = some u → w.cell? (ad.add j) = some u) (hone : ∀ u ∈ mcells N, u.oneCell' = true) (hB : B ≤ w.heap.size) (hl : M.length + N.length ≤ 1000000)
    (h : ∀ v' w', OwnM B w' v' (M ++ N) → Below B w w' → wpList Try.prog ops Q rest (a.put o.dst v') w') : wpList Try.prog ops Q (o :: rest) a w := by
  obtain ⟨i0, hi0, hz0, hz1, hz2⟩ := info_parts entry_info
  refine wpList_append_own_at _ hgd s x _ ho B 40 i0 _ 2 48 Try.underlying36 hi0 hz0 hz1 hz2 rfl (by omega) v M.length (mcells M) hs hown ad N.length C (mcells N) hx (by rw [mcells_len])
    hsrc hone (by simp only [maxLen]; omega) (by omega) hB ?_
  intro v' w' h2 h3 _ _
  refine h v' w' ?_ ((Below.refl B w).grown h3 hB (fun k hk => (World.ownsRow.lt hown k hk).1))
  unfold OwnM; rw [mcells_app, List.length_append]; exact h2
theorem flat_take {Ms : List (List ME)} {k : Nat} {M : List ME} (h : Ms[k]? = some M) : (Ms.take (k + 1)).flatten = (Ms.take k).flatten ++ M := by
  rw [List.take_add_one, h]; simp
theorem flat_le (Ms : List (List ME)) (k : Nat) : (Ms.take k).flatten.length ≤ Ms.flatten.length := by
  have h := congrArg List.flatten (List.take_append_drop k Ms)
  rw [List.flatten_append] at h
  have := congrArg List.length h
  rw [List.length_append] at this
  omega
set_option maxRecDepth 100000 in
theorem concat_any {F : Nat → Prop} {w : World} {g n : Nat} {Ms : List (List ME)} {vs : List Value} (hn : Ms.length = n) (hv : vs.length = n) (h6 : 0 < n ∧ n ≤ 100) (hc : ∀ k v, vs[k]? = some v → w.cell? ⟨g, k, none⟩ = some v)
    (hr : ∀ (k : Nat) v M, vs[k]? = some v → Ms[k]? = some M → RdM F w v M ∧ 0 < M.length) (hN : Ms.flatten.length ≤ 1000) :
    Calls Try.prog 19 #[.slice (some ⟨g, 0, none⟩) n n] w fun e w' => (∃ v, e = .returned v ∧ OwnM w.heap.size w' v Ms.flatten) ∧ Below w.heap.size w w' := by
  have hg : g < w.heap.size := by
    obtain ⟨v, hv0⟩ : ∃ v, vs[0]? = some v := ⟨_, List.getElem?_eq_getElem (by omega)⟩
    exact cell_lt (hc 0 v hv0)
  have hpos : 0 < Ms.flatten.length := by
    obtain ⟨v, hv0⟩ : ∃ v, vs[0]? = some v := ⟨_, List.getElem?_eq_getElem (by omega)⟩
    obtain ⟨M, hM0⟩ : ∃ M, Ms[0]? = some M := ⟨_, List.getElem?_eq_getElem (by omega)⟩
    have h1 := (hr 0 v M hv0 hM0).2
    have h2 := flat_le Ms 1
    have h3 := flat_take hM0
    rw [h3, List.length_append] at h2
    omega
  have HC := Lib.hid hc
  have HR := Lib.hid hr
  have HFL := Lib.hid (fun k => flat_le Ms k)
  have HFT := Lib.hid (fun k M => @flat_take Ms k M)
  obtain ⟨T, hT⟩ : ∃ T, Ms.flatten.length = T := ⟨_, rfl⟩
  have HT := Lib.hid hT
  rw [hT] at hN hpos
  have HEnd : Hid ((Ms.take n).flatten = Ms.flatten) := by show _ = _; rw [← hn, List.take_length]
  have hnI : (n : Int) ≤ 100 := by omega
  have HV := Lib.hid hv
  have HMn := Lib.hid hn
  clear hc hr hT hv hn
  go_enter Try.func19, Try.ntmps19
  go_wp2
  go_loop [3, 11] (fun t i => ∃ k : Nat, k ≤ n ∧ i = .int .i64 (k : Nat) ∧ t = .int .i64 ((Ms.take k).flatten.length : Nat)) (fun _ i => n - (intOf i).toNat)
  case atStart => exact ⟨0, Nat.zero_le _, rfl, rfl⟩
  case round =>
    obtain ⟨k, hk, rfl, rfl⟩ := hrel
    by_cases hlt : k < n
    · obtain ⟨v, hv0⟩ : ∃ v, vs[k]? = some v := ⟨_, List.getElem?_eq_getElem (by have := HV.out; omega)⟩
      obtain ⟨M, hM0⟩ : ∃ M, Ms[k]? = some M := ⟨_, List.getElem?_eq_getElem (by have := HMn.out; omega)⟩
      have c0 := HC.out k v hv0
      obtain ⟨A, c, rfl⟩ := (HR.out k v M hv0 hM0).1.form
      have hft := HFT.out k M hM0
      have hfl := HFL.out (k + 1)
      rw [hft, List.length_append, HT.out] at hfl
      have HS : Hid (((Ms.take (k + 1)).flatten.length : Int) = ((Ms.take k).flatten.length : Int) + (M.length : Int)) := by show _ = _; rw [hft, List.length_append]; omega
      have hkI : (k : Int) < (n : Int) := by omega
      obtain ⟨z, hz⟩ : ∃ z, (Ms.take k).flatten.length = z := ⟨_, rfl⟩
      rw [hz] at HS hfl ⊢
      have hzI : (z : Int) + (M.length : Int) ≤ 1000 := by omega
      have hz0 : (0 : Int) ≤ (z : Int) + (M.length : Int) := by omega
      have hz2 : ¬ ((z : Int) + (M.length : Int) < 0) := by omega
      clear hv0 hM0 hft hfl hz hlt
      go_wp2
      go_round
      case rel => exact ⟨k + 1, by omega, by go_num, by rw [HS.out]⟩
      case measure => simp [intOf]; omega
    · obtain rfl : k = n := by omega
      rw [HEnd.out, HT.out]
      go_wp2_with (go_at_call 42; refine (grow_any T hpos hN _).mono ?_; rintro e w1 ⟨⟨A, c, rfl, ho⟩, hb⟩; have HO1 := Lib.hid ho; have HB1 := Lib.hid hb; clear ho hb)
      go_loopw [6, 27] (fun v i wr => ∃ j : Nat, j ≤ k ∧ i = .int .i64 (j : Nat) ∧ Hid (OwnM w.heap.size wr v (Ms.take j).flatten) ∧ Hid (Below w.heap.size w wr)) (fun _ i _ => k - (intOf i).toNat)
      case atStart => exact ⟨0, Nat.zero_le _, rfl, HO1.out, HB1.out⟩
      case round =>
        clear HO1 HB1
        obtain ⟨j, hj, rfl, HO, HB⟩ := hrel
        by_cases hlt2 : j < k
        · obtain ⟨v, hv0⟩ : ∃ v, vs[j]? = some v := ⟨_, List.getElem?_eq_getElem (by have := HV.out; omega)⟩
          obtain ⟨M, hM0⟩ : ∃ M, Ms[j]? = some M := ⟨_, List.getElem?_eq_getElem (by have := HMn.out; omega)⟩
          have c0 := (HB.out.cell (p := ⟨g, j, none⟩) hg).trans (HC.out j v hv0)
          obtain ⟨hrd, hp0⟩ := HR.out j v M hv0 hM0
          obtain ⟨A, c, rfl⟩ := hrd.form
          have hrd2 := hrd.below HB.out (Nat.le_refl _)
          have hone := mcells_one hrd2.2
          obtain ⟨g2, o2, rfl, -, hcell⟩ := hrd2.1.base hp0
          have HSRC : Hid (∀ i u, (mcells M)[i]? = some u → wr.cell? ((⟨g2, o2, none⟩ : Addr).add i) = some u) := fun i u hu => by rw [Addr.add_lit]; exact hcell i u hu
          have HONE := Lib.hid hone
          have hfl := HFL.out (j + 1)
          have HFT2 := Lib.hid (HFT.out j M hM0)
          have HL : Hid ((Ms.take j).flatten.length + M.length ≤ 1000000) := by
            have h1 := HFL.out (j + 1)
            rw [HFT2.out, List.length_append, HT.out] at h1
            show _ ≤ _; omega
          have hjI : (j : Int) < (k : Int) := by omega
          clear hv0 hM0 hrd hrd2 hone hcell hfl hp0 hlt2
          go_wp2_with (at_builtin; refine appendM rfl (.tmp 31) (.tmp 32) rfl _ w.heap.size _ _ M ⟨g2, o2, none⟩ c rfl HO.out rfl HSRC.out HONE.out HB.out.size HL.out ?_; intro v2 w2 ho2 hb2; have HO2 := Lib.hid ho2; have HB2 := Lib.hid (HB.out.trans hb2); clear ho2 hb2)
          go_roundw
          case rel => exact ⟨j + 1, by omega, by go_num, by rw [HFT2.out]; exact HO2.out, HB2.out⟩
          case measure => simp [intOf]; omega
        · obtain rfl : j = k := by omega
          rw [HEnd.out] at HO
          go_wp2
          go_ret
          exact ⟨⟨_, rfl, HO.out⟩, HB.out⟩
end Go.Proofs.Ytaabdpfhpolcgaa
