/-
  THE CONTRACT of build.
-/
import Derived.Test.YtaabdpfhpolcgaaBTab
import Derived.Laws.Cover3
import Derived.Deep.RegionHeld3
import Derived.Deep.DrawnRows
namespace Go.Proofs.Ytaabdpfhpolcgaa
open Go.RowKit
set_option linter.unusedVariables false
set_option linter.unusedSimpArgs false
theorem take_snoc {L : List PE} {k : Nat} {e : PE} (h : L[k]? = some e) : L.take (k + 1) = L.take k ++ [e] := by rw [List.take_add_one, h]; rfl
theorem take_len {L : List PE} {k : Nat} (h : k ≤ L.length) : (L.take k).length = k := by rw [List.length_take]; omega
theorem place_take {L : List PE} (hs : Srt L) {k : Nat} {e : PE} (h : L[k]? = some e) : place (L.take k) e.1 = none := by
  refine place_none.2 fun f hf => ?_
  obtain ⟨i, hi, he⟩ := List.getElem_of_mem hf
  rw [List.getElem_take] at he
  rw [List.length_take] at hi
  have hk := (List.getElem?_eq_some_iff.1 h).1
  have := List.pairwise_iff_getElem.1 hs i k (by omega) hk (by omega)
  rw [he] at this
  have h2 : L[k] = e := (List.getElem?_eq_some_iff.1 h).2
  rw [h2] at this
  exact ord_ne this
theorem sg_i64 {s : List Int} (h : s.all T2.isSg = true) : I64 s := fun x hx => by
  have := sg_range (List.all_eq_true.1 h x hx)
  omega
theorem cell_alloc {w : World} {p : Addr} {u : Value} (h : w.cell? p = some u) (o : Obj) : (w.alloc o).cell? p = some u := by
  rw [World.cell?_of_block (w := w) (Below.heap_alloc _ _ _ (cell_lt h))]; exact h
theorem tbuild_is {w : World} {v : Value} {L : List PE} (hg : GoodT L) (h : R4.RdP w.heap.size w v (ones 0 L)) :
    Calls Try.prog 31 #[v] w fun e w' => (∃ p, e = .returned (.tuple #[.pointer (some ⟨p, 0, none⟩), .int .i64 0]) ∧ R4.TrieAt w' p (R4.rowsF 17412 (R4.findP (ones 0 L)))) ∧ Below w.heap.size w w' := by
  have hl := ones_len 0 L
  have hl2 := hg.len
  refine (R4.build_any h (by omega) (ones_wide hg)).mono fun e w' hp => ?_
  obtain ⟨hb, h1 | h1 | h1⟩ := hp
  · exact absurd (ones_may hg) h1.1
  · exact absurd (ones_uniq hg.srt 0) h1.2.1
  · obtain ⟨_, _, p, he, ht⟩ := h1
    exact ⟨⟨p, he, ht⟩, hb⟩
def BuildIs (F : Nat → Prop) (w : World) (L : List PE) (e : Ending) (w' : World) : Prop := ∃ p, e = .returned (.pointer (some ⟨p, 0, none⟩)) ∧ TabAt F w' p L ∧ Below w.heap.size w w'
attribute [local go_sem ↓] Go.wp_at_zero Go.wp_at_succ
set_option maxHeartbeats 4000000 in
set_option maxRecDepth 200000 in
theorem build_any {F : Nat → Prop} {w : World} {v : Value} {L : List PE} (h : RdT F w v L) (hg : GoodT L) :
    Calls Try.prog 12 #[v] w (BuildIs F w L) := by
  obtain ⟨A, c, rfl⟩ := h.form
  have HR := Lib.hid h
  have HG := Lib.hid hg
  have HS := Lib.hid (BuildSt.start w A L.length c)
  have hmm := @run_makeMap Try.prog
  have hlen : (L.length : Int) ≤ 500 := by have := hg.len; omega
  clear h hg
  go_enter Try.func12, Try.ntmps12
  go_wp2
  clear hmm
  obtain ⟨bt, hbt⟩ : ∃ b, w.heap.size + 1 + 1 = b := ⟨_, rfl⟩
  rw [hbt]
  have HBT : Hid (w.heap.size + 2 = bt) := by show _ = _; omega
  clear hbt
  go_loopw [4, 14] (fun u i wr => ∃ k : Nat, k ≤ L.length ∧ i = .int .i64 (k : Nat) ∧ Hid (BuildSt w (.slice A L.length c) u (L.take k) wr)) (fun _ i _ => L.length - (intOf i).toNat)
  case atStart => exact ⟨0, Nat.zero_le _, rfl, HS.out⟩
  case round =>
    clear HS
    obtain ⟨k, hk, rfl, HB⟩ := hrel
    by_cases hlt : k < L.length
    · obtain ⟨e, he⟩ : ∃ e, L[k]? = some e := ⟨_, List.getElem?_eq_getElem hlt⟩
      obtain ⟨g, o, vs, vl, rfl, c0, c1, hrs, hrl⟩ := (HR.out.below HB.out.bel (Nat.le_refl _)).at he
      obtain ⟨A1, d1, rfl⟩ := hrs.form
      obtain ⟨A2, d2, rfl⟩ := hrl.form
      have hkI : (k : Int) < (L.length : Int) := by omega
      have hgood := HG.out.seq e (List.mem_of_getElem? he)
      have HTK := Lib.hid (take_snoc he)
      have HPL := Lib.hid (place_take HG.out.srt he)
      have HTL := Lib.hid (take_len hk)
      have HI := Lib.hid (sg_i64 hgood.2.2)
      obtain ⟨n, hn⟩ : ∃ n, e.1.length = n := ⟨_, rfl⟩
      have hn1 : 1 ≤ n := by omega
      have hn3 : n ≤ 3 := by omega
      have HN := Lib.hid hn
      have HRS := Lib.hid hrs
      rw [hn] at c0
      have HB1 := Lib.hid (HB.out.more ((Below.refl _ wr).alloc (Nat.le_refl _) (.cells #[.slice A1 n d1, .slice A2 e.2.length d2] 40)))
      clear hn he hgood hrs hrl hlt
      by_cases n1 : n = 1
      · subst n1
        obtain ⟨x, hx⟩ : ∃ x, hd e.1 = x := ⟨_, rfl⟩
        obtain ⟨g1, o1, rfl, c2⟩ := HRS.out.at (hd_at (by have := HN.out; omega))
        rw [hx] at c2
        simp only [Nat.add_zero] at c2
        have c3 := cell_alloc c2 (.cells #[.slice (some ⟨g1, o1, none⟩) 1 d1, .slice A2 e.2.length d2] 40)
        have HX := Lib.hid hx
        have HY : Hid (((L.take k).length : Int) + 1 = (k : Int) + 1) := by show _ = _; rw [HTL.out]
        have HL : Hid ((L.take k).length ≤ 1000) := by show _ ≤ _; rw [HTL.out]; omega
        clear hx c2
        go_wp2_with (at_builtin; refine HB1.out.push HN.out HX.out HY.out HL.out rfl (.tmp 24) (.tmp 32) rfl 1 (b := wr.heap.size + 1) (by simp) rfl rfl ?_; intro v2 w2 h2; have H2 := Lib.hid h2; clear h2)
        go_roundw
        case rel => exact ⟨k + 1, by omega, by go_num, by rw [HTK.out]; exact H2.out⟩
        case measure => simp [intOf]; omega
      · by_cases n2 : n = 2
        · subst n2
          obtain ⟨x, y, hxy⟩ : ∃ x y, e.1 = [x, y] := by
            have := HN.out
            match h : e.1, this with
            | [x, y], _ => exact ⟨x, y, rfl⟩
          obtain ⟨g1, o1, rfl, c2⟩ := HRS.out.at (k := 0) (x := x) (by rw [hxy]; rfl)
          obtain ⟨g1', o1', e1, c3⟩ := HRS.out.at (k := 1) (x := y) (by rw [hxy]; rfl)
          cases e1
          simp only [Nat.add_zero] at c2
          obtain ⟨w5, hrun, hm5, hg5⟩ := (KMap.store kt2 (HB1.out.more ((Below.refl _ _).drew)).m2 (e := e) HN.out HI.out HPL.out (by rw [HTL.out]; omega))
          have hav : aval e.1 = .agg #[.int .i64 x, .int .i64 y] := by rw [hxy]; rfl
          rw [hav, HTL.out] at hrun
          have hat : ∀ W, (Instr.arrayAt 68 (.slice (some ⟨g1, o1, none⟩) 2 d1)).run Try.prog W = .ok (.pointer (some ⟨g1, o1, none⟩)) W := fun W => run_arrayAt W 68 _ 2 _ 2 d1 Try.underlying68 (Nat.le_refl _)
          have HS2 := Lib.hid ((HB1.out.more ((Below.refl _ _).drew)).map2 HN.out hg5 hm5)
          have c4 := cell_alloc c2 (.cells #[.slice (some ⟨g1, o1, none⟩) 2 d1, .slice A2 e.2.length d2] 40)
          have c5 := cell_alloc c3 (.cells #[.slice (some ⟨g1, o1, none⟩) 2 d1, .slice A2 e.2.length d2] 40)
          have c6 : (wr.alloc (.cells #[.slice (some ⟨g1, o1, none⟩) 2 d1, .slice A2 e.2.length d2] 40)).cell? ⟨wr.heap.size, 0, none⟩ = some (.slice (some ⟨g1, o1, none⟩) 2 d1) := by rw [World.cell?_alloc_mark]; rfl
          have c7 : (wr.alloc (.cells #[.slice (some ⟨g1, o1, none⟩) 2 d1, .slice A2 e.2.length d2] 40)).cell? ⟨bt, 2, none⟩ = some (.map (some w.heap.size)) := by rw [← HBT.out, cell_of_row _ _ 2 _ _ _ HB1.out.tab]; rfl
          have HK5 : Hid (w5.cell? ⟨bt, 2, none⟩ = some (.map (some w.heap.size)) ∧ w5.cell? ⟨wr.heap.size, 0, none⟩ = some (.slice (some ⟨g1, o1, none⟩) 2 d1) ∧ w5.cell? ⟨g1, o1, none⟩ = some (.int .i64 x) ∧ w5.cell? ⟨g1, o1 + 1, none⟩ = some (.int .i64 y)) := by
            obtain ⟨es, cc, hmap⟩ := HB1.out.m2.isMap
            have off : ∀ {b o : Nat} {u : Value}, (wr.alloc (.cells #[.slice (some ⟨g1, o1, none⟩) 2 d1, .slice A2 e.2.length d2] 40)).cell? ⟨b, o, none⟩ = some u → w5.cell? ⟨b, o, none⟩ = some u := fun {b o u} hc => by
              refine hg5.cell (a := ⟨b, o, none⟩) hc ?_
              intro e0
              injection e0 with e0
              simp only at e0
              subst e0
              unfold World.cell? at hc
              simp only [hmap] at hc
              cases hc
            exact ⟨off c7, off c6, off c4, off c5⟩
          clear hxy c2 c3 hm5 hg5 hav
          go_wp2
          go_region_held3 (fun w' => w'.cell? ⟨bt, 2, none⟩ = some (.map (some w.heap.size)) ∧ w'.cell? ⟨wr.heap.size, 0, none⟩ = some (.slice (some ⟨g1, o1, none⟩) 2 d1) ∧ w'.cell? ⟨g1, o1, none⟩ = some (.int .i64 x) ∧ w'.cell? ⟨g1, o1 + 1, none⟩ = some (.int .i64 y))
            (first
              | exact ⟨c7, c6, c4, c5⟩
              | exact HK5.out)
            (fail)
          go_wp2
          go_roundw
          case rel => exact ⟨k + 1, by omega, by go_num, by rw [HTK.out]; exact HS2.out⟩
          case measure => simp [intOf]; omega
        · obtain rfl : n = 3 := by omega
          obtain ⟨x, y, z, hxy⟩ : ∃ x y z, e.1 = [x, y, z] := by
            have := HN.out
            match h : e.1, this with
            | [x, y, z], _ => exact ⟨x, y, z, rfl⟩
          obtain ⟨g1, o1, rfl, c2⟩ := HRS.out.at (k := 0) (x := x) (by rw [hxy]; rfl)
          obtain ⟨g1', o1', e1, c3⟩ := HRS.out.at (k := 1) (x := y) (by rw [hxy]; rfl)
          cases e1
          obtain ⟨g1', o1', e1, c8⟩ := HRS.out.at (k := 2) (x := z) (by rw [hxy]; rfl)
          cases e1
          simp only [Nat.add_zero] at c2
          obtain ⟨w5, hrun, hm5, hg5⟩ := (KMap.store kt3 (HB1.out.more ((Below.refl _ _).drew)).m3 (e := e) HN.out HI.out HPL.out (by rw [HTL.out]; omega))
          have hav : aval e.1 = .agg #[.int .i64 x, .int .i64 y, .int .i64 z] := by rw [hxy]; rfl
          rw [hav, HTL.out] at hrun
          have hat : ∀ W, (Instr.arrayAt 69 (.slice (some ⟨g1, o1, none⟩) 3 d1)).run Try.prog W = .ok (.pointer (some ⟨g1, o1, none⟩)) W := fun W => run_arrayAt W 69 _ 3 _ 3 d1 Try.underlying69 (Nat.le_refl _)
          have HS2 := Lib.hid ((HB1.out.more ((Below.refl _ _).drew)).map3 HN.out hg5 hm5)
          have c4 := cell_alloc c2 (.cells #[.slice (some ⟨g1, o1, none⟩) 3 d1, .slice A2 e.2.length d2] 40)
          have c5 := cell_alloc c3 (.cells #[.slice (some ⟨g1, o1, none⟩) 3 d1, .slice A2 e.2.length d2] 40)
          have c9 := cell_alloc c8 (.cells #[.slice (some ⟨g1, o1, none⟩) 3 d1, .slice A2 e.2.length d2] 40)
          have c6 : (wr.alloc (.cells #[.slice (some ⟨g1, o1, none⟩) 3 d1, .slice A2 e.2.length d2] 40)).cell? ⟨wr.heap.size, 0, none⟩ = some (.slice (some ⟨g1, o1, none⟩) 3 d1) := by rw [World.cell?_alloc_mark]; rfl
          have c7 : (wr.alloc (.cells #[.slice (some ⟨g1, o1, none⟩) 3 d1, .slice A2 e.2.length d2] 40)).cell? ⟨bt, 3, none⟩ = some (.map (some (w.heap.size + 1))) := by rw [← HBT.out, cell_of_row _ _ 3 _ _ _ HB1.out.tab]; rfl
          have HK5 : Hid (w5.cell? ⟨bt, 3, none⟩ = some (.map (some (w.heap.size + 1))) ∧ w5.cell? ⟨wr.heap.size, 0, none⟩ = some (.slice (some ⟨g1, o1, none⟩) 3 d1) ∧ w5.cell? ⟨g1, o1, none⟩ = some (.int .i64 x) ∧ w5.cell? ⟨g1, o1 + 1, none⟩ = some (.int .i64 y) ∧ w5.cell? ⟨g1, o1 + 2, none⟩ = some (.int .i64 z)) := by
            obtain ⟨es, cc, hmap⟩ := HB1.out.m3.isMap
            have off : ∀ {b o : Nat} {u : Value}, (wr.alloc (.cells #[.slice (some ⟨g1, o1, none⟩) 3 d1, .slice A2 e.2.length d2] 40)).cell? ⟨b, o, none⟩ = some u → w5.cell? ⟨b, o, none⟩ = some u := fun {b o u} hc => by
              refine hg5.cell (a := ⟨b, o, none⟩) hc ?_
              intro e0
              injection e0 with e0
              simp only at e0
              subst e0
              unfold World.cell? at hc
              simp only [hmap] at hc
              cases hc
            exact ⟨off c7, off c6, off c4, off c5, off c9⟩
          clear hxy c2 c3 c8 hm5 hg5 hav
          go_wp2
          go_region_held3 (fun w' => w'.cell? ⟨bt, 3, none⟩ = some (.map (some (w.heap.size + 1))) ∧ w'.cell? ⟨wr.heap.size, 0, none⟩ = some (.slice (some ⟨g1, o1, none⟩) 3 d1) ∧ w'.cell? ⟨g1, o1, none⟩ = some (.int .i64 x) ∧ w'.cell? ⟨g1, o1 + 1, none⟩ = some (.int .i64 y) ∧ w'.cell? ⟨g1, o1 + 2, none⟩ = some (.int .i64 z))
            (first
              | exact ⟨c7, c6, c4, c5, c9⟩
              | exact HK5.out)
            (fail)
          go_wp2
          go_roundw
          case rel => exact ⟨k + 1, by omega, by go_num, by rw [HTK.out]; exact HS2.out⟩
          case measure => simp [intOf]; omega
    · obtain rfl : k = L.length := by omega
      rw [List.take_length] at HB
      have HC := Lib.hid (tbuild_is HG.out (R4.OwnP.rd HB.out.own))
      clear hlt
      go_wp2_with (go_at_call 31; refine (HC.out).mono ?_; rintro e w6 ⟨⟨p, rfl, ht⟩, hb⟩; have HT := Lib.hid ht; have H6 := Lib.hid (HB.out.more hb); have d1 : w6.cell? ⟨bt, 1, none⟩ = some (.pointer none) := (by rw [← HBT.out, cell_of_row _ _ 1 _ _ _ H6.out.tab]; rfl); have d2 : w6.frozen? ⟨bt, 1, none⟩ = false := (by rw [← HBT.out]; exact frozen_of_row _ _ 1 _ _ H6.out.tab); clear ht hb)
      go_ret
      have hg6 := R4.grown_setCell w6 ⟨bt, 1, none⟩ (.pointer (some ⟨p, 0, none⟩))
      have htab := H6.out.tab
      rw [HBT.out] at htab
      have hbl : Below w.heap.size w (w6.setCell ⟨bt, 1, none⟩ (.pointer (some ⟨p, 0, none⟩))) := H6.out.bel.setCell (by show _ ≤ bt; have := HBT.out; omega) _
      refine ⟨bt, rfl, ⟨HG.out, _, p, w.heap.size, w.heap.size + 1, heap_setCell_same w6 bt 1 _ _ _ htab, HR.out.below hbl (Nat.le_refl _), trie_off HT.out hg6 htab (by decide) (by decide) (by decide), H6.out.m2.kept hg6 ?_, H6.out.m3.kept hg6 ?_⟩, hbl⟩
      · intro e; injection e with e; have := HBT.out; simp only at e; omega
      · intro e; injection e with e; have := HBT.out; simp only at e; omega
end Go.Proofs.Ytaabdpfhpolcgaa
