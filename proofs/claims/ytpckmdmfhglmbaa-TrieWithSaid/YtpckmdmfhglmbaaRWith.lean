/-
  THE CONTRACT of With.
-/
import Derived.Test.YtpckmdmfhglmbaaRTake
namespace Go.Proofs.Ytpckmdmfhglmbaa
open Go.RowKit
set_option linter.unusedVariables false
set_option linter.unusedSimpArgs false
theorem grown_setCells (b : Nat) : ∀ (vs : List Value) (o : Nat) (w : World), w.grownBy (w.setCells b o vs) (some b)
  | [], o, w => ⟨rfl, rfl, rfl, Nat.le_refl _, fun _ _ _ => rfl⟩
  | v :: t, o, w => by
    rw [World.setCells]
    exact (grown_setCell w ⟨b, o, none⟩ v).trans (grown_setCells b t (o + 1) _)
theorem range_setCell {w : World} {b j : Nat} {cs : List Value} {u : Value} (h : w.rangeAt b 0 cs) (hj : j < cs.length) : (w.setCell ⟨b, j, none⟩ u).rangeAt b 0 (cs.set j u) := fun k v hk => by
  rw [List.getElem?_set] at hk
  rw [Nat.zero_add]
  by_cases e : j = k
  · subst e
    rw [if_pos rfl, if_pos hj] at hk
    have h1 := h j _ (List.getElem?_eq_getElem hj)
    rw [Nat.zero_add] at h1
    rw [World.cell?_setCell_same _ _ _ h1]
    exact hk
  · rw [if_neg e] at hk
    rw [World.cell?_setCell_other _ _ _ _ (by intro h; cases h; exact e rfl)]
    have h1 := h k v hk
    rw [Nat.zero_add] at h1
    exact h1
theorem there_new (w : World) (cs : Array Value) (t : TypeId) : (w.alloc (.cells cs t)).there w.heap.size 0 cs.size := fun j hj => by
  have hb := heap_alloc_new w (.cells cs t)
  rw [Nat.zero_add]
  exact ⟨by rw [cell_of_row _ _ j _ _ _ hb, Array.getElem?_eq_getElem hj]; rfl, frozen_of_row _ _ j _ _ hb⟩
/-- The block i of r with the number at place j made v. -/
def setR (r : List (List Int)) (i j : Nat) (v : Int) : List (List Int) := r.set i ((r.getD i []).set j v)
theorem setR_parts {r : List (List Int)} {i j : Nat} {x : List Int} {v : Int} (hi : r[i]? = some x) : tookR [] r i ++ List.replicate 1 (x.set j v) = (setR r i j v).take (i + 1) := by
  have hil := (List.getElem?_eq_some_iff.1 hi).1
  unfold tookR setR
  rw [List.getD_eq_getElem?_getD, hi, Option.getD_some, List.take_add_one, List.getElem?_set, if_pos rfl, if_pos hil, List.nil_append, List.length_nil, List.drop_zero, List.take_set]
  congr 1
  rw [List.set_eq_of_length_le (by rw [List.length_take]; omega)]
theorem setR_rest {r : List (List Int)} {i j : Nat} {v : Int} (hi : i < r.length) : tookR ((setR r i j v).take (i + 1)) r r.length = setR r i j v := by
  have hl : (setR r i j v).length = r.length := by unfold setR; simp
  unfold tookR
  rw [List.take_length, List.length_take, hl, Nat.min_eq_left (by omega)]
  have : r.drop (i + 1) = (setR r i j v).drop (i + 1) := by
    unfold setR
    rw [List.drop_set_of_lt (by omega)]
  rw [this, List.take_append_drop]
theorem setR_good {r : List (List Int)} (h : ∀ x ∈ r, GoodR x) {i j : Nat} {v : Int} (hv : -2147483648 ≤ v ∧ v ≤ 2147483647) (hi : i < r.length) : ∀ x ∈ setR r i j v, GoodR x := by
  intro x hx
  unfold setR at hx
  rcases List.mem_or_eq_of_mem_set hx with h1 | h1
  · exact h x h1
  · rw [h1, List.getD_eq_getElem?_getD, List.getElem?_eq_getElem hi, Option.getD_some]
    have hg := h _ (List.getElem_mem hi)
    exact ⟨by rw [List.length_set]; exact hg.1, fun u hu => by
      rcases List.mem_or_eq_of_mem_set hu with h2 | h2
      · exact hg.2 u h2
      · rw [h2]; exact hv⟩
def updF (f : Int → Int) (c v : Int) : Int → Int := fun x => if x = c then v else f x
theorem setR_rows {f : Int → Int} {i j : Nat} {v : Int} (hi : i < 17412) (hj : j < 64) : setR (rowsF 17412 f) i j v = rowsF 17412 (updF f ((64 * i + j : Nat) : Int) v) := by
  apply List.ext_getElem?
  intro k
  unfold setR
  rw [List.getElem?_set, rowsF_len, List.getD_eq_getElem?_getD, rowsF_get _ _ _ hi, Option.getD_some]
  by_cases hk : k < 17412
  · rw [rowsF_get _ _ _ hk, rowsF_get _ _ _ hk]
    by_cases e : i = k
    · subst e
      rw [if_pos rfl, if_pos hi]
      congr 1
      apply List.ext_getElem?
      intro q
      rw [List.getElem?_set, rowF_len]
      by_cases hq : q < 64
      · rw [rowF_get _ _ _ hq, rowF_get _ _ _ hq]
        unfold updF
        by_cases e2 : j = q
        · subst e2; rw [if_pos rfl, if_pos hj, if_pos rfl]
        · rw [if_neg e2, if_neg (by omega)]
      · rw [if_neg (by omega), List.getElem?_eq_none (by rw [rowF_len]; omega), List.getElem?_eq_none (by rw [rowF_len]; omega)]
    · rw [if_neg e]
      congr 1
      refine rowF_congr fun q hq => ?_
      unfold updF
      rw [if_neg (by omega)]
  · rw [if_neg (by omega), List.getElem?_eq_none (by rw [rowsF_len]; omega), List.getElem?_eq_none (by rw [rowsF_len]; omega)]
theorem with_bad {w : World} {p : Value} {c v : Int} (hv : -9223372036854775808 ≤ v ∧ v ≤ 9223372036854775807) (hn : fitB c v = false) :
    Calls Try.prog 14 #[p, .int .i64 c, .int .i64 v] w fun e w' => e = .returned (.tuple #[.pointer none, .int .i64 1]) ∧ w = w' := by
  have CF := Lib.hid (fun w => fits_is hn hv w)
  clear hn hv
  go_enter Try.func14, Try.ntmps14
  go_wp2_with (go_at_call 15; refine (CF.out _).mono ?_; rintro e w' ⟨rfl, rfl⟩)
  go_ret2
  exact ⟨rfl, rfl⟩
theorem take_is {B : Nat} {w : World} {bp p : Nat} {r rt R : List (List Int)} {z : Int} (h : Bld B w bp r) (ht : Stood B w p rt) (e : Nat) (h1 : r.length ≤ e) (h2 : e ≤ 17412) (hz : (e : Int) = z) (hR : tookR r rt e = R) :
    Calls Try.prog 23 #[.pointer (some ⟨bp, 0, none⟩), .pointer (some ⟨p, 0, none⟩), .int .i64 z] w fun q w' => q = .returned (.tuple #[]) ∧ Bld B w' bp R ∧ Below B w w' := by
  rw [← hz, ← hR]; exact take_any h ht e h1 h2
set_option maxHeartbeats 1000000 in
set_option maxRecDepth 100000 in
theorem with_any {w : World} {p : Nat} {r : List (List Int)} (h : TrieAt w p r) {c v : Int} {i j : Nat} (hc : c = ((64 * i + j : Nat) : Int)) (hi : i < 17412) (hj : j < 64) (hv : -2147483648 ≤ v ∧ v ≤ 2147483647) :
    Calls Try.prog 14 #[.pointer (some ⟨p, 0, none⟩), .int .i64 c, .int .i64 v] w fun e w' => ∃ p', e = .returned (.tuple #[.pointer (some ⟨p', 0, none⟩), .int .i64 0]) ∧ TrieAt w' p' (setR r i j v) ∧ Below w.heap.size w w' := by
  have hf : fitB c v = true := (fitB_iff c v).2 ⟨by simp only []; omega, by simp only []; omega, hv.1, hv.2⟩
  have CF := Lib.hid (fun w => fits_is hf (by omega) w)
  have hil : i < r.length := by rw [h.len]; exact hi
  obtain ⟨x, hx⟩ : ∃ x, r[i]? = some x := ⟨_, List.getElem?_eq_getElem hil⟩
  have HS := Lib.hid (Stood.mk' h)
  have HX := Lib.hid hx
  obtain ⟨R0, hR0⟩ := ex_eq (tookR [] r i)
  obtain ⟨R1, hR1⟩ := ex_eq ((setR r i j v).take (i + 1))
  obtain ⟨R2, hR2⟩ := ex_eq (setR r i j v)
  have hp2 := setR_parts (j := j) (v := v) hx
  have hp3 := setR_rest (j := j) (v := v) hil
  have hgs := setR_good (j := j) h.good hv hil
  have hl1 : R1.length = i + 1 := by rw [← hR1, List.length_take]; unfold setR; rw [List.length_set]; omega
  have hl2 : R2.length = 17412 := by rw [← hR2]; unfold setR; rw [List.length_set]; exact h.len
  have hl0 : R0.length = i := by rw [← hR0]; exact tookR_len (Nat.zero_le _) (by omega)
  rw [hR0, hR1] at hp2
  rw [hR1, hR2, h.len] at hp3
  rw [hR2] at hgs ⊢
  have HP1 := Lib.hid hR0
  have HP2 := Lib.hid hp2
  have HP3 := Lib.hid hp3
  have HGS := Lib.hid hgs
  have HL0 := Lib.hid hl0
  have HL1 := Lib.hid hl1
  have HL2 := Lib.hid hl2
  have hxg := h.good x (List.mem_of_getElem? hx)
  have HGX : Hid (GoodR (x.set j v)) := by
    refine ⟨by rw [List.length_set]; exact hxg.1, fun u hu => ?_⟩
    rcases List.mem_or_eq_of_mem_set hu with h2 | h2
    · exact hxg.2 u h2
    · rw [h2]; exact hv
  have HXL := Lib.hid hxg.1
  have HRL := Lib.hid h.len
  obtain ⟨v1, v2⟩ := hv
  have q1 : c / 64 = (i : Int) := by omega
  have q2 : c % 64 = (j : Int) := by omega
  have q3 : (0 : Int) ≤ c := by omega
  have q4 : c ≤ 1114367 := by omega
  have q1' : c.tdiv 64 = (i : Int) := by rw [Int.tdiv_eq_ediv_of_nonneg q3]; exact q1
  have q5 : (i : Int) < 17412 := by omega
  have q6 : (0 : Int) ≤ (i : Int) := by omega
  have q7 : (j : Int) < 64 := by omega
  have q8 : (0 : Int) ≤ (j : Int) := by omega
  clear hf hil hx hxg hc h hR0 hR1 hR2 hp2 hp3 hgs hl0 hl1 hl2
  go_enter Try.func14, Try.ntmps14
  go_wp2_with (first
    | (go_at_call 15; refine (CF.out _).mono ?_; rintro e w' ⟨rfl, rfl⟩)
    | (go_at_call 22; refine (new_any _).mono ?_; rintro e w1 ⟨bp, rfl, hb1, hw1⟩)
    | (go_at_call 23; (with_reducible refine (take_is hb1 (HS.out.below hw1) i (by simp) (by omega) (by omega) HP1.out).mono ?_); rintro e w2 ⟨rfl, hb2, hw2⟩))
  have hst2 := (HS.out.below hw1).below hw2
  obtain ⟨gi, ci, gk, ck, mm, c0, c1, hmm, hrows⟩ := hst2.trie.rows
  obtain ⟨b, hb, c2, hrg, -⟩ := hrows i x HX.out
  obtain ⟨cs, hcs⟩ : ∃ cs, cellsB x = cs := ⟨_, rfl⟩
  rw [hcs] at hrg
  have hcl : cs.length = 64 := by rw [← hcs, cellsB_len]; exact HXL.out
  have hin : (Try.prog.info? 48).map (·.size) = some cs.length := by rw [hcl]; exact infoBlk
  have hu : Try.prog.underlying 48 = some (.array 64 21) := underBlk
  have hone : ∀ u ∈ cs, u.oneCell' = true := by rw [← hcs]; exact cellsB_one x
  have b0 : (0 : Int) ≤ (b : Int) := by omega
  have b1 : (b : Int) < (mm : Int) := by omega
  -- the world with the new block
  obtain ⟨xb, hxb⟩ : ∃ xb, w2.heap.size = xb := ⟨_, rfl⟩
  have g1 := World.grownBy_alloc w2 (.cells #[.int .i32 0, .int .i32 0, .int .i32 0, .int .i32 0, .int .i32 0, .int .i32 0, .int .i32 0, .int .i32 0, .int .i32 0, .int .i32 0, .int .i32 0, .int .i32 0, .int .i32 0, .int .i32 0, .int .i32 0, .int .i32 0, .int .i32 0, .int .i32 0, .int .i32 0, .int .i32 0, .int .i32 0, .int .i32 0, .int .i32 0, .int .i32 0, .int .i32 0, .int .i32 0, .int .i32 0, .int .i32 0, .int .i32 0, .int .i32 0, .int .i32 0, .int .i32 0, .int .i32 0, .int .i32 0, .int .i32 0, .int .i32 0, .int .i32 0, .int .i32 0, .int .i32 0, .int .i32 0, .int .i32 0, .int .i32 0, .int .i32 0, .int .i32 0, .int .i32 0, .int .i32 0, .int .i32 0, .int .i32 0, .int .i32 0, .int .i32 0, .int .i32 0, .int .i32 0, .int .i32 0, .int .i32 0, .int .i32 0, .int .i32 0, .int .i32 0, .int .i32 0, .int .i32 0, .int .i32 0, .int .i32 0, .int .i32 0, .int .i32 0, .int .i32 0] 48) none
  have T3 := there_new w2 #[.int .i32 0, .int .i32 0, .int .i32 0, .int .i32 0, .int .i32 0, .int .i32 0, .int .i32 0, .int .i32 0, .int .i32 0, .int .i32 0, .int .i32 0, .int .i32 0, .int .i32 0, .int .i32 0, .int .i32 0, .int .i32 0, .int .i32 0, .int .i32 0, .int .i32 0, .int .i32 0, .int .i32 0, .int .i32 0, .int .i32 0, .int .i32 0, .int .i32 0, .int .i32 0, .int .i32 0, .int .i32 0, .int .i32 0, .int .i32 0, .int .i32 0, .int .i32 0, .int .i32 0, .int .i32 0, .int .i32 0, .int .i32 0, .int .i32 0, .int .i32 0, .int .i32 0, .int .i32 0, .int .i32 0, .int .i32 0, .int .i32 0, .int .i32 0, .int .i32 0, .int .i32 0, .int .i32 0, .int .i32 0, .int .i32 0, .int .i32 0, .int .i32 0, .int .i32 0, .int .i32 0, .int .i32 0, .int .i32 0, .int .i32 0, .int .i32 0, .int .i32 0, .int .i32 0, .int .i32 0, .int .i32 0, .int .i32 0, .int .i32 0, .int .i32 0] 48
  rw [hxb, show (#[.int .i32 0, .int .i32 0, .int .i32 0, .int .i32 0, .int .i32 0, .int .i32 0, .int .i32 0, .int .i32 0, .int .i32 0, .int .i32 0, .int .i32 0, .int .i32 0, .int .i32 0, .int .i32 0, .int .i32 0, .int .i32 0, .int .i32 0, .int .i32 0, .int .i32 0, .int .i32 0, .int .i32 0, .int .i32 0, .int .i32 0, .int .i32 0, .int .i32 0, .int .i32 0, .int .i32 0, .int .i32 0, .int .i32 0, .int .i32 0, .int .i32 0, .int .i32 0, .int .i32 0, .int .i32 0, .int .i32 0, .int .i32 0, .int .i32 0, .int .i32 0, .int .i32 0, .int .i32 0, .int .i32 0, .int .i32 0, .int .i32 0, .int .i32 0, .int .i32 0, .int .i32 0, .int .i32 0, .int .i32 0, .int .i32 0, .int .i32 0, .int .i32 0, .int .i32 0, .int .i32 0, .int .i32 0, .int .i32 0, .int .i32 0, .int .i32 0, .int .i32 0, .int .i32 0, .int .i32 0, .int .i32 0, .int .i32 0, .int .i32 0, .int .i32 0] : Array Value).size = 64 from rfl] at T3
  have hgt : ∀ {a : Addr} {u : Value}, w2.cell? a = some u → (w2.alloc (.cells #[.int .i32 0, .int .i32 0, .int .i32 0, .int .i32 0, .int .i32 0, .int .i32 0, .int .i32 0, .int .i32 0, .int .i32 0, .int .i32 0, .int .i32 0, .int .i32 0, .int .i32 0, .int .i32 0, .int .i32 0, .int .i32 0, .int .i32 0, .int .i32 0, .int .i32 0, .int .i32 0, .int .i32 0, .int .i32 0, .int .i32 0, .int .i32 0, .int .i32 0, .int .i32 0, .int .i32 0, .int .i32 0, .int .i32 0, .int .i32 0, .int .i32 0, .int .i32 0, .int .i32 0, .int .i32 0, .int .i32 0, .int .i32 0, .int .i32 0, .int .i32 0, .int .i32 0, .int .i32 0, .int .i32 0, .int .i32 0, .int .i32 0, .int .i32 0, .int .i32 0, .int .i32 0, .int .i32 0, .int .i32 0, .int .i32 0, .int .i32 0, .int .i32 0, .int .i32 0, .int .i32 0, .int .i32 0, .int .i32 0, .int .i32 0, .int .i32 0, .int .i32 0, .int .i32 0, .int .i32 0, .int .i32 0, .int .i32 0, .int .i32 0, .int .i32 0] 48)).cell? a = some u := fun h => g1.cell h (by simp)
  have k0 := hgt c0
  have k1 := hgt c1
  have k2 := hgt c2
  have kr : (w2.alloc (.cells #[.int .i32 0, .int .i32 0, .int .i32 0, .int .i32 0, .int .i32 0, .int .i32 0, .int .i32 0, .int .i32 0, .int .i32 0, .int .i32 0, .int .i32 0, .int .i32 0, .int .i32 0, .int .i32 0, .int .i32 0, .int .i32 0, .int .i32 0, .int .i32 0, .int .i32 0, .int .i32 0, .int .i32 0, .int .i32 0, .int .i32 0, .int .i32 0, .int .i32 0, .int .i32 0, .int .i32 0, .int .i32 0, .int .i32 0, .int .i32 0, .int .i32 0, .int .i32 0, .int .i32 0, .int .i32 0, .int .i32 0, .int .i32 0, .int .i32 0, .int .i32 0, .int .i32 0, .int .i32 0, .int .i32 0, .int .i32 0, .int .i32 0, .int .i32 0, .int .i32 0, .int .i32 0, .int .i32 0, .int .i32 0, .int .i32 0, .int .i32 0, .int .i32 0, .int .i32 0, .int .i32 0, .int .i32 0, .int .i32 0, .int .i32 0, .int .i32 0, .int .i32 0, .int .i32 0, .int .i32 0, .int .i32 0, .int .i32 0, .int .i32 0, .int .i32 0] 48)).rangeAt gk (b * 64) cs := fun q u hq => hgt (hrg q u hq)
  have hlt : ∀ {a : Addr} {u : Value}, w2.cell? a = some u → a.block ≠ xb := fun h => by have := block_lt_of_cell h; omega
  obtain ⟨w3, hw3⟩ : ∃ w3, (w2.alloc (.cells #[.int .i32 0, .int .i32 0, .int .i32 0, .int .i32 0, .int .i32 0, .int .i32 0, .int .i32 0, .int .i32 0, .int .i32 0, .int .i32 0, .int .i32 0, .int .i32 0, .int .i32 0, .int .i32 0, .int .i32 0, .int .i32 0, .int .i32 0, .int .i32 0, .int .i32 0, .int .i32 0, .int .i32 0, .int .i32 0, .int .i32 0, .int .i32 0, .int .i32 0, .int .i32 0, .int .i32 0, .int .i32 0, .int .i32 0, .int .i32 0, .int .i32 0, .int .i32 0, .int .i32 0, .int .i32 0, .int .i32 0, .int .i32 0, .int .i32 0, .int .i32 0, .int .i32 0, .int .i32 0, .int .i32 0, .int .i32 0, .int .i32 0, .int .i32 0, .int .i32 0, .int .i32 0, .int .i32 0, .int .i32 0, .int .i32 0, .int .i32 0, .int .i32 0, .int .i32 0, .int .i32 0, .int .i32 0, .int .i32 0, .int .i32 0, .int .i32 0, .int .i32 0, .int .i32 0, .int .i32 0, .int .i32 0, .int .i32 0, .int .i32 0, .int .i32 0] 48)).drew = w3 := ⟨_, rfl⟩
  have K0 : w3.cell? ⟨p, 0, none⟩ = some (.slice (some ⟨gi, 0, none⟩) 17412 ci) := by rw [← hw3]; exact k0
  have K1 : w3.cell? ⟨p, 1, none⟩ = some (.slice (some ⟨gk, 0, none⟩) mm ck) := by rw [← hw3]; exact k1
  have K2 : w3.cell? ⟨gi, i, none⟩ = some (.int .u16 (b : Nat)) := by rw [← hw3]; exact k2
  have KR : w3.rangeAt gk (b * 64) cs := by rw [← hw3]; exact kr
  have KT : w3.there xb 0 cs.length := by rw [← hw3, hcl]; exact T3
  have gs := grown_setCells xb cs 0 w3
  have n0 : p ≠ xb := hlt c0
  have n2 : gi ≠ xb := hlt c2
  have nk : gk ≠ xb := by
    have h0 := hrg 0 _ (List.getElem?_eq_getElem (by omega))
    exact hlt h0
  have M0 := gs.cell K0 (by simp; exact n0)
  have M1 := gs.cell K1 (by simp; exact n0)
  have M2 := gs.cell K2 (by simp; exact n2)
  have MR : (w3.setCells xb 0 cs).rangeAt gk (b * 64) cs := fun q u hq => gs.cell (KR q u hq) (by simp; exact nk)
  have MX : (w3.setCells xb 0 cs).rangeAt xb 0 cs := World.rangeAt_setCells_same w3 xb 0 cs KT
  have MT : (w3.setCells xb 0 cs).there xb 0 cs.length := World.there_setCells KT xb 0 cs
  have hbw : Below w.heap.size w w2 := hw1.trans hw2
  have hsz : w.heap.size ≤ xb := by rw [← hxb]; exact hbw.size
  have HB3 : Hid (Below w.heap.size w (w3.setCells xb 0 cs)) := by
    have h3 : Below w.heap.size w w3 := by rw [← hw3]; exact (hbw.alloc hbw.size _).drew
    exact h3.trans (Below.grown (Below.refl _ _) gs h3.size (fun k hk => by cases hk; exact hsz))
  obtain ⟨bt, bm, vi, vb, hba⟩ := hb2
  have hof := hba.off (Nat.le_of_eq hxb)
  have hba3 : BldAt w.heap.size (w3.setCells xb 0 cs) bp bt bm vi vb (ixs R0) (firsts R0) := by
    have h3 : BldAt w.heap.size w3 bp bt bm vi vb (ixs R0) (firsts R0) := by rw [← hw3]; exact (hba.kept g1).kept (grown_drew _)
    exact h3.kept_off hof gs
  have HBA := Lib.hid hba3
  have HOF := Lib.hid hof
  have HM0 := Lib.hid M0
  have HM1 := Lib.hid M1
  have HM2 := Lib.hid M2
  have HMR := Lib.hid MR
  have HMX := Lib.hid MX
  have HMT := Lib.hid MT
  have HST := Lib.hid hst2
  have HSZ := Lib.hid hsz
  have HCS := Lib.hid hcs
  have HK0 := Lib.hid K0
  have HK1 := Lib.hid K1
  have HK2 := Lib.hid K2
  have HKR := Lib.hid KR
  have L0 := Lib.hid c0
  have L1 := Lib.hid c1
  have L2 := Lib.hid c2
  have LR := Lib.hid hrg
  have hcl' := hcl
  clear hba3 hof hba M0 M1 M2 MR MX MT hst2 hsz hbw n0 n2 nk gs K0 K1 K2 KR k0 k1 k2 kr hlt hgt g1 T3 c0 c1 c2 hrg hrows hw1 hw2 hb1 hcs
  have KT2 : w3.there xb 0 64 := by rw [← hcl]; exact KT
  subst hxb
  have w1' : IntKind.i64.wrap (i : Int) = (i : Int) := IntWalk.i64_in _ (by omega)
  go_region_held3 (fun w' => w'.cell? ⟨p, 0, none⟩ = some (.slice (some ⟨gi, 0, none⟩) 17412 ci) ∧ w'.cell? ⟨p, 1, none⟩ = some (.slice (some ⟨gk, 0, none⟩) mm ck) ∧ w'.cell? ⟨gi, i, none⟩ = some (.int .u16 (b : Nat)) ∧ w'.rangeAt gk (b * 64) cs)
    (first | exact ⟨L0.out, L1.out, L2.out, LR.out⟩ | exact ⟨HK0.out, HK1.out, HK2.out, HKR.out⟩ | exact ⟨HM0.out, HM1.out, HM2.out, HMR.out⟩ | assumption)
    (fail)
  clear hw3 KT KT2 HK0 HK1 HK2 HKR L0 L1 L2 LR w1' q1' HM0 HM1 HM2 HMR
  have HST4 : Hid (Stood w.heap.size (w3.setCells w2.heap.size 0 cs) p r) := HS.out.below HB3.out
  generalize w3.setCells w2.heap.size 0 cs = w4 at HBA HMX HMT HST4 HB3 ⊢
  generalize w2.heap.size = xb at HBA HMX HMT HOF HSZ ⊢
  have hjl : j < cs.length := by rw [hcl]; exact hj
  have d1 := HMX.out j _ (List.getElem?_eq_getElem hjl)
  rw [Nat.zero_add] at d1
  obtain ⟨u, hu'⟩ : ∃ u, cs[j]'hjl = u := ⟨_, rfl⟩
  rw [hu'] at d1
  have d2 := (HMT.out j hjl).2
  rw [Nat.zero_add] at d2
  obtain ⟨cs2, hcs2⟩ : ∃ cs2, cellsB (x.set j v) = cs2 := ⟨_, rfl⟩
  have hse : cs.set j (.int .i32 v) = cs2 := by rw [← hcs2, ← HCS.out, cellsB_set]
  have HR6 : Hid ((w4.setCell ⟨xb, j, none⟩ (.int .i32 v)).rangeAt xb 0 cs2) := by show World.rangeAt _ _ _ _; rw [← hse]; exact range_setCell HMX.out hjl
  have HIF : Hid ((Try.prog.info? 48).map (·.size) = some cs2.length) := by show _ = _; rw [← hcs2, cellsB_len, List.length_set, HXL.out]; exact infoBlk
  have HB6 : Hid (BldAt w.heap.size (w4.setCell ⟨xb, j, none⟩ (.int .i32 v)) bp bt bm vi vb (ixs R0) (firsts R0)) := HBA.out.kept_off HOF.out (grown_setCell _ _ _)
  have HW6 : Hid (Below w.heap.size w (w4.setCell ⟨xb, j, none⟩ (.int .i32 v))) := HB3.out.setCell HSZ.out _
  have HS6 : Hid (Stood w.heap.size (w4.setCell ⟨xb, j, none⟩ (.int .i32 v)) p r) := HST4.out.below ((Below.refl _ _).setCell HSZ.out _)
  have HC2 := Lib.hid hcs2
  have HL6 : Hid (R0.length + 1 ≤ 20000) := by show _ ≤ _; rw [HL0.out]; omega
  have HL7 : Hid (R1.length ≤ 17412) := by show _ ≤ _; rw [HL1.out]; omega
  clear hjl hu' hcs2 hse HMX HMT HBA HB3 HST4 HCS hone hcl hin hu hcl'
  go_wp2_with (first
    | (with_reducible refine wpList_load_mid rfl _ _ rfl xb 0 rfl cs2 _ HR6.out underBlk rfl HIF.out ?_)
    | (go_at_call 24; (with_reducible refine (lay_is (z := 1) 1 (bld_of HB6.out) HGX.out HC2.out (by omega) HL6.out HP2.out).mono ?_); rintro e w7 ⟨rfl, hb7, hw7⟩)
    | (go_at_call 23; (with_reducible refine (take_is (z := 17412) hb7 (HS6.out.below hw7) 17412 HL7.out (by omega) (by omega) HP3.out).mono ?_); rintro e w8 ⟨rfl, hb8, hw8⟩; obtain ⟨bt8, hcell, htr⟩ := hb8.trie HGS.out HL2.out))
  go_ret2
  exact ⟨bt8, rfl, htr, HW6.out.trans (hw7.trans hw8)⟩
end Go.Proofs.Ytpckmdmfhglmbaa
