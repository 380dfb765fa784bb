/-
  THE CONTRACTS of the next text, by package utext and by the document's own answer.
-/
import Derived.Test.YtcoepmakajligaaTCount
import Derived.Test.YtcoepmakajligaaTMem
import Derived.Test.YtcoepmakajligaaTOne
import Derived.RegionTactic
import Derived.Deep.QuietTactic
import Derived.BigQuiet
namespace Go.Proofs.Ytcoepmakajligaa
open Go.RowKit
set_option linter.unusedVariables false
set_option linter.unusedSimpArgs false
/-- Where the bytes 255 at the end of the first n bytes begin. -/
def ffE (l : List UInt8) : Nat → Nat
  | 0 => 0
  | n + 1 => if gb l n = 255 then ffE l n else n + 1
theorem ffE_ff {l : List UInt8} {n : Nat} (h : gb l n = 255) : ffE l (n + 1) = ffE l n := if_pos h
theorem ffE_no {l : List UInt8} {n : Nat} (h : gb l n ≠ 255) : ffE l (n + 1) = n + 1 := if_neg h
theorem ffE_le (l : List UInt8) (n : Nat) : ffE l n ≤ n := by
  induction n with
  | zero => exact Nat.le_refl _
  | succ n ih =>
    by_cases h : gb l n = 255
    · rw [ffE_ff h]; omega
    · rw [ffE_no h]; omega
theorem ffE_at (l : List UInt8) (n : Nat) (h : 0 < ffE l n) : gb l (ffE l n - 1) ≠ 255 := by
  induction n with
  | zero => simp [ffE] at h
  | succ n ih =>
    by_cases h' : gb l n = 255
    · rw [ffE_ff h'] at h ⊢; exact ih h
    · rw [ffE_no h']; exact h'
/-- The text that stands next behind all that begin with l (if there is one). -/
def nextL (l : List UInt8) : List UInt8 := l.take (ffE l l.length - 1) ++ [UInt8.ofNat (gb l (ffE l l.length - 1) + 1)]
def nextOk (l : List UInt8) : Bool := decide (0 < ffE l l.length)
def nextR (l : List UInt8) : List UInt8 := if 0 < ffE l l.length then nextL l else []
theorem next_no {l : List UInt8} (h : ffE l l.length = 0) : nextR l = [] ∧ nextOk l = false := by simp [nextR, nextOk, h]
theorem next_yes {l : List UInt8} {j : Nat} (h : ffE l l.length = j + 1) : nextR l = l.take j ++ [UInt8.ofNat (gb l j + 1)] ∧ nextOk l = true := by simp [nextR, nextOk, nextL, h]
theorem ba_put {s u : ByteArray} {j : Nat} {x : UInt8} (h : (⟨#[x]⟩ : ByteArray) = u) : (⟨(s.data.toList.take j ++ [x]).toArray⟩ : ByteArray) = s.extract 0 j ++ u := by
  subst h
  apply ByteArray.ext
  apply Array.toList_inj.1
  rw [ByteArray.data_append, Array.toList_append, ext_take]
theorem conv_drew (w : World) (a : Int) (x : UInt8) (h : a = x.toNat) : (convert 41 9 (.slice (some ⟨w.heap.size, 0, none⟩) 1 1)).run Try.prog (w.alloc (.cells #[.int .u8 a] 5)).drew = .ok (.string ⟨#[x]⟩) (w.alloc (.cells #[.int .u8 a] 5)).drew := by
  subst h
  refine str_of (B := w.heap.size + 1) (l := [x]) ⟨_, _, rfl, fun _ => ⟨_, rfl, Nat.lt_succ_self _, fun j u hu => ?_⟩⟩
  exact cells_new w (bv [x]) _ j u hu
set_option maxRecDepth 200000 in
theorem rnext_any (s : ByteArray) (w : World) (hs : s.size ≤ 9223372036854775807) :
    Calls Try.prog 23 #[.string s] w fun e w' => e = .returned (.tuple #[.string ⟨(nextR s.data.toList).toArray⟩, .bool (nextOk s.data.toList)]) ∧ Below w.heap.size w w' := by
  obtain ⟨l, hl⟩ : ∃ l, s.data.toList = l := ⟨_, rfl⟩
  have HG : ∀ (k : Nat) (h : k < s.size), (s[k]'h).toNat = gb l k := fun k h => by rw [← hl]; exact (gb_ba s h).symm
  have hll : l.length = s.size := by rw [← hl, ba_len]
  rw [hl]
  have FF := Lib.hid (fun n => @ffE_ff l n)
  have FN := Lib.hid (fun n => @ffE_no l n)
  have FL := Lib.hid (fun n => ffE_le l n)
  obtain ⟨E, hE⟩ : ∃ E, ffE l l.length = E := ⟨_, rfl⟩
  have hL := Lib.hid hll
  have hel := FL.out l.length
  have HE : Hid (ffE l s.size = E) := by rw [← hll]; exact hE
  rw [hE, hll] at hel
  have NO := Lib.hid (@next_no l)
  have YES := Lib.hid (fun j => @next_yes l j)
  rw [hE] at NO YES
  obtain ⟨R, hR⟩ : ∃ R, nextR l = R := ⟨_, rfl⟩
  obtain ⟨b, hb⟩ : ∃ b, nextOk l = b := ⟨_, rfl⟩
  rw [hR, hb] at NO YES ⊢
  clear hR hb
  have HLS := Lib.hid hl
  clear hl hE hll
  go_enter Try.func23, Try.ntmps23
  go_wp2
  go_loop [4] (fun i => ∃ (k : Nat), k ≤ s.size ∧ i = .int .i64 k ∧ Hid (ffE l k = E)) (fun i => (intOf i).toNat)
  case atStart => exact ⟨s.size, by omega, rfl, HE.out⟩
  case round =>
    obtain ⟨k, hk, rfl, hp⟩ := hrel
    by_cases h0 : 0 < k
    · obtain ⟨j, rfl⟩ : ∃ j, k = j + 1 := ⟨k - 1, by omega⟩
      have e1 : ((j + 1 : Nat) : Int) - 1 = j := by omega
      have e2 : ((j + 1 : Nat) : Int) = (j : Int) + 1 := by omega
      have hjs : j < s.size := by omega
      have hgj := HG j hjs
      have hglt := gb_lt l j
      by_cases hc : gb l j = 255
      · have hq := FF.out j hc
        have HQ : Hid (ffE l j = E) := by rw [← hq]; exact hp.out
        clear hq hp
        go_wp2
        refine ⟨⟨j, by omega, rfl, HQ.out⟩, ?_⟩
        simp [intOf]
      · have hq := FN.out j hc
        have HQ : Hid (E = j + 1) := by rw [← hq]; exact hp.out.symm
        clear hq hp
        have hc2 : ¬ ((gb l j : Int) = 255) := by omega
        obtain ⟨hR, hb⟩ := YES.out j HQ.out
        have HR := Lib.hid hR
        have HBB := Lib.hid hb
        clear hR hb
        have hx := to_ofNat (n := gb l j + 1) (by omega)
        obtain ⟨x, hX⟩ : ∃ x, UInt8.ofNat (gb l j + 1) = x := ⟨_, rfl⟩
        rw [hX] at hx
        have HX := Lib.hid hX
        have k1 := conv_drew w ((gb l j : Int) + 1) x (by omega)
        obtain ⟨u, hu⟩ : ∃ u : ByteArray, (⟨#[x]⟩ : ByteArray) = u := ⟨_, rfl⟩
        have hus : u.size = 1 := by rw [← hu]; rfl
        have hul : u.size ≤ 1 := by omega
        have hxs : (s.extract 0 j).size ≤ j := by rw [ByteArray.size_extract]; omega
        rw [hu] at k1
        have HU := Lib.hid hu
        clear hX hu hx hus
        go_wp2
        go_region
        all_goals go_wp2
        all_goals go_ret2
        all_goals refine ⟨by rw [HR.out, HBB.out, HX.out, ← HLS.out, ba_put HU.out]; rfl, ?_⟩; first | exact ((Below.refl _ _).alloc (Nat.le_refl _) _).drew | exact (((Below.refl _ _).drew).alloc (Nat.le_refl _) _)
        -- by first | exact ((Below.refl _ _).alloc (Nat.le_refl _) _).drew | exact (((Below.refl _ _).drew).alloc (Nat.le_refl _) _)⟩
    · obtain rfl : k = 0 := by omega
      obtain ⟨hR, hb⟩ := NO.out hp.out.symm
      have HR := Lib.hid hR
      have HBB := Lib.hid hb
      clear hp hR hb
      go_wp2
      go_ret2
      exact ⟨by rw [HR.out, HBB.out]; rfl, Below.refl _ _⟩
/-- '[]byte(t)': bytes of the call's own, each where it stood. -/
theorem bytes_of (w : World) (t : ByteArray) : ∃ C w1, (convert 9 41 (.string t)).run Try.prog w = .ok (.slice (some ⟨w.heap.size, 0, none⟩) t.size C) w1 ∧ Below w.heap.size w w1 ∧ w.heap.size < w1.heap.size ∧
    (∀ i, i < t.size → w1.cell? ⟨w.heap.size, i, none⟩ = some (.int .u8 (gb t.data.toList i : Int))) ∧ (∀ i, i < t.size → w1.frozen? ⟨w.heap.size, i, none⟩ = false) := by
  have hl : t.size ≤ (bytesRow t (grownCap w t.size 0 5)).size := by unfold bytesRow; rw [Array.size_append, Array.size_map]; exact Nat.le_add_right _ _
  refine ⟨_, _, run_bytes_of_string w _ _ 5 t Try.underlying9 Try.underlying41 Try.underlying5, (Below.refl _ _).drew.alloc (Nat.le_refl _) _, ?_, fun i hi => ?_, fun i hi => ?_⟩
  · show _ < (w.drew.alloc _).heap.size
    rw [World.size_alloc]; exact Nat.lt_succ_self _
  · have h := World.cell?_alloc_mark w.drew (bytesRow t (grownCap w t.size 0 5)) 5 ((bytesRow t (grownCap w t.size 0 5)).size, (bytesRow t (grownCap w t.size 0 5)).size + 1) i
    refine (show _ = _ from h).trans ?_
    unfold bytesRow
    rw [Array.getElem?_append_left (by rw [Array.size_map]; exact hi), Array.getElem?_map, Array.getElem?_eq_getElem (show i < t.data.size from hi)]
    have := gb_ba t hi
    simp only [Option.map_some]
    rw [this]; rfl
  · have h := World.frozen?_alloc_mark w.drew (bytesRow t (grownCap w t.size 0 5)) 5 (bytesRow t (grownCap w t.size 0 5)).size ((bytesRow t (grownCap w t.size 0 5)).size + 1) i
    refine (show _ = _ from h).trans ?_
    rw [decide_eq_false (by omega), Bool.false_and]
theorem back_of (w w1 : World) (t : ByteArray) (C j : Nat) (x : UInt8) (y : Int) (hj : j < t.size) (hw : w.heap.size < w1.heap.size) (hx : (x.toNat : Int) = y)
    (hc : ∀ i, i < t.size → w1.cell? ⟨w.heap.size, i, none⟩ = some (.int .u8 (gb t.data.toList i : Int))) (ht : t.size = j + 1) :
    (convert 41 9 (.slice (some ⟨w.heap.size, 0, none⟩) (j + 1) C)).run Try.prog (w1.setCell ⟨w.heap.size, j, none⟩ (.int .u8 y)) = .ok (.string ⟨(t.data.toList.take j ++ [x]).toArray⟩) (w1.setCell ⟨w.heap.size, j, none⟩ (.int .u8 y)) := by
  subst hx
  have hl : (t.data.toList.take j ++ [x]).length = j + 1 := by rw [List.length_append, List.length_take, ba_len, List.length_singleton]; omega
  refine str_of (B := w.heap.size + 1) ⟨_, C, by rw [bv_len, hl], fun _ => ⟨_, rfl, Nat.lt_succ_self _, fun i u hu => ?_⟩⟩
  rw [Addr.add_lit, Nat.zero_add]
  have hi : i < j + 1 := by
    have := (List.getElem?_eq_some_iff.1 hu).1
    rw [bv_len, hl] at this; exact this
  by_cases hij : i = j
  · subst hij
    have : u = .int .u8 (x.toNat : Int) := by
      rw [bv, List.map_append, List.getElem?_append_right (by rw [List.length_map, List.length_take]; omega)] at hu
      simp [ba_len, List.length_take, Nat.min_eq_left (Nat.le_of_lt hj)] at hu
      exact hu.symm
    rw [this]
    exact World.cell?_setCell_same _ _ _ (hc i hj)
  · rw [World.cell?_setCell_other _ _ _ _ (by intro e; exact hij (by injection e; omega)), hc i (by omega)]
    rw [bv, List.map_append, List.getElem?_append_left (by simp; have := ba_len t; omega), List.getElem?_map, List.getElem?_take_of_lt (by omega)] at hu
    rw [← hu, List.getElem?_eq_getElem (by rw [ba_len]; omega)]
    have := gb_ba t (k := i) (by omega)
    simp only [Option.map_some]
    rw [this]; rfl
set_option maxRecDepth 200000 in
theorem next_any (s : ByteArray) (w : World) (hs : s.size ≤ 9223372036854775807) :
    Calls Try.prog 22 #[.string s] w fun e w' => e = .returned (.tuple #[.string ⟨(nextR s.data.toList).toArray⟩, .bool (nextOk s.data.toList)]) ∧ Below w.heap.size w w' := by
  obtain ⟨l, hl⟩ : ∃ l, s.data.toList = l := ⟨_, rfl⟩
  have HG : ∀ (k : Nat) (h : k < s.size), (s[k]'h).toNat = gb l k := fun k h => by rw [← hl]; exact (gb_ba s h).symm
  have hll : l.length = s.size := by rw [← hl, ba_len]
  rw [hl]
  have FF := Lib.hid (fun n => @ffE_ff l n)
  have FN := Lib.hid (fun n => @ffE_no l n)
  have FL := Lib.hid (fun n => ffE_le l n)
  obtain ⟨E, hE⟩ : ∃ E, ffE l l.length = E := ⟨_, rfl⟩
  have hL := Lib.hid hll
  have hel := FL.out l.length
  have HE : Hid (ffE l s.size = E) := by rw [← hll]; exact hE
  rw [hE, hll] at hel
  have NO := Lib.hid (@next_no l)
  have YES := Lib.hid (fun j => @next_yes l j)
  rw [hE] at NO YES
  obtain ⟨R, hR⟩ : ∃ R, nextR l = R := ⟨_, rfl⟩
  obtain ⟨b, hb⟩ : ∃ b, nextOk l = b := ⟨_, rfl⟩
  rw [hR, hb] at NO YES ⊢
  clear hR hb
  have HLS := Lib.hid hl
  clear hl hE hll
  go_enter Try.func22, Try.ntmps22
  go_wp2
  go_loop [4] (fun i => ∃ (k : Nat), k ≤ s.size ∧ i = .int .i64 k ∧ Hid (ffE l k = E)) (fun i => (intOf i).toNat)
  case atStart => exact ⟨s.size, by omega, rfl, HE.out⟩
  case round =>
    obtain ⟨k, hk, rfl, hp⟩ := hrel
    by_cases h0 : 0 < k
    · obtain ⟨j, rfl⟩ : ∃ j, k = j + 1 := ⟨k - 1, by omega⟩
      have e1 : ((j + 1 : Nat) : Int) - 1 = j := by omega
      have e2 : ((j + 1 : Nat) : Int) = (j : Int) + 1 := by omega
      have hjs : j < s.size := by omega
      have hgj := HG j hjs
      have hglt := gb_lt l j
      by_cases hc : gb l j = 255
      · have hq := FF.out j hc
        have HQ : Hid (ffE l j = E) := by rw [← hq]; exact hp.out
        clear hq hp
        go_wp2
        refine ⟨⟨j, by omega, rfl, HQ.out⟩, ?_⟩
        simp [intOf]
      · have hq := FN.out j hc
        have HQ : Hid (E = j + 1) := by rw [← hq]; exact hp.out.symm
        clear hq hp
        have hc2 : ¬ ((gb l j : Int) = 255) := by omega
        obtain ⟨hR, hb⟩ := YES.out j HQ.out
        have HR := Lib.hid hR
        have HBB := Lib.hid hb
        clear hR hb
        have hx := to_ofNat (n := gb l j + 1) (by omega)
        obtain ⟨x, hX⟩ : ∃ x, UInt8.ofNat (gb l j + 1) = x := ⟨_, rfl⟩
        rw [hX] at hx
        have HX := Lib.hid hX
        obtain ⟨t, ht⟩ : ∃ t, s.extract 0 (j + 1) = t := ⟨_, rfl⟩
        have hts : t.size = j + 1 := by rw [← ht, ByteArray.size_extract]; omega
        have htl : t.data.toList = l.take (j + 1) := by rw [← ht, ext_take, HLS.out]
        obtain ⟨C, w1, k1, hb1, hz1, hc1, hf1⟩ := bytes_of w t
        have k2 := back_of w w1 t C j x ((gb l j : Int) + 1) (by omega) hz1 (by omega) hc1 hts
        have hcj := hc1 j (by omega)
        have hfj := hf1 j (by omega)
        have hgt : gb t.data.toList j = gb l j := by
          rw [htl]; unfold gb
          rw [List.getD_eq_getElem?_getD, List.getElem?_take_of_lt (by omega), ← List.getD_eq_getElem?_getD]
        rw [hgt] at hcj
        rw [hts, ← ht] at k1
        have htk : t.data.toList.take j = l.take j := by rw [htl, List.take_take]; congr 1; omega
        rw [htk, ← HX.out, ← HR.out] at k2
        have HT := Lib.hid ht
        have HB1 := Lib.hid hb1
        clear hX hx ht hts htl hc1 hf1 hgt htk hb1
        go_wp2
        go_ret2
        exact ⟨by rw [HBB.out]; rfl, HB1.out.setCell (Nat.le_refl _) _⟩
    · obtain rfl : k = 0 := by omega
      obtain ⟨hR, hb⟩ := NO.out hp.out.symm
      have HR := Lib.hid hR
      have HBB := Lib.hid hb
      clear hp hR hb
      go_wp2
      go_ret2
      exact ⟨by rw [HR.out, HBB.out]; rfl, Below.refl _ _⟩
end Go.Proofs.Ytcoepmakajligaa
