/-
  THE CONTRACT of the program's spell.
-/
import Derived.Test.YtdodlppnjlmnaaaSBuild
import Derived.Test.YtdodlppnjlmnaaaT2E
import Derived.Lib.IndexBytes
import Derived.Lib.IndexMore
namespace Go.Proofs.Ytdodlppnjlmnaaa
open Go.RowKit
set_option linter.unusedVariables false
set_option linter.unusedSimpArgs false
open T2 (gb dec one isSg isPt sgs)
def spl (l : List Int) : List UInt8 := (l.filter isSg).flatMap wr1
theorem spl_all {l : List Int} (h : l.all isSg = true) : spl l = wrd l := by
  unfold spl wrd
  rw [List.filter_eq_self.2 (List.all_eq_true.1 h)]
theorem sg_ways {x : Int} (h : isSg x = true) : isPt x = true ∨ (1114240 ≤ x ∧ x ≤ 1114367) := by
  unfold T2.isSg at h
  simp only [Bool.or_eq_true, Bool.and_eq_true, decide_eq_true_eq] at h
  exact h
theorem joinS_one (x : Int) : T2.joinS [x] = one x.toNat := by
  show one x.toNat ++ [] = _
  rw [List.append_nil]
theorem byt_one {x : Int} (h : isSg x = true) : T2.bytL [x] = one x.toNat ∧ T2.bytE [x] = 0 := by
  have hs : sgs (T2.joinS [x]) = [x] := by
    rw [joinS_one]
    rcases sg_ways h with hp | hr
    · have hc := pt_nat hp
      have hd := T2.dec_one (c := x.toNat) (by rw [hc]; exact hp) []
      have hne := one_ne x.toNat []
      rw [List.append_nil] at hd hne
      rw [T2.sgs_cons hne, hd]
      simp only [hc, List.drop_length]
      rfl
    · rw [T2.one_raw (by omega)]
      have hb : (UInt8.ofNat (x.toNat - 1114112)).toNat = x.toNat - 1114112 := T2.to_ofNat (by omega)
      have hg : gb [UInt8.ofNat (x.toNat - 1114112)] 0 = x.toNat - 1114112 := by rw [T2.gb_cons0, hb]
      rw [T2.sgs_cons (by simp), T2.dec_bad (by rw [hg]; omega) (T2.not2 (by rw [hg]; simp)) (T2.not3 (by rw [hg]; simp)) (T2.not4 (by rw [hg]; simp)), hg]
      simp only [List.drop_one, List.tail_cons]
      rw [T2.sgs_nil]
      have e : ((1114112 + (x.toNat - 1114112) : Nat) : Int) = x := by omega
      rw [e]
  have ha : [x].all isSg = true := by simp [h]
  unfold T2.bytL T2.bytE
  rw [if_pos ha, if_pos ha, if_pos hs, if_pos hs, joinS_one]
  exact ⟨rfl, rfl⟩
theorem byt_none {x : Int} (h : isSg x = false) : T2.bytL [x] = [] ∧ T2.bytE [x] = 1 := by
  have ha : ¬ [x].all isSg = true := by simp [h]
  unfold T2.bytL T2.bytE
  rw [if_neg ha, if_neg ha]
  exact ⟨rfl, rfl⟩
theorem bytes_one {x : Int} {u : ByteArray} {E : Int} (hu : (⟨(T2.bytL [x]).toArray⟩ : ByteArray) = u) (hE : T2.bytE [x] = E) (w : World) :
    Calls Try.prog 34 #[.slice (some ⟨w.heap.size, 0, none⟩) 1 1] (w.alloc (.cells #[.int .i64 x] 3)) fun e w' => e = .returned (.tuple #[.string u, .int .i64 E]) ∧ Below w.heap.size w w' := by
  subst hu hE
  have hv : RdI anyB (w.alloc (.cells #[.int .i64 x] 3)) (.slice (some ⟨w.heap.size, 0, none⟩) 1 1) [x] := RdF.new w [.int .i64 x] 3 (Nat.le_refl 1)
  refine (T2.bytes_any _ [x] _ hv.rd (by simp)).mono fun e w' hh => ⟨hh.1, ?_⟩
  have h1 := alloc_below w (.cells #[.int .i64 x] 3)
  exact h1.trans (hh.2.mono h1.size)
abbrev ES : ByteArray := ⟨#[32, 10, 38, 60, 61, 47, 92]⟩
theorem index_not (c : UInt8) (t : List UInt8) : ∀ (s : List UInt8), (∀ b ∈ s, b ≠ c) → Lib.index s (c :: t) = -1
  | [], h => rfl
  | b :: l, h => by
    have h1 : (c :: t).isPrefixOf (b :: l) = false := by
      rw [List.isPrefixOf, show (c == b) = false from by simpa using Ne.symm (h b (by simp))]; rfl
    have h2 := index_not c t l (fun x hx => h x (by simp [hx]))
    rw [Lib.index, h1, h2]; rfl
theorem contains_esc {x : Int} (h : isSg x = true) : Lib.contains ES.data.toList (one x.toNat) = esc x := by
  have big : ∀ {c : UInt8} {t : List UInt8}, 128 ≤ c.toNat → 128 ≤ x → Lib.contains ES.data.toList (c :: t) = esc x := fun {c t} hc hx => by
    unfold Lib.contains
    have hn : Lib.index ES.data.toList (c :: t) = -1 := index_not c t _ (by
      intro b hb e
      have hb : b ∈ ([32, 10, 38, 60, 61, 47, 92] : List UInt8) := hb
      simp only [List.mem_cons, List.not_mem_nil, or_false] at hb
      rcases hb with rfl | rfl | rfl | rfl | rfl | rfl | rfl <;> (subst e; exact absurd hc (by decide)))
    rw [hn]
    unfold esc spcB
    rw [decide_eq_false (by omega), decide_eq_false (by omega), decide_eq_false (by omega), decide_eq_false (by omega), decide_eq_false (by omega), decide_eq_false (by omega), decide_eq_false (by omega), decide_eq_false (by omega)]
    rfl
  have hx : 0 ≤ x ∧ x ≤ 1114367 := by
    rcases sg_ways h with hp | hr
    · have := T2.isPt_iff.1 hp; omega
    · omega
  rcases T2.one_ways x.toNat with h1 | h1 | ⟨h1, h2⟩ | ⟨h1, h2⟩ | ⟨h1, h2⟩
  · rw [T2.one_raw h1]
    have : 1114240 ≤ x := by
      rcases sg_ways h with hp | hr
      · have := T2.isPt_iff.1 hp; omega
      · omega
    exact big (by rw [T2.to_ofNat (by omega)]; omega) (by omega)
  · rw [T2.one_1 h1]
    unfold Lib.contains
    rw [Lib.index_one]
    show decide (0 ≤ Lib.indexByte [32, 10, 38, 60, 61, 47, 92] (UInt8.ofNat x.toNat)) = _
    have hl : x.toNat < 256 := by omega
    rw [ib_cons, ib_cons, ib_cons, ib_cons, ib_cons, ib_cons, ib_cons, ofn_eq hl, ofn_eq hl, ofn_eq hl, ofn_eq hl, ofn_eq hl, ofn_eq hl, ofn_eq hl]
    rw [show decide (0 ≤ Lib.indexByte [] (UInt8.ofNat x.toNat)) = false from rfl]
    unfold esc spcB
    apply Bool.eq_iff_iff.2
    simp only [Bool.or_eq_true, decide_eq_true_eq, Bool.false_eq_true, or_false, show UInt8.toNat 32 = 32 from rfl, show UInt8.toNat 10 = 10 from rfl, show UInt8.toNat 38 = 38 from rfl, show UInt8.toNat 60 = 60 from rfl, show UInt8.toNat 61 = 61 from rfl, show UInt8.toNat 47 = 47 from rfl, show UInt8.toNat 92 = 92 from rfl]
    omega
  · rw [T2.one_2 h1 h2]
    exact big (by rw [T2.to_ofNat (by omega)]; omega) (by omega)
  · rw [T2.one_3 h1 h2]
    exact big (by rw [T2.to_ofNat (by omega)]; omega) (by omega)
  · rw [T2.one_4 h1 h2]
    exact big (by rw [T2.to_ofNat (by omega)]; omega) (by omega)
/-- The package's own variable that Contains reads: some number. -/
def MaxL (w : World) : Prop := ∃ m : Int, w.cell? ⟨0, 0, none⟩ = some (.int .i64 m)
theorem MaxL.below {w w' : World} {B : Nat} (h : MaxL w) (hb : Below B w w') (hB : w.heap.size ≤ B) : MaxL w' := by
  obtain ⟨m, hm⟩ := h
  exact ⟨m, (hb.cell (Nat.lt_of_lt_of_le (cell_lt hm) hB)).trans hm⟩
theorem has_esc {x : Int} {u : ByteArray} {b : Bool} (hx : isSg x = true) (hu : u.data.toList = one x.toNat) (hb : esc x = b) {w : World} (h : MaxL w) :
    Calls Try.prog 35 #[.string ES, .string u] w fun e w' => e = .returned (.bool b) ∧ w' = w := by
  obtain ⟨m, hm⟩ := h
  have := Try.strings_Contains ES u m w (by decide) hm
  rw [hu, contains_esc hx, hb] at this
  exact this
theorem IsB.below {B b : Nat} {bs : List Value} {w w' : World} (h : Lib.IsBuilderF TB 5 B b bs w) (hb : Below w.heap.size w w') : Lib.IsBuilderF TB 5 B b bs w' := by
  have key : ∀ {p}, Lib.BuilderAtF TB 5 B b p bs w → Lib.BuilderAtF TB 5 B b p bs w' := fun {p} h => by
    have hlt := h.lt
    obtain ⟨hB, v, hv, hown, hne⟩ := h
    exact ⟨hB, v, (hb.block b hlt).trans hv, World.ownsRowF.kept hown (R4.grown_of_below hb) (by cases v.ownBlock <;> simp), hne⟩
  rcases h with h | h
  · exact .inl (key h)
  · exact .inr (key h)
theorem spl_next {l : List Int} {k : Nat} {x : Int} (h : l[k]? = some x) : spl (l.take (k + 1)) = spl (l.take k) ++ (if isSg x = true then wr1 x else []) := by
  unfold spl
  rw [List.take_add_one, h, List.filter_append, List.flatMap_append]
  congr 1
  by_cases hx : isSg x = true
  · rw [if_pos hx]; simp [List.filter, hx]
  · rw [if_neg hx]; simp [List.filter, hx]
theorem wr1_len (x : Int) : (wr1 x).length ≤ 5 := by
  unfold wr1
  rw [List.length_append]
  have := T2.one_len_le x.toNat
  split <;> simp <;> omega
theorem spl_len (l : List Int) : (spl l).length ≤ 5 * l.length := by
  induction l with
  | nil => exact Nat.le_refl _
  | cons x t ih =>
    have e : spl (x :: t) = (if isSg x = true then wr1 x else []) ++ spl t := by
      unfold spl; by_cases hx : isSg x = true
      · rw [if_pos hx]; simp [List.filter, hx]
      · rw [if_neg hx]; simp [List.filter, hx]
    rw [e, List.length_append, List.length_cons]
    have := wr1_len x
    split <;> simp <;> omega
theorem str_cells (u : ByteArray) : Lib.strCells u = Lib.byteCells u.data.toList := rfl
set_option maxRecDepth 100000 in
set_option maxHeartbeats 2000000 in
theorem spell_any {w : World} {v : Value} {l : List Int} (h : RdI anyB w v l) (hl : l.length ≤ 1000) (hM : MaxL w) :
    Calls Try.prog 22 #[v] w fun e w' => e = .returned (.string ⟨(spl l).toArray⟩) ∧ Below w.heap.size w w' := by
  obtain ⟨A, c, rfl⟩ := h.form
  have hcap := (RdF.cap h).1
  have HV := Lib.hid h
  have HM := Lib.hid hM
  obtain ⟨n, hn⟩ : ∃ n, l.length = n := ⟨_, rfl⟩
  rw [hn] at HV hl hcap ⊢
  have HN := Lib.hid hn
  have HB0 := Lib.hid (built_new w)
  have HW0 := Lib.hid (alloc_below w (.cells #[.pointer none, .slice none 0 0] TB))
  clear h hM hn
  go_enter Try.func22, Try.ntmps22
  go_wp2
  generalize w.alloc (.cells #[.pointer none, .slice none 0 0] TB) = w0 at HB0 HW0 ⊢
  go_loopg [10] n (fun f i wr => ∃ k : Nat, k ≤ n ∧ i = .int .i64 (k : Nat) ∧ f = n - k ∧ Hid (Lib.IsBuilderF TB 5 w.heap.size w.heap.size (Lib.byteCells (spl (l.take k))) wr) ∧ Hid (Below w.heap.size w wr))
  case atStart => exact ⟨0, Nat.zero_le _, rfl, rfl, HB0.out, HW0.out⟩
  case round =>
    obtain ⟨k, hk, rfl, rfl, HB, HW⟩ := hrel
    clear HB0 HW0
    have hsz := HW.out.size
    by_cases hlt : k < n
    · obtain ⟨x, hx⟩ : ∃ x, l[k]? = some x := ⟨_, List.getElem?_eq_getElem (by rw [HN.out]; exact hlt)⟩
      obtain ⟨g, o, rfl, c0⟩ := (RdI.below HV.out HW.out (Nat.le_refl _)).at hx
      have hltI : (k : Int) < (n : Int) := by omega
      have hkcI : (k : Int) < (c : Int) := by omega
      have hnx := spl_next hx
      have hlen := spl_len (l.take k)
      rw [List.length_take, HN.out] at hlen
      obtain ⟨u, hu⟩ : ∃ u : ByteArray, (⟨(T2.bytL [x]).toArray⟩ : ByteArray) = u := ⟨_, rfl⟩
      obtain ⟨E, hE⟩ : ∃ E, T2.bytE [x] = E := ⟨_, rfl⟩
      have HBY := Lib.hid (bytes_one hu hE)
      have HX := Lib.hid hx
      by_cases hs : isSg x = true
      · have hby := byt_one hs
        rw [hE] at hby
        obtain rfl : E = 0 := hby.2
        have hul : u.data.toList = one x.toNat := by rw [← hu, hby.1]
        have hus : u.size ≤ 4 := by rw [← T2.ba_len, hul]; exact T2.one_len_le _
        rw [if_pos hs] at hnx
        have HNX := Lib.hid hnx
        have HUL := Lib.hid hul
        obtain ⟨b, hb⟩ : ∃ b, esc x = b := ⟨_, rfl⟩
        have HC := Lib.hid (fun (w : World) (h : MaxL w) => has_esc hs hul hb h)
        have hwr : wr1 x = (if b = true then [92] else []) ++ u.data.toList := by unfold wr1; rw [hb, hul]
        have HWR := Lib.hid hwr
        have HWT := Lib.hid (fun (bs : List Value) (t : ByteArray) (w' : World) h1 h2 h3 => write_any w.heap.size w.heap.size bs t w' h1 h2 h3)
        have HLE : Hid ((Lib.byteCells (spl (l.take k))).length + 1 + u.size ≤ 1000000) := by show _ ≤ _; rw [Lib.byteCells_length]; omega
        clear hu hE hby hul hb hwr hx hs hnx hlen
        cases b with
        | false =>
          go_wp2_with (first
            | (go_at_call 34; refine (HBY.out _).mono ?_; rintro e w2 ⟨rfl, hb2⟩; have HB2 := Lib.hid (IsB.below HB.out hb2); have HW2 := Lib.hid (HW.out.trans (hb2.mono HW.out.size)); clear hb2)
            | (go_at_call 35; refine (HC.out _ (HM.out.below HW2.out (Nat.le_refl _))).mono ?_; rintro e w3 ⟨rfl, rfl⟩)
            | (go_at_call 36; refine (HWT.out _ _ _ HB2.out (Nat.le_trans (Nat.add_le_add_right (Nat.le_succ _) _) HLE.out) HW2.out.size).mono ?_; rintro e w4 ⟨rfl, hib, hb4⟩; have HB4 := Lib.hid hib; have HW4 := Lib.hid (HW2.out.trans hb4); clear hib hb4))
          go_roundg (n - (k + 1))
          case measure => omega
          case rel => exact ⟨k + 1, by omega, by first | rfl | (congr 1), rfl, by show Lib.IsBuilderF _ _ _ _ _ _; rw [HNX.out, HWR.out, Lib.byteCells_append]; exact HB4.out, HW4.out⟩
        | true =>
          have tok : True := trivial
          go_wp2_with (first
            | (go_at_call 34; refine (HBY.out _).mono ?_; rintro e w2 ⟨rfl, hb2⟩; have HB2 := Lib.hid (IsB.below HB.out hb2); have HW2 := Lib.hid (HW.out.trans (hb2.mono HW.out.size)); clear hb2)
            | (go_at_call 35; refine (HC.out _ (HM.out.below HW2.out (Nat.le_refl _))).mono ?_; rintro e w3 ⟨rfl, rfl⟩)
            | (go_at_call 36; have _t := tok; refine (HWT.out _ ESC _ HB2.out (Nat.le_trans (Nat.le_add_right _ _) HLE.out) HW2.out.size).mono ?_; rintro e w4 ⟨rfl, hib, hb4⟩; have HB4 := Lib.hid hib; have HW4 := Lib.hid (HW2.out.trans hb4); clear hib hb4; clear _t tok)
            | (go_at_call 36; refine (HWT.out _ _ _ HB4.out (by rw [List.length_append]; exact HLE.out) HW4.out.size).mono ?_; rintro e w5 ⟨rfl, hib, hb5⟩; have HB5 := Lib.hid hib; have HW5 := Lib.hid (HW4.out.trans hb5); clear hib hb5))
          go_roundg (n - (k + 1))
          case measure => omega
          case rel => exact ⟨k + 1, by omega, by first | rfl | (congr 1), rfl, by show Lib.IsBuilderF _ _ _ _ _ _; rw [HNX.out, HWR.out, Lib.byteCells_append, Lib.byteCells_append, ← List.append_assoc]; exact HB5.out, HW5.out⟩
      · have hs' : isSg x = false := by simpa using hs
        have hby := byt_none hs'
        rw [hE] at hby
        obtain rfl : E = 1 := hby.2
        rw [if_neg hs, List.append_nil] at hnx
        have HNX := Lib.hid hnx
        clear hu hE hby hx hs hs' hnx hlen
        go_wp2_with (first
          | (go_at_call 34; refine (HBY.out _).mono ?_; rintro e w2 ⟨rfl, hb2⟩; have HB2 := Lib.hid (IsB.below HB.out hb2); have HW2 := Lib.hid (HW.out.trans (hb2.mono HW.out.size)); clear hb2))
        go_roundg (n - (k + 1))
        case measure => omega
        case rel => exact ⟨k + 1, by omega, by first | rfl | (congr 1), rfl, by show Lib.IsBuilderF _ _ _ _ _ _; rw [HNX.out]; exact HB2.out, HW2.out⟩
    · have hltI : ¬ (k : Int) < (n : Int) := by omega
      have HBU := Lib.hid (built_any w.heap.size w.heap.size _ wr HB.out hsz)
      have hkn : l.take k = l := List.take_of_length_le (by rw [HN.out]; omega)
      have HKN := Lib.hid hkn
      clear hkn
      go_wp2_with (go_at_call 37; refine HBU.out.mono ?_; rintro e w2 ⟨rfl, hb2⟩; have HW2 := Lib.hid (HW.out.trans hb2); clear hb2)
      go_ret
      exact ⟨by rw [HKN.out]; rfl, HW2.out⟩
end Go.Proofs.Ytdodlppnjlmnaaa
