/-
  THE CONTRACT of the document's Find.
  THE CONTRACT of the law's elems: words as elements, of both.
  THE CONTRACT of Entry.
  A REGION THAT DRAWS ITS ORDER, whose first store waits for all but ONE of the operations ahead of it (a read of a tuple, which Go's compiler may make behind that store): both orders are walked.
  THE CONTRACT of At.
  THE CONTRACT of the document's With.
  THE CONTRACT of the document's Check.
  THE CONTRACTS of the document's At, OfSigns and Elements.
  THE CONTRACTS of the document's OfSigns and Elements.
-/
import Derived.Test.YtaabdpfhpolcgaaGreatBPutC
import Derived.Test.YtaabdpfhpolcgaaGreatBAny
import Derived.Test.YtaabdpfhpolcgaaGreatBWith
import Derived.Test.YtaabdpfhpolcgaaGreatBCheck
namespace Go.Proofs.YtaabdpfhpolcgaaGreat
open Go.RowKit
set_option linter.unusedVariables false
set_option linter.unusedSimpArgs false
theorem place_first {L : List PE} {s : List Int} {k : Nat} {e : PE} (hk : L[k]? = some e) (he : e.1 = s) (h : ∀ j f, j < k → L[j]? = some f → f.1 ≠ s) : place L s = some k := by
  induction L generalizing k with
  | nil => simp at hk
  | cons f t ih =>
    rw [place_cons]
    cases k with
    | zero => simp at hk; subst hk; rw [if_pos he]
    | succ k =>
      rw [if_neg (h 0 f (Nat.succ_pos _) rfl), ih (by simpa using hk) fun j g hj hg => h (j + 1) g (by omega) (by simpa using hg)]
      rfl
theorem look_at {L : List PE} {s : List Int} {k : Nat} {e : PE} (hk : L[k]? = some e) (he : e.1 = s) (h : ∀ j f, j < k → L[j]? = some f → f.1 ≠ s) : look L s = some e.2 := by
  refine look_place (k := k) ?_ hk
  induction L generalizing k with
  | nil => simp at hk
  | cons f t ih =>
    rw [place_cons]
    cases k with
    | zero => simp at hk; subst hk; rw [if_pos he]
    | succ k =>
      rw [if_neg (h 0 f (Nat.succ_pos _) rfl), ih (by simpa using hk) fun j g hj hg => h (j + 1) g (by omega) (by simpa using hg)]
      rfl
theorem look_end {L : List PE} {s : List Int} (h : ∀ j f, j < L.length → L[j]? = some f → f.1 ≠ s) : look L s = none :=
  look_none (place_none.2 fun e he => by
    obtain ⟨j, hj⟩ := List.mem_iff_getElem?.1 he
    exact h j e (List.getElem?_eq_some_iff.1 hj).1 hj)
def FoundQ (M : List ME) (L : List PE) (s : List Int) (w : World) (r : Ending) (w' : World) : Prop :=
  (∃ A n c b, r = .returned (.tuple #[.slice A n c, .bool b]) ∧ (∀ l, look L s = some l → b = true ∧ RdQ anyB w' (.slice A n c) l ∧ ∃ k m, place L s = some k ∧ M[k]? = some m ∧ m.vl = .slice A n c) ∧ (look L s = none → b = false ∧ A = none ∧ n = 0 ∧ c = 0)) ∧ Below w.heap.size w w'
set_option maxHeartbeats 4000000 in
set_option maxRecDepth 100000 in
theorem rfind_raw {U G : Nat → Prop} {w : World} {v sv : Value} {M : List ME} {L : List PE} {s : List Int} (hML : pls M = L) (hM : RdN U w v M) (h : RefU U w v L) (hs : RdI G w sv s) (hL : L.length ≤ 1000) (hq : ∀ e ∈ L, e.1.length ≤ 1000) :
    Calls Tryz.prog 27 #[.agg #[v], sv] w (FoundQ M L s w) := by
  obtain ⟨Au, cu, rfl⟩ := h.form
  obtain ⟨As, cs, rfl⟩ := hs.form
  have hA := alloc_below w (.cells #[.slice Au L.length cu] 42)
  have HR := Lib.hid (h.below hA (Nat.le_refl _))
  have HS := Lib.hid (hs.below hA (Nat.le_refl _))
  have hx0 : (w.alloc (.cells #[.slice Au L.length cu] 42)).cell? ⟨w.heap.size, 0, none⟩ = some (.slice Au L.length cu) := by rw [cell_of_row _ _ 0 _ _ _ (heap_alloc_new w _)]; rfl
  have HX := Lib.hid hx0
  have HB0 := Lib.hid hA
  have HQ := Lib.hid hq
  have HM := Lib.hid (hM.below hA (Nat.le_refl _))
  have HML := Lib.hid hML
  obtain ⟨n, hn⟩ : ∃ n, L.length = n := ⟨_, rfl⟩
  have HN := Lib.hid hn
  rw [hn] at HR HX HB0 HS HM hL ⊢
  have hnI : (n : Int) ≤ 1000 := by omega
  clear h hs hx0 hn hA hq hM hML
  go_enter Tryz.func27, Tryz.ntmps27
  go_wp2
  generalize (w.alloc (.cells #[.slice Au n cu] 42)) = w0 at HR HS HX HB0 HM ⊢
  obtain ⟨bx, hbx⟩ : ∃ b, w.heap.size = b := ⟨_, rfl⟩
  rw [hbx] at HX
  rw [show (({ block := w.heap.size, off := 0 } : Addr)) = ⟨bx, 0, none⟩ by rw [hbx]]
  clear hbx
  go_loopw [6] (fun i wr => ∃ k : Nat, k ≤ n ∧ i = .int .i64 (k : Nat) ∧ Hid (∀ j f, j < k → L[j]? = some f → f.1 ≠ s) ∧ Hid (Below w0.heap.size w0 wr)) (fun i _ => n - (intOf i).toNat)
  case atStart => exact ⟨0, Nat.zero_le _, rfl, fun j f hj => absurd hj (Nat.not_lt_zero _), Below.refl _ _⟩
  case round =>
    obtain ⟨k, hk, rfl, HA, HB⟩ := hrel
    have cx := (HB.out.cell (p := ⟨bx, 0, none⟩) (cell_lt HX.out)).trans HX.out
    by_cases hlt : k < n
    · obtain ⟨e, he⟩ : ∃ e, L[k]? = some e := ⟨_, List.getElem?_eq_getElem (by rw [HN.out]; exact hlt)⟩
      obtain ⟨m, hm, hme⟩ : ∃ m, M[k]? = some m ∧ m.pl = e := pls_of (by rw [HML.out]; exact he)
      obtain ⟨g, o, rfl, e0, e1, hmq⟩ := (HM.out.below HB.out (Nat.le_refl _)).at hm
      have hqi : RdI anyB wr m.vs e.1 := by rw [← hme]; exact hmq.ints
      have hqe : RdQ anyB wr m.vl e.2 := by rw [← hme]; exact hmq.els
      obtain ⟨A4, k4, e4⟩ := hqi.form
      obtain ⟨A5, k5, e5⟩ := hqe.form
      have HE5 := Lib.hid e5
      have HMM := Lib.hid hm
      rw [e4] at e0 hqi
      rw [e5] at e1 hqe
      clear hm hme hmq e4 e5
      have HEE := Lib.hid he
      have HQI := Lib.hid hqi
      have HQE := Lib.hid hqe
      have HSR := Lib.hid (HS.out.below HB.out (Nat.le_refl _))
      have HEL : Hid (e.1.length ≤ 10000000) := by have := HQ.out e (List.mem_of_getElem? he); show _ ≤ _; omega
      have hkI : (k : Int) < (n : Int) := by omega
      obtain ⟨q, hqq⟩ : ∃ q, (e.1 == s) = q := ⟨_, rfl⟩
      have HQQ := Lib.hid hqq
      clear hqi hqe he hlt hqq
      cases q with
      | true =>
        go_wp2_with (go_at_call 58; refine (same_ints HQI.out HSR.out HEL.out HQQ.out).mono ?_; rintro r w3 ⟨rfl, hb3⟩; have cx3 := cell_call hb3 cx; have e13 := cell_call hb3 e1; have HE3 := Lib.hid (HQE.out.below hb3 (Nat.le_refl _)); have HB3 := Lib.hid (HB.out.trans (hb3.mono HB.out.size)); clear hb3 cx e0 e1)
        go_ret2
        have hes : e.1 = s := by have := HQQ.out; simpa using this
        have hlk : look L s = some e.2 := look_at HEE.out hes HA.out
        have hpk : place L s = some k := place_first HEE.out hes HA.out
        exact ⟨⟨_, _, _, _, rfl, fun l hl => (by rw [hlk] at hl; cases hl; exact ⟨rfl, HE3.out, k, m, hpk, HMM.out, HE5.out⟩), fun hl => (by rw [hlk] at hl; cases hl)⟩, HB0.out.trans (HB3.out.mono HB0.out.size)⟩
      | false =>
        go_wp2_with (go_at_call 58; refine (same_ints HQI.out HSR.out HEL.out HQQ.out).mono ?_; rintro r w3 ⟨rfl, hb3⟩; have HB3 := Lib.hid (HB.out.trans (hb3.mono HB.out.size)); clear hb3 cx e0 e1)
        go_roundw
        case rel => exact ⟨k + 1, by omega, by go_num, fun j f hj hf => (by
          rcases Nat.lt_or_ge j k with hjk | hjk
          · exact HA.out j f hjk hf
          · obtain rfl : j = k := by omega
            rw [HEE.out] at hf; cases hf
            have := HQQ.out; simpa using this), HB3.out⟩
        case measure => simp [intOf]; omega
    · obtain rfl : k = n := by omega
      clear hlt
      go_wp2
      go_ret2
      have hlk : look L s = none := look_end (by rw [HN.out]; exact HA.out)
      exact ⟨⟨_, _, _, _, rfl, fun l hl => (by rw [hlk] at hl; cases hl), fun _ => ⟨rfl, rfl, rfl, rfl⟩⟩, HB0.out.trans (HB.out.mono HB0.out.size)⟩
/-- What Find answers is one value, wherever the table is read. -/
theorem rfind_fix {U : Nat → Prop} {w : World} {v : Value} {L : List PE} (s : List Int) (h : RefU U w v L) (hL : L.length ≤ 1000) (hq : ∀ e ∈ L, e.1.length ≤ 1000) {b : Bool} (hb : (place L s).isSome = b) :
    ∃ A n c, ∀ (G : Nat → Prop) (w1 : World) (sv : Value), Below w.heap.size w w1 → RdI G w1 sv s → Calls Tryz.prog 27 #[.agg #[v], sv] w1 fun r w' => r = .returned (.tuple #[.slice A n c, .bool b]) ∧ Below w1.heap.size w1 w' := by
  have hR := h
  obtain ⟨M, hML, hM⟩ := h
  cases hp : place L s with
  | none =>
    rw [hp] at hb
    subst hb
    refine ⟨none, 0, 0, fun G w1 sv hb1 hs => ?_⟩
    refine (rfind_raw hML (hM.below hb1 (Nat.le_refl _)) (hR.below hb1 (Nat.le_refl _)) hs hL hq).mono fun r w' hh => ?_
    obtain ⟨⟨A, n, c, b', rfl, h1, h2⟩, h3⟩ := hh
    obtain ⟨rfl, rfl, rfl, rfl⟩ := h2 (look_none hp)
    exact ⟨rfl, h3⟩
  | some k =>
    rw [hp] at hb
    subst hb
    obtain ⟨e, he, hes⟩ := place_some hp
    obtain ⟨m, hm, hme⟩ : ∃ m, M[k]? = some m ∧ m.pl = e := pls_of (by rw [hML]; exact he)
    obtain ⟨A, c, e5⟩ := (hM.2 m (List.mem_of_getElem? hm)).els.form
    refine ⟨A, m.l.length, c, fun G w1 sv hb1 hs => ?_⟩
    refine (rfind_raw hML (hM.below hb1 (Nat.le_refl _)) (hR.below hb1 (Nat.le_refl _)) hs hL hq).mono fun r w' hh => ?_
    obtain ⟨⟨A', n', c', b', rfl, h1, h2⟩, h3⟩ := hh
    obtain ⟨rfl, -, k', m', hk', hm', e6⟩ := h1 e.2 (look_place hp he)
    rw [hp] at hk'; cases hk'
    rw [hm] at hm'; cases hm'
    rw [← e6, e5]
    exact ⟨rfl, h3⟩
end Go.Proofs.YtaabdpfhpolcgaaGreat
namespace Go.Proofs.YtaabdpfhpolcgaaGreat
open Go.RowKit
set_option linter.unusedVariables false
set_option linter.unusedSimpArgs false
theorem appendE2 {ops : Array Oper} {rest : List Oper} {o : Oper} {a : Act} {Q : Exit → Act → World → Prop} (hgd : o.guard = none) (s x : Operand)
    (ho : o.op = .call { callee := .builtin .append, args := #[s, x], argTypes := #[24, 24] })
    (w : World) (B : Nat) (v : Value) (l m : List Nat) {A : Option Addr} {C : Nat} {F : Nat → Prop} (hs : a.eval s = v) (hown : OwnE B w v l) (hx : a.eval x = .slice A m.length C) (hsrc : RdE F w (.slice A m.length C) m) (hB : B ≤ w.heap.size) (hl : l.length + m.length ≤ 1000000)
    (h : ∀ v' w', OwnE B w' v' (l ++ m) → w.grownBy w' v.ownBlock → Below B w w' → wpList Tryz.prog ops Q rest (a.put o.dst v') w') : wpList Tryz.prog ops Q (o :: rest) a w := by
  obtain ⟨i0, hi0, hz0, hz1, hz2⟩ := info_parts elem_info
  refine appendG Tryz.underlying24 hi0 hz0 hz1 hz2 rfl (by omega) (by omega) hgd s x ho w B v l.length (ev l) hs hown hx hsrc (by rw [ev_len]; omega) (ev_one m) hB hl fun v' w' h1 h2 h3 => h v' w' ?_ h2 h3
  unfold OwnE; rw [ev_app, List.length_append]; exact h1
theorem take_all12 {l : List Nat} {k : Nat} (h1 : k ≤ l.length) (h2 : k ≤ 12) (h : k = l.length ∨ k = 12) : l.take k = l.take 12 := by
  rcases h with rfl | rfl
  · rw [List.take_of_length_le (Nat.le_refl _), List.take_of_length_le h2]
  · rfl
theorem rof_is {z : Nat} (hz32 : z < 4294967296) (w : World) : Calls Tryz.prog 31 #[.int .u32 (z : Int)] w fun r w' => r = .returned (.agg #[.int .i64 ((z / 65536 : Nat) : Int), .int .i64 ((z / 256 % 256 : Nat) : Int), .int .i64 ((z / 2 % 128 : Nat) : Int), .bool (decide (z % 2 = 1))]) ∧ Below w.heap.size w w' :=
  E3.rof_any z _ _ _ _ hz32 (by rfl) (by rfl) (by rfl) (by show _ = _; simp) w
set_option maxHeartbeats 1000000 in
set_option maxRecDepth 100000 in
theorem elems_any {F : Nat → Prop} {w : World} {v : Value} {l : List Nat} (h : RdE F w v l) (hlen : l.length ≤ maxLen) (hw : ∀ x ∈ l, x < 4294967296) :
    Calls Tryz.prog 19 #[v] w fun r w' => (∃ A c A' c', r = .returned (.tuple #[.slice A (l.take 12).length c, .slice A' (l.take 12).length c']) ∧ OwnE w.heap.size w' (.slice A (l.take 12).length c) (l.take 12) ∧ OwnQ w.heap.size w' (.slice A' (l.take 12).length c') (l.take 12)) ∧ Below w.heap.size w w' := by
  obtain ⟨A, c, rfl⟩ := h.form
  have HR := Lib.hid h
  have HW := Lib.hid hw
  obtain ⟨n, hn⟩ : ∃ n, l.length = n := ⟨_, rfl⟩
  have HN := Lib.hid hn
  rw [hn] at HR hlen ⊢
  have hnI : (n : Int) ≤ 9223372036854775807 := by simp only [maxLen] at hlen; omega
  clear h hn hw hlen
  go_enter Tryz.func19, Tryz.ntmps19
  go_wp2
  go_loopw [4, 5, 6] (fun a b i wr => ∃ k : Nat, k ≤ n ∧ k ≤ 12 ∧ i = .int .i64 (k : Nat) ∧ Hid (OwnE w.heap.size wr a (l.take k)) ∧ Hid (OwnQ w.heap.size wr b (l.take k)) ∧ Hid (Below w.heap.size w wr)) (fun _ _ i _ => 12 - (intOf i).toNat)
  case atStart => exact ⟨0, Nat.zero_le _, Nat.zero_le _, rfl, World.ownsRow_nil _ _ _ _, World.ownsRow_nil _ _ _ _, Below.refl _ _⟩
  case round =>
    obtain ⟨k, hk, hk12, rfl, HA, HQ, HB⟩ := hrel
    have HTL : Hid ((l.take k).length = k) := by show _ = _; rw [List.length_take, HN.out]; omega
    obtain ⟨Aa, ca, e0⟩ := HA.out.form
    rw [HTL.out] at e0
    subst e0
    obtain ⟨Ab, cb, e0⟩ := HQ.out.form
    rw [HTL.out] at e0
    subst e0
    by_cases hlt : k < n
    · have hkI : (k : Int) < (n : Int) := by omega
      by_cases h12 : k < 12
      · have h12I : (k : Int) < 12 := by omega
        obtain ⟨x, hx⟩ : ∃ x, l[k]? = some x := ⟨_, List.getElem?_eq_getElem (by rw [HN.out]; exact hlt)⟩
        have HX := Lib.hid hx
        have hx32 := HW.out x (List.mem_of_getElem? hx)
        have CO := Lib.hid (fun w => rof_is hx32 w)
        have HQC : Hid (qcells [x] = [.int .i64 ((x / 65536 : Nat) : Int), .int .i64 ((x / 256 % 256 : Nat) : Int), .int .i64 ((x / 2 % 128 : Nat) : Int), .bool (decide (x % 2 = 1))]) := by show _ = _; rfl
        obtain ⟨xp, hxp⟩ : ∃ p, x / 65536 = p := ⟨_, rfl⟩
        obtain ⟨xs, hxs⟩ : ∃ p, x / 256 % 256 = p := ⟨_, rfl⟩
        obtain ⟨xt, hxt⟩ : ∃ p, x / 2 % 128 = p := ⟨_, rfl⟩
        obtain ⟨xv, hxv⟩ : ∃ p, decide (x % 2 = 1) = p := ⟨_, rfl⟩
        rw [hxp, hxs, hxt, hxv] at CO HQC
        have HTS : Hid (l.take (k + 1) = l.take k ++ [x]) := by show _ = _; rw [List.take_add_one, HX.out]; rfl
        obtain ⟨g, o, rfl, c0⟩ := (HR.out.below HB.out (Nat.le_refl _)).at hx
        have HRW := Lib.hid (HR.out.below HB.out (Nat.le_refl _))
        have HA2 := alloc_below wr (.cells #[.int .u32 (x : Int)] 26)
        have HAO := Lib.hid (HA.out.below HA2 (Nat.le_refl _))
        have HQO := Lib.hid (HQ.out.below HA2 (Nat.le_refl _))
        have HBO := Lib.hid (HB.out.trans (HA2.mono HB.out.size))
        clear hx hlt h12 hxp hxs hxt hxv hx32 HA2
        go_wp2_with (first
          | (at_builtin; refine appendE2 rfl (.tmp 17) (.tmp 22) rfl _ w.heap.size _ (l.take k) [x] rfl HAO.out rfl (RdF.new wr (ev [x]) _ (Nat.le_refl _)) HBO.out.size (by rw [HTL.out]; simp; omega) ?_; intro v5 w5 h5 hg5 hb5; have HO5 := Lib.hid h5; have HQ5 : Hid (OwnQ w.heap.size w5 (.slice Ab k cb) (l.take k)) := World.ownsRow.kept HQO.out hg5 (R4.own_apart_own HAO.out HQO.out (by decide)); have HB5 := Lib.hid (HBO.out.trans hb5); obtain ⟨g9, o9, e9, c5⟩ := (HR.out.below HB5.out (Nat.le_refl _)).at HX.out; cases e9; clear h5 hg5 hb5 c0)
          | (go_at_call 31; go_loud (refine (CO.out _).mono ?_; rintro r w6 ⟨rfl, hb6⟩); have HA6 := alloc_below w6 (.cells #[.int .i64 (xp : Int), .int .i64 (xs : Int), .int .i64 (xt : Int), .bool xv] 72); have HO6 := Lib.hid ((HO5.out.below hb6 (Nat.le_refl _)).below HA6 (Nat.le_refl _)); have HQ6 := Lib.hid ((HQ5.out.below hb6 (Nat.le_refl _)).below HA6 (Nat.le_refl _)); have HB6 := Lib.hid ((HB5.out.trans (hb6.mono HB5.out.size)).trans (HA6.mono (HB5.out.trans (hb6.mono HB5.out.size)).size)); clear hb6 HA6 c5)
          | (at_builtin; refine appendQ rfl (.tmp 24) (.tmp 30) rfl _ w.heap.size _ (l.take k) [x] rfl HQ6.out rfl (by show RdF anyB _ _ 1 (qcells _); rw [HQC.out]; exact RdF.new w6 _ _ (Nat.le_refl _)) HB6.out.size (by rw [HTL.out]; simp; omega) ?_; intro v7 w7 h7 hg7 hb7; have HQ7 := Lib.hid h7; have HO7 : Hid (OwnE w.heap.size w7 v5 (l.take k ++ [x])) := World.ownsRow.kept HO6.out hg7 (R4.own_apart_own HQ6.out HO6.out (by decide)); have HB7 := Lib.hid (HB6.out.trans hb7); clear h7 hg7 hb7))
        go_roundw
        case rel => exact ⟨k + 1, by omega, by omega, by go_num, by rw [HTS.out]; exact HO7.out, by rw [HTS.out]; exact HQ7.out, HB7.out⟩
        case measure => simp [intOf]; omega
      · obtain rfl : k = 12 := by omega
        have HL : Hid ((l.take 12).length = 12) := HTL.out
        clear hlt h12
        go_wp2
        go_ret2
        rw [HL.out]
        exact ⟨⟨_, _, _, _, rfl, HA.out, HQ.out⟩, HB.out⟩
    · obtain rfl : k = n := by omega
      have HT : Hid (l.take 12 = l.take k) := (take_all12 (by rw [HN.out]; exact Nat.le_refl _) hk12 (.inl HN.out.symm)).symm
      clear hlt
      go_wp2
      go_ret2
      rw [HT.out, HTL.out]
      exact ⟨⟨_, _, _, _, rfl, HA.out, HQ.out⟩, HB.out⟩
end Go.Proofs.YtaabdpfhpolcgaaGreat
namespace Go.Proofs.YtaabdpfhpolcgaaGreat
open Go.RowKit
set_option linter.unusedVariables false
set_option linter.unusedSimpArgs false
set_option maxHeartbeats 1000000 in
set_option maxRecDepth 100000 in
theorem entry_yes {F G : Nat → Prop} {w : World} {p : Nat} {L : List PE} {sv : Value} {s : List Int} {l : List Nat} (h : TabAt F w p L) (hs : RdI G w sv s) (hl : look L s = some l) :
    Calls Tryz.prog 26 #[.pointer (some ⟨p, 0, none⟩), sv] w fun r w' => (∃ A n c, r = .returned (.tuple #[.slice A n c, .bool true]) ∧ RdE anyB w' (.slice A n c) l) ∧ Below w.heap.size w w' := by
  obtain ⟨As, cs, rfl⟩ := hs.form
  obtain ⟨k, hp⟩ : ∃ k, place L s = some k := by
    cases hp : place L s with
    | none => rw [look_none hp] at hl; cases hl
    | some k => exact ⟨k, rfl⟩
  obtain ⟨e, he, hes⟩ := place_some hp
  have hle : e.2 = l := by rw [look_place hp he] at hl; exact Option.some.inj hl
  have h8 := (h.good.els e (List.mem_of_getElem? he)).1
  have hkn := place_lt hp
  have hlen := h.good.len
  obtain ⟨A1, c1, bo, b2, b3, d0, -, -, -, hrt, -, -, -⟩ := h.cells
  obtain ⟨g, o, vs, vl, rfl, e0, e1, hri, hre⟩ := hrt.at he
  obtain ⟨A3, k3, rfl⟩ := hre.form
  have HC := Lib.hid (find_yes hp h hs)
  have HRE := Lib.hid hre
  have HD := Lib.hid d0
  have HE1 := Lib.hid e1
  have HLE := Lib.hid hle
  have HL8 := Lib.hid h8
  obtain ⟨n, hn⟩ : ∃ n, L.length = n := ⟨_, rfl⟩
  rw [hn] at HD hkn hlen
  have hkI : (k : Int) < (n : Int) := by omega
  have hnI : (n : Int) ≤ 500 := by omega
  clear h hs hl hp he hes hle h8 d0 hrt e0 e1 hri hre hn
  go_enter Tryz.func26, Tryz.ntmps26
  go_wp2_with (first
    | (go_at_call 45; refine (HC.out).mono ?_; rintro e w1 ⟨rfl, hb⟩; have c0 := cell_call hb HD.out; have c1 := cell_call hb HE1.out; have HR1 := Lib.hid (HRE.out.below hb (Nat.le_refl _)); have HB1 := Lib.hid hb; clear hb)
    | (go_at_call 43; refine (cloneE_is HR1.out (by have := HL8.out; omega)).mono ?_; rintro q w2 ⟨⟨v2, rfl, ho⟩, hb⟩; have h2 := ho.rd (F := anyB) (fun _ _ => trivial); obtain ⟨A2, c2, rfl⟩ := h2.form; have HR2 := Lib.hid h2; have HB2 := Lib.hid (HB1.out.trans (hb.mono HB1.out.size)); clear hb ho h2 c0 c1))
  go_ret2
  exact ⟨⟨_, _, _, rfl, by rw [← HLE.out]; exact HR2.out⟩, HB2.out⟩
set_option maxHeartbeats 1000000 in
set_option maxRecDepth 100000 in
theorem entry_no {F G : Nat → Prop} {w : World} {p : Nat} {L : List PE} {sv : Value} {s : List Int} (h : TabAt F w p L) (hs : RdI G w sv s) (hI : I64 s) (hsl : s.length ≤ 1000000000000000) (hp : place L s = none) :
    Calls Tryz.prog 26 #[.pointer (some ⟨p, 0, none⟩), sv] w fun r w' => r = .returned (.tuple #[.slice none 0 0, .bool false]) ∧ Below w.heap.size w w' := by
  obtain ⟨As, cs, rfl⟩ := hs.form
  have HC := Lib.hid (find_no hp h hs hI hsl)
  clear h hs hI hsl hp
  go_enter Tryz.func26, Tryz.ntmps26
  go_wp2_with (go_at_call 45; refine (HC.out).mono ?_; rintro e w1 ⟨⟨i, rfl⟩, hb⟩; have HB1 := Lib.hid hb; clear hb)
  go_ret2
  exact ⟨rfl, HB1.out⟩
end Go.Proofs.YtaabdpfhpolcgaaGreat
namespace Go.Proofs.YtaabdpfhpolcgaaGreat
open Go.RowKit
set_option linter.unusedVariables false
set_option linter.unusedSimpArgs false
section
variable {P : Program} {ops : Array Oper} {Q : Exit → Act → World → Prop} {m : Nat}
def seqLB (ops : Array Oper) : List Nat → Array Bool → Bool
  | [], listed => (Region.ready .any ops listed).isEmpty
  | k :: l, listed => decide (Region.ready .any ops listed = [k]) && seqLB ops l (listed.setIfInBounds k true)
theorem any_seqL : ∀ (l : List Nat) (fuel : Nat) (listed : Array Bool) (a : Act) (w : World), (∀ k ∈ l, k < ops.size) → l.length ≤ fuel →
    seqLB ops l listed = true → wpList P ops Q (l.filterMap fun k => ops[k]?) a w → wpAny P .any ops Q fuel listed a w
  | [], fuel, listed, a, w, hl, hf, hB, h => by
    have hr : Region.ready .any ops listed = [] := by simpa [seqLB] using hB
    cases fuel with
    | zero => exact ⟨hr, h⟩
    | succ f => exact ⟨fun _ => h, fun i hi => by rw [hr] at hi; cases hi⟩
  | k :: l, fuel, listed, a, w, hl, hf, hB, h => by
    have hk := hl k (by simp)
    have h0 : ops[k]? = some ops[k] := Array.getElem?_eq_getElem hk
    simp only [List.length_cons, seqLB, Bool.and_eq_true, decide_eq_true_eq] at hB hf
    obtain ⟨f, rfl⟩ : ∃ f, fuel = f + 1 := ⟨fuel - 1, by omega⟩
    refine ⟨fun h1 => (by rw [hB.1] at h1; cases h1), fun i hi => ?_⟩
    rw [hB.1] at hi
    have hik : i = k := by simpa using hi
    subst hik
    rw [List.filterMap_cons, h0] at h
    have hw : wpOp P ops Q i (wpList P ops Q (l.filterMap fun k => ops[k]?)) a w := by unfold wpOp; simp only [h0]; exact h
    exact wpOp_mono (fun a' w' h' => any_seqL l f _ a' w' (fun j hj => hl j (by simp [hj])) (by omega) hB.2 h') hw
def restL (m n x : Nat) : List Nat := x :: (List.range n).map fun j => m + 1 + j
/-- What the kernel settles once. -/
def anyxOk (ops : Array Oper) (m x : Nat) (ds : List Nat) : Bool :=
  backB ops && ((List.range m).all fun i => i == x || Region.waitsFor .any ops m i) && Region.chainB .any ops m && decide (m < ops.size) && decide ds.Nodup && decide (ds.length = m) && Region.seqB .any ops (ops.toList.drop m).length m (Array.replicate m true ++ Array.replicate (ops.size - m) false) && decide (x < m) &&
    seqLB ops (restL m (ops.size - (m + 1)) x) (((Array.replicate m true ++ Array.replicate (ops.size - m) false).setIfInBounds x false).setIfInBounds m true)
theorem chain_tail (hc : Region.chainB .any ops m = true) {listed : Array Bool} (inv : HeadInv .any ops m listed) {t : Nat} (ht : t ∈ Region.ready .any ops listed) (hm : m ≤ t) : t = m := by
  obtain ⟨hun, o, ho, hall⟩ := mem_ready.1 ht
  have hts : t < ops.size := (Array.getElem?_eq_some_iff.1 ho).1
  rcases Nat.lt_or_ge m t with h | h
  · exfalso
    have h1 := List.all_eq_true.1 hc t (List.mem_range.2 hts)
    simp only [Bool.or_eq_true, decide_eq_true_eq] at h1
    rcases h1 with h1 | h1
    · omega
    · obtain ⟨o', ho', e, he, hb, hon⟩ := Region.waitsFor_spec h1
      have : o' = o := Option.some.inj (ho'.symm.trans ho)
      subst this
      have h2 := hall e he hb
      rw [hon] at h2
      have h3 := inv.tail (t - 1) (by omega) (by omega)
      rw [getD_both h3] at h2
      cases h2
  · omega
theorem anyx_go {ts : Array Value} {df : List Deferred} {ds : List Nat} {Vs : List SV} {w : World} {x : Nat} (hx : x < m) (hbk : backB ops = true) (hw : ∀ i, i < m → i ≠ x → Region.waitsFor .any ops m i = true) (hc : Region.chainB .any ops m = true) (hlt : m < ops.size) (hn : ds.Nodup) (hdl : ds.length = m)
    (hq : Region.seqB .any ops (ops.toList.drop m).length m (Array.replicate m true ++ Array.replicate (ops.size - m) false) = true)
    (hqx : seqLB ops (restL m (ops.size - (m + 1)) x) (((Array.replicate m true ++ Array.replicate (ops.size - m) false).setIfInBounds x false).setIfInBounds m true) = true)
    (hop : ∀ i, i < m → OpIs P ops Q ts df ds Vs w i)
    (hend : ∀ (vs : Nat → Value) (w1 : World), Below w.heap.size w w1 → (∀ j, j < m → (Vs.getD j SV.any).p (vs j) w1) → wpList P ops Q (ops.toList.drop m) ⟨frameV ts ds vs 0, df⟩ w1)
    (hexc : ∀ (vs : Nat → Value) (w1 : World), Below w.heap.size w w1 → (∀ j, j < m → j ≠ x → (Vs.getD j SV.any).p (vs j) w1) → wpList P ops Q ((m :: restL m (ops.size - (m + 1)) x).filterMap fun k => ops[k]?) ⟨frameV ts ds vs 0, df⟩ w1) :
    ∀ (u fuel : Nat) (listed : Array Bool) (vs : Nat → Value) (w1 : World), unl listed m = u → u + (ops.size - m) ≤ fuel → HeadInv .any ops m listed → Below w.heap.size w w1 →
      (∀ j, j < m → listed.getD j false = true → (Vs.getD j SV.any).p (vs j) w1) → wpAny P .any ops Q fuel listed ⟨frameV ts ds vs 0, df⟩ w1 := by
  intro u
  induction u with
  | zero =>
    intro fuel listed vs w1 hu hf inv hb hv
    have hall := unl_zero listed m hu
    have hlisted : listed = Array.replicate m true ++ Array.replicate (ops.size - m) false := by
      apply Array.ext
      · rw [inv.size]; simp; omega
      · intro i h1 h2
        rw [inv.size] at h1
        rcases Nat.lt_or_ge i m with hi | hi
        · rw [Array.getElem_append_left (by simpa using hi)]
          have := hall i hi
          simp [Array.getD, inv.size, h1] at this
          simpa using this
        · rw [Array.getElem_append_right (by simpa using hi)]
          have := inv.tail i hi h1
          simp [Array.getD, inv.size, h1] at this
          simpa using this
    refine any_seq (ops.toList.drop m) m fuel listed _ w1 (fun j => by simp [List.getElem?_drop]) (by simp; omega) (by rw [hlisted]; exact hq) ?_
    refine hend vs w1 hb fun j hj => hv j hj ?_
    have := hall j hj
    simp [Array.getD, inv.size, show j < ops.size by omega] at this ⊢
    exact this
  | succ u ih =>
    intro fuel listed vs w1 hu hf inv hb hv
    obtain ⟨i0, hi0, hun0⟩ := unl_pos listed m (by omega)
    obtain ⟨f, rfl⟩ : ∃ f, fuel = f + 1 := ⟨fuel - 1, by omega⟩
    have hne : Region.ready .any ops listed ≠ [] := by
      intro hr
      obtain ⟨j, hj⟩ := ready_some hbk inv.size (i0 + 1) i0 (by omega) (by omega) hun0
      rw [hr] at hj
      cases hj
    refine ⟨fun h => absurd h hne, fun i hi => ?_⟩
    obtain ⟨hun, o, ho, hall⟩ := mem_ready.1 hi
    have hwait : ∀ j, Region.waitsFor .any ops i j = true → listed.getD j false = true := fun j hj => by
      obtain ⟨oj, hoj, e, he, hb2, hon⟩ := Region.waitsFor_spec hj
      have : oj = o := Option.some.inj (hoj.symm.trans ho)
      subst this
      rw [← hon]
      exact hall e he hb2
    rcases Nat.lt_or_ge i m with him | him
    · refine wpOp_step ho fun K hK => ?_
      refine hop i him o ho vs w1 hb (fun j hj => ?_) K fun v w2 hv2 hb2 => hK _ _ ?_
      · have hjl := hwait j hj
        rcases Nat.lt_or_ge j m with h | h
        · exact hv j h hjl
        · exfalso
          rcases Nat.lt_or_ge j ops.size with h' | h'
          · have := inv.tail j h h'
            rw [getD_both this] at hjl
            cases hjl
          · simp [Array.getD, inv.size, show ¬ j < ops.size by omega] at hjl
      · have hdi : ds[i]? = some (ds.getD i 0) := by
          rw [List.getD_eq_getElem?_getD, List.getElem?_eq_getElem (by omega)]; rfl
        have := frameV_upd (ts := ts) (v := v) (i := i) ds (vs := vs) 0 i hn hdi (by omega)
        rw [← this]
        refine ih f _ (upd vs i v) w2 (by have := unl_set listed i hun m him; omega) (by omega) (inv.set hi him) (hb.trans (hb2.mono hb.size)) fun j hj hl => ?_
        unfold upd
        by_cases e : j = i
        · subst e; rw [if_pos rfl]; exact hv2
        · rw [if_neg e]
          rw [getD_set_ne false (Ne.symm e)] at hl
          exact (Vs.getD j SV.any).st _ _ _ (hv j hj hl) hb2
    · obtain rfl := chain_tail hc inv hi him
      have hlst : ∀ j, j < i → j ≠ x → listed.getD j false = true := fun j hj hjx => hwait j (hw j hj hjx)
      have hxun : listed.getD x true = false := by
        by_cases e : i0 = x
        · subst e; exact hun0
        · have := hlst i0 hi0 e
          rw [getD_both hun0] at this
          cases this
      have hlisted : listed = (Array.replicate i true ++ Array.replicate (ops.size - i) false).setIfInBounds x false := by
        apply Array.ext
        · rw [inv.size]; simp; omega
        · intro j h1 h2
          rw [inv.size] at h1
          rw [Array.getElem_setIfInBounds (by simp; omega)]
          by_cases e : x = j
          · subst e
            rw [if_pos rfl]
            simpa [Array.getD, inv.size, h1] using hxun
          · rw [if_neg e]
            rcases Nat.lt_or_ge j i with hi | hi
            · rw [Array.getElem_append_left (by simpa using hi)]
              have := hlst j hi (Ne.symm e)
              simp [Array.getD, inv.size, h1] at this
              simpa using this
            · rw [Array.getElem_append_right (by simpa using hi)]
              have := inv.tail j hi h1
              simp [Array.getD, inv.size, h1] at this
              simpa using this
      have hx2 := hexc vs w1 hb fun j hj hjx => hv j hj (hlst j hj hjx)
      rw [List.filterMap_cons, ho] at hx2
      have hw2 : wpOp P ops Q i (wpList P ops Q ((restL i (ops.size - (i + 1)) x).filterMap fun k => ops[k]?)) ⟨frameV ts ds vs 0, df⟩ w1 := by unfold wpOp; simp only [ho]; exact hx2
      refine wpOp_mono (fun a' w' h' => any_seqL _ f _ a' w' (fun k hk => ?_) ?_ (by rw [hlisted]; exact hqx) h') hw2
      · unfold restL at hk
        rcases List.mem_cons.1 hk with hk | hk
        · omega
        · obtain ⟨j, hj, rfl⟩ := List.mem_map.1 hk
          have := List.mem_range.1 hj
          omega
      · simp [restL]; omega
theorem range_drop (ops : Array Oper) : ∀ n k, n = ops.size - k → ((List.range n).map fun j => k + j).filterMap (fun j => ops[j]?) = ops.toList.drop k
  | 0, k, h => by rw [List.drop_eq_nil_of_le (by simp; omega)]; rfl
  | n + 1, k, h => by
    have hk : k < ops.size := by omega
    rw [List.range_succ_eq_map, List.map_cons, List.map_map, List.filterMap_cons, Nat.add_zero, Array.getElem?_eq_getElem hk]
    have h2 := range_drop ops n (k + 1) (by omega)
    rw [List.drop_eq_getElem_cons (by simpa using hk), ← h2]
    simp only [Array.getElem_toList]
    congr 2
    apply List.map_congr_left
    intro j _
    simp; omega
theorem restL_eq {ops : Array Oper} {m x : Nat} (hm : m < ops.size) (hx : x < m) : (m :: restL m (ops.size - (m + 1)) x).filterMap (fun k => ops[k]?) = (ops.toList.drop m).take 1 ++ (ops.toList.drop x).take 1 ++ ops.toList.drop (m + 1) := by
  have hxs : x < ops.size := by omega
  unfold restL
  rw [List.filterMap_cons, List.filterMap_cons, Array.getElem?_eq_getElem hm, Array.getElem?_eq_getElem hxs, range_drop ops _ (m + 1) rfl,
    List.drop_eq_getElem_cons (l := ops.toList) (i := m) (by simpa using hm), List.drop_eq_getElem_cons (l := ops.toList) (i := x) (by simpa using hxs)]
  rfl
theorem anyx_region {id : Nat} {ts : Array Value} {df : List Deferred} {w : World} (x : Nat) (ds : List Nat) (Vs : List SV) (hm : P.follows .mixedOrders = true) (hok : anyxOk ops m x ds = true)
    (hop : AllB (OpIs P ops Q ts df ds Vs w) m)
    (hend : ∀ (vs : Nat → Value) (w1 : World), Below w.heap.size w w1 → (∀ j, j < m → (Vs.getD j SV.any).p (vs j) w1) → wpList P ops Q (ops.toList.drop m) ⟨frameV ts ds vs 0, df⟩ w1)
    (hexc : ∀ (vs : Nat → Value) (w1 : World), Below w.heap.size w w1 → (∀ j, j < m → j ≠ x → (Vs.getD j SV.any).p (vs j) w1) → wpList P ops Q ((ops.toList.drop m).take 1 ++ (ops.toList.drop x).take 1 ++ ops.toList.drop (m + 1)) ⟨frameV ts ds vs 0, df⟩ w1) :
    (Code.region id ops true).wp P Q ⟨ts, df⟩ w := by
  simp only [anyxOk, Bool.and_eq_true, decide_eq_true_eq] at hok
  obtain ⟨⟨⟨⟨⟨⟨⟨⟨h0, h1⟩, h2⟩, h3⟩, h4⟩, h5⟩, h6⟩, h7⟩, h8⟩ := hok
  refine wp_region_any hm ?_
  have hw : ∀ i, i < m → i ≠ x → Region.waitsFor .any ops m i = true := fun i hi hix => by
    have := List.all_eq_true.1 h1 i (List.mem_range.2 hi)
    simpa [hix] using this
  have hstart := frameV_start (ts := ts) ds (fun i => ts.getD (ds.getD i 0) undef) 0 fun j d hd => by
    rw [Nat.zero_add, List.getD_eq_getElem?_getD, hd]; rfl
  have hgo := anyx_go h7 h0 hw h2 h3 h4 h5 h6 h8 hop.all hend (fun vs w1 hb hv => by rw [restL_eq h3 h7]; exact hexc vs w1 hb hv) (unl (Array.replicate ops.size false) m) ops.size (Array.replicate ops.size false) (fun i => ts.getD (ds.getD i 0) undef) w.drew rfl ?_ ?_ ((Below.refl _ w).drew) ?_
  · rw [hstart] at hgo
    exact hgo
  · have hle : ∀ n, unl (Array.replicate ops.size false) n ≤ n := by
      intro n
      induction n with
      | zero => exact Nat.le_refl _
      | succ n ih => rw [unl]; split <;> omega
    have := hle m
    omega
  · exact ⟨by simp, (fun j oj _ hl => absurd hl (by rw [getD_replicate_false]; exact Bool.false_ne_true)), (fun t _ ht' => by simp [ht'])⟩
  · intro j _ hl
    exact absurd hl (by rw [getD_replicate_false]; exact Bool.false_ne_true)
end
end Go.Proofs.YtaabdpfhpolcgaaGreat
namespace Go.Proofs.YtaabdpfhpolcgaaGreat
open Go.RowKit
set_option linter.unusedVariables false
set_option linter.unusedSimpArgs false
set_option maxHeartbeats 1000000 in
set_option maxRecDepth 100000 in
theorem at_out {w : World} {p : Value} {G : Nat → Prop} {sv : Value} {ss : List Int} {k : Int} (hs : RdI G w sv ss) (hl : ss.length ≤ 1000000) (hk : k < 0 ∨ (ss.length : Int) ≤ k) :
    Calls Tryz.prog 22 #[p, sv, .int .i64 k] w fun r w' => r = .returned (.tuple #[.slice none 0 0, .int .i64 0]) ∧ Below w.heap.size w w' := by
  obtain ⟨A, c, rfl⟩ := hs.form
  clear hs
  by_cases h0 : k < 0
  · clear hk
    go_enter Tryz.func22, Tryz.ntmps22
    go_wp2
    go_ret2
    exact ⟨rfl, Below.refl _ _⟩
  · have h1 : (ss.length : Int) ≤ k := by omega
    have hb : decide (k < 0) = false := decide_eq_false h0
    clear hk
    go_enter Tryz.func22, Tryz.ntmps22
    go_wp2
    go_ret2
    exact ⟨rfl, Below.refl _ _⟩
set_option maxHeartbeats 1000000 in
set_option maxRecDepth 100000 in
theorem at_in {F : Nat → Prop} {w : World} {p : Nat} {L : List PE} {sv : Value} {ss : List Int} {k : Nat} {l : List Nat} {u : Nat} (h : TabAt F w p L) (hs : RdI anyB w sv ss) (hsg : ss.all T2.isSg = true) (hl : ss.length ≤ 1000000) (hk : k < ss.length) (hR : atP L (ss.drop k) = (l, u)) :
    Calls Tryz.prog 22 #[.pointer (some ⟨p, 0, none⟩), sv, .int .i64 (k : Nat)] w fun r w' => (∃ A n c, r = .returned (.tuple #[.slice A n c, .int .i64 (u : Nat)]) ∧ RdE anyB w' (.slice A n c) l) ∧ Below w.heap.size w w' := by
  obtain ⟨A, c, rfl⟩ := hs.form
  have hcap := (RdF.cap hs).1
  obtain ⟨g, o, rfl, -⟩ := RdF.base hs (by omega)
  have HR2 : Hid (RdI anyB w (.slice (some ⟨g, o + k, none⟩) (ss.length - k) (c - k)) (ss.drop k)) := RdI.drop hs (by omega) (fun ad e => by cases e; rw [Addr.add_lit, if_neg (by omega)])
  have HC := Lib.hid (first_is hR h HR2.out (by rw [List.length_drop]; omega) (all_drop hsg k) (by rw [List.length_drop]; omega))
  have hg := atP_good h.good (ss.drop k)
  rw [hR] at hg
  have hl8 : l.length ≤ 8 := hg.1
  have HL8 := Lib.hid hl8
  have HLD : Hid ((ss.drop k).length = ss.length - k) := List.length_drop
  have u1 : ¬ (k : Int) < 0 := by omega
  have u2 : ¬ (ss.length : Int) ≤ (k : Int) := by omega
  have u5 : (k : Int) ≤ (ss.length : Int) := by omega
  have u3 : (ss.length : Int) ≤ (c : Int) := by omega
  have u6 : (ss.length : Int) ≤ 1000000 := by omega
  have u4 : k ≤ ss.length := by omega
  have u7 : (0 : Int) ≤ (k : Int) := by omega
  have ub : decide ((k : Int) < 0) = false := decide_eq_false u1
  have ub2 : decide ((ss.length : Int) ≤ (k : Int)) = false := decide_eq_false u2
  obtain ⟨n, hn⟩ : ∃ n, ss.length = n := ⟨_, rfl⟩
  rw [hn] at u2 u5 u3 u6 u4 ub2 HLD HR2 HC
  have HLN := Lib.hid hn
  rw [hn]
  clear h hs hsg hR hg hcap hk hn hl hl8
  go_enter Tryz.func22, Tryz.ntmps22
  go_wp2_with (first
    | (go_at_call 50; refine (HC.out).mono ?_; rintro e w2 ⟨⟨A3, c3, rfl, hr⟩, hb⟩; have HRL := Lib.hid hr; have HB2 := Lib.hid hb; clear hr hb)
    | (go_at_call 43; refine (cloneE_is HRL.out (by have := HL8.out; omega)).mono ?_; rintro q w3 ⟨⟨v3, rfl, ho⟩, hb⟩; have h3 := ho.rd (F := anyB) (fun _ _ => trivial); obtain ⟨A4, c4, rfl⟩ := h3.form; have HR4 := Lib.hid h3; have HB4 := Lib.hid (HB2.out.trans (hb.mono HB2.out.size)); clear hb ho h3))
  go_ret2
  exact ⟨⟨_, _, _, rfl, HR4.out⟩, HB4.out⟩
/-- What At tells, wherever the place lies. -/
def atK (L : List PE) (ss : List Int) (k : Int) : List Nat × Nat := if 0 ≤ k ∧ k < (ss.length : Int) then atP L (ss.drop k.toNat) else ([], 0)
theorem at_any {F : Nat → Prop} {w : World} {p : Nat} {L : List PE} {sv : Value} {ss : List Int} {k : Int} {l : List Nat} {u : Nat} (h : TabAt F w p L) (hs : RdI anyB w sv ss) (hsg : ss.all T2.isSg = true) (hl : ss.length ≤ 1000000) (hR : atK L ss k = (l, u)) :
    Calls Tryz.prog 22 #[.pointer (some ⟨p, 0, none⟩), sv, .int .i64 k] w fun r w' => (∃ A n c, r = .returned (.tuple #[.slice A n c, .int .i64 (u : Nat)]) ∧ RdE anyB w' (.slice A n c) l) ∧ Below w.heap.size w w' := by
  unfold atK at hR
  by_cases hk : 0 ≤ k ∧ k < (ss.length : Int)
  · rw [if_pos hk] at hR
    obtain ⟨j, rfl⟩ : ∃ j : Nat, (j : Int) = k := ⟨k.toNat, by omega⟩
    rw [Int.toNat_natCast] at hR
    exact at_in h hs hsg hl (by omega) hR
  · rw [if_neg hk] at hR
    cases hR
    exact (at_out hs hl (by omega)).mono fun r w' hh => ⟨⟨_, _, _, hh.1, RdF.nil _ _⟩, hh.2⟩
end Go.Proofs.YtaabdpfhpolcgaaGreat
namespace Go.Proofs.YtaabdpfhpolcgaaGreat
open Go.RowKit
set_option linter.unusedVariables false
set_option linter.unusedSimpArgs false
set_option maxHeartbeats 1000000 in
set_option maxRecDepth 100000 in
theorem rwith_len {G H : Nat → Prop} {w : World} {Av : Option Addr} {nv cv : Nat} {sv lv : Value} {s : List Int} {l : List Nat} (hs : RdI G w sv s) (hl : RdQ H w lv l) (hb : s.length < 1 ∨ 3 < s.length ∨ 8 < l.length) :
    Calls Tryz.prog 20 #[.agg #[.slice Av nv cv], sv, lv] w fun r w' => r = .returned (.tuple #[.agg #[.slice none 0 0], .int .i64 1]) ∧ Below w.heap.size w w' := by
  obtain ⟨As, cs, rfl⟩ := hs.form
  obtain ⟨Al, cl, rfl⟩ := hl.form
  have HB2 : Hid (Below w.heap.size w ((w.alloc (.cells #[.slice Av nv cv] 42)).alloc (.cells #[.slice none 0 0] 42))) := ((Below.refl _ w).alloc (Nat.le_refl _) _).alloc (by simp) _
  have HC : ((w.alloc (.cells #[.slice Av nv cv] 42)).alloc (.cells #[.slice none 0 0] 42)).cell? ⟨w.heap.size + 1, 0, none⟩ = some (.slice none 0 0) := by
    have := heap_alloc_new (w.alloc (.cells #[.slice Av nv cv] 42)) (.cells #[.slice none 0 0] 42)
    rw [World.size_alloc] at this
    rw [cell_of_row _ _ 0 _ _ _ this]; rfl
  by_cases h1 : s.length < 1
  · have k1 : (s.length : Int) < 1 := by omega
    clear hs hl hb
    go_enter Tryz.func20, Tryz.ntmps20
    go_wp2
    exact bodyPost_ret (v := .tuple #[.agg #[.slice none 0 0], .int .i64 1]) (by simp [results, Tryz.results20, go_sem, HC]) rfl ⟨rfl, HB2.out⟩
  · have k1 : ¬ (s.length : Int) < 1 := by omega
    have kb : decide ((s.length : Int) < 1) = false := decide_eq_false k1
    by_cases h3 : 3 < s.length
    · have k3 : (3 : Int) < (s.length : Int) := by omega
      clear hs hl hb
      go_enter Tryz.func20, Tryz.ntmps20
      go_wp2
      exact bodyPost_ret (v := .tuple #[.agg #[.slice none 0 0], .int .i64 1]) (by simp [results, Tryz.results20, go_sem, HC]) rfl ⟨rfl, HB2.out⟩
    · have k3 : ¬ (3 : Int) < (s.length : Int) := by omega
      have k8 : (8 : Int) < (l.length : Int) := by omega
      clear hs hl hb
      go_enter Tryz.func20, Tryz.ntmps20
      go_wp2
      exact bodyPost_ret (v := .tuple #[.agg #[.slice none 0 0], .int .i64 1]) (by simp [results, Tryz.results20, go_sem, HC]) rfl ⟨rfl, HB2.out⟩
def RWithIs (U : Nat → Prop) (L : List PE) (s : List Int) (l : List Nat) (w : World) (r : Ending) (w' : World) : Prop :=
  (withE L s l = 0 → ∃ u, r = .returned (.tuple #[.agg #[u], .int .i64 0]) ∧ RefU U w' u (putP L (s, l))) ∧ (withE L s l ≠ 0 → r = .returned (.tuple #[.agg #[.slice none 0 0], .int .i64 (withE L s l)])) ∧ Below w.heap.size w w'
theorem sgs_all {s : List Int} (h : ∀ j c, j < s.length → s[j]? = some c → T2.isSg c = true) : sgsB s = true := List.all_eq_true.2 fun c hc => by
  obtain ⟨j, hj⟩ := List.mem_iff_getElem?.1 hc
  exact h j c (List.getElem?_eq_some_iff.1 hj).1 hj
theorem sgs_no {s : List Int} {k : Nat} {c : Int} (hk : s[k]? = some c) (h : T2.isSg c = false) : sgsB s = false := by
  unfold sgsB
  rw [List.all_eq_false]
  exact ⟨c, List.mem_of_getElem? hk, by rw [h]; simp⟩
set_option maxHeartbeats 4000000 in
set_option maxRecDepth 100000 in
theorem rwith_any {U G H : Nat → Prop} {w : World} {v sv lv : Value} {L : List PE} {s : List Int} {l : List Nat} (hU : ∀ k, w.heap.size ≤ k → U k) (hg : GoodT L) (hne : 0 < L.length) (h : RefU U w v L) (hs : RdI G w sv s) (hl : RdQ H w lv l) :
    Calls Tryz.prog 20 #[.agg #[v], sv, lv] w (RWithIs U L s l w) := by
  obtain ⟨Av, cv, rfl⟩ := h.form
  by_cases hb : s.length < 1 ∨ 3 < s.length ∨ 8 < l.length
  · have he : withE L s l = 1 := by
      unfold withE badA
      rw [if_pos]
      simp only [Bool.or_eq_true, decide_eq_true_eq]
      rcases hb with hb | hb | hb
      · exact .inl (.inl (.inl hb))
      · exact .inl (.inl (.inr hb))
      · exact .inl (.inr hb)
    refine (rwith_len hs hl hb).mono fun r w' hh => ⟨fun e => (by rw [he] at e; cases e), fun _ => (by rw [he]; exact hh.1), hh.2⟩
  · obtain ⟨E, hE⟩ : ∃ E, withE L s l = E := ⟨_, rfl⟩
    have hE2 := hE
    unfold withE badA at hE2
    rw [decide_eq_false (by omega : ¬ s.length < 1), decide_eq_false (by omega : ¬ 3 < s.length), decide_eq_false (by omega : ¬ 8 < l.length)] at hE2
    simp only [Bool.false_or, Bool.not_eq_true'] at hE2
    have HE := Lib.hid hE
    have HE2 := Lib.hid hE2
    obtain ⟨As, cs, rfl⟩ := hs.form
    obtain ⟨Al, cl, rfl⟩ := hl.form
    have HG := Lib.hid hg
    have HU := Lib.hid hU
    have hlen := hg.len
    have hA1 := alloc_below w (.cells #[.slice Av L.length cv] 42)
    have hA2 := alloc_below (w.alloc (.cells #[.slice Av L.length cv] 42)) (.cells #[.slice none 0 0] 42)
    have hA := hA1.trans (hA2.mono hA1.size)
    have HB2 := Lib.hid hA
    have HR := Lib.hid (h.below hA (Nat.le_refl _))
    have HS := Lib.hid (hs.below hA (Nat.le_refl _))
    have HLQ := Lib.hid (hl.below hA (Nat.le_refl _))
    have HX : Hid (((w.alloc (.cells #[.slice Av L.length cv] 42)).alloc (.cells #[.slice none 0 0] 42)).cell? ⟨w.heap.size, 0, none⟩ = some (.slice Av L.length cv)) := by
      show _ = _
      refine cell_alloc ?_ _
      rw [World.cell?_alloc_mark]; rfl
    have HC : Hid (((w.alloc (.cells #[.slice Av L.length cv] 42)).alloc (.cells #[.slice none 0 0] 42)).heap[w.heap.size + 1]? = some (.cells #[.slice none 0 0] 42)) := by
      have := heap_alloc_new (w.alloc (.cells #[.slice Av L.length cv] 42)) (.cells #[.slice none 0 0] 42)
      rw [World.size_alloc] at this
      exact this
    have k1 : ¬ (s.length : Int) < 1 := by omega
    have k3 : ¬ (3 : Int) < (s.length : Int) := by omega
    have k8 : ¬ (8 : Int) < (l.length : Int) := by omega
    have hsl1 : 1 ≤ s.length := by omega
    have hsl3 : s.length ≤ 3 := by omega
    have hll8 : l.length ≤ 8 := by omega
    obtain ⟨n, hn⟩ : ∃ n, L.length = n := ⟨_, rfl⟩
    have HN := Lib.hid hn
    rw [hn] at HB2 HR HS HLQ HX HC hlen hne HE2 ⊢
    have hnI : (n : Int) ≤ 500 := by omega
    clear h hs hl hA hA1 hA2 hE hE2 hg hU hb hn
    go_enter Tryz.func20, Tryz.ntmps20
    go_wp2
    generalize ((w.alloc (.cells #[.slice Av n cv] 42)).alloc (.cells #[.slice none 0 0] 42)) = w2 at HB2 HR HS HLQ HX HC ⊢
    obtain ⟨b0, hb0⟩ : ∃ b, w.heap.size = b := ⟨_, rfl⟩
    have HB0 := Lib.hid hb0
    rw [hb0] at HX HC
    rw [show (({ block := w.heap.size, off := 0 } : Addr)) = ⟨b0, 0, none⟩ by rw [hb0]]
    rw [show (({ block := w.heap.size + 1, off := 0 } : Addr)) = ⟨b0 + 1, 0, none⟩ by rw [hb0]]
    clear hb0
    have HSZ : Hid (b0 + 1 < w2.heap.size) := R4.heap_lt HC.out
    go_loopw [8] (fun i wr => ∃ k : Nat, k ≤ s.length ∧ i = .int .i64 (k : Nat) ∧ Hid (∀ j c, j < k → s[j]? = some c → T2.isSg c = true) ∧ Hid (Below w2.heap.size w2 wr)) (fun i _ => s.length - (intOf i).toNat)
    case atStart => exact ⟨0, Nat.zero_le _, rfl, fun j c hj => absurd hj (Nat.not_lt_zero _), Below.refl _ _⟩
    case round =>
      obtain ⟨k, hk, rfl, HA, HB⟩ := hrel
      have HW := Lib.hid (HB2.out.trans (HB.out.mono HB2.out.size))
      have hrow := (HB.out.block _ HSZ.out).trans HC.out
      have HROW := Lib.hid hrow
      have f1 : wr.cell? ⟨b0 + 1, 0, none⟩ = some (.slice none 0 0) := by rw [cell_of_row _ _ 0 _ _ _ hrow]; rfl
      have f2 : wr.frozen? ⟨b0 + 1, 0, none⟩ = false := frozen_of_row _ _ 0 _ _ hrow
      have cx := cell_call HB.out HX.out
      clear hrow
      by_cases hlt : k < s.length
      · obtain ⟨c, hc⟩ : ∃ c, s[k]? = some c := ⟨_, List.getElem?_eq_getElem hlt⟩
        obtain ⟨g, o, rfl, c0⟩ := (HS.out.below HB.out (Nat.le_refl _)).at hc
        have HCC := Lib.hid hc
        have hkI : (k : Int) < (s.length : Int) := by omega
        obtain ⟨q, hq⟩ : ∃ q, T2.isSg c = q := ⟨_, rfl⟩
        have HQ := Lib.hid hq
        have CS := Lib.hid (fun w => rsign_is hq w)
        clear hc hlt hq
        cases q with
        | true =>
          go_wp2_with (go_at_call 35; refine (CS.out _).mono ?_; rintro e w' ⟨rfl, rfl⟩)
          go_roundw
          case rel => exact ⟨k + 1, by omega, by go_num, fun j d hj hd => (by
            rcases Nat.lt_or_ge j k with hjk | hjk
            · exact HA.out j d hjk hd
            · obtain rfl : j = k := by omega
              rw [HCC.out] at hd; cases hd; exact HQ.out), HB.out⟩
          case measure => simp [intOf]; omega
        | false =>
          have he : Hid (E = 1) := by have h2 := HE2.out; rw [sgs_no HCC.out HQ.out, if_pos rfl] at h2; exact h2.symm
          go_wp2_with (go_at_call 35; refine (CS.out _).mono ?_; rintro e w' ⟨rfl, rfl⟩)
          have d3 : (wr.setCell ⟨b0 + 1, 0, none⟩ (.slice none 0 0)).cell? ⟨b0 + 1, 0, none⟩ = some (.slice none 0 0) := by rw [cell_of_row _ _ 0 _ _ _ (heap_setCell_same wr (b0 + 1) 0 _ _ _ HROW.out)]; rfl
          refine bodyPost_ret (v := .tuple #[.agg #[.slice none 0 0], .int .i64 1]) (by simp [results, Tryz.results20, go_sem, d3]) rfl ⟨fun e => ?_, fun _ => ?_, HW.out.setCell (by have := HB0.out; show _ ≤ b0 + 1; omega) _⟩
          · rw [HE.out, he.out] at e; cases e
          · rw [HE.out, he.out]
      · obtain rfl : k = s.length := by omega
        have hsg : sgsB s = true := sgs_all HA.out
        have h2 := HE2.out
        rw [hsg] at h2
        simp only [Bool.true_eq_false, if_false] at h2
        have HE3 := Lib.hid h2
        have HSG := Lib.hid hsg
        have HRW := Lib.hid (HR.out.below HB.out (Nat.le_refl _))
        have HSW := Lib.hid (HS.out.below HB.out (Nat.le_refl _))
        have HLW := Lib.hid (HLQ.out.below HB.out (Nat.le_refl _))
        have HL5 : Hid (L.length ≤ 1000 ∧ ∀ e ∈ L, 1 ≤ e.1.length ∧ e.1.length ≤ 1000) := ⟨by have := HG.out.len; omega, fun e he => by have := HG.out.seq e he; omega⟩
        obtain ⟨M, hML, hMM⟩ := HRW.out
        have HMM := Lib.hid hMM
        have HML := Lib.hid hML
        clear hlt hsg h2 hML hMM
        cases hp : place L s with
        | none =>
          have HP := Lib.hid hp
          clear hp
          by_cases h5 : 500 ≤ n
          · have h5I : (500 : Int) ≤ (n : Int) := by omega
            have he : Hid (E = 65) := by have h3 := HE3.out; rw [if_pos ⟨HP.out, h5⟩] at h3; exact h3.symm
            clear h5
            go_wp2_with (go_at_call 27; refine (rfind_raw HML.out HMM.out HRW.out HSW.out HL5.out.1 (fun e he => (HL5.out.2 e he).2)).mono ?_; rintro r w3 ⟨⟨A3, n3, c3, b3, rfl, -, h32⟩, hb3⟩; obtain ⟨rfl, rfl, rfl, rfl⟩ := h32 (look_none HP.out); have cx3 := cell_call hb3 cx; have f13 := cell_call hb3 f1; have f23 : w3.frozen? ⟨b0 + 1, 0, none⟩ = false := (hb3.frozen (p := ⟨b0 + 1, 0, none⟩) (cell_lt f1)).trans f2; have HW3 := Lib.hid (HW.out.trans (hb3.mono HW.out.size)); have HROW3 := Lib.hid ((hb3.block _ (R4.heap_lt HROW.out)).trans HROW.out); clear hb3 h32)
            have d3 : (w3.setCell ⟨b0 + 1, 0, none⟩ (.slice none 0 0)).cell? ⟨b0 + 1, 0, none⟩ = some (.slice none 0 0) := by rw [cell_of_row _ _ 0 _ _ _ (heap_setCell_same w3 (b0 + 1) 0 _ _ _ HROW3.out)]; rfl
            refine bodyPost_ret (v := .tuple #[.agg #[.slice none 0 0], .int .i64 65]) (by simp [results, Tryz.results20, go_sem, d3]) rfl ⟨fun e => ?_, fun _ => ?_, HW3.out.setCell (by have := HB0.out; show _ ≤ b0 + 1; omega) _⟩
            · rw [HE.out, he.out] at e; cases e
            · rw [HE.out, he.out]
          · have h5I : ¬ (500 : Int) ≤ (n : Int) := by omega
            have he : Hid (E = 0) := by have h3 := HE3.out; rw [if_neg (fun hh => h5 hh.2)] at h3; exact h3.symm
            clear h5
            go_wp2_with (first
              | (go_at_call 27; refine (rfind_raw HML.out HMM.out HRW.out HSW.out HL5.out.1 (fun e he => (HL5.out.2 e he).2)).mono ?_; rintro r w3 ⟨⟨A3, n3, c3, b3, rfl, h31, h32⟩, hb3⟩; obtain ⟨rfl, rfl, rfl, rfl⟩ := h32 (look_none HP.out); have cx3 := cell_call hb3 cx; have f13 := cell_call hb3 f1; have f23 : w3.frozen? ⟨b0 + 1, 0, none⟩ = false := (hb3.frozen (p := ⟨b0 + 1, 0, none⟩) (cell_lt f1)).trans f2; have HW3 := Lib.hid (HW.out.trans (hb3.mono HW.out.size)); have HROW3 := Lib.hid ((hb3.block _ (R4.heap_lt HROW.out)).trans HROW.out); have HR3 := Lib.hid (HRW.out.below hb3 (Nat.le_refl _)); have HS3 := Lib.hid (HSW.out.below hb3 (Nat.le_refl _)); have HL3 := Lib.hid (HLW.out.below hb3 (Nat.le_refl _)); clear hb3 h31 h32)
              | (go_at_call 59; refine (put_any (U := U) (fun j hj => HU.out j (Nat.le_trans HW3.out.size hj)) HR3.out HS3.out HL3.out HL5.out.2 hsl1 (by omega) (by omega) HL5.out.1 (fun e => absurd e (by intro e; have h0 := HN.out; rw [e] at h0; simp at h0; omega)) (put_eq HG.out.srt (s, l)).symm).mono ?_; rintro r w4 ⟨⟨u, rfl, hu⟩, hb4⟩; obtain ⟨A4, c4, e4⟩ := hu.form; obtain ⟨n4, hn4⟩ : ∃ m, (putP L (s, l)).length = m := ⟨_, rfl⟩; rw [hn4] at e4; subst e4; have HU4 := Lib.hid hu; have f14 := cell_call hb4 f13; have f24 : w4.frozen? ⟨b0 + 1, 0, none⟩ = false := (hb4.frozen (p := ⟨b0 + 1, 0, none⟩) (cell_lt f13)).trans f23; have HW4 := Lib.hid (HW3.out.trans (hb4.mono HW3.out.size)); have HROW4 := Lib.hid ((hb4.block _ (R4.heap_lt HROW3.out)).trans HROW3.out); clear hb4 hu hn4 cx3 f13 f23))
            have d3 : (w4.setCell ⟨b0 + 1, 0, none⟩ (.slice A4 n4 c4)).cell? ⟨b0 + 1, 0, none⟩ = some (.slice A4 n4 c4) := by rw [cell_of_row _ _ 0 _ _ _ (heap_setCell_same w4 (b0 + 1) 0 _ _ _ HROW4.out)]; rfl
            refine bodyPost_ret (v := .tuple #[.agg #[.slice A4 n4 c4], .int .i64 0]) (by simp [results, Tryz.results20, go_sem, d3]) rfl ⟨fun e => ⟨_, rfl, HU4.out.off (R4.grown_setCell w4 ⟨b0 + 1, 0, none⟩ _) HROW4.out (by decide) (by decide) (by decide)⟩, fun hh => absurd (HE.out.trans he.out) hh, HW4.out.setCell (by have := HB0.out; show _ ≤ b0 + 1; omega) _⟩
        | some j =>
          obtain ⟨ee, he1, he2⟩ := place_some hp
          have HLK := Lib.hid (look_place hp he1)
          have he : Hid (E = 0) := by have h3 := HE3.out; rw [if_neg (fun hh => (by rw [hp] at hh; cases hh.1))] at h3; exact h3.symm
          clear hp he1 he2
          go_wp2_with (first
            | (go_at_call 27; refine (rfind_raw HML.out HMM.out HRW.out HSW.out HL5.out.1 (fun e he => (HL5.out.2 e he).2)).mono ?_; rintro r w3 ⟨⟨A3, n3, c3, b3, rfl, h31, h32⟩, hb3⟩; obtain ⟨rfl, -, -⟩ := h31 _ HLK.out; have cx3 := cell_call hb3 cx; have f13 := cell_call hb3 f1; have f23 : w3.frozen? ⟨b0 + 1, 0, none⟩ = false := (hb3.frozen (p := ⟨b0 + 1, 0, none⟩) (cell_lt f1)).trans f2; have HW3 := Lib.hid (HW.out.trans (hb3.mono HW.out.size)); have HROW3 := Lib.hid ((hb3.block _ (R4.heap_lt HROW.out)).trans HROW.out); have HR3 := Lib.hid (HRW.out.below hb3 (Nat.le_refl _)); have HS3 := Lib.hid (HSW.out.below hb3 (Nat.le_refl _)); have HL3 := Lib.hid (HLW.out.below hb3 (Nat.le_refl _)); clear hb3 h31 h32)
            | (go_at_call 59; refine (put_any (U := U) (fun j hj => HU.out j (Nat.le_trans HW3.out.size hj)) HR3.out HS3.out HL3.out HL5.out.2 hsl1 (by omega) (by omega) HL5.out.1 (fun e => absurd e (by intro e; have h0 := HN.out; rw [e] at h0; simp at h0; omega)) (put_eq HG.out.srt (s, l)).symm).mono ?_; rintro r w4 ⟨⟨u, rfl, hu⟩, hb4⟩; obtain ⟨A4, c4, e4⟩ := hu.form; obtain ⟨n4, hn4⟩ : ∃ m, (putP L (s, l)).length = m := ⟨_, rfl⟩; rw [hn4] at e4; subst e4; have HU4 := Lib.hid hu; have f14 := cell_call hb4 f13; have f24 : w4.frozen? ⟨b0 + 1, 0, none⟩ = false := (hb4.frozen (p := ⟨b0 + 1, 0, none⟩) (cell_lt f13)).trans f23; have HW4 := Lib.hid (HW3.out.trans (hb4.mono HW3.out.size)); have HROW4 := Lib.hid ((hb4.block _ (R4.heap_lt HROW3.out)).trans HROW3.out); clear hb4 hu hn4 cx3 f13 f23))
          have d3 : (w4.setCell ⟨b0 + 1, 0, none⟩ (.slice A4 n4 c4)).cell? ⟨b0 + 1, 0, none⟩ = some (.slice A4 n4 c4) := by rw [cell_of_row _ _ 0 _ _ _ (heap_setCell_same w4 (b0 + 1) 0 _ _ _ HROW4.out)]; rfl
          refine bodyPost_ret (v := .tuple #[.agg #[.slice A4 n4 c4], .int .i64 0]) (by simp [results, Tryz.results20, go_sem, d3]) rfl ⟨fun e => ⟨_, rfl, HU4.out.off (R4.grown_setCell w4 ⟨b0 + 1, 0, none⟩ _) HROW4.out (by decide) (by decide) (by decide)⟩, fun hh => absurd (HE.out.trans he.out) hh, HW4.out.setCell (by have := HB0.out; show _ ≤ b0 + 1; omega) _⟩
end Go.Proofs.YtaabdpfhpolcgaaGreat
namespace Go.Proofs.YtaabdpfhpolcgaaGreat
open Go.RowKit
set_option linter.unusedVariables false
set_option linter.unusedSimpArgs false
theorem okP_okE (x : Nat) : E3.okP (x / 65536) (x / 256 % 256) (x / 2 % 128) (decide (x % 2 = 1)) = E3.okE x := by
  unfold E3.okP E3.okE
  rcases Nat.mod_two_eq_zero_or_one x with h | h <;> simp [h]
theorem rok_is {x : Nat} {b : Bool} (h : E3.okE x = b) (w : World) : Calls Tryz.prog 65 #[.agg #[.int .i64 ((x / 65536 : Nat) : Int), .int .i64 ((x / 256 % 256 : Nat) : Int), .int .i64 ((x / 2 % 128 : Nat) : Int), .bool (decide (x % 2 = 1))]] w fun r w' => r = .returned (.bool b) ∧ Below w.heap.size w w' := by
  rw [← h, ← okP_okE]; exact E3.rok_any _ _ _ _ w
theorem all_take {l : List Nat} {k : Nat} {x : Nat} (hx : l[k]? = some x) (h : (l.take k).all okW = true) (hk : okW x = true) : (l.take (k + 1)).all okW = true := by
  rw [List.take_add_one, hx, List.all_append, h]; simp [hk]
theorem good_no {L : List PE} {e : PE} {k : Nat} {x : Nat} (hx : e.2[k]? = some x) (h : okW x = false) : goodE L e = false := by
  unfold goodE
  rw [Bool.and_eq_false_iff]
  left
  rw [List.all_eq_false]
  exact ⟨x, List.mem_of_getElem? hx, by rw [h]; simp⟩
theorem RDM {w : World} {A : Option Addr} {c m : Nat} {s : List Int} (hm : (s.take m).length = m) (h : RdF anyB w (.slice A m c) m ((iv s).take m)) : RdI anyB w (.slice A m c) (s.take m) := by
  unfold RdI
  rw [hm, show iv (s.take m) = (iv s).take m by simp [iv, T2.iv, List.map_take]]; exact h
set_option maxHeartbeats 4000000 in
set_option maxRecDepth 100000 in
theorem rcheck_any {U : Nat → Prop} {w : World} {v : Value} {L : List PE} (h : RefU U w v L) (hL : L.length ≤ 1000) (hq : ∀ e ∈ L, e.1.length ≤ 1000 ∧ 1 ≤ e.1.length ∧ e.2.length ≤ 1000) {r : Int} (hr : checkP L = r) :
    Calls Tryz.prog 28 #[.agg #[v]] w fun e w' => e = .returned (.int .i64 r) ∧ Below w.heap.size w w' := by
  obtain ⟨Au, cu, rfl⟩ := h.form
  have hA := alloc_below w (.cells #[.slice Au L.length cu] 42)
  have HR := Lib.hid (h.below hA (Nat.le_refl _))
  have hx0 : (w.alloc (.cells #[.slice Au L.length cu] 42)).cell? ⟨w.heap.size, 0, none⟩ = some (.slice Au L.length cu) := by rw [cell_of_row _ _ 0 _ _ _ (heap_alloc_new w _)]; rfl
  have HX := Lib.hid hx0
  have HB0 := Lib.hid hA
  have HQ := Lib.hid hq
  have HRR := Lib.hid hr
  obtain ⟨n, hn⟩ : ∃ n, L.length = n := ⟨_, rfl⟩
  have HN := Lib.hid hn
  rw [hn] at HR HX HB0 hL ⊢
  have hnI : (n : Int) ≤ 1000 := by omega
  clear h hx0 hn hA hq hr
  go_enter Tryz.func28, Tryz.ntmps28
  go_wp2
  generalize (w.alloc (.cells #[.slice Au n cu] 42)) = w0 at HR HX HB0 ⊢
  obtain ⟨bx, hbx⟩ : ∃ b, w.heap.size = b := ⟨_, rfl⟩
  rw [hbx] at HX
  rw [show (({ block := w.heap.size, off := 0 } : Addr)) = ⟨bx, 0, none⟩ by rw [hbx]]
  clear hbx
  go_loopw [3] (fun i wr => ∃ k : Nat, k ≤ n ∧ i = .int .i64 (k : Nat) ∧ Hid (∀ j f, j < k → L[j]? = some f → goodE L f = true) ∧ Hid (Below w0.heap.size w0 wr)) (fun i _ => n - (intOf i).toNat)
  case atStart => exact ⟨0, Nat.zero_le _, rfl, fun j f hj => absurd hj (Nat.not_lt_zero _), Below.refl _ _⟩
  case round =>
    obtain ⟨k, hk, rfl, HA, HB⟩ := hrel
    obtain ⟨wo, rfl⟩ : ∃ wo, wo = wr := ⟨_, rfl⟩
    have cx := (HB.out.cell (p := ⟨bx, 0, none⟩) (cell_lt HX.out)).trans HX.out
    by_cases hlt : k < n
    · obtain ⟨e, he⟩ : ∃ e, L[k]? = some e := ⟨_, List.getElem?_eq_getElem (by rw [HN.out]; exact hlt)⟩
      obtain ⟨g, o, us, ul, rfl, e0, e1, hqi, hqe⟩ := (HR.out.below HB.out (Nat.le_refl _)).at he
      obtain ⟨A4, k4, rfl⟩ := hqi.form
      obtain ⟨A5, k5, rfl⟩ := hqe.form
      have hcap := (RdF.cap hqi).1
      have HEE := Lib.hid he
      have HQI := Lib.hid hqi
      have HQE := Lib.hid hqe
      have HC0 := Lib.hid e0
      have HC1 := Lib.hid e1
      have HCX := Lib.hid cx
      have hlen := HQ.out e (List.mem_of_getElem? he)
      have hkI : (k : Int) < (n : Int) := by omega
      have hl2 : (e.2.length : Int) ≤ 1000 := by omega
      have hl1 : (e.1.length : Int) ≤ 1000 := by omega
      clear hqi hqe he hlt
      go_wp2
      go_loopw [4] (fun i wq => ∃ j : Nat, j ≤ e.2.length ∧ i = .int .i64 (j : Nat) ∧ Hid ((e.2.take j).all okW = true) ∧ Hid (Below wo.heap.size wo wq)) (fun i _ => e.2.length - (intOf i).toNat)
      case atStart => exact ⟨0, Nat.zero_le _, rfl, rfl, Below.refl _ _⟩
      case round =>
        obtain ⟨j, hj, rfl, HJ, HW⟩ := hrel
        have cx1 := cell_call HW.out HCX.out
        have e01 := cell_call HW.out HC0.out
        have e11 := cell_call HW.out HC1.out
        by_cases hjl : j < e.2.length
        · obtain ⟨x, hx⟩ : ∃ x, e.2[j]? = some x := ⟨_, List.getElem?_eq_getElem hjl⟩
          obtain ⟨g5, o5, rfl, f0, f1, f2, f3⟩ := (HQE.out.below HW.out (Nat.le_refl _)).at hx
          have HXX := Lib.hid hx
          have hjI : (j : Int) < (e.2.length : Int) := by omega
          obtain ⟨ok, hok⟩ : ∃ b, E3.okE x = b := ⟨_, rfl⟩
          have CO := Lib.hid (fun w => rok_is hok w)
          have HOK := Lib.hid hok
          obtain ⟨pp, hpp⟩ : ∃ p, x / 65536 = p := ⟨_, rfl⟩
          have HPP := Lib.hid hpp
          rw [hpp] at f0 CO
          obtain ⟨ps, hps⟩ : ∃ p, x / 256 % 256 = p := ⟨_, rfl⟩
          rw [hps] at f1 CO
          obtain ⟨pt, hpt⟩ : ∃ p, x / 2 % 128 = p := ⟨_, rfl⟩
          rw [hpt] at f2 CO
          obtain ⟨pv, hpv⟩ : ∃ p, decide (x % 2 = 1) = p := ⟨_, rfl⟩
          rw [hpv] at f3 CO
          clear hx hjl hok hpp hps hpt hpv
          cases ok with
          | false =>
            have HF : Hid (r = 3) := by show _ = _; rw [← HRR.out]; exact check_no HEE.out (good_no HXX.out (by unfold okW; rw [HOK.out]; rfl))
            go_wp2_with (go_at_call 65; refine (CO.out _).mono ?_; rintro q w3 ⟨rfl, hb3⟩; have HB3 := Lib.hid (HW.out.trans (hb3.mono HW.out.size)); clear hb3 f0 f1 f2 f3 e01 e11 cx1)
            go_ret
            have h1 := HB0.out.trans (HB.out.mono HB0.out.size)
            exact ⟨by rw [HF.out]; rfl, h1.trans (HB3.out.mono h1.size)⟩
          | true =>
            by_cases hpl : pp < 64256
            · have hpD : decide ((64256 : Int) ≤ (pp : Int)) = false := decide_eq_false (by omega)
              have HNX := Lib.hid (all_take HXX.out HJ.out (by unfold okW; rw [HOK.out, HPP.out]; simp [hpl]))
              clear hpl
              go_wp2_with (go_at_call 65; refine (CO.out _).mono ?_; rintro q w3 ⟨rfl, hb3⟩; have HB3 := Lib.hid (HW.out.trans (hb3.mono HW.out.size)); have cx2 := cell_call hb3 cx1; have e12 := cell_call hb3 e11; have f02 := cell_call hb3 f0; clear hb3 f0 f1 f2 f3 e01 e11 cx1)
              go_roundw
              case rel => exact ⟨j + 1, by omega, by go_num, HNX.out, HB3.out⟩
              case measure => simp [intOf]; omega
            · have hpI : (64256 : Int) ≤ (pp : Int) := by omega
              have HF : Hid (r = 3) := by show _ = _; rw [← HRR.out]; exact check_no HEE.out (good_no HXX.out (by unfold okW; rw [HOK.out, HPP.out]; simp; omega))
              go_wp2_with (go_at_call 65; refine (CO.out _).mono ?_; rintro q w3 ⟨rfl, hb3⟩; have HB3 := Lib.hid (HW.out.trans (hb3.mono HW.out.size)); have cx2 := cell_call hb3 cx1; have e12 := cell_call hb3 e11; have f02 := cell_call hb3 f0; clear hb3 f0 f1 f2 f3 e01 e11 cx1)
              go_ret
              have h1 := HB0.out.trans (HB.out.mono HB0.out.size)
              exact ⟨by rw [HF.out]; rfl, h1.trans (HB3.out.mono h1.size)⟩
        · obtain rfl : j = e.2.length := by omega
          have HALL : Hid (e.2.all okW = true) := by have := HJ.out; rw [List.take_length] at this; exact this
          clear hjl
          have HBW := Lib.hid (HB.out.trans (HW.out.mono HB.out.size))
          go_wp2
          go_loopw [5] (fun i wq => ∃ m : Nat, 1 ≤ m ∧ m ≤ e.1.length ∧ i = .int .i64 (m : Nat) ∧ Hid (begTo L e.1 m = true) ∧ Hid (Below wo.heap.size wo wq)) (fun i _ => e.1.length - (intOf i).toNat)
          case atStart => exact ⟨1, Nat.le_refl _, hlen.2.1, rfl, rfl, HW.out⟩
          case round =>
            clear cx1 e01 e11
            obtain ⟨m, hm1, hm, rfl, HG, HV⟩ := hrel
            have cx1 := cell_call HV.out HCX.out
            have e01 := cell_call HV.out HC0.out
            have e11 := cell_call HV.out HC1.out
            by_cases hml : m < e.1.length
            · have hmI : (m : Int) < (e.1.length : Int) := by omega
              have hmJ : (m : Int) ≤ (k4 : Int) := by omega
              have hm0 : (0 : Int) ≤ (m : Int) := by omega
              obtain ⟨b, hb⟩ : ∃ b, (place L (e.1.take m)).isSome = b := ⟨_, rfl⟩
              have HBB := Lib.hid hb
              have HSM := Lib.hid ((HQI.out.below HV.out (Nat.le_refl _)).take (Nat.le_of_lt hml))
              have HRV := Lib.hid (HR.out.below (HB.out.trans (HV.out.mono HB.out.size)) (Nat.le_refl _))
              have HCX1 := Lib.hid cx1
              have HC01 := Lib.hid e01
              have hml2 : (e.1.take m).length = m := by rw [List.length_take]; omega
              obtain ⟨Af, nf, cf, hf⟩ := rfind_fix (e.1.take m) HRV.out (by rw [HN.out]; omega) (fun f hf => (HQ.out f hf).1) hb
              have HFI := Lib.hid hf
              clear hb hml hf
              go_wp2
              clear cx1 e01 e11
              refine any_region (m := 14) [62, 63, 64, 65, 66, 67, 68, 69, 70, 71, 61, 72, 73, 6] [SV.eq (.agg #[.slice (some ⟨g, o, none⟩) n cu]), SV.eq (.pointer (some ⟨bx, 0, none⟩)), SV.eq (.slice (some ⟨g, o, none⟩) n cu), SV.eq (.int .i64 (k : Int)), SV.eq (.pointer (some ⟨g, o + k * 2, none⟩)), SV.eq (.pointer (some ⟨g, o + k * 2, none⟩)), SV.eq (.slice A4 e.1.length k4), SV.eq (.int .i64 (m : Int)), SV.eq (.slice A4 m k4), SV.eq (.tuple #[.slice Af nf cf, .bool b]), SV.eq (.tuple #[.slice Af nf cf, .bool b]), SV.eq (.slice Af nf cf), SV.eq (.bool b), SV.eq (.slice Af nf cf)] (by kernel_rfl) (by kernel_rfl) ?_ ?_
              · refine ⟨⟨⟨⟨⟨⟨⟨⟨⟨⟨⟨⟨⟨⟨trivial, ?_⟩, ?_⟩, ?_⟩, ?_⟩, ?_⟩, ?_⟩, ?_⟩, ?_⟩, ?_⟩, ?_⟩, ?_⟩, ?_⟩, ?_⟩, ?_⟩
                · refine OpIs.mk rfl ?_
                  intro vs w1 hb hd K hK
                  have c0 := cell_call hb HCX1.out
                  simp only [frameV, List.setIfInBounds_toArray, List.set_cons_zero, List.set_cons_succ, List.getD_cons_zero, List.getD_cons_succ] at hK ⊢
                  have HK := Lib.hid hK
                  clear hK
                  go_simp
                  exact HK.out _ _ rfl (Below.refl _ _)
                · refine OpIs.mk rfl ?_
                  intro vs w1 hb hd K hK
                  simp only [frameV, List.setIfInBounds_toArray, List.set_cons_zero, List.set_cons_succ, List.getD_cons_zero, List.getD_cons_succ] at hK ⊢
                  have HK := Lib.hid hK
                  clear hK
                  go_simp
                  exact HK.out _ _ rfl (Below.refl _ _)
                · refine OpIs.mk rfl ?_
                  intro vs w1 hb hd K hK
                  have d1 : vs 1 = .pointer (some ⟨bx, 0, none⟩) := hd 1 (by kernel_rfl)
                  have c0 := cell_call hb HCX1.out
                  simp only [frameV, List.setIfInBounds_toArray, List.set_cons_zero, List.set_cons_succ, List.getD_cons_zero, List.getD_cons_succ] at hK ⊢
                  simp only [d1] at hK ⊢
                  have HK := Lib.hid hK
                  clear hK
                  go_simp
                  exact HK.out _ _ rfl (Below.refl _ _)
                · refine OpIs.mk rfl ?_
                  intro vs w1 hb hd K hK
                  simp only [frameV, List.setIfInBounds_toArray, List.set_cons_zero, List.set_cons_succ, List.getD_cons_zero, List.getD_cons_succ] at hK ⊢
                  have HK := Lib.hid hK
                  clear hK
                  go_simp
                  exact HK.out _ _ rfl (Below.refl _ _)
                · refine OpIs.mk rfl ?_
                  intro vs w1 hb hd K hK
                  have d2 : vs 2 = .slice (some ⟨g, o, none⟩) n cu := hd 2 (by kernel_rfl)
                  have d3 : vs 3 = .int .i64 (k : Int) := hd 3 (by kernel_rfl)
                  simp only [frameV, List.setIfInBounds_toArray, List.set_cons_zero, List.set_cons_succ, List.getD_cons_zero, List.getD_cons_succ] at hK ⊢
                  simp only [d2, d3] at hK ⊢
                  have HK := Lib.hid hK
                  clear hK
                  go_simp
                  exact HK.out _ _ rfl (Below.refl _ _)
                · refine OpIs.mk rfl ?_
                  intro vs w1 hb hd K hK
                  have d4 : vs 4 = .pointer (some ⟨g, o + k * 2, none⟩) := hd 4 (by kernel_rfl)
                  simp only [frameV, List.setIfInBounds_toArray, List.set_cons_zero, List.set_cons_succ, List.getD_cons_zero, List.getD_cons_succ] at hK ⊢
                  simp only [d4] at hK ⊢
                  have HK := Lib.hid hK
                  clear hK
                  go_simp
                  exact HK.out _ _ rfl (Below.refl _ _)
                · refine OpIs.mk rfl ?_
                  intro vs w1 hb hd K hK
                  have d5 : vs 5 = .pointer (some ⟨g, o + k * 2, none⟩) := hd 5 (by kernel_rfl)
                  have c0 := cell_call hb HC01.out
                  simp only [frameV, List.setIfInBounds_toArray, List.set_cons_zero, List.set_cons_succ, List.getD_cons_zero, List.getD_cons_succ] at hK ⊢
                  simp only [d5] at hK ⊢
                  have HK := Lib.hid hK
                  clear hK
                  go_simp
                  exact HK.out _ _ rfl (Below.refl _ _)
                · refine OpIs.mk rfl ?_
                  intro vs w1 hb hd K hK
                  simp only [frameV, List.setIfInBounds_toArray, List.set_cons_zero, List.set_cons_succ, List.getD_cons_zero, List.getD_cons_succ] at hK ⊢
                  have HK := Lib.hid hK
                  clear hK
                  go_simp
                  exact HK.out _ _ rfl (Below.refl _ _)
                · refine OpIs.mk rfl ?_
                  intro vs w1 hb hd K hK
                  have d6 : vs 6 = .slice A4 e.1.length k4 := hd 6 (by kernel_rfl)
                  have d7 : vs 7 = .int .i64 (m : Int) := hd 7 (by kernel_rfl)
                  simp only [frameV, List.setIfInBounds_toArray, List.set_cons_zero, List.set_cons_succ, List.getD_cons_zero, List.getD_cons_succ] at hK ⊢
                  simp only [d6, d7] at hK ⊢
                  have HK := Lib.hid hK
                  clear hK
                  go_simp
                  exact HK.out _ _ rfl (Below.refl _ _)
                · refine OpIs.mk rfl ?_
                  intro vs w1 hb hd K hK
                  have d0 : vs 0 = .agg #[.slice (some ⟨g, o, none⟩) n cu] := hd 0 (by kernel_rfl)
                  have d8 : vs 8 = .slice A4 m k4 := hd 8 (by kernel_rfl)
                  simp only [frameV, List.setIfInBounds_toArray, List.set_cons_zero, List.set_cons_succ, List.getD_cons_zero, List.getD_cons_succ] at hK ⊢
                  simp only [d0, d8] at hK ⊢
                  have HK := Lib.hid hK
                  clear hK
                  go_simp
                  go_at_call 27
                  refine (HFI.out anyB w1 _ hb (HSM.out.below hb (Nat.le_refl _))).mono ?_
                  rintro q w3 ⟨rfl, hb3⟩
                  exact HK.out _ _ rfl hb3
                · refine OpIs.mk rfl ?_
                  intro vs w1 hb hd K hK
                  have d9 : vs 9 = .tuple #[.slice Af nf cf, .bool b] := hd 9 (by kernel_rfl)
                  simp only [frameV, List.setIfInBounds_toArray, List.set_cons_zero, List.set_cons_succ, List.getD_cons_zero, List.getD_cons_succ] at hK ⊢
                  simp only [d9] at hK ⊢
                  have HK := Lib.hid hK
                  clear hK
                  go_simp
                  exact HK.out _ _ rfl (Below.refl _ _)
                · refine OpIs.mk rfl ?_
                  intro vs w1 hb hd K hK
                  have d10 : vs 10 = .tuple #[.slice Af nf cf, .bool b] := hd 10 (by kernel_rfl)
                  simp only [frameV, List.setIfInBounds_toArray, List.set_cons_zero, List.set_cons_succ, List.getD_cons_zero, List.getD_cons_succ] at hK ⊢
                  simp only [d10] at hK ⊢
                  have HK := Lib.hid hK
                  clear hK
                  go_simp
                  exact HK.out _ _ rfl (Below.refl _ _)
                · refine OpIs.mk rfl ?_
                  intro vs w1 hb hd K hK
                  have d10 : vs 10 = .tuple #[.slice Af nf cf, .bool b] := hd 10 (by kernel_rfl)
                  simp only [frameV, List.setIfInBounds_toArray, List.set_cons_zero, List.set_cons_succ, List.getD_cons_zero, List.getD_cons_succ] at hK ⊢
                  simp only [d10] at hK ⊢
                  have HK := Lib.hid hK
                  clear hK
                  go_simp
                  exact HK.out _ _ rfl (Below.refl _ _)
                · refine OpIs.mk rfl ?_
                  intro vs w1 hb hd K hK
                  have d11 : vs 11 = .slice Af nf cf := hd 11 (by kernel_rfl)
                  simp only [frameV, List.setIfInBounds_toArray, List.set_cons_zero, List.set_cons_succ, List.getD_cons_zero, List.getD_cons_succ] at hK ⊢
                  simp only [d11] at hK ⊢
                  have HK := Lib.hid hK
                  clear hK
                  go_simp
                  exact HK.out _ _ rfl (Below.refl _ _)
              · intro vs w3 hb hd
                have d12 : vs 12 = .bool b := hd 12 (by omega)
                have HB3 := Lib.hid (HV.out.trans (hb.mono HV.out.size))
                simp only [frameV, List.setIfInBounds_toArray, List.set_cons_zero, List.set_cons_succ, List.drop_succ_cons, List.drop_zero, d12]
                clear hb hd
                cases b with
                | true =>
                  have HN2 : Hid (begTo L e.1 (m + 1) = true) := by show _ = _; rw [begTo_succ, HG.out, HBB.out]; simp
                  go_wp2
                  go_roundw
                  case rel => exact ⟨m + 1, by omega, by omega, by go_num, HN2.out, HB3.out⟩
                  case measure => simp [intOf]; omega
                | false =>
                  have HF : Hid (r = 3) := by show _ = _; rw [← HRR.out]; exact check_no HEE.out (by unfold goodE; rw [begs_no hm1 (by omega) (Option.not_isSome_iff_eq_none.1 (by rw [HBB.out]; simp))]; simp)
                  go_wp2
                  go_ret
                  have h1 := HB0.out.trans (HB.out.mono HB0.out.size)
                  exact ⟨by rw [HF.out]; rfl, h1.trans (HB3.out.mono h1.size)⟩
            · obtain rfl : m = e.1.length := by omega
              have HGE : Hid (goodE L e = true) := by show _ = _; unfold goodE; rw [HALL.out, begs_eq, HG.out]; rfl
              clear hml
              go_wp2
              go_roundw
              case rel => exact ⟨k + 1, by omega, by go_num, fun j f hj hf => (by
                rcases Nat.lt_or_ge j k with hjk | hjk
                · exact HA.out j f hjk hf
                · obtain rfl : j = k := by omega
                  rw [HEE.out] at hf; cases hf; exact HGE.out), HB.out.trans (HV.out.mono HB.out.size)⟩
              case measure => simp [intOf]; omega
    · obtain rfl : k = n := by omega
      have HF : Hid (r = 0) := by show _ = _; rw [← HRR.out]; unfold checkP; rw [if_pos (List.all_eq_true.2 fun f hf => by obtain ⟨j, hj⟩ := List.mem_iff_getElem?.1 hf; exact HA.out j f (by rw [← HN.out]; exact (List.getElem?_eq_some_iff.1 hj).1) hj)]
      clear hlt
      go_wp2
      go_ret
      exact ⟨by rw [HF.out]; rfl, HB0.out.trans (HB.out.mono HB0.out.size)⟩
end Go.Proofs.YtaabdpfhpolcgaaGreat
namespace Go.Proofs.YtaabdpfhpolcgaaGreat
open Go.RowKit
set_option linter.unusedVariables false
set_option linter.unusedSimpArgs false
theorem rfind_fix2 {U : Nat → Prop} {w : World} {v : Value} {L : List PE} (s : List Int) (h : RefU U w v L) (hL : L.length ≤ 1000) (hq : ∀ e ∈ L, e.1.length ≤ 1000) {b : Bool} (hb : (place L s).isSome = b) :
    ∃ A n c, (∀ (G : Nat → Prop) (w1 : World) (sv : Value), Below w.heap.size w w1 → RdI G w1 sv s → Calls Tryz.prog 27 #[.agg #[v], sv] w1 fun r w' => r = .returned (.tuple #[.slice A n c, .bool b]) ∧ Below w1.heap.size w1 w') ∧ (∀ l, look L s = some l → RdQ anyB w (.slice A n c) l) := by
  have hR := h
  obtain ⟨M, hML, hM⟩ := h
  cases hp : place L s with
  | none =>
    rw [hp] at hb
    subst hb
    refine ⟨none, 0, 0, fun G w1 sv hb1 hs => ?_, fun l hl => by rw [look_none hp] at hl; cases hl⟩
    refine (rfind_raw hML (hM.below hb1 (Nat.le_refl _)) (hR.below hb1 (Nat.le_refl _)) hs hL hq).mono fun r w' hh => ?_
    obtain ⟨⟨A, n, c, b', rfl, h1, h2⟩, h3⟩ := hh
    obtain ⟨rfl, rfl, rfl, rfl⟩ := h2 (look_none hp)
    exact ⟨rfl, h3⟩
  | some k =>
    rw [hp] at hb
    subst hb
    obtain ⟨e, he, hes⟩ := place_some hp
    obtain ⟨m, hm, hme⟩ : ∃ m, M[k]? = some m ∧ m.pl = e := pls_of (by rw [hML]; exact he)
    obtain ⟨A, c, e5⟩ := (hM.2 m (List.mem_of_getElem? hm)).els.form
    refine ⟨A, m.l.length, c, fun G w1 sv hb1 hs => ?_, fun l hl => ?_⟩
    · refine (rfind_raw hML (hM.below hb1 (Nat.le_refl _)) (hR.below hb1 (Nat.le_refl _)) hs hL hq).mono fun r w' hh => ?_
      obtain ⟨⟨A', n', c', b', rfl, h1, h2⟩, h3⟩ := hh
      obtain ⟨rfl, -, k', m', hk', hm', e6⟩ := h1 e.2 (look_place hp he)
      rw [hp] at hk'; cases hk'
      rw [hm] at hm'; cases hm'
      rw [← e6, e5]
      exact ⟨rfl, h3⟩
    · rw [look_place hp he] at hl
      cases hl
      rw [← e5, ← hme]
      exact (hM.2 m (List.mem_of_getElem? hm)).els
theorem atF_none {L : List PE} {ss : List Int} {m : Nat} (h : place L (ss.take (m + 1)) = none) : atF L ss (m + 1) = atF L ss m := by
  rw [atF, look_none h]
theorem atF_some {L : List PE} {ss : List Int} {m : Nat} {l : List Nat} (h : look L (ss.take (m + 1)) = some l) : atF L ss (m + 1) = (l, m + 1) := by
  rw [atF, h]
theorem look_of_place {L : List PE} {s : List Int} {k : Nat} (h : place L s = some k) : ∃ l, look L s = some l := by
  obtain ⟨e, he, _⟩ := place_some h
  exact ⟨e.2, look_place h he⟩
set_option maxHeartbeats 4000000 in
set_option maxRecDepth 100000 in
theorem rat_in {w : World} {v : Value} {L : List PE} {sv : Value} {ss : List Int} {k : Nat} {l : List Nat} {u : Nat} (h : RefT w v L) (hg : GoodT L) (hs : RdI anyB w sv ss) (hsg : ss.all T2.isSg = true) (hl : ss.length ≤ 1000000) (hk : k < ss.length) (hR : atP L (ss.drop k) = (l, u)) :
    Calls Tryz.prog 23 #[.agg #[v], sv, .int .i64 (k : Nat)] w fun r w' => (∃ A n c, r = .returned (.tuple #[.slice A n c, .int .i64 (u : Nat)]) ∧ RdQ anyB w' (.slice A n c) l) ∧ Below w.heap.size w w' := by
  obtain ⟨Av, cv, rfl⟩ := h.form
  obtain ⟨A, c, rfl⟩ := hs.form
  have hcap := (RdF.cap hs).1
  obtain ⟨g, o, rfl, -⟩ := RdF.base hs (by omega)
  have hA := alloc_below w (.cells #[.slice Av L.length cv] 42)
  have HB0 := Lib.hid hA
  have HT := Lib.hid (h.below hA (Nat.le_refl _))
  have HS := Lib.hid (hs.below hA (Nat.le_refl _))
  have HX : Hid ((w.alloc (.cells #[.slice Av L.length cv] 42)).cell? ⟨w.heap.size, 0, none⟩ = some (.slice Av L.length cv)) := by show _ = _; rw [cell_of_row _ _ 0 _ _ _ (heap_alloc_new w _)]; rfl
  have HLM : Hid (L.length ≤ 1000) := by have := hg.len; show _ ≤ _; omega
  have HLQ : Hid (∀ e ∈ L, e.1.length ≤ 1000) := fun e he => by have := (hg.seq e he).2.1; omega
  obtain ⟨nv, hnv⟩ : ∃ m, L.length = m := ⟨_, rfl⟩
  rw [hnv] at HB0 HT HS HX ⊢
  obtain ⟨rest, hrest⟩ : ∃ r, ss.drop k = r := ⟨_, rfl⟩
  have hrl : rest.length = ss.length - k := by rw [← hrest, List.length_drop]
  have HRST : Hid (RdI anyB (w.alloc (.cells #[.slice Av nv cv] 42)) (.slice (some ⟨g, o + k, none⟩) (ss.length - k) (c - k)) rest) := by
    rw [← hrest]
    exact RdI.drop HS.out (by omega) (fun ad e => by cases e; rw [Addr.add_lit, if_neg (by omega)])
  rw [hrest] at hR
  have hhd : ss[k]? = some (hd rest) := by
    obtain ⟨y, hy⟩ : ∃ y, ss[k]? = some y := ⟨_, List.getElem?_eq_getElem hk⟩
    rw [hy, ← hrest, List.drop_eq_getElem_cons hk]
    rw [List.getElem?_eq_getElem hk] at hy
    cases hy
    rfl
  have HHD := Lib.hid hhd
  unfold atP at hR
  obtain ⟨j0, hj0⟩ : ∃ j, min 3 rest.length = j := ⟨_, rfl⟩
  rw [hj0] at hR
  have HR := Lib.hid hR
  have hj3 : j0 ≤ 3 := by omega
  have hjr : j0 ≤ rest.length := by omega
  obtain ⟨n, hn⟩ : ∃ n, ss.length = n := ⟨_, rfl⟩
  have HLN := Lib.hid hn
  rw [hn] at HS HRST hk hl hcap hrl ⊢
  have HMIN : Hid (min (3 : Int) ((n : Int) - (k : Int)) = (j0 : Int)) := by show _ = _; omega
  have HRL := Lib.hid hrl
  have u1 : ¬ (k : Int) < 0 := by omega
  have u2 : ¬ (n : Int) ≤ (k : Int) := by omega
  have u5 : (k : Int) ≤ (n : Int) := by omega
  have u6 : (n : Int) ≤ 1000000 := by omega
  have u7 : (0 : Int) ≤ (k : Int) := by omega
  have ub : decide ((k : Int) < 0) = false := decide_eq_false u1
  have ub2 : decide ((n : Int) ≤ (k : Int)) = false := decide_eq_false u2
  have hkc : (k : Int) < (c : Int) := by omega
  have hkcn : ¬ c = k := by omega
  have hnc : (n : Int) ≤ (c : Int) := by omega
  clear h hs hsg hl hR hA hn hnv hrest hhd hj0 hg
  go_enter Tryz.func23, Tryz.ntmps23
  go_wp2
  generalize (w.alloc (.cells #[.slice Av nv cv] 42)) = w0 at HB0 HT HS HX HRST ⊢
  obtain ⟨bx, hbx⟩ : ∃ b, w.heap.size = b := ⟨_, rfl⟩
  rw [hbx] at HX
  rw [show (({ block := w.heap.size, off := 0 } : Addr)) = ⟨bx, 0, none⟩ by rw [hbx]]
  clear hbx
  go_loopw [8] (fun i wr => ∃ m : Nat, m ≤ rest.length ∧ m ≤ 3 ∧ i = .int .i64 (m : Nat) ∧ Hid (atF L rest m = (l, u)) ∧ Hid (Below w0.heap.size w0 wr)) (fun i _ => (intOf i).toNat)
  case atStart => exact ⟨j0, hjr, hj3, by rw [HMIN.out], HR.out, Below.refl _ _⟩
  case round =>
    clear HR HMIN hj3 hjr
    obtain ⟨m, hm, hm3, rfl, HF, HB⟩ := hrel
    cases m with
    | zero =>
      have hf := HF.out
      unfold atF at hf
      have h1 : impl (hd rest) = l := congrArg Prod.fst hf
      have h2 : 1 = u := congrArg Prod.snd hf
      subst h2
      have HIM := Lib.hid (fun w => rimpl_any (hd rest) w)
      rw [h1] at HIM
      obtain ⟨x, hx⟩ : ∃ x, hd rest = x := ⟨_, rfl⟩
      have HH2 := HHD.out
      rw [hx] at HH2 HIM
      obtain ⟨g', o', e', c5⟩ := (RdI.below HS.out HB.out (Nat.le_refl _)).at HH2
      cases e'
      clear hf h1 HF hx HH2
      go_wp2_with (go_at_call 34; refine (HIM.out _).mono ?_; rintro e w1 ⟨vl, rfl, ho, hb⟩; obtain ⟨A9, c9, rfl⟩ := ho.form; have HO := Lib.hid ho; have HB2 := Lib.hid (HB0.out.trans ((HB.out.trans (hb.mono HB.out.size)).mono HB0.out.size)); clear ho hb)
      go_ret2
      exact ⟨⟨_, _, _, rfl, HO.out.rd fun _ _ => trivial⟩, HB2.out⟩
    | succ m =>
      obtain ⟨b, hb⟩ : ∃ b, (place L (rest.take (m + 1))).isSome = b := ⟨_, rfl⟩
      have HW := Lib.hid (HT.out.below HB.out (Nat.le_refl _))
      have HPL := Lib.hid hb
      obtain ⟨Af, nf, cf, hfi, hfl⟩ := rfind_fix2 (rest.take (m + 1)) HW.out HLM.out HLQ.out hb
      have HFI := Lib.hid hfi
      have HFL := Lib.hid hfl
      obtain ⟨m1, hm1⟩ : ∃ m1, m + 1 = m1 := ⟨_, rfl⟩
      obtain ⟨q, hq⟩ : ∃ q, k + m1 = q := ⟨_, rfl⟩
      have HSM : Hid (RdI anyB wr (.slice (some ⟨g, o + k, none⟩) (q - k) (c - k)) (rest.take (m + 1))) := by
        have h0 : RdF anyB wr (.slice (some ⟨g, o + k, none⟩) (n - k) (c - k)) (n - k) (iv rest) := by
          have h := HRST.out.below HB.out (Nat.le_refl _)
          unfold RdI at h
          rw [HRL.out] at h
          exact h
        have h1 := RdF.take h0 (m := m1) (by have := HRL.out; omega) m1
        rw [show q - k = m1 by omega, hm1]
        unfold RdI
        rw [show (rest.take m1).length = m1 by rw [List.length_take]; omega, show iv (rest.take m1) = (iv rest).take m1 by simp [iv, T2.iv, List.map_take]]
        exact h1
      have hqI : (k : Int) + (m1 : Int) = (q : Int) := by omega
      have h1I : (1 : Int) ≤ (m1 : Int) := by omega
      have hkq : (k : Int) ≤ (q : Int) := by omega
      have hqc : (q : Int) ≤ (c : Int) := by have := HRL.out; omega
      have hq0 : (0 : Int) ≤ (q : Int) := by omega
      have HM1 := Lib.hid hm1
      have HQI := Lib.hid hqI
      have HQW : Hid (IntKind.i64.wrap (q : Int) = (q : Int)) := IntWalk.i64_in _ (by have := HRL.out; omega)
      have HCX := Lib.hid (cell_call HB.out HX.out)
      have hm1n : m1 ≤ rest.length := by omega
      have hm13 : m1 ≤ 3 := by omega
      rw [hm1]
      clear hb hfi hfl hq
      have hqI2 := hqI
      clear hqI hm hm3 hm1
      go_wp2
      refine anyx_region (m := 11) 10 [29, 30, 31, 32, 33, 34, 35, 36, 28, 37, 38] [SV.eq (.agg #[.slice Av nv cv]), SV.eq (.slice (some ⟨g, o, none⟩) n c), SV.eq (.int .i64 (k : Int)), SV.eq (.int .i64 (k : Int)), SV.eq (.int .i64 (m1 : Int)), SV.eq (.int .i64 (q : Int)), SV.eq (.slice (some ⟨g, o + k, none⟩) (q - k) (c - k)), SV.eq (.tuple #[.slice Af nf cf, .bool b]), SV.eq (.tuple #[.slice Af nf cf, .bool b]), SV.eq (.slice Af nf cf), SV.eq (.bool b)] (by kernel_rfl) (by kernel_rfl) ?_ ?_ ?_
      · refine ⟨⟨⟨⟨⟨⟨⟨⟨⟨⟨⟨trivial, ?_⟩, ?_⟩, ?_⟩, ?_⟩, ?_⟩, ?_⟩, ?_⟩, ?_⟩, ?_⟩, ?_⟩, ?_⟩
        · refine OpIs.mk rfl ?_
          intro vs w1 hb hd K hK
          have c0 := cell_call hb HCX.out
          simp only [frameV, List.setIfInBounds_toArray, List.set_cons_zero, List.set_cons_succ, List.getD_cons_zero, List.getD_cons_succ] at hK ⊢
          have HK := Lib.hid hK
          clear hK
          go_simp
          exact HK.out _ _ rfl (Below.refl _ _)
        · refine OpIs.mk rfl ?_
          intro vs w1 hb hd K hK
          simp only [frameV, List.setIfInBounds_toArray, List.set_cons_zero, List.set_cons_succ, List.getD_cons_zero, List.getD_cons_succ] at hK ⊢
          have HK := Lib.hid hK
          clear hK
          go_simp
          exact HK.out _ _ rfl (Below.refl _ _)
        · refine OpIs.mk rfl ?_
          intro vs w1 hb hd K hK
          simp only [frameV, List.setIfInBounds_toArray, List.set_cons_zero, List.set_cons_succ, List.getD_cons_zero, List.getD_cons_succ] at hK ⊢
          have HK := Lib.hid hK
          clear hK
          go_simp
          exact HK.out _ _ rfl (Below.refl _ _)
        · refine OpIs.mk rfl ?_
          intro vs w1 hb hd K hK
          simp only [frameV, List.setIfInBounds_toArray, List.set_cons_zero, List.set_cons_succ, List.getD_cons_zero, List.getD_cons_succ] at hK ⊢
          have HK := Lib.hid hK
          clear hK
          go_simp
          exact HK.out _ _ rfl (Below.refl _ _)
        · refine OpIs.mk rfl ?_
          intro vs w1 hb hd K hK
          simp only [frameV, List.setIfInBounds_toArray, List.set_cons_zero, List.set_cons_succ, List.getD_cons_zero, List.getD_cons_succ] at hK ⊢
          have HK := Lib.hid hK
          clear hK
          go_simp
          exact HK.out _ _ rfl (Below.refl _ _)
        · refine OpIs.mk rfl ?_
          intro vs w1 hb hd K hK
          have d3 : vs 3 = .int .i64 (k : Int) := hd 3 (by kernel_rfl)
          have d4 : vs 4 = .int .i64 (m1 : Int) := hd 4 (by kernel_rfl)
          have c0 := HQI.out
          have c1 := HQW.out
          simp only [frameV, List.setIfInBounds_toArray, List.set_cons_zero, List.set_cons_succ, List.getD_cons_zero, List.getD_cons_succ] at hK ⊢
          simp only [d3, d4] at hK ⊢
          have HK := Lib.hid hK
          clear hK
          go_simp
          exact HK.out _ _ rfl (Below.refl _ _)
        · refine OpIs.mk rfl ?_
          intro vs w1 hb hd K hK
          have d1 : vs 1 = .slice (some ⟨g, o, none⟩) n c := hd 1 (by kernel_rfl)
          have d2 : vs 2 = .int .i64 (k : Int) := hd 2 (by kernel_rfl)
          have d5 : vs 5 = .int .i64 (q : Int) := hd 5 (by kernel_rfl)
          simp only [frameV, List.setIfInBounds_toArray, List.set_cons_zero, List.set_cons_succ, List.getD_cons_zero, List.getD_cons_succ] at hK ⊢
          simp only [d1, d2, d5] at hK ⊢
          have HK := Lib.hid hK
          clear hK
          go_simp
          exact HK.out _ _ rfl (Below.refl _ _)
        · refine OpIs.mk rfl ?_
          intro vs w1 hb hd K hK
          have d0 : vs 0 = .agg #[.slice Av nv cv] := hd 0 (by kernel_rfl)
          have d6 : vs 6 = .slice (some ⟨g, o + k, none⟩) (q - k) (c - k) := hd 6 (by kernel_rfl)
          simp only [frameV, List.setIfInBounds_toArray, List.set_cons_zero, List.set_cons_succ, List.getD_cons_zero, List.getD_cons_succ] at hK ⊢
          simp only [d0, d6] at hK ⊢
          have HK := Lib.hid hK
          clear hK
          go_simp
          go_at_call 27
          refine (HFI.out anyB w1 _ hb (HSM.out.below hb (Nat.le_refl _))).mono ?_
          rintro q w3 ⟨rfl, hb3⟩
          exact HK.out _ _ rfl hb3
        · refine OpIs.mk rfl ?_
          intro vs w1 hb hd K hK
          have d7 : vs 7 = .tuple #[.slice Af nf cf, .bool b] := hd 7 (by kernel_rfl)
          simp only [frameV, List.setIfInBounds_toArray, List.set_cons_zero, List.set_cons_succ, List.getD_cons_zero, List.getD_cons_succ] at hK ⊢
          simp only [d7] at hK ⊢
          have HK := Lib.hid hK
          clear hK
          go_simp
          exact HK.out _ _ rfl (Below.refl _ _)
        · refine OpIs.mk rfl ?_
          intro vs w1 hb hd K hK
          have d8 : vs 8 = .tuple #[.slice Af nf cf, .bool b] := hd 8 (by kernel_rfl)
          simp only [frameV, List.setIfInBounds_toArray, List.set_cons_zero, List.set_cons_succ, List.getD_cons_zero, List.getD_cons_succ] at hK ⊢
          simp only [d8] at hK ⊢
          have HK := Lib.hid hK
          clear hK
          go_simp
          exact HK.out _ _ rfl (Below.refl _ _)
        · refine OpIs.mk rfl ?_
          intro vs w1 hb hd K hK
          have d8 : vs 8 = .tuple #[.slice Af nf cf, .bool b] := hd 8 (by kernel_rfl)
          simp only [frameV, List.setIfInBounds_toArray, List.set_cons_zero, List.set_cons_succ, List.getD_cons_zero, List.getD_cons_succ] at hK ⊢
          simp only [d8] at hK ⊢
          have HK := Lib.hid hK
          clear hK
          go_simp
          exact HK.out _ _ rfl (Below.refl _ _)
      · intro vs w3 hb hd
        have d9 : vs 9 = .slice Af nf cf := hd 9 (by omega)
        have d10 : vs 10 = .bool b := hd 10 (by omega)
        have HB3 := Lib.hid (HB.out.trans (hb.mono HB.out.size))
        have HWB := Lib.hid hb
        simp only [frameV, List.setIfInBounds_toArray, List.set_cons_zero, List.set_cons_succ, List.drop_succ_cons, List.drop_zero, List.take_succ_cons, List.take_zero, List.cons_append, List.nil_append, d9, d10]
        clear hb hd d9 d10
        cases b with
        | true =>
          obtain ⟨kk, hkk⟩ := Option.isSome_iff_exists.1 HPL.out
          obtain ⟨l2, hl2⟩ := look_of_place hkk
          have hf := HF.out
          rw [atF_some hl2] at hf
          have h1 : l2 = l := congrArg Prod.fst hf
          have h2 : m + 1 = u := congrArg Prod.snd hf
          subst h1
          have hmu : m1 = u := by have := HM1.out; omega
          subst hmu
          have HQF := Lib.hid ((HFL.out _ hl2).below HWB.out (Nat.le_refl _))
          clear hkk hl2 hf h2
          go_wp2
          go_ret2
          exact ⟨⟨_, _, _, rfl, HQF.out⟩, HB0.out.trans (HB3.out.mono HB0.out.size)⟩
        | false =>
          have hpn : place L (rest.take (m + 1)) = none := Option.not_isSome_iff_eq_none.1 (by rw [HPL.out]; simp)
          have HF2 : Hid (atF L rest m = (l, u)) := by show _ = _; rw [← atF_none hpn]; exact HF.out
          have hmI : (m1 : Int) - 1 = (m : Int) := by have := HM1.out; omega
          clear hpn
          go_wp2
          go_roundw
          case rel => exact ⟨m, by have := HM1.out; omega, by have := HM1.out; omega, by first | rfl | (rw [hmI]) | go_num, HF2.out, HB3.out⟩
          case measure => have := HM1.out; simp [intOf]; omega
      · intro vs w3 hb hd
        have d9 : vs 9 = .slice Af nf cf := hd 9 (by omega) (by omega)
        have d10 : vs 8 = .tuple #[.slice Af nf cf, .bool b] := hd 8 (by omega) (by omega)
        have HB3 := Lib.hid (HB.out.trans (hb.mono HB.out.size))
        have HWB := Lib.hid hb
        simp only [frameV, List.setIfInBounds_toArray, List.set_cons_zero, List.set_cons_succ, List.drop_succ_cons, List.drop_zero, List.take_succ_cons, List.take_zero, List.cons_append, List.nil_append, d9, d10]
        clear hb hd d9 d10
        cases b with
        | true =>
          obtain ⟨kk, hkk⟩ := Option.isSome_iff_exists.1 HPL.out
          obtain ⟨l2, hl2⟩ := look_of_place hkk
          have hf := HF.out
          rw [atF_some hl2] at hf
          have h1 : l2 = l := congrArg Prod.fst hf
          have h2 : m + 1 = u := congrArg Prod.snd hf
          subst h1
          have hmu : m1 = u := by have := HM1.out; omega
          subst hmu
          have HQF := Lib.hid ((HFL.out _ hl2).below HWB.out (Nat.le_refl _))
          clear hkk hl2 hf h2
          go_wp2
          go_ret2
          exact ⟨⟨_, _, _, rfl, HQF.out⟩, HB0.out.trans (HB3.out.mono HB0.out.size)⟩
        | false =>
          have hpn : place L (rest.take (m + 1)) = none := Option.not_isSome_iff_eq_none.1 (by rw [HPL.out]; simp)
          have HF2 : Hid (atF L rest m = (l, u)) := by show _ = _; rw [← atF_none hpn]; exact HF.out
          have hmI : (m1 : Int) - 1 = (m : Int) := by have := HM1.out; omega
          clear hpn
          go_wp2
          go_roundw
          case rel => exact ⟨m, by have := HM1.out; omega, by have := HM1.out; omega, by first | rfl | (rw [hmI]) | go_num, HF2.out, HB3.out⟩
          case measure => have := HM1.out; simp [intOf]; omega
theorem rat_out {w : World} {v : Value} {L : List PE} {sv : Value} {ss : List Int} {k : Int} (h : RefT w v L) (hs : RdI anyB w sv ss) (hl : ss.length ≤ 1000000) (hk : k < 0 ∨ (ss.length : Int) ≤ k) :
    Calls Tryz.prog 23 #[.agg #[v], sv, .int .i64 k] w fun r w' => r = .returned (.tuple #[.slice none 0 0, .int .i64 0]) ∧ Below w.heap.size w w' := by
  obtain ⟨Av, cv, rfl⟩ := h.form
  obtain ⟨A, c, rfl⟩ := hs.form
  clear hs h
  by_cases h0 : k < 0
  · clear hk
    go_enter Tryz.func23, Tryz.ntmps23
    go_wp2
    go_ret2
    exact ⟨rfl, alloc_below _ _⟩
  · have h1 : (ss.length : Int) ≤ k := by omega
    have hb : decide (k < 0) = false := decide_eq_false h0
    clear hk
    go_enter Tryz.func23, Tryz.ntmps23
    go_wp2
    go_ret2
    exact ⟨rfl, alloc_below _ _⟩
theorem rat_any {w : World} {v : Value} {L : List PE} {sv : Value} {ss : List Int} {k : Int} {l : List Nat} {u : Nat} (h : RefT w v L) (hg : GoodT L) (hs : RdI anyB w sv ss) (hsg : ss.all T2.isSg = true) (hl : ss.length ≤ 1000000) (hR : atK L ss k = (l, u)) :
    Calls Tryz.prog 23 #[.agg #[v], sv, .int .i64 k] w fun r w' => (∃ A n c, r = .returned (.tuple #[.slice A n c, .int .i64 (u : Nat)]) ∧ RdQ anyB w' (.slice A n c) l) ∧ Below w.heap.size w w' := by
  unfold atK at hR
  by_cases hk : 0 ≤ k ∧ k < (ss.length : Int)
  · rw [if_pos hk] at hR
    obtain ⟨j, rfl⟩ : ∃ j : Nat, (j : Int) = k := ⟨k.toNat, by omega⟩
    rw [Int.toNat_natCast] at hR
    exact rat_in h hg hs hsg hl (by omega) hR
  · rw [if_neg hk] at hR
    cases hR
    exact (rat_out h hs hl (by omega)).mono fun r w' hh => ⟨⟨_, _, _, hh.1, RdF.nil _ _⟩, hh.2⟩
end Go.Proofs.YtaabdpfhpolcgaaGreat
namespace Go.Proofs.YtaabdpfhpolcgaaGreat
open Go.RowKit
set_option linter.unusedVariables false
set_option linter.unusedSimpArgs false
theorem elsP_lt {L : List PE} (h : GoodT L) : ∀ (n : Nat) (ss : List Int), ss.length ≤ n → ∀ x ∈ elsP L ss, x < 4294967296
  | 0, ss, hn => by
    have : ss = [] := List.eq_nil_of_length_eq_zero (by omega)
    subst this; intro x hx; simp [elsP_nil] at hx
  | n + 1, ss, hn => by
    rcases Nat.eq_zero_or_pos ss.length with h0 | h0
    · have : ss = [] := List.eq_nil_of_length_eq_zero h0
      subst this; intro x hx; simp [elsP_nil] at hx
    · intro x hx
      have hu := atP_used L h0
      rw [elsP_step L h0] at hx
      rcases List.mem_append.1 hx with hx | hx
      · exact (atP_good h ss).2 x hx
      · exact elsP_lt h n (ss.drop (atP L ss).2) (by rw [List.length_drop]; omega) x hx
theorem with_len {w : World} {G H : Nat → Prop} {p : Value} {sv lv : Value} {s : List Int} {l : List Nat} (hs : RdI G w sv s) (hl : RdE H w lv l) (hb : s.length < 1 ∨ 3 < s.length ∨ 8 < l.length) :
    Calls Tryz.prog 12 #[p, sv, lv] w fun r w' => r = .returned (.tuple #[.pointer none, .int .i64 1]) ∧ Below w.heap.size w w' := by
  obtain ⟨A, c, rfl⟩ := hs.form
  obtain ⟨A', c', rfl⟩ := hl.form
  by_cases h1 : s.length < 1
  · have k1 : (s.length : Int) < 1 := by omega
    clear hs hl hb
    go_enter Tryz.func12, Tryz.ntmps12
    go_wp2
    go_ret2
    exact ⟨rfl, Below.refl _ _⟩
  · have k1 : ¬ (s.length : Int) < 1 := by omega
    have kb : decide ((s.length : Int) < 1) = false := decide_eq_false k1
    by_cases h3 : 3 < s.length
    · have k3 : (3 : Int) < (s.length : Int) := by omega
      clear hs hl hb
      go_enter Tryz.func12, Tryz.ntmps12
      go_wp2
      go_ret2
      exact ⟨rfl, Below.refl _ _⟩
    · have k3 : ¬ (3 : Int) < (s.length : Int) := by omega
      have k8 : (8 : Int) < (l.length : Int) := by omega
      clear hs hl hb
      go_enter Tryz.func12, Tryz.ntmps12
      go_wp2
      go_ret2
      exact ⟨rfl, Below.refl _ _⟩
theorem withE_len {L : List PE} {s : List Int} {l : List Nat} (hb : s.length < 1 ∨ 3 < s.length ∨ 8 < l.length) : withE L s l = 1 := by
  unfold withE badA
  rw [if_pos]
  simp only [Bool.or_eq_true, decide_eq_true_eq]
  rcases hb with hb | hb | hb
  · exact .inl (.inl (.inl hb))
  · exact .inl (.inl (.inr hb))
  · exact .inl (.inr hb)
/-- With, however long its arguments are. -/
theorem with_all {F G H : Nat → Prop} {w : World} {p : Nat} {L : List PE} {sv lv : Value} {s : List Int} {l : List Nat} (hF : ∀ k, w.heap.size ≤ k → F k) (h : TabAt F w p L) (hs : RdI G w sv s) (hl : RdE H w lv l) (hlw : ∀ x ∈ l, x < 4294967296) :
    Calls Tryz.prog 12 #[.pointer (some ⟨p, 0, none⟩), sv, lv] w (WithIs F L s l w) := by
  by_cases hb : s.length < 1 ∨ 3 < s.length ∨ 8 < l.length
  · refine (with_len hs hl hb).mono fun r w' hh => ⟨fun e => ?_, fun _ => ?_, hh.2⟩
    · rw [withE_len hb] at e; cases e
    · rw [withE_len hb]; exact hh.1
  · exact with_any hF h hs hl hlw (by omega) (by omega)
set_option maxHeartbeats 1000000 in
set_option maxRecDepth 100000 in
theorem rofs_any {w : World} {v : Value} {L : List PE} {sv : Value} {ss : List Int} (h : RefT w v L) (hg : GoodT L) (hs : RdI anyB w sv ss) (hsg : ss.all T2.isSg = true) (hl : ss.length ≤ 100000) :
    Calls Tryz.prog 64 #[.agg #[v], sv] w (GotQ w.heap.size w (elsP L ss)) := by
  obtain ⟨Av, cv, rfl⟩ := h.form
  obtain ⟨A, c, rfl⟩ := hs.form
  have hA := alloc_below w (.cells #[.slice Av L.length cv] 42)
  have HB0 := Lib.hid hA
  have HT := Lib.hid (h.below hA (Nat.le_refl _))
  have HS := Lib.hid (hs.below hA (Nat.le_refl _))
  have HX : Hid ((w.alloc (.cells #[.slice Av L.length cv] 42)).cell? ⟨w.heap.size, 0, none⟩ = some (.slice Av L.length cv)) := by show _ = _; rw [cell_of_row _ _ 0 _ _ _ (heap_alloc_new w _)]; rfl
  have HG := Lib.hid hg
  have HSG := Lib.hid hsg
  obtain ⟨nv, hnv⟩ : ∃ m, L.length = m := ⟨_, rfl⟩
  rw [hnv] at HB0 HT HS HX ⊢
  obtain ⟨n, hn⟩ : ∃ n, ss.length = n := ⟨_, rfl⟩
  have HLN := Lib.hid hn
  rw [hn] at HS hl ⊢
  have hnI : (n : Int) ≤ 100000 := by omega
  clear h hs hsg hA hn hnv hg
  go_enter Tryz.func64, Tryz.ntmps64
  go_wp2
  generalize (w.alloc (.cells #[.slice Av nv cv] 42)) = w0 at HB0 HT HS HX ⊢
  obtain ⟨bx, hbx⟩ : ∃ b, w.heap.size = b := ⟨_, rfl⟩
  rw [hbx] at HX
  rw [show (({ block := w.heap.size, off := 0 } : Addr)) = ⟨bx, 0, none⟩ by rw [hbx]]
  clear hbx
  go_loopw [5, 6] (fun a i wr => ∃ (acc : List Nat) (k : Nat), k ≤ n ∧ i = .int .i64 (k : Nat) ∧ Hid (OwnQ w0.heap.size wr a acc) ∧ Hid (acc ++ elsP L (ss.drop k) = elsP L ss) ∧ acc.length ≤ 8 * k ∧ Hid (Below w0.heap.size w0 wr)) (fun _ i _ => n - (intOf i).toNat)
  case atStart => exact ⟨[], 0, Nat.zero_le _, rfl, World.ownsRow_nil _ _ _ _, by show _ = _; rw [List.drop_zero]; rfl, by simp, Below.refl _ _⟩
  case round =>
    obtain ⟨acc, k, hk, rfl, HO, HE, hacc, HB⟩ := hrel
    obtain ⟨A5, c5, e5⟩ := HO.out.form
    subst e5
    have cx := cell_call HB.out HX.out
    by_cases hlt : k < n
    · obtain ⟨l, hl1⟩ : ∃ l, (atP L (ss.drop k)).1 = l := ⟨_, rfl⟩
      obtain ⟨u, hu1⟩ : ∃ u, (atP L (ss.drop k)).2 = u := ⟨_, rfl⟩
      have hR : atP L (ss.drop k) = (l, u) := by rw [← hl1, ← hu1]
      have h0 : 0 < (ss.drop k).length := by rw [List.length_drop, HLN.out]; omega
      have hu := atP_used L h0
      have hgd := atP_good HG.out (ss.drop k)
      have hst := elsP_step L h0
      rw [hR] at hu hgd hst
      simp only at hu hgd hst
      rw [List.length_drop, HLN.out] at hu
      have HC := Lib.hid (rat_in (HT.out.below HB.out (Nat.le_refl _)) HG.out (RdI.below HS.out HB.out (Nat.le_refl _) |> fun h => by have h2 := HLN.out; exact h) HSG.out (by rw [HLN.out]; omega) (by rw [HLN.out]; exact hlt) hR)
      have HE2 : Hid ((acc ++ l) ++ elsP L (ss.drop (k + u)) = elsP L ss) := by
        show _ = _
        rw [List.append_assoc, ← List.drop_drop, ← hst]; exact HE.out
      have hl8 : l.length ≤ 8 := hgd.1
      have hkI : (k : Int) < (n : Int) := by omega
      have huI : (u : Int) ≤ (n : Int) - (k : Int) := by omega
      have hu0 : (0 : Int) ≤ (u : Int) := by omega
      have hku : k + u ≤ n := by omega
      have hu1' : 1 ≤ u := hu.1
      clear hl1 hu1 hR h0 hu hgd hst hlt
      go_wp2_with (first
        | (go_at_call 23; refine (HC.out).mono ?_; rintro e w2 ⟨⟨A3, n3, c3, rfl, hr⟩, hb⟩; obtain ⟨-, hn3⟩ := RdF.cap hr; subst hn3; have HRL := Lib.hid hr; have HO2 := Lib.hid (HO.out.below hb (Nat.le_refl _)); have HW2 := Lib.hid (HB.out.trans (hb.mono HB.out.size)); clear hr hb cx)
        | (at_builtin; refine appendQ rfl (.tmp 20) (.tmp 21) rfl _ w0.heap.size _ acc l rfl HO2.out rfl HRL.out HW2.out.size (by omega) ?_; intro v4 w4 h4 hg4 hb4; have HO4 := Lib.hid h4; have HW4 := Lib.hid (HW2.out.trans hb4); clear h4 hg4 hb4))
      go_roundw
      case rel => exact ⟨acc ++ l, k + u, hku, by first | rfl | go_num | (congr 1; omega), HO4.out, HE2.out, by rw [List.length_append]; omega, HW4.out⟩
      case measure => simp [intOf]; omega
    · obtain rfl : k = n := by omega
      have HEE : Hid (acc = elsP L ss) := by
        have h := HE.out
        rw [List.drop_of_length_le (by rw [HLN.out]; exact Nat.le_refl _), elsP_nil, List.append_nil] at h
        exact h
      clear hlt HE
      go_wp2
      go_ret
      exact ⟨_, rfl, by rw [← HEE.out]; exact R4.own_mono HO.out HB0.out.size, HB0.out.trans (HB.out.mono HB0.out.size)⟩
set_option maxHeartbeats 1000000 in
set_option maxRecDepth 100000 in
theorem rels_any {w : World} {v : Value} {L : List PE} (b : ByteArray) (h : RefT w v L) (hg : GoodT L) (hb : b.size ≤ 100000) :
    Calls Tryz.prog 25 #[.agg #[v], .string b] w fun e w' => (∃ u, e = .returned u ∧ RdQ anyB w' u (elsP L (T2.sgs b.data.toList))) ∧ Below w.heap.size w w' := by
  obtain ⟨Av, cv, rfl⟩ := h.form
  have hA := alloc_below w (.cells #[.slice Av L.length cv] 42)
  have HB0 := Lib.hid hA
  have HT := Lib.hid (h.below hA (Nat.le_refl _))
  have HX : Hid ((w.alloc (.cells #[.slice Av L.length cv] 42)).cell? ⟨w.heap.size, 0, none⟩ = some (.slice Av L.length cv)) := by show _ = _; rw [cell_of_row _ _ 0 _ _ _ (heap_alloc_new w _)]; rfl
  have HG := Lib.hid hg
  have HSG := Lib.hid (T2.sgs_sg b.data.toList)
  have hsl := T2.sgs_len b.data.toList
  have hbl := T2.ba_len b
  have HSI := Lib.hid (fun w => T2.rsigns_any b w (by omega))
  obtain ⟨S, hS⟩ : ∃ S, T2.sgs b.data.toList = S := ⟨_, rfl⟩
  rw [hS] at HSG hsl HSI ⊢
  have HSL : Hid (S.length ≤ 100000) := by show _ ≤ _; omega
  obtain ⟨nv, hnv⟩ : ∃ m, L.length = m := ⟨_, rfl⟩
  rw [hnv] at HB0 HT HX ⊢
  clear h hg hA hsl hbl hS hnv hb
  go_enter Tryz.func25, Tryz.ntmps25
  go_wp2
  generalize (w.alloc (.cells #[.slice Av nv cv] 42)) = w0 at HB0 HT HX ⊢
  obtain ⟨bx, hbx⟩ : ∃ b, w.heap.size = b := ⟨_, rfl⟩
  rw [hbx] at HX
  rw [show (({ block := w.heap.size, off := 0 } : Addr)) = ⟨bx, 0, none⟩ by rw [hbx]]
  clear hbx
  refine any_region (m := 4) [5, 6, 7, 8] [SV.eq (.agg #[.slice Av nv cv]), SV.eq (.string b), SV.ints S, SV.qs (elsP L S)] (by kernel_rfl) (by kernel_rfl) ?_ ?_
  · refine ⟨⟨⟨⟨trivial, ?_⟩, ?_⟩, ?_⟩, ?_⟩
    · refine OpIs.mk rfl ?_
      intro vs w1 hb hd K hK
      have c0 := cell_call hb HX.out
      simp only [frameV, List.setIfInBounds_toArray, List.set_cons_zero, List.set_cons_succ, List.getD_cons_zero, List.getD_cons_succ] at hK ⊢
      have HK := Lib.hid hK
      clear hK
      go_simp
      exact HK.out _ _ rfl (Below.refl _ _)
    · refine OpIs.mk rfl ?_
      intro vs w1 hb hd K hK
      simp only [frameV, List.setIfInBounds_toArray, List.set_cons_zero, List.set_cons_succ, List.getD_cons_zero, List.getD_cons_succ] at hK ⊢
      have HK := Lib.hid hK
      clear hK
      go_simp
      exact HK.out _ _ rfl (Below.refl _ _)
    · refine OpIs.mk rfl ?_
      intro vs w1 hb hd K hK
      have d1 : vs 1 = .string b := hd 1 (by kernel_rfl)
      simp only [frameV, List.setIfInBounds_toArray, List.set_cons_zero, List.set_cons_succ, List.getD_cons_zero, List.getD_cons_succ] at hK ⊢
      simp only [d1] at hK ⊢
      have HK := Lib.hid hK
      clear hK
      go_simp
      go_at_call 21
      refine (HSI.out _).mono ?_
      rintro r w3 ⟨v1, rfl, ho, hb3⟩
      exact HK.out _ _ (ownI_rd (F := anyB) ho (fun _ _ => trivial)) (hb3.mono (Nat.le_refl _))
    · refine OpIs.mk rfl ?_
      intro vs w1 hb hd K hK
      have d0 : vs 0 = .agg #[.slice Av nv cv] := hd 0 (by kernel_rfl)
      have d2 : (SV.ints S).p (vs 2) w1 := hd 2 (by kernel_rfl)
      simp only [frameV, List.setIfInBounds_toArray, List.set_cons_zero, List.set_cons_succ, List.getD_cons_zero, List.getD_cons_succ] at hK ⊢
      simp only [d0] at hK ⊢
      have HK := Lib.hid hK
      clear hK
      go_simp
      go_at_call 64
      refine (rofs_any (HT.out.below hb (Nat.le_refl _)) HG.out d2 HSG.out HSL.out).mono ?_
      rintro r w3 ⟨v1, rfl, ho, hb3⟩
      exact HK.out _ _ (OwnQ.rd (F := anyB) ho (fun _ _ => trivial)) hb3
  · intro vs w3 hb hd
    have d3 : (SV.qs (elsP L S)).p (vs 3) w3 := hd 3 (by omega)
    have HD := Lib.hid d3
    have HB3 := Lib.hid (HB0.out.trans (hb.mono HB0.out.size))
    simp only [frameV, List.setIfInBounds_toArray, List.set_cons_zero, List.set_cons_succ, List.drop_succ_cons, List.drop_zero]
    clear hb hd d3
    go_wp2
    go_ret
    exact ⟨⟨_, rfl, HD.out⟩, HB3.out⟩
end Go.Proofs.YtaabdpfhpolcgaaGreat
