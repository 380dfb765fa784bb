/-
  PAIRS IN A SLICE that is read: the contracts of the laws' find and may, of slices.Clone and of cmp.Compare.
-/
import Derived.Test.YtpckmdmfhglmbaaRBld
import Derived.Deep.Slices
import Derived.WalkSpells
import Derived.Lib.SliceRun
namespace Go.Proofs.Ytpckmdmfhglmbaa
open Go.RowKit
set_option linter.unusedVariables false
set_option linter.unusedSimpArgs false
/-- A slice of pairs: its cells lie below block B. -/
def RdP (B : Nat) (w : World) (v : Value) (l : List (Int × Int)) : Prop :=
  ∃ A c, v = .slice A l.length c ∧ l.length ≤ c ∧ (0 < l.length → ∃ g o : Nat, A = some ⟨g, o, none⟩ ∧ g < B ∧ ∀ j u, (pcells l)[j]? = some u → w.cell? ⟨g, o + j, none⟩ = some u)
theorem RdP.below {B : Nat} {w w' : World} {v : Value} {l : List (Int × Int)} (h : RdP B w v l) (hb : Below B w w') : RdP B w' v l := by
  obtain ⟨A, c, rfl, hlc, h⟩ := h
  refine ⟨A, c, rfl, hlc, fun hn => ?_⟩
  obtain ⟨g, o, e, hlt, hc⟩ := h hn
  exact ⟨g, o, e, hlt, fun j u hu => (hb.cell (p := ⟨g, o + j, none⟩) hlt).trans (hc j u hu)⟩
theorem RdP.more {B B' : Nat} {w : World} {v : Value} {l : List (Int × Int)} (h : RdP B w v l) (hB : B ≤ B') : RdP B' w v l := by
  obtain ⟨A, c, rfl, hlc, h⟩ := h
  refine ⟨A, c, rfl, hlc, fun hn => ?_⟩
  obtain ⟨g, o, e, hlt, hc⟩ := h hn
  exact ⟨g, o, e, by omega, hc⟩
theorem RdP.form {B : Nat} {w : World} {v : Value} {l : List (Int × Int)} (h : RdP B w v l) : ∃ A c, v = .slice A l.length c := by
  obtain ⟨A, c, e, _⟩ := h; exact ⟨A, c, e⟩
theorem RdP.cap {B : Nat} {w : World} {A : Option Addr} {n c : Nat} {l : List (Int × Int)} (h : RdP B w (.slice A n c) l) : l.length ≤ c := by
  obtain ⟨A', c', e, hlc, _⟩ := h
  cases e
  exact hlc
theorem RdP.at {B : Nat} {w : World} {A : Option Addr} {n c : Nat} {l : List (Int × Int)} (h : RdP B w (.slice A n c) l) {k : Nat} {p : Int × Int} (hk : l[k]? = some p) :
    ∃ g o : Nat, A = some ⟨g, o, none⟩ ∧ w.cell? ⟨g, o + k * 2, none⟩ = some (.int .i64 p.1) ∧ w.cell? ⟨g, o + k * 2 + 1, none⟩ = some (.int .i64 p.2) := by
  obtain ⟨A', c', e, _, h⟩ := h
  cases e
  have hl : k < l.length := (List.getElem?_eq_some_iff.1 hk).1
  obtain ⟨g, o, e, _, hc⟩ := h (by omega)
  obtain ⟨h1, h2⟩ := pcells_at hk
  exact ⟨g, o, e, hc _ _ h1, by rw [Nat.add_assoc]; exact hc _ _ h2⟩
theorem OwnP.rd {B : Nat} {w : World} {v : Value} {l : List (Int × Int)} (h : OwnP B w v l) : RdP w.heap.size w v l := by
  obtain ⟨A, c, rfl, hlc, hr⟩ := own_parts h
  refine ⟨A, c, rfl, hlc, fun hn => ?_⟩
  obtain ⟨g, e, -, hg, hc⟩ := hr hn
  exact ⟨g, 0, e, hg, fun j u hu => by rw [Nat.zero_add]; exact hc j u hu⟩
theorem findP_drop {l : List (Int × Int)} {k : Nat} {p : Int × Int} (hk : l[k]? = some p) (c : Int) : findP (l.drop k) c = if p.1 = c then p.2 else findP (l.drop (k + 1)) c := by
  have hl : k < l.length := (List.getElem?_eq_some_iff.1 hk).1
  rw [List.drop_eq_getElem_cons hl, findP]
  have : l[k] = p := by rw [List.getElem?_eq_getElem hl] at hk; exact Option.some.inj hk
  rw [this]
theorem find_any {B : Nat} {w : World} {v : Value} {l : List (Int × Int)} (h : RdP B w v l) (hl : l.length ≤ 1000000) (c : Int) :
    Calls Try.prog 10 #[v, .int .i64 c] w fun e w' => e = .returned (.int .i64 (findP l c)) ∧ w = w' := by
  obtain ⟨A, cp, rfl⟩ := h.form
  obtain ⟨r, hr⟩ : ∃ r, findP l c = r := ⟨_, rfl⟩
  rw [hr]
  have HR := Lib.hid h
  have HE := Lib.hid hr
  have hl' : (l.length : Int) ≤ 1000000 := by omega
  clear h hr
  go_enter Try.func10, Try.ntmps10
  go_wp2
  go_loop [5] (fun i => ∃ k : Nat, k ≤ l.length ∧ i = .int .i64 (k : Nat) ∧ Hid (findP (l.drop k) c = r)) (fun i => l.length - (intOf i).toNat)
  case atStart => exact ⟨0, Nat.zero_le _, rfl, HE.out⟩
  case round =>
    obtain ⟨k, hk, rfl, HF⟩ := hrel
    by_cases hlt : k < l.length
    · obtain ⟨p, hp⟩ : ∃ p, l[k]? = some p := ⟨_, List.getElem?_eq_getElem hlt⟩
      obtain ⟨g, o, rfl, c0, c1⟩ := HR.out.at hp
      have hd := findP_drop hp c
      obtain ⟨pc, pv⟩ := p
      rw [HF.out] at hd
      simp only at c0 c1 hd
      by_cases e : pc = c
      · rw [if_pos e] at hd
        have e' : (pc == c) = true := by simpa using e
        subst hd
        clear e hp
        go_wp2
        go_ret
        exact ⟨rfl, rfl⟩
      · rw [if_neg e] at hd
        have HD := Lib.hid hd.symm
        have e' : (pc == c) = false := by simpa using e
        clear e hd hp
        go_wp2
        go_round
        case rel => exact ⟨k + 1, by omega, by go_num, HD.out⟩
        case measure => simp [intOf]; omega
    · have hkl : k = l.length := by omega
      subst hkl
      have hr0 : (0 : Int) = r := by rw [← HF.out, List.drop_length]; rfl
      clear hlt
      subst hr0
      go_wp2
      go_ret
      exact ⟨rfl, rfl⟩
def mayB (c v : Int) : Bool := fitB c v
theorem may_any (c v : Int) (w : World) : Calls Try.prog 8 #[.agg #[.int .i64 c, .int .i64 v]] w fun e w' => e = .returned (.bool (fitB c v)) ∧ Below w.heap.size w w' := by
  have HB : Hid (Below w.heap.size w (w.alloc (.cells #[.int .i64 c, .int .i64 v] 29))) := (Below.refl _ _).alloc (Nat.le_refl _) _
  by_cases h1 : 0 ≤ c
  · by_cases h2 : c ≤ 1114367
    · by_cases h3 : -2147483648 ≤ v
      · by_cases h4 : v ≤ 2147483647
        · have hb : fitB c v = true := (fitB_iff c v).2 ⟨h1, h2, h3, h4⟩
          rw [hb]
          have h4' : decide (v < 2147483648) = true := by simp; omega
          clear hb h4
          go_enter Try.func8, Try.ntmps8
          go_wp2
          go_ret
          exact ⟨rfl, HB.out⟩
        · have hb : fitB c v = false := by simp [fitB, signB]; omega
          rw [hb]
          have h4' : decide (v < 2147483648) = false := by simp; omega
          clear hb h4
          go_enter Try.func8, Try.ntmps8
          go_wp2
          go_ret
          exact ⟨rfl, HB.out⟩
      · have hb : fitB c v = false := by simp [fitB, signB]; omega
        rw [hb]
        have h3' : v < -2147483648 := by omega
        clear hb h3
        go_enter Try.func8, Try.ntmps8
        go_wp2
        go_ret
        exact ⟨rfl, HB.out⟩
    · have hb : fitB c v = false := by simp [fitB, signB, h2]
      rw [hb]
      have h2' : 1114367 < c := by omega
      clear hb h2
      go_enter Try.func8, Try.ntmps8
      go_wp2
      go_ret
      exact ⟨rfl, HB.out⟩
  · have hb : fitB c v = false := by simp [fitB, signB, h1]
    rw [hb]
    have h1' : c < 0 := by omega
    clear hb h1
    go_enter Try.func8, Try.ntmps8
    go_wp2
    go_ret
    exact ⟨rfl, HB.out⟩
theorem pair_info : (Try.prog.info? 29).map (fun i => (i.zero, i.size, i.bytes)) = some (some (.agg #[.int .i64 0, .int .i64 0]), 2, 16) := by kernel_rfl
theorem clone_nil (n c : Nat) (w : World) : Calls Try.prog 16 #[.slice none n c] w fun e w' => e = .returned (.slice none 0 0) ∧ w = w' := by
  have q22 : ∀ (w : World) (a : Option Addr) (n c n' c' : Nat), (binOp .eql 22 (.slice a n c) (.slice none n' c')).run Try.prog w = .ok (.bool a.isNone) w := fun w a n c n' c' => Lib.run_eql_slice_nil w _ _ a n c n' c' Try.underlying22
  go_enter Try.func16, Try.ntmps16
  go_wp2
  go_ret
  exact ⟨rfl, rfl⟩
theorem clone_some (ad : Addr) (l : List (Int × Int)) (c : Nat) (w : World) (hl : l.length ≤ 1000000) (hc : ∀ j u, (pcells l)[j]? = some u → w.cell? (ad.add j) = some u) :
    Calls Try.prog 16 #[.slice (some ad) l.length c] w fun e w' => (∃ v, e = .returned v ∧ OwnP w.heap.size w' v l) ∧ Below w.heap.size w w' := by
  have q22 : ∀ (w : World) (a : Option Addr) (n c n' c' : Nat), (binOp .eql 22 (.slice a n c) (.slice none n' c')).run Try.prog w = .ok (.bool a.isNone) w := fun w a n c n' c' => Lib.run_eql_slice_nil w _ _ a n c n' c' Try.underlying22
  obtain ⟨i0, hi0, hz0, hz1, hz2⟩ := info_parts pair_info
  have HC : Hid (∀ j u, (pcells l)[j]? = some u → (w.alloc (.cells #[] 29)).cell? (ad.add j) = some u) := fun j u hu => (World.grownBy_alloc w (.cells #[] 29) none).cell (hc j u hu) (by simp)
  have HI := Lib.hid hi0
  have HZ0 := Lib.hid hz0
  have HZ1 := Lib.hid hz1
  have HZ2 := Lib.hid hz2
  have HL : Hid (0 + l.length ≤ maxLen) := by show _ ≤ _; simp only [maxLen]; omega
  have HL2 : Hid ((0 + l.length) * 16 ≤ 140737488355328) := by show _ ≤ _; omega
  have HP := Lib.hid (pcells_len l)
  have HP1 := Lib.hid (pcells_one l)
  clear hc hi0 hz0 hz1 hz2
  go_enter Try.func16, Try.ntmps16
  go_wp2_with (at_builtin; refine wpList_append_own_at _ rfl _ _ 22 rfl w.heap.size 29 i0 _ 2 16 Try.underlying22 HI.out HZ0.out HZ1.out HZ2.out rfl (by omega) _ _ _ rfl (World.ownsRow_made w #[] 0 (Nat.le_refl _) (Nat.zero_le _) (by simp)) ad l.length c (pcells l) rfl HP.out HC.out HP1.out HL.out HL2.out (by simp) ?_; intro v' w1 hown hgrow hnil hat)
  go_ret
  refine ⟨⟨v', rfl, ?_⟩, ?_⟩
  · have := hown
    rw [Nat.zero_add, List.nil_append] at this
    exact this
  · exact ((Below.refl _ w).alloc (Nat.le_refl _) _).grown hgrow (by simp) (by intro k hk; cases hk; exact Nat.le_refl _)
end Go.Proofs.Ytpckmdmfhglmbaa
