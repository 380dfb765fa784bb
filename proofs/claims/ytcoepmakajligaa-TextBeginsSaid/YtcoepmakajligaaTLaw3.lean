/-
  THE WALK of the law TextBegins.
-/
import Derived.Test.YtcoepmakajligaaTLaw1
import Derived.Test.YtcoepmakajligaaTBegin
import Derived.Deep.RegionLaw
import Derived.Deep.DrawnRows
import Derived.Laws.AppendOwnNone
import Derived.WalkLawsBesides
namespace Go.Proofs.Ytcoepmakajligaa
open Go.RowKit
set_option linter.unusedVariables false
set_option linter.unusedSimpArgs false
theorem step_pushI {ops : Array Oper} {o : Oper} {a : Act} {w : World} {K : Act → World → Prop} {Q : Exit → Act → World → Prop} {E : Prop} (hgd : o.guard = none) (s x : Operand)
    (ho : o.op = .call { callee := .builtin .append, args := #[s, x], argTypes := #[23, 23] })
    (B B2 : Nat) (v u : Value) (l m : List Int) (hs : a.eval s = v) (hx : a.eval x = u) (hown : OwnI B w v l) (hsrc : OwnI B2 w u m)
    (hB : B ≤ w.heap.size) (hl : l.length + m.length ≤ 10000000)
    (h : ∀ v' w', OwnI B w' v' (l ++ m) → Below B w w' → K (a.put o.dst v') w') :
    if Region.wanted o (yielded ops a.tmps) = true then Oper.wp Try.prog o a w K Q else E := by
  have hw : Region.wanted o (yielded ops a.tmps) = true := by simp [Region.wanted, hgd]
  rw [if_pos hw]
  obtain ⟨i0, hi0, hz0, hz1, hz2⟩ := info_parts int_info
  have hsrc' : w.ownsRow B2 3 1 u m.length (iv m) := hsrc
  rcases hsrc.2 with ⟨rfl, hm0⟩ | ⟨g, cap, cur, rfl, hg⟩
  · have hm : m = [] := by
      have := hsrc.1
      cases m with
      | nil => rfl
      | cons _ _ => simp at hm0
    subst hm
    have hrun := run_append_owned_none (P := Try.prog) (w := w) B 23 o.type 3 i0 1 Try.underlying23 hi0 v l.length (iv l) hown
    unfold Oper.wp
    simp [execOp, ho, resolve, invoke, builtin, hs, hx, hrun, Result.andThen]
    exact h v w (by rw [List.append_nil]; exact hown) (Below.refl _ _)
  · obtain ⟨v', w', hrun, h2, h3, -, -⟩ := run_append_own_at (P := Try.prog) (w := w) B 23 o.type 3 i0 _ 1 8 Try.underlying23 hi0 hz0 hz1 hz2 rfl (by omega) v l.length (iv l) hown
      ⟨g, 0, none⟩ m.length cap (iv m) (by rw [iv_len]; omega) (hsrc'.cells (g := g) rfl) (iv_one m) (by simp only [maxLen]; omega) (by omega) hB
    unfold Oper.wp
    simp [execOp, ho, resolve, invoke, builtin, hs, hx, hrun, Result.andThen]
    refine h v' w' ?_ ((Below.refl B w).grown h3 hB (fun k hk => (World.ownsRow.lt hown k hk).1))
    unfold OwnI; rw [iv_app, List.length_append]; exact h2
attribute [local go_sem ↓] Go.wp_at_zero Go.wp_at_succ
theorem begin_is {s p : ByteArray} {n : Int} (h : s.extract 0 (pos n.toNat s.data.toList) = p) (hs : s.size ≤ 1000000) (hn : -9223372036854775808 ≤ n) (hn' : n ≤ 9223372036854775807) (w : World) :
    Calls Try.prog 21 #[.string s, .int .i64 n] w fun e w' => e = .returned (.string p) ∧ Below w.heap.size w w' := by
  rw [← h]; exact begin_any s n w hs hn hn'
set_option maxRecDepth 200000 in
theorem textBegins_walk (a0 : ByteArray) (a1 : Int) (w : World) (w0 : a0.size ≤ maxLen) (w1 : -9223372036854775808 ≤ a1 ∧ a1 ≤ 9223372036854775807) :
    Calls Try.prog 6 #[.string a0, .int .i64 a1] w fun e w' => e = .returned (.bool true) ∧ Below w.heap.size w w' := by
  by_cases hs : a0.size ≤ 1000
  · obtain ⟨p, hp⟩ : ∃ p, a0.extract 0 (pos a1.toNat a0.data.toList) = p := ⟨_, rfl⟩
    have hle := pos_le a1.toNat a0.data.toList
    rw [ba_len] at hle
    have hps : p.size = pos a1.toNat a0.data.toList := by rw [← hp, ByteArray.size_extract]; omega
    have hpe : a0.extract 0 p.size = p := by rw [hps, hp]
    obtain ⟨r, hr⟩ : ∃ r, a0.extract p.size a0.size = r := ⟨_, rfl⟩
    obtain ⟨l, hl⟩ : ∃ l, sgs a0.data.toList = l := ⟨_, rfl⟩
    have h1 : sgs p.data.toList = l.take a1.toNat := by rw [← hp, ext_take, sgs_take, hl]
    have h2 : sgs r.data.toList = l.drop a1.toNat := by rw [← hr, ext_drop, hps, sgs_drop, hl]
    have hn : l.length ≤ 1000 := by have := sgs_len a0.data.toList; rw [hl, ba_len] at this; omega
    obtain ⟨l1, hl1⟩ : ∃ l1, l.take a1.toNat = l1 := ⟨_, rfl⟩
    obtain ⟨l2, hl2⟩ : ∃ l2, l.drop a1.toNat = l2 := ⟨_, rfl⟩
    have hll : l1 ++ l2 = l := by rw [← hl1, ← hl2, List.take_append_drop]
    have hk : l1.length = min a1.toNat l.length := by rw [← hl1, List.length_take]
    rw [hl1] at h1
    rw [hl2] at h2
    have hps' : p.size ≤ a0.size := by omega
    have hrs : r.size ≤ 1000 := by rw [← hr, ByteArray.size_extract]; omega
    have CB := Lib.hid (fun w => begin_is hp (by omega) w1.1 w1.2 w)
    have CS := Lib.hid (fun w => rsigns_is hl (by omega) w)
    have CC := Lib.hid (fun w => count_is (congrArg List.length h1) (by omega) w)
    have CP := Lib.hid (fun w => signs_is h1 (by omega) w)
    have CR := Lib.hid (fun w => signs_is h2 (by omega) w)
    have HL := Lib.hid hll
    have HLM : Hid (l1.length + l2.length ≤ 10000000) := by
      have := congrArg List.length hll
      rw [List.length_append] at this
      show _ ≤ _; omega
    have HLN : Hid (l.length ≤ 10000000) := by show _ ≤ _; omega
    have g1 : (0 : Int) ≤ (p.size : Int) := by omega
    have g2 : (p.size : Int) ≤ (a0.size : Int) := by omega
    obtain ⟨b1, b2⟩ := w1
    have hmm : (((min a1.toNat l.length : Nat) : Int) != min (max a1 0) (l.length : Int)) = false := by rw [bne_eq_false_iff_eq]; omega
    have hnl : ¬ a0.size < p.size := by omega
    clear hp hle hps hl h1 h2 hl1 hl2 hll
    go_enter Try.func6, Try.ntmps6
    go_wp2_with (first
      | (go_at_call 21; refine (CB.out _).mono ?_; rintro e w1 ⟨rfl, hb1⟩)
      | (go_at_call 12; refine (CS.out _).mono ?_; rintro e w2 ⟨v2, rfl, ho2, hb2⟩; obtain ⟨A, c, rfl, -⟩ := ho2.shape)
      | (go_at_call 14; refine (CC.out _).mono ?_; rintro e w' ⟨rfl, rfl⟩))
    go_region_law (first
      | ((go_simp; go_at_call 10; (with_reducible refine (CP.out _).mono ?_); rintro e w3 ⟨v3, rfl, ho3, hb3⟩))
      | ((go_simp; go_at_call 10; (with_reducible refine (CR.out _).mono ?_); rintro e w4 ⟨v4, rfl, ho4, hb4⟩))
      | ((refine step_pushI (by rfl) (.tmp 41) (.tmp 46) (by rfl) _ _ _ _ _ _ (by rfl) (by rfl) (ho3.below hb4 (Nat.le_refl _)) ho4 (Nat.le_trans hb3.size hb4.size) HLM.out ?_; intro v5 w5 ho5 hb5)))
    have ho5' := ho5
    rw [HL.out] at ho5'
    have HO5 := Lib.hid ho5'
    have hbt : Below w.heap.size w w5 := hb1.trans ((hb2.trans (((drew_below _ _ 1).trans (hb3.trans ((hb4.mono hb3.size).trans hb5))).mono hb2.size)).mono hb1.size)
    have HBT := Lib.hid hbt
    clear ho5 ho5' ho2 ho3 ho4 hbt hb1 hb2 hb3 hb4 hb5
    go_wp2_with (first
      | (go_at_call 12; refine (CS.out _).mono ?_; rintro e w6 ⟨v6, rfl, ho6, hb6⟩)
      | (go_at_call 13; refine (same_self _ _ _ (HO5.out.rd.below hb6) ho6.rd hb6.size (Nat.le_refl _) HLN.out).mono ?_; rintro e w7 ⟨rfl, hb7⟩)
      | (go_at_call 9; refine (awake_any _).mono ?_; rintro e w8 ⟨rfl, hb8⟩))
    go_ret
    exact ⟨rfl, HBT.out.trans ((hb6.trans ((hb7.trans (hb8.mono hb7.size)).mono hb6.size)).mono HBT.out.size)⟩
  · have hlt : 1000 < a0.size := by omega
    clear hs
    go_enter Try.func6, Try.ntmps6
    go_wp2_with (go_at_call 9; refine (awake_any _).mono ?_; rintro e w' ⟨rfl, hb⟩)
    go_ret
    exact ⟨rfl, hb⟩
end Go.Proofs.Ytcoepmakajligaa
