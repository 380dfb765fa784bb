/-
  THE WALKS of the laws TextBytes and TextNext.
-/
import Derived.Test.YtcoepmakajligaaTLaw1
import Derived.Test.YtcoepmakajligaaTNext
import Derived.WalkLawsBesides
namespace Go.Proofs.Ytcoepmakajligaa
open Go.RowKit
set_option linter.unusedVariables false
set_option linter.unusedSimpArgs false
theorem same_join {l : List Int} {S : ByteArray} (h : sgs S.data.toList = l) (u v : Value) (w : World) {B B' : Nat} (hu : Rd B w u (iv l)) (hv : Rd B' w v (iv l)) (hB : B ≤ w.heap.size) (hB' : B' ≤ w.heap.size) (hm : l.length ≤ 10000000) :
    Calls Try.prog 13 #[u, v] w fun e w' => e = .returned (.bool true) ∧ Below w.heap.size w w' := same_self u v w hu hv hB hB' hm
theorem byt_len (l : List Int) : (bytL l).length ≤ 4 * l.length := by
  have := joinS_len l
  unfold bytL; split
  · split
    · exact this
    · simp
  · simp
theorem byt_e (l : List Int) : bytE l = 0 ∨ bytE l = 1 ∨ bytE l = 3 := by
  unfold bytE; split
  · split <;> simp
  · simp
set_option maxRecDepth 200000 in
theorem textBytes_walk (v : Value) (l : List Int) (w : World) (hr : Rd w.heap.size w v (iv l)) (w0 : l.length ≤ maxLen) :
    Calls Try.prog 4 #[v] w fun e w' => e = .returned (.bool true) ∧ Below w.heap.size w w' := by
  have HV := Lib.hid hr
  obtain ⟨A, c, rfl, hr⟩ := hr
  rw [iv_len] at HV ⊢
  clear hr
  by_cases hs : l.length ≤ 200
  · have hbl := byt_len l
    have hok := @byt_ok l
    obtain ⟨S, hS⟩ : ∃ S : ByteArray, (⟨(bytL l).toArray⟩ : ByteArray) = S := ⟨_, rfl⟩
    have hSl : S.data.toList = bytL l := by rw [← hS]
    have hSs : S.size ≤ 1000000 := by rw [← ba_len, hSl]; omega
    rw [← hSl] at hok
    obtain ⟨E, hE⟩ : ∃ E, bytE l = E := ⟨_, rfl⟩
    have hEw := byt_e l
    rw [hE] at hok hEw
    have C1 := Lib.hid (fun w1 hb => bytes_is ⟨hS, hE⟩ (by omega) (.slice A l.length c) w1 (HV.out.below (w' := w1) hb))
    have C2 := Lib.hid (fun w1 hb => rbytes_is ⟨hS, hE⟩ (by omega) (.slice A l.length c) w1 (HV.out.below (w' := w1) hb))
    have HLM : Hid (l.length ≤ 10000000) := by show _ ≤ _; omega
    have HS0 := Lib.hid (Below.refl w.heap.size w)
    clear hS hE hSl hbl
    by_cases h0 : E = 0
    · have CS := Lib.hid (fun w => signs_is (hok h0) hSs w)
      subst h0
      clear hok hEw
      go_enter Try.func4, Try.ntmps4
      go_wp2_with (first
        | (go_at_call 11; refine (C1.out _ HS0.out (Nat.le_refl _)).mono ?_; rintro e w1 ⟨rfl, hb1⟩)
        | (go_at_call 16; refine (C2.out _ hb1 hb1.size).mono ?_; rintro e w2 ⟨rfl, hb2⟩; have hb12 := hb1.trans (hb2.mono hb1.size))
        | (go_at_call 10; refine (CS.out _).mono ?_; rintro e w3 ⟨v3, rfl, ho3, hb3⟩)
        | (go_at_call 13; refine (same_self _ _ _ ho3.rd ((HV.out.below hb12).below (hb3.mono hb12.size)) (Nat.le_refl _) (Nat.le_trans hb12.size hb3.size) HLM.out).mono ?_; rintro e w4 ⟨rfl, hb4⟩)
        | (go_at_call 9; refine (awake_any _).mono ?_; rintro e w5 ⟨rfl, hb5⟩))
      go_ret
      exact ⟨rfl, hb12.trans ((hb3.trans ((hb4.trans (hb5.mono hb4.size)).mono hb3.size)).mono hb12.size)⟩
    · clear hok
      have hne : (E == 0) = false := by simpa using h0
      have hne2 : (E != 0) = true := by simpa using h0
      clear h0 hEw
      go_enter Try.func4, Try.ntmps4
      go_wp2_with (first
        | (go_at_call 11; refine (C1.out _ HS0.out (Nat.le_refl _)).mono ?_; rintro e w1 ⟨rfl, hb1⟩)
        | (go_at_call 16; refine (C2.out _ hb1 hb1.size).mono ?_; rintro e w2 ⟨rfl, hb2⟩; have hb12 := hb1.trans (hb2.mono hb1.size))
        | (go_at_call 9; refine (awake_any _).mono ?_; rintro e w5 ⟨rfl, hb5⟩))
      go_ret
      exact ⟨rfl, hb12.trans (hb5.mono hb12.size)⟩
  · have hlt : 200 < l.length := by omega
    clear hs
    go_enter Try.func4, Try.ntmps4
    go_wp2_with (go_at_call 9; refine (awake_any _).mono ?_; rintro e w' ⟨rfl, hb⟩)
    go_ret
    exact ⟨rfl, hb⟩

/-! ### the next text, in plain words -/
theorem lt_u8 {a b : UInt8} : a < b ↔ a.toNat < b.toNat := UInt8.lt_iff_toNat_lt
theorem eq_u8 {a b : UInt8} : a = b ↔ a.toNat = b.toNat := ⟨fun h => by rw [h], UInt8.toNat.inj⟩
def nx : List UInt8 → Option (List UInt8)
  | [] => none
  | a :: r => match nx r with
    | some n => some (a :: n)
    | none => if a.toNat = 255 then none else some [UInt8.ofNat (a.toNat + 1)]
theorem nx_ok : ∀ (p o : List UInt8), match nx p with
    | some n => (p <+: o ↔ Op.bytesLess o p = false ∧ Op.bytesLess o n = true)
    | none => (p <+: o ↔ Op.bytesLess o p = false)
  | [], o => by simp [nx, Op.bytesLess]
  | a :: r, [] => by
    have h1 : Op.bytesLess [] (a :: r) = true := rfl
    have h2 : ¬ a :: r <+: [] := by simp
    unfold nx
    cases h : nx r with
    | some n => simp [h1]
    | none =>
      by_cases ha : a.toNat = 255
      · simp [ha, h1]
      · simp [ha, h1]
  | a :: r, b :: o => by
    have ih := nx_ok r o
    have hp : a :: r <+: b :: o ↔ a = b ∧ r <+: o := List.cons_prefix_cons
    have e1 : Op.bytesLess (b :: o) (a :: r) = (decide (b < a) || (b == a && Op.bytesLess o r)) := rfl
    have ab : b < a ↔ b.toNat < a.toNat := lt_u8
    have ae : a = b ↔ a.toNat = b.toNat := eq_u8
    have hb := UInt8.toNat_lt b
    unfold nx
    cases h : nx r with
    | some n =>
      rw [h] at ih
      simp only at ih ⊢
      have e2 : Op.bytesLess (b :: o) (a :: n) = (decide (b < a) || (b == a && Op.bytesLess o n)) := rfl
      rw [hp, e1, e2, ih]
      by_cases h1 : a = b
      · subst h1; simp
      · have : (b == a) = false := by simpa using fun e => h1 e.symm
        simp [h1, this]
    | none =>
      rw [h] at ih
      simp only at ih ⊢
      by_cases ha : a.toNat = 255
      · simp only [ha, if_true]
        rw [hp, e1, ih]
        by_cases h1 : a = b
        · subst h1; simp
        · have : (b == a) = false := by simpa using fun e => h1 e.symm
          have : b < a := by rw [ab]; rw [ae] at h1; omega
          simp [h1, this]
      · rw [if_neg ha]
        simp only
        have ha' := UInt8.toNat_lt a
        have hx : (UInt8.ofNat (a.toNat + 1)).toNat = a.toNat + 1 := to_ofNat (by omega)
        have e2 : Op.bytesLess (b :: o) [UInt8.ofNat (a.toNat + 1)] = (decide (b < UInt8.ofNat (a.toNat + 1)) || (b == UInt8.ofNat (a.toNat + 1) && Op.bytesLess o [])) := rfl
        have e3 : Op.bytesLess o [] = false := by cases o <;> rfl
        have al : b < UInt8.ofNat (a.toNat + 1) ↔ b.toNat < a.toNat + 1 := by rw [lt_u8, hx]
        rw [hp, e1, e2, e3, ih, Bool.and_false, Bool.or_false, decide_eq_true_eq, al]
        by_cases h1 : a = b
        · subst h1; simp
        · have : (b == a) = false := by simpa using fun e => h1 e.symm
          simp only [h1, this, Bool.false_and, Bool.or_false, decide_eq_false_iff_not, false_and, false_iff, not_and, ab]
          rw [ae] at h1
          omega
theorem nx_ff : ∀ l : List UInt8, (∀ x ∈ l, x.toNat = 255) → nx l = none
  | [], _ => rfl
  | a :: r, h => by
    unfold nx
    rw [nx_ff r (fun x hx => h x (by simp [hx]))]
    simp [h a (by simp)]
theorem nx_app {r : List UInt8} {x : UInt8} (hr : nx r = none) (hx : x.toNat ≠ 255) : ∀ q : List UInt8, nx (q ++ x :: r) = some (q ++ [UInt8.ofNat (x.toNat + 1)])
  | [] => by
    show nx (x :: r) = _
    unfold nx; rw [hr]; simp [hx]
  | a :: q => by
    show nx (a :: (q ++ x :: r)) = _
    unfold nx; rw [nx_app hr hx q]; rfl
theorem ffE_all (l : List UInt8) (n i : Nat) (h : ffE l n ≤ i) (hi : i < n) : gb l i = 255 := by
  induction n with
  | zero => omega
  | succ n ih =>
    by_cases h' : gb l n = 255
    · rw [ffE_ff h'] at h
      by_cases e : i = n
      · rw [e]; exact h'
      · exact ih h (by omega)
    · rw [ffE_no h'] at h; omega
theorem gb_get {l : List UInt8} {i : Nat} (h : i < l.length) : gb l i = (l[i]).toNat := by unfold gb; rw [List.getD_eq_getElem?_getD, List.getElem?_eq_getElem h]; rfl
theorem nx_eq (l : List UInt8) : (nextOk l = true ∧ nx l = some (nextR l)) ∨ (nextOk l = false ∧ nx l = none) := by
  have hle := ffE_le l l.length
  have hall := ffE_all l l.length
  rcases Nat.eq_zero_or_pos (ffE l l.length) with h0 | h0
  · right
    rw [h0] at hall
    refine ⟨(next_no h0).2, nx_ff l fun x hx => ?_⟩
    obtain ⟨i, hi, rfl⟩ := List.getElem_of_mem hx
    rw [← gb_get hi]; exact hall i (Nat.zero_le _) hi
  · left
    have hat := ffE_at l l.length h0
    obtain ⟨j, hj⟩ : ∃ j, ffE l l.length = j + 1 := ⟨_, (Nat.sub_add_cancel h0).symm⟩
    rw [hj] at hall hle hat
    simp only [Nat.add_sub_cancel] at hat
    refine ⟨(next_yes hj).2, ?_⟩
    rw [(next_yes hj).1]
    have hlt : j < l.length := by omega
    have e : l = l.take j ++ l[j] :: l.drop (j + 1) := by rw [← List.drop_eq_getElem_cons hlt, List.take_append_drop]
    conv => lhs; rw [e]
    rw [gb_get hlt] at hat ⊢
    refine nx_app (nx_ff _ fun x hx => ?_) hat _
    obtain ⟨i, hi, rfl⟩ := List.getElem_of_mem hx
    rw [List.length_drop] at hi
    rw [List.getElem_drop, ← gb_get (by omega)]
    exact hall _ (by omega) (by omega)
theorem next_bounds {p o : List UInt8} (h : nextOk p = true) : p <+: o ↔ Op.bytesLess o p = false ∧ Op.bytesLess o (nextR p) = true := by
  have := nx_ok p o
  rcases nx_eq p with ⟨_, e⟩ | ⟨e, _⟩
  · rw [e] at this; exact this
  · rw [e] at h; cases h
theorem begins_iff {s t : ByteArray} (h : s.size ≤ t.size) : ((t.extract 0 s.size).toList == s.toList) = true ↔ s.data.toList <+: t.data.toList := by
  rw [beq_iff_eq, Lib.toList_data, Lib.toList_data, ext_take]
  constructor
  · intro e; rw [← e]; exact List.take_prefix _ _
  · intro ⟨r, e⟩; rw [← e, ← ba_len, List.take_left]
set_option maxRecDepth 200000 in
theorem textNext_walk (a0 a1 : ByteArray) (w : World) (w0 : a0.size ≤ maxLen) (w1 : a1.size ≤ maxLen) :
    Calls Try.prog 7 #[.string a0, .string a1] w fun e w' => e = .returned (.bool true) ∧ Below w.heap.size w w' := by
  have hm : maxLen = 9223372036854775807 := by decide
  rw [hm] at w0 w1
  have C1 := Lib.hid (fun w => next_any a0 w w0)
  have C2 := Lib.hid (fun w => rnext_any a0 w w0)
  have nb := @next_bounds a0.data.toList a1.data.toList
  obtain ⟨ok, hok⟩ : ∃ ok, nextOk a0.data.toList = ok := ⟨_, rfl⟩
  obtain ⟨n, hn⟩ : ∃ n : ByteArray, (⟨(nextR a0.data.toList).toArray⟩ : ByteArray) = n := ⟨_, rfl⟩
  have hnl : n.toList = nextR a0.data.toList := by rw [Lib.toList_data, ← hn]
  rw [hok, hn] at C1 C2
  rw [hok, ← hnl, ← Lib.toList_data a1, ← Lib.toList_data a0] at nb
  have hbg := @begins_iff a0 a1
  rw [← Lib.toList_data a1, ← Lib.toList_data a0] at hbg
  have hpl : a0.toList <+: a1.toList → a0.size ≤ a1.size := by
    intro h; have := h.length_le; rw [Lib.toList_data, Lib.toList_data, ba_len, ba_len] at this; exact this
  clear hok hn hnl
  cases ok
  · clear nb hbg hpl
    obtain ⟨x, hx⟩ : ∃ x, ((a1.extract 0 a0.size).toList == a0.toList) = x := ⟨_, rfl⟩
    by_cases hsz : a0.size ≤ a1.size
    · cases x
      all_goals
        go_enter Try.func7, Try.ntmps7
        go_wp2_with (first
          | (go_at_call 22; refine (C1.out _).mono ?_; rintro e w1 ⟨rfl, hb1⟩)
          | (go_at_call 23; refine (C2.out _).mono ?_; rintro e w2 ⟨rfl, hb2⟩)
          | (go_at_call 9; refine (awake_any _).mono ?_; rintro e w5 ⟨rfl, hb5⟩))
        go_ret
        exact ⟨rfl, hb1.trans ((hb2.trans (hb5.mono hb2.size)).mono hb1.size)⟩
    · have hsz' : a1.size < a0.size := by omega
      clear hx hsz
      go_enter Try.func7, Try.ntmps7
      go_wp2_with (first
        | (go_at_call 22; refine (C1.out _).mono ?_; rintro e w1 ⟨rfl, hb1⟩)
        | (go_at_call 23; refine (C2.out _).mono ?_; rintro e w2 ⟨rfl, hb2⟩)
        | (go_at_call 9; refine (awake_any _).mono ?_; rintro e w5 ⟨rfl, hb5⟩))
      go_ret
      exact ⟨rfl, hb1.trans ((hb2.trans (hb5.mono hb2.size)).mono hb1.size)⟩
  · obtain ⟨x, hx⟩ : ∃ x, Op.bytesLess a1.toList a0.toList = x := ⟨_, rfl⟩
    obtain ⟨y, hy⟩ : ∃ y, Op.bytesLess a1.toList n.toList = y := ⟨_, rfl⟩
    have nb := nb rfl
    rw [hx, hy] at nb
    by_cases hsz : a0.size ≤ a1.size
    · obtain ⟨z, hz⟩ : ∃ z, ((a1.extract 0 a0.size).toList == a0.toList) = z := ⟨_, rfl⟩
      have key := (hbg hsz).trans nb
      rw [hz] at key
      clear hbg hpl nb
      cases x <;> cases y <;> cases z <;> simp at key
      all_goals clear key
      all_goals
        go_enter Try.func7, Try.ntmps7
        go_wp2_with (first
          | (go_at_call 22; refine (C1.out _).mono ?_; rintro e w1 ⟨rfl, hb1⟩)
          | (go_at_call 23; refine (C2.out _).mono ?_; rintro e w2 ⟨rfl, hb2⟩)
          | (go_at_call 9; refine (awake_any _).mono ?_; rintro e w5 ⟨rfl, hb5⟩))
        go_ret
        exact ⟨rfl, hb1.trans ((hb2.trans (hb5.mono hb2.size)).mono hb1.size)⟩
    · have key : ¬ (x = false ∧ y = true) := fun h => hsz (hpl (nb.2 h))
      have hsz' : a1.size < a0.size := by omega
      clear hbg hpl nb hsz
      cases x <;> cases y <;> simp at key
      all_goals clear key
      all_goals
        go_enter Try.func7, Try.ntmps7
        go_wp2_with (first
          | (go_at_call 22; refine (C1.out _).mono ?_; rintro e w1 ⟨rfl, hb1⟩)
          | (go_at_call 23; refine (C2.out _).mono ?_; rintro e w2 ⟨rfl, hb2⟩)
          | (go_at_call 9; refine (awake_any _).mono ?_; rintro e w5 ⟨rfl, hb5⟩))
        go_ret
        exact ⟨rfl, hb1.trans ((hb2.trans (hb5.mono hb2.size)).mono hb1.size)⟩
end Go.Proofs.Ytcoepmakajligaa
