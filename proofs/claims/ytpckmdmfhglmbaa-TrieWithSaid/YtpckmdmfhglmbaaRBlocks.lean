/-
  THE CONTRACT of the law's own count of unlike blocks.
-/
import Derived.Test.YtpckmdmfhglmbaaRAwake
namespace Go.Proofs.Ytpckmdmfhglmbaa
open Go.RowKit
set_option linter.unusedVariables false
set_option linter.unusedSimpArgs false
def iv (l : List Int) : List Value := l.map (Value.int .i64)
def OwnI (B : Nat) (w : World) (v : Value) (l : List Int) : Prop := w.ownsRow B 3 1 v l.length (iv l)
theorem iv_len (l : List Int) : (iv l).length = l.length := by simp [iv]
theorem iv_app (a b : List Int) : iv (a ++ b) = iv a ++ iv b := by simp [iv]
theorem iv_one (l : List Int) : ∀ u ∈ iv l, u.oneCell' = true := by
  intro u hu
  obtain ⟨k, _, rfl⟩ := List.mem_map.1 hu
  rfl
theorem int_info : (Try.prog.info? 3).map (fun i => (i.zero, i.size, i.bytes)) = some (some (.int .i64 0), 1, 8) := by kernel_rfl
theorem pushI {ops : Array Oper} {rest : List Oper} {o : Oper} {a : Act} {Q : Exit → Act → World → Prop} (hgd : o.guard = none) (s x : Operand)
    (ho : o.op = .call { callee := .builtin .append, args := #[s, x], argTypes := #[54, 54] })
    (w0 : World) (B : Nat) (v : Value) (l : List Int) (b : Int) (C : Nat) (hs : a.eval s = v) (hown : OwnI B w0 v l) (hx : a.eval x = .slice (some ⟨w0.heap.size, 0, none⟩) 1 C)
    (hB : B ≤ w0.heap.size) (hl : l.length + 1 ≤ 10000000)
    (h : ∀ A' C' w', OwnI B w' (.slice A' (l.length + 1) C') (l ++ [b]) → Below B w0 w' → wpList Try.prog ops Q rest (a.put o.dst (.slice A' (l.length + 1) C')) w') : wpList Try.prog ops Q (o :: rest) a (w0.alloc (.cells #[.int .i64 b] 3)) := by
  obtain ⟨i0, hi0, hz0, hz1, hz2⟩ := info_parts int_info
  have hb1 : Below B w0 (w0.alloc (.cells #[.int .i64 b] 3)) := (Below.refl B w0).alloc hB _
  have hb2 : B ≤ (w0.alloc (.cells #[.int .i64 b] 3)).heap.size := Nat.le_trans hB hb1.size
  refine wpList_append_own_at _ hgd s x _ ho B 3 i0 _ 1 8 Try.underlying54 hi0 hz0 hz1 hz2 rfl (by omega) v l.length (iv l) hs (World.ownsRow.alloc hown _) _ 1 C [.int .i64 b] hx rfl
    (cells_new w0 [.int .i64 b] _) (by simp [Value.oneCell']) (by simp only [maxLen]; omega) (by omega) hb2 ?_
  intro v' w' h2 h3 _ _
  obtain ⟨A', C', rfl, -, -⟩ := own_parts h2
  refine h A' C' w' ?_ ?_
  · unfold OwnI; rw [iv_app, List.length_append]; exact h2
  · exact hb1.grown h3 hb2 (fun k hk => (World.ownsRow.lt hown k hk).1)
theorem OwnI.at {B : Nat} {w : World} {A : Option Addr} {n c : Nat} {l : List Int} (h : OwnI B w (.slice A n c) l) {k : Nat} {b : Int} (hk : l[k]? = some b) : ∃ g : Nat, A = some ⟨g, 0, none⟩ ∧ w.cell? ⟨g, k, none⟩ = some (.int .i64 b) := by
  obtain ⟨A', c', e, -, hr⟩ := own_parts h
  cases e
  have hl : k < l.length := (List.getElem?_eq_some_iff.1 hk).1
  obtain ⟨g, e, -, -, hc⟩ := hr (by omega)
  exact ⟨g, e, hc k _ (by simp [iv, List.getElem?_map, hk])⟩
theorem OwnI.below {B B' : Nat} {w w' : World} {v : Value} {l : List Int} (h : OwnI B w v l) (hb : Below B' w w') (hB : w.heap.size ≤ B') : OwnI B w' v l := own_below h hb hB
theorem OwnI.drewN {B : Nat} {w : World} {v : Value} {l : List Int} (h : OwnI B w v l) (n : Nat) : OwnI B (w.drewN n) v l := h.below (below_drewN (Below.refl w.heap.size w) n) (Nat.le_refl _)
theorem find_q {B : Nat} {w : World} {v : Value} {l : List (Int × Int)} (h : RdP B w v l) (hl : l.length ≤ 1000000) {c r : Int} (hr : findP l c = r) (n : Nat) :
    Calls Try.prog 10 #[v, .int .i64 c] (w.drewN n) fun e w' => e = .returned (.int .i64 r) ∧ w' = w.drewN n := by
  rw [← hr]
  exact (find_any (h.below (below_drewN (Below.refl B w) n)) hl c).mono fun e w' ⟨he, hw⟩ => ⟨he, hw.symm⟩
theorem take_snoc {α : Type} {l : List α} {k : Nat} {x : α} (h : l[k]? = some x) : l.take (k + 1) = l.take k ++ [x] := by rw [List.take_add_one, h]; rfl
set_option maxHeartbeats 1000000 in
set_option maxRecDepth 100000 in
theorem blocks_law {w : World} {v : Value} {l : List (Int × Int)} (h : RdP w.heap.size w v l) (hl : l.length ≤ 1000) (hm : ∀ p ∈ l, MayP p) :
    Calls Try.prog 12 #[v] w fun e w' => e = .returned (.int .i64 (blocksP l : Nat)) ∧ Below w.heap.size w w' := by
  obtain ⟨A, c, rfl⟩ := h.form
  have HR := Lib.hid h
  have HM := Lib.hid hm
  have hl' : (l.length : Int) ≤ 1000 := by omega
  clear h hm
  go_enter Try.func12, Try.ntmps12
  go_wp2
  go_loopw [3, 4] (fun v i wr => ∃ (k : Nat) (A : Option Addr) (c : Nat) (acc : List Int), k ≤ l.length ∧ i = .int .i64 (k : Nat) ∧ v = .slice A acc.length c ∧ Hid (OwnI w.heap.size wr (.slice A acc.length c) acc) ∧ Hid (atsP (l.take k) [] = acc) ∧ Hid (Below w.heap.size w wr)) (fun _ i _ => l.length - (intOf i).toNat)
  case atStart => exact ⟨0, none, 0, [], Nat.zero_le _, rfl, rfl, World.ownsRow_nil w _ _ _, rfl, Below.refl _ _⟩
  case round =>
    obtain ⟨k, A', c', acc, hk, rfl, rfl, HO, HA, HW⟩ := hrel
    have hal := atsP_len (l.take k) []
    rw [HA.out] at hal
    have hal2 : acc.length ≤ 1000 := by rw [List.length_take] at hal; simp at hal; omega
    have hal3 : (acc.length : Int) ≤ 1000 := by omega
    clear hal
    by_cases hlt : k < l.length
    · obtain ⟨p, hp⟩ : ∃ p, l[k]? = some p := ⟨_, List.getElem?_eq_getElem hlt⟩
      obtain ⟨g, o, rfl, c0, c1⟩ := (HR.out.below HW.out).at hp
      obtain ⟨m0, m1, -, -⟩ := HM.out p (List.mem_of_getElem? hp)
      have hnx : atsP (l.take (k + 1)) [] = if p.2 = 0 ∨ p.1 / 64 ∈ acc then acc else acc ++ [p.1 / 64] := by
        rw [take_snoc hp, atsP_app, HA.out]; rfl
      obtain ⟨x, hx⟩ : ∃ x : Int, p.1 = x := ⟨_, rfl⟩
      obtain ⟨y, hy⟩ : ∃ y : Int, p.2 = y := ⟨_, rfl⟩
      rw [hx] at c0 m0 m1 hnx
      rw [hy] at c1 hnx
      obtain ⟨b, hb⟩ : ∃ b : Int, x / 64 = b := ⟨_, rfl⟩
      rw [hb] at hnx
      obtain ⟨z, hz⟩ : ∃ z, (y == 0) = z := ⟨_, rfl⟩
      have HNX := Lib.hid hnx
      have HZ := Lib.hid hz
      have hkI : (k : Int) < (l.length : Int) := by omega
      clear hp hx hy hnx
      go_wp2
      clear hz
      go_loop [6, 7] (fun s i => ∃ (m : Nat) (zz : Bool), m ≤ acc.length ∧ i = .int .i64 (m : Nat) ∧ s = .bool zz ∧ Hid (zz = (z || decide (b ∈ acc.take m)))) (fun _ i => acc.length - (intOf i).toNat)
      case atStart => exact ⟨0, z, Nat.zero_le _, rfl, rfl, by show _ = _; simp⟩
      case round =>
        obtain ⟨m, zz, hm, rfl, rfl, HZZ⟩ := hrel
        by_cases hml : m < acc.length
        · obtain ⟨d, hd⟩ : ∃ d, acc[m]? = some d := ⟨_, List.getElem?_eq_getElem hml⟩
          obtain ⟨g2, rfl, d0⟩ := HO.out.at hd
          have htk := take_snoc hd
          have hmI : (m : Int) < (acc.length : Int) := by omega
          cases zz with
          | true =>
            have HZ2 : Hid (true = (z || decide (b ∈ acc.take (m + 1)))) := by
              show _ = _
              have := HZZ.out
              rw [htk]
              simp only [List.mem_append, Bool.decide_or]
              cases z <;> simp at this ⊢
              exact .inl this
            clear hd htk
            go_wp2
            go_round
            case rel => exact ⟨m + 1, true, by omega, by go_num, rfl, HZ2.out⟩
            case measure => simp [intOf]; omega
          | false =>
            obtain ⟨e, he⟩ : ∃ e, (d == b) = e := ⟨_, rfl⟩
            have HZ2 : Hid (e = (z || decide (b ∈ acc.take (m + 1)))) := by
              show _ = _
              have := HZZ.out
              rw [htk, ← he]
              have hz0 : z = false := by cases z <;> simp at this ⊢
              have hnb : b ∉ acc.take m := by rw [hz0] at this; simpa using this
              rw [hz0, Bool.eq_iff_iff]
              simp only [beq_iff_eq, Bool.false_or, decide_eq_true_eq, List.mem_append, List.mem_singleton]
              exact ⟨fun h => .inr h.symm, fun h => h.elim (fun h => absurd h hnb) fun h => h.symm⟩
            clear hd htk
            go_wp2
            clear he
            go_round
            case rel => exact ⟨m + 1, e, by omega, by go_num, rfl, HZ2.out⟩
            case measure => simp [intOf]; omega
        · have hme : m = acc.length := by omega
          subst hme
          have hzz := HZZ.out
          rw [List.take_length] at hzz
          cases zz with
          | true =>
            have HNX2 : Hid (atsP (l.take (k + 1)) [] = acc) := by
              show _ = _
              rw [HNX.out, if_pos]
              cases z with
              | true => exact .inl (by simpa using HZ.out)
              | false => simp at hzz; exact .inr hzz
            clear hzz hml
            go_wp2
            go_roundw
            case rel => exact ⟨k + 1, A', c', acc, by omega, by go_num, rfl, HO.out, HNX2.out, HW.out⟩
            case measure => simp [intOf]; omega
          | false =>
            have HNX2 : Hid (atsP (l.take (k + 1)) [] = acc ++ [b]) := by
              show _ = _
              rw [HNX.out, if_neg]
              rintro (h | h)
              · have := HZ.out; rw [h] at this; cases z <;> simp at this hzz
              · simp [h] at hzz
            have HBB : Hid (w.heap.size ≤ wr.heap.size) := HW.out.size
            have HLL : Hid (acc.length + 1 ≤ 10000000) := by show _ ≤ _; omega
            clear hzz hml
            go_wp2_with (at_builtin; refine pushI rfl (.tmp 48) (.tmp 50) rfl _ w.heap.size _ _ b 1 rfl HO.out rfl HBB.out HLL.out ?_; intro A2 C2 w2 ho2 hb2)
            go_roundw
            case rel => exact ⟨k + 1, A2, C2, acc ++ [b], by omega, by go_num, by simp, by rw [List.length_append]; exact ho2, HNX2.out, HW.out.trans hb2⟩
            case measure => simp [intOf]; omega
    · have hkl : k = l.length := by omega
      subst hkl
      have hacc := HA.out
      rw [List.take_length] at hacc
      obtain ⟨f, hf⟩ : ∃ f, findP l = f := ⟨_, rfl⟩
      obtain ⟨rows, hrows⟩ : ∃ rows, acc.map (rowZ f) = rows := ⟨_, rfl⟩
      have hres : blocksP l = 1 + (firsts rows).length := by rw [blocksP, hacc, hf, hrows]
      have hrl : rows.length = acc.length := by rw [← hrows]; simp
      have hab : ∀ b ∈ acc, 0 ≤ b ∧ b ≤ 17411 := by
        intro b hb
        rw [← hacc] at hb
        rcases (mem_atsP l []).1 hb with h | ⟨p, hp, -, h3⟩
        · cases h
        · obtain ⟨m0, m1, _⟩ := HM.out p hp; omega
      have hat : ∀ (i : Nat) (b : Int), acc[i]? = some b → rows[i]? = some (rowZ f b) := fun i b h => by rw [← hrows, List.getElem?_map, h]; rfl
      have HRES := Lib.hid hres
      have HRL := Lib.hid hrl
      have HAB := Lib.hid hab
      have HAT := Lib.hid hat
      have HF := Lib.hid hf
      clear hlt hacc hres hrl hab hat hf hrows
      obtain ⟨wo, rfl⟩ : ∃ wo : World, wo = wr := ⟨_, rfl⟩
      go_wp2
      go_loopw [8, 9] (fun s i wr => ∃ k : Nat, k ≤ acc.length ∧ i = .int .i64 (k : Nat) ∧ s = .int .i64 ((1 + (firsts (rows.take k)).length : Nat) : Int) ∧ Hid (∃ n, wr = wo.drewN n)) (fun _ i _ => acc.length - (intOf i).toNat)
      case atStart => exact ⟨0, Nat.zero_le _, rfl, rfl, 0, rfl⟩
      case round =>
        obtain ⟨k, hk, rfl, rfl, HD⟩ := hrel
        obtain ⟨n, rfl⟩ := HD.out
        by_cases hlt : k < acc.length
        · obtain ⟨a, ha⟩ : ∃ a, acc[k]? = some a := ⟨_, List.getElem?_eq_getElem hlt⟩
          obtain ⟨a0, a1⟩ := HAB.out a (List.mem_of_getElem? ha)
          have hra := HAT.out k a ha
          have hkI : (k : Int) < (acc.length : Int) := by omega
          have HRA := Lib.hid hra
          have HAK := Lib.hid ha
          clear ha hra
          go_wp2
          go_loopw [10, 11] (fun s i wr => ∃ (m : Nat) (z : Bool), m ≤ k ∧ i = .int .i64 (m : Nat) ∧ s = .bool z ∧ Hid (z = decide (rowZ f a ∈ rows.take m)) ∧ Hid (∃ n, wr = wo.drewN n)) (fun _ i _ => k - (intOf i).toNat)
          case atStart => exact ⟨0, false, Nat.zero_le _, rfl, rfl, by show _ = _; simp, n, rfl⟩
          case round =>
            obtain ⟨m, z, hm, rfl, rfl, HZ, HD2⟩ := hrel
            obtain ⟨n2, rfl⟩ := HD2.out
            have hnl : (firsts (rows.take k)).length ≤ 1000 := by
              have h1 := firsts_len (rows.take k)
              rw [List.length_take, HRL.out] at h1
              omega
            have hnlI : ((firsts (rows.take k)).length : Int) ≤ 1000 := by omega
            clear hnl
            by_cases hmk : m < k
            · have hmkI : (m : Int) < (k : Int) := by omega
              cases z with
              | true =>
                have HE : Hid ((1 + (firsts (rows.take (k + 1))).length : Nat) = 1 + (firsts (rows.take k)).length) := by
                  show _ = _
                  rw [take_snoc HRA.out, len_firsts_snoc, if_pos (by have := HZ.out; simp only [true_eq_decide_iff] at this; exact (List.take_subset_take_left _ (Nat.le_of_lt hmk)) this)]; rfl
                clear HZ
                go_wp2
                go_roundw
                case rel => exact ⟨k + 1, by omega, by go_num, by rw [HE.out], n2, rfl⟩
                case measure => simp [intOf]; omega

              | false =>
                obtain ⟨d, hd⟩ : ∃ d, acc[m]? = some d := ⟨_, List.getElem?_eq_getElem (by omega)⟩
                obtain ⟨d0, d1⟩ := HAB.out d (List.mem_of_getElem? hd)
                have HRD := Lib.hid (HAT.out m d hd)
                have HDK := Lib.hid hd
                have hmA : (m : Int) < (acc.length : Int) := by omega
                clear hd
                go_wp2
                go_loopw [10, 12] (fun s i wr => ∃ (q : Nat) (z : Bool), q ≤ 64 ∧ i = .int .i64 (q : Nat) ∧ s = .bool z ∧ Hid (z = decide (∀ j : Nat, j < q → f (64 * a + (j : Nat)) = f (64 * d + (j : Nat)))) ∧ Hid (∃ n, wr = wo.drewN n)) (fun _ i _ => 64 - (intOf i).toNat)
                case atStart => exact ⟨0, true, by omega, rfl, rfl, by show _ = _; simp, n2, rfl⟩
                case round =>
                  obtain ⟨q, z, hq, rfl, rfl, HQ, HD3⟩ := hrel
                  obtain ⟨n3, hn3⟩ := HD3.out
                  have hO3 : OwnI w.heap.size wr (.slice A' acc.length c') acc := by rw [hn3]; exact HO.out.drewN n3
                  have hR3 : RdP w.heap.size wr (.slice A l.length c) l := by rw [hn3]; exact (HR.out.below HW.out).below (below_drewN (Below.mono (Below.refl wo.heap.size wo) HW.out.size) n3)
                  have HO3 := Lib.hid hO3
                  have HR3 := Lib.hid hR3
                  have HN3 := Lib.hid hn3
                  clear hO3 hR3 hn3
                  by_cases hq64 : q < 64
                  · have hqI : (q : Int) < 64 := by omega
                    cases z with
                    | true =>
                      obtain ⟨g2, e1, b1⟩ := HO3.out.at HAK.out
                      obtain ⟨g3, e2, b2⟩ := HO3.out.at HDK.out
                      subst e1
                      cases e2
                      obtain ⟨r1, hr1⟩ : ∃ r1, findP l (64 * a + (q : Nat)) = r1 := ⟨_, rfl⟩
                      obtain ⟨r2, hr2⟩ : ∃ r2, findP l (64 * d + (q : Nat)) = r2 := ⟨_, rfl⟩
                      obtain ⟨e, he⟩ : ∃ e, (r1 == r2) = e := ⟨_, rfl⟩
                      have HQ2 : Hid (e = decide (∀ j : Nat, j < q + 1 → f (64 * a + (j : Nat)) = f (64 * d + (j : Nat)))) := by
                        show _ = _
                        have h0 := HQ.out
                        rw [true_eq_decide_iff] at h0
                        rw [← he, ← hr1, ← hr2, HF.out, Bool.eq_iff_iff, beq_iff_eq, decide_eq_true_eq]
                        constructor
                        · intro h j hj
                          rcases Nat.lt_succ_iff_lt_or_eq.1 hj with h1 | h1
                          · exact h0 j h1
                          · subst h1; exact h
                        · intro h; exact h q (by omega)
                      have CF1 := Lib.hid (fun n => find_q HR3.out (by omega) hr1 n)
                      have CF2 := Lib.hid (fun n => find_q HR3.out (by omega) hr2 n)
                      have w1 : IntKind.i64.wrap (64 * a) = 64 * a := IntWalk.i64_in _ (by omega)
                      have w2 : IntKind.i64.wrap (64 * d) = 64 * d := IntWalk.i64_in _ (by omega)
                      have w3 : IntKind.i64.wrap (64 * a + (q : Int)) = 64 * a + (q : Int) := IntWalk.i64_in _ (by omega)
                      have w4 : IntKind.i64.wrap (64 * d + (q : Int)) = 64 * d + (q : Int) := IntWalk.i64_in _ (by omega)
                      have p1 : (0 : Int) ≤ (k : Int) := by omega
                      have p2 : (0 : Int) ≤ (m : Int) := by omega
                      clear hr1 hr2 HQ
                      go_wp2
                      go_quiet ((first
                        | (go_at_call 10; with_reducible exact Calls.quiet_of_same (CF1.out _))
                        | (go_at_call 10; with_reducible exact Calls.quiet_of_same (CF2.out _))))
                      clear w1 w2 w3 w4 he
                      go_wp2
                      go_roundw
                      case rel => exact ⟨q + 1, e, by omega, by go_num, rfl, HQ2.out, by obtain ⟨n4, h4⟩ := HD3.out; exact ⟨_, by rw [h4]; exact World.drewN_drewN _ _ _⟩⟩
                      case measure => simp [intOf]; omega
                    | false =>
                      have HE : Hid (false = decide (rowZ f a ∈ rows.take (m + 1))) := by
                        show _ = _
                        have h0 := HQ.out
                        have h1 := HZ.out
                        rw [false_eq_decide_iff] at h0 h1 ⊢
                        rw [take_snoc HRD.out, List.mem_append, List.mem_singleton]
                        rintro (h | h)
                        · exact h1 h
                        · exact h0 fun j hj => rowZ_eq.1 h j (by omega)
                      clear HQ HZ
                      go_wp2
                      go_roundw
                      case rel => exact ⟨m + 1, false, by omega, by go_num, rfl, HE.out, n3, HN3.out⟩
                      case measure => simp [intOf]; omega
                  · have hq4 : q = 64 := by omega
                    subst hq4
                    have HE : Hid (z = decide (rowZ f a ∈ rows.take (m + 1))) := by
                      show _ = _
                      have h0 := HQ.out
                      have h1 := HZ.out
                      rw [false_eq_decide_iff] at h1
                      rw [h0, take_snoc HRD.out, Bool.eq_iff_iff, decide_eq_true_eq, decide_eq_true_eq, List.mem_append, List.mem_singleton]
                      exact ⟨fun h => .inr (rowZ_eq.2 h), fun h => h.elim (fun h => absurd h h1) fun h => rowZ_eq.1 h⟩
                    clear HQ HZ hq64
                    go_wp2
                    go_roundw
                    case rel => exact ⟨m + 1, z, by omega, by go_num, rfl, HE.out, n3, HN3.out⟩
                    case measure => simp [intOf]; omega
            · have hmk' : m = k := by omega
              subst hmk'
              clear hmk
              cases z with
              | true =>
                have HE : Hid ((1 + (firsts (rows.take (m + 1))).length : Nat) = 1 + (firsts (rows.take m)).length) := by
                  show _ = _
                  rw [take_snoc HRA.out, len_firsts_snoc, if_pos (by have := HZ.out; simp only [true_eq_decide_iff] at this; exact this)]; rfl
                clear HZ
                go_wp2
                go_roundw
                case rel => exact ⟨m + 1, by omega, by go_num, by rw [HE.out], n2, rfl⟩
                case measure => simp [intOf]; omega

              | false =>
                have HE : Hid ((1 + (firsts (rows.take (m + 1))).length : Nat) = 1 + (firsts (rows.take m)).length + 1) := by
                  show _ = _
                  rw [take_snoc HRA.out, len_firsts_snoc, if_neg (by have := HZ.out; simp only [false_eq_decide_iff] at this; exact this)]; rfl
                clear HZ
                go_wp2
                go_roundw
                case rel => exact ⟨m + 1, by omega, by go_num, by rw [HE.out]; go_num, n2, rfl⟩
                case measure => simp [intOf]; omega

        · have hkl : k = acc.length := by omega
          subst hkl
          have hrt : rows.take acc.length = rows := List.take_of_length_le (by rw [HRL.out]; exact Nat.le_refl _)
          rw [hrt]
          clear hlt hrt
          go_wp2
          go_ret
          exact ⟨congrArg Ending.returned (by rw [HRES.out]; go_num), below_drewN HW.out _⟩
end Go.Proofs.Ytpckmdmfhglmbaa
