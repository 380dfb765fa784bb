/-
  THE CONTRACTS of Elements and of At.
-/
import Derived.Test.YtaabdpfhpolcgaaBFirst
namespace Go.Proofs.Ytaabdpfhpolcgaa
open Go.RowKit
set_option linter.unusedVariables false
set_option linter.unusedSimpArgs false
theorem run_append_none {w : World} (base : Nat) (t ty e : TypeId) (i : TypeInfo) (size c : Nat) (ht : Try.prog.underlying t = some (.slice e)) (hi : Try.prog.info? e = some i)
    (v : Value) (n : Nat) (xs : List Value) (hown : w.ownsRow base e size v n xs) :
    (Builtin.append_ #[t, t] ty #[v, .slice none 0 c]).run Try.prog w = .ok v w := by
  rcases hown.2 with ⟨rfl, rfl⟩ | ⟨g, cap, cur, rfl, _, _, hnc, _⟩
  · simp [Builtin.append_, run_underlying ht, sizeOf, typeInfo, hi, Builtin.lenOf, Builtin.firstCells]
  · simp [Builtin.append_, run_underlying ht, sizeOf, typeInfo, hi, Builtin.lenOf, Builtin.firstCells, hnc, storeCells]
theorem elem_info : (Try.prog.info? 32).map (fun i => (i.zero, i.size, i.bytes)) = some (some (.int .u32 0), 1, 4) := by kernel_rfl
/-- append of elements that lie anywhere, none of them perhaps. -/
theorem appendE {ops : Array Oper} {rest : List Oper} {o : Oper} {a : Act} {Q : Exit → Act → World → Prop} (hgd : o.guard = none) (s x : Operand)
    (ho : o.op = .call { callee := .builtin .append, args := #[s, x], argTypes := #[28, 28] })
    (w : World) (B : Nat) (v : Value) (l m : List Nat) {A : Option Addr} {C : Nat} {F : Nat → Prop} (hs : a.eval s = v) (hown : OwnE B w v l) (hx : a.eval x = .slice A m.length C)
    (hsrc : RdE F w (.slice A m.length C) m) (hB : B ≤ w.heap.size) (hl : l.length + m.length ≤ 100000000)
    (h : ∀ v' w', OwnE B w' v' (l ++ m) → Below B w w' → wpList Try.prog ops Q rest (a.put o.dst v') w') : wpList Try.prog ops Q (o :: rest) a w := by
  obtain ⟨i0, hi0, hz0, hz1, hz2⟩ := info_parts elem_info
  cases A with
  | none =>
    have hm : m = [] := by
      rcases Nat.eq_zero_or_pos m.length with h0 | h0
      · exact List.eq_nil_of_length_eq_zero h0
      · obtain ⟨g, o, e, _⟩ := RdF.base hsrc h0
        cases e
    subst hm
    refine wpList_plain hgd fun K hK => ?_
    have hrun := run_append_none (w := w) B 28 o.type 32 i0 1 C Try.underlying28 hi0 v l.length (ev l) hown
    have hx' : a.eval x = .slice none 0 C := hx
    unfold Oper.wp
    simp [execOp, ho, resolve, invoke, builtin, hs, hx', hrun, Result.andThen]
    exact hK _ _ (h v w (by rw [List.append_nil]; exact hown) (Below.refl _ _))
  | some ad =>
    refine wpList_append_own_at _ hgd s x _ ho B 32 i0 _ 1 4 Try.underlying28 hi0 hz0 hz1 hz2 rfl (by omega) v l.length (ev l) hs hown ad m.length C (ev m) hx (by rw [ev_len]; omega)
      ?_ (ev_one m) (by simp only [maxLen]; omega) (by omega) hB ?_
    · intro j u hu
      have h0 : 0 < m.length := by
        have := (List.getElem?_eq_some_iff.1 hu).1
        rw [ev_len] at this; omega
      obtain ⟨g, o, e, _, hc⟩ := RdF.base hsrc h0
      cases e
      rw [Addr.add_lit]
      exact hc j u hu
    · intro v' w' h2 h3 _ _
      refine h v' w' ?_ ((Below.refl B w).grown h3 hB (fun k hk => (World.ownsRow.lt hown k hk).1))
      unfold OwnE; rw [ev_app, List.length_append]; exact h2
theorem all_drop {l : List Int} {q : Int → Bool} (h : l.all q = true) (n : Nat) : (l.drop n).all q = true := by
  rw [List.all_eq_true] at h ⊢
  exact fun x hx => h x (List.mem_of_mem_drop hx)
theorem ownI_lt {B : Nat} {w : World} {v : Value} {l : List Int} (h : T2.OwnI B w v l) : RdI (fun g => g < w.heap.size) w v l := by
  obtain ⟨A, c, rfl, hc, hr⟩ := R4.own_parts h
  refine ⟨A, c, rfl, hc, fun hn => ?_⟩
  obtain ⟨g, e, h1, h2, h3⟩ := hr hn
  exact ⟨g, 0, e, h2, fun j u hu => by rw [Nat.zero_add]; exact h3 j u hu⟩
theorem RdI.keep {B : Nat} {w w' : World} {v : Value} {l : List Int} (h : RdI (fun g => g < B) w v l) (hb : Below B w w') : RdI (fun g => g < B) w' v l := RdF.frame h fun g hg _ => hb.block g hg
theorem first_is {L : List PE} {ss : List Int} {l : List Nat} {u : Nat} (hr : atP L ss = (l, u)) {F G : Nat → Prop} {w : World} {p : Nat} {v : Value} (h : TabAt F w p L) (hs : RdI G w v ss) (h0 : 0 < ss.length) (hI : ss.all T2.isSg = true) (hl : ss.length ≤ 1000000) :
    Calls Try.prog 14 #[.pointer (some ⟨p, 0, none⟩), v] w fun e w' => (∃ A c, e = .returned (.tuple #[.slice A l.length c, .int .i64 (u : Nat)]) ∧ RdE anyB w' (.slice A l.length c) l) ∧ Below w.heap.size w w' := by
  have := first_any h hs h0 (sg_i64 hI) hl
  unfold FirstIs at this
  rw [hr] at this
  exact this
set_option maxHeartbeats 1000000 in
set_option maxRecDepth 100000 in
theorem elements_any {F : Nat → Prop} {w : World} {p : Nat} {L : List PE} (h : TabAt F w p L) (b : ByteArray) (hb : b.size ≤ 100000) :
    Calls Try.prog 5 #[.pointer (some ⟨p, 0, none⟩), .string b] w (GotE w.heap.size w (elsP L (T2.sgs b.data.toList))) := by
  have HS := Lib.hid (T2.signs_any b w (by omega))
  have hsg := T2.sgs_sg b.data.toList
  have hln := T2.sgs_len b.data.toList
  have hbl := T2.ba_len b
  obtain ⟨ss, hss⟩ : ∃ ss, T2.sgs b.data.toList = ss := ⟨_, rfl⟩
  rw [hss] at HS hsg hln ⊢
  have hsl : ss.length ≤ 100000 := by omega
  have HT := Lib.hid h
  have HG := Lib.hid hsg
  clear h hsg hln hbl hss hb
  go_enter Try.func5, Try.ntmps5
  go_wp2_with (go_at_call 13; refine (HS.out).mono ?_; rintro e w1 ⟨v1, rfl, ho, hb⟩; obtain ⟨A0, c0, rfl⟩ := (ownI_rd (F := anyB) ho (fun _ _ => trivial)).form; have HRS := Lib.hid (ownI_lt ho); have HB1 := Lib.hid hb; clear ho hb)
  clear HS
  go_loopw [5, 6] (fun u v wr => ∃ (rest : List Int) (acc : List Nat) (A : Option Addr) (c : Nat), v = .slice A rest.length c ∧ Hid (RdI (fun g => g < w1.heap.size) wr (.slice A rest.length c) rest) ∧ Hid (rest.all T2.isSg = true) ∧ Hid (OwnE w1.heap.size wr u acc) ∧ Hid (acc ++ elsP L rest = elsP L ss) ∧ acc.length + 8 * rest.length ≤ 8 * ss.length ∧ Hid (Below w1.heap.size w1 wr)) (fun _ v _ => match v with | .slice _ n _ => n | _ => 0)
  case atStart => exact ⟨ss, [], A0, c0, rfl, HRS.out, HG.out, World.ownsRow_nil _ _ _ _, rfl, by simp, Below.refl _ _⟩
  case round =>
    clear HRS HG
    obtain ⟨rest, acc, A, c, rfl, HR, HG, HO, HE, hlen, HB⟩ := hrel
    have HW := Lib.hid (HB1.out.trans (HB.out.mono HB1.out.size))
    by_cases h0 : 0 < rest.length
    · have HTw := Lib.hid (HT.out.below HW.out (Nat.le_refl _))
      obtain ⟨R, hR⟩ : ∃ R, atP L rest = R := ⟨_, rfl⟩
      obtain ⟨l, u⟩ := R
      have hu := atP_used L h0
      have hg := atP_good HT.out.good rest
      have hst := elsP_step L h0
      rw [hR] at hu hg hst
      simp only at hu hg hst
      have HC := Lib.hid (first_is hR HTw.out HR.out h0 HG.out (by omega))
      have HE2 : Hid ((acc ++ l) ++ elsP L (rest.drop u) = elsP L ss) := by show _ = _; rw [List.append_assoc, ← hst]; exact HE.out
      have hcap := (RdF.cap HR.out).1
      obtain ⟨g, o, rfl, -⟩ := RdF.base HR.out h0
      obtain ⟨A2, hA2⟩ : ∃ A2, (if c = u then some (⟨g, o, none⟩ : Addr) else some ⟨g, o + u, none⟩) = A2 := ⟨_, rfl⟩
      have HR2 : Hid (RdI (fun g => g < w1.heap.size) wr (.slice A2 (rest.length - u) (c - u)) (rest.drop u)) := RdI.drop HR.out hu.2.1 (fun ad e => by cases e; rw [Addr.add_lit]; exact hA2)
      have HG2 := Lib.hid (all_drop HG.out u)
      have HLD : Hid ((rest.drop u).length = rest.length - u) := List.length_drop
      have u1 : (1 : Int) ≤ (u : Int) := by omega
      have u2 : (u : Int) ≤ (rest.length : Int) := by omega
      have u3 : (rest.length : Int) ≤ (c : Int) := by omega
      have u4 : (0 : Int) < (rest.length : Int) := by omega
      have hll : l.length ≤ 8 := hg.1
      have hu2 := hu.2.1
      have hu1 := hu.1
      have HLL : Hid (acc.length + l.length ≤ 100000000) := by show _ ≤ _; omega
      clear hR hu hg hst hcap
      go_wp2_with (first
        | (go_at_call 14; refine (HC.out).mono ?_; rintro e w2 ⟨⟨A3, c3, rfl, hr⟩, hb⟩; have HRL := Lib.hid hr; have HB2 := Lib.hid hb; have HO2 := Lib.hid (HO.out.below hb (Nat.le_refl _)); have HW2 := Lib.hid (HB.out.trans (hb.mono HB.out.size)); clear hr hb)
        | (at_builtin; refine appendE rfl (.tmp 20) (.tmp 21) rfl _ w1.heap.size _ acc l rfl HO2.out rfl HRL.out HW2.out.size HLL.out ?_; intro v4 w4 h4 hb4; have HO4 := Lib.hid h4; have HW4 := Lib.hid (HW2.out.trans hb4); have HR4 := Lib.hid (HR2.out.keep ((HB2.out.mono HB.out.size).trans hb4)); clear h4 hb4))
      go_roundw
      case rel => exact ⟨rest.drop u, acc ++ l, A2, c - u, by rw [HLD.out], by rw [HLD.out]; exact HR4.out, HG2.out, HO4.out, HE2.out, by rw [HLD.out, List.length_append]; omega, HW4.out⟩
      case measure => simp; omega
    · have hr0 : rest = [] := List.eq_nil_of_length_eq_zero (by omega)
      subst hr0
      have HEE : Hid (acc = elsP L ss) := by have := HE.out; rw [elsP_nil, List.append_nil] at this; exact this
      clear h0 HE
      go_wp2
      go_ret
      exact ⟨_, rfl, by rw [← HEE.out]; exact R4.own_mono HO.out HB1.out.size, HW.out⟩
end Go.Proofs.Ytaabdpfhpolcgaa
