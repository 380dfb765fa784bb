/-
  PACKED for a claim.
-/
import Derived.LoopN
import Derived.Laws.Cover1
import Derived.Test.YteibnfeokgibmaaGreatP11
import Derived.Test.YteibnfeokgibmaaGreatP12
set_option linter.unusedVariables false
set_option linter.unusedSimpArgs false
set_option maxRecDepth 100000
namespace Go.Proofs.YteibnfeokgibmaaGreat
open Go.RowKit
theorem zat (x y : Int) (w : World) : Calls Tryz.prog 76 #[.int .i64 x, .int .i64 y] w fun e w' => e = .returned (.int .i64 (cmpI x y)) /\ w = w' :=
 (Tryz.cmp_Compare_int x y w).mono fun e w' ⟨h1, h2⟩ => ⟨h1, h2.symm⟩
theorem yxu (a b : ByteArray) (w : World) : Calls Tryz.prog 47 #[.string a, .string b] w fun e w' => e = .returned (.int .i64 (cmpB a.data.toList b.data.toList)) /\ w = w' :=
 (Tryz.strings_Compare a b w).mono fun e w' ⟨h1, h2⟩ => ⟨by rw [h1, yiq], h2.symm⟩
set_option maxHeartbeats 2000000 in
theorem or_two {w : World} {g o c : Nat} {x y : Int} (hx : w.cell? ⟨g, o, none⟩ = some (.int .i64 x)) (hy : w.cell? ⟨g, o + 1, none⟩ = some (.int .i64 y)) (hc : 2 <= c) {r : Int} (hr : lexC x y = r) :
  Calls Tryz.prog 46 #[.slice (some ⟨g, o, none⟩) 2 c] w fun e w' => e = .returned (.int .i64 r) /\ w = w' := by
 have hx0 : w.cell? ⟨g, o + 0 * 1, none⟩ = some (.int .i64 x) := hx
 have hc0 : (0 : Int) < (c : Int) := by omega
 have hc1 : (1 : Int) < (c : Int) := by omega
 unfold lexC at hr
 by_cases h1 : x = 0
 ·rw [if_pos h1] at hr; subst h1 hr
  by_cases h2 : y = 0
  ·subst h2
   go_enter Tryz.func46, Tryz.ntmps46
   go_wp2
   refine wp_loop_rounds 3 ?_; rw [rounds_succ]
   go_wp2
   rw [rounds_succ]
   go_wp2
   rw [rounds_succ]
   go_wp2
   go_ret
   exact ⟨rfl, rfl⟩
  ·have hn : (y != 0) = true := by simpa using h2
   go_enter Tryz.func46, Tryz.ntmps46
   go_wp2
   refine wp_loop_rounds 2 ?_; rw [rounds_succ]
   go_wp2
   rw [rounds_succ]
   go_wp2
   go_ret
   exact ⟨rfl, rfl⟩
 ·rw [if_neg h1] at hr; subst hr
  have hn : (x != 0) = true := by simpa using h1
  go_enter Tryz.func46, Tryz.ntmps46
  go_wp2
  refine wp_loop_rounds 1 ?_; rw [rounds_succ]
  go_wp2
  go_ret
  exact ⟨rfl, rfl⟩
theorem cmpW_c {p q : List Int} {k : Nat} {a b : Int} (ha : p[k]? = some a) (hb : q[k]? = some b) : cmpW (p.drop k) (q.drop k) = if cmpI a b ≠ 0 then cmpI a b else cmpW (p.drop (k + 1)) (q.drop (k + 1)) := by
 rw [ywm ha hb]
 by_cases e : a = b
 ·subst e; rw [if_pos rfl, if_neg (by rw [ydg]; simp)]
 ·rw [if_neg e]
  by_cases f : a < b
  ·have g : cmpI a b = -1 := by unfold cmpI; rw [if_pos f]
   rw [if_pos f, g, if_pos (by omega)]
  ·have g : cmpI a b = 1 := by unfold cmpI; rw [if_neg f, if_pos (by omega)]
   rw [if_neg f, g, if_pos (by omega)]
set_option maxHeartbeats 4000000 in
theorem zac {F G : Nat -> Prop} {w : World} {u v : Value} {P Q : List Int} (hP : RdI F w u P) (hQ : RdI G w v Q) (hl : P.length <= 10000000) (hm : Q.length <= 10000000) {C : Int} (hC : cmpW P Q = C) :
  Calls Tryz.prog 49 #[u, v] w fun e w' => e = .returned (.int .i64 C) /\ w = w' := by
 have HP := zH hP; have HQ := zH hQ; obtain ⟨Ap, cp, rfl⟩ := hP.form; obtain ⟨Aq, cq, rfl⟩ := hQ.form; have HC := zH hC; obtain ⟨lp, hlp⟩ : ∃ n, P.length = n := ⟨_, rfl⟩; obtain ⟨lq, hlq⟩ : ∃ n, Q.length = n := ⟨_, rfl⟩; have HLP := zH hlp; have HLQ := zH hlq; have cap1 := (RdF.cap HP.out).1; have cap2 := (RdF.cap HQ.out).1; rw [hlp] at HP hl cap1 |-; rw [hlq] at HQ hm cap2 |-; clear hP hQ hC hlp hlq
 go_enter Tryz.func49, Tryz.ntmps49
 go_wp2
 go_loopw [11] (fun i wr => ∃ m : Nat, m <= lp /\ m <= lq /\ i = .int .i64 (m : Nat) /\ Hid (cmpW (P.drop m) (Q.drop m) = C) /\ w = wr) (fun i _ => lp - (intOf i).toNat)
 case atStart => exact ⟨0, by omega, by omega, rfl, HC.out, rfl⟩
 case round =>
  obtain ⟨m, hm1, hm2, rfl, HS, hwr⟩ := hrel
  replace hwr := hwr.symm
  subst hwr
  by_cases h1 : m < lp
  ·have h1I : (m : Int) < (lp : Int) := by omega
   have h1c : (m : Int) < (cp : Int) := by omega
   obtain ⟨x, hx⟩ : ∃ u, P[m]? = some u := ⟨_, List.getElem?_eq_getElem (by rw [HLP.out]; exact h1)⟩
   obtain ⟨g1, o1, rfl, c1⟩ := HP.out.at hx
   by_cases h2 : m < lq
   ·have h2I : ¬ (lq : Int) <= (m : Int) := by omega
    have h2J : (m : Int) < (lq : Int) := by omega
    have h2c : (m : Int) < (cq : Int) := by omega
    obtain ⟨y, hy⟩ : ∃ u, Q[m]? = some u := ⟨_, List.getElem?_eq_getElem (by rw [HLQ.out]; exact h2)⟩
    obtain ⟨g2, o2, rfl, c2⟩ := HQ.out.at hy; have hst := cmpW_c hx hy; rw [HS.out] at hst; have CC := zH (fun w => zat x y w)
    obtain ⟨z, hz⟩ : ∃ z, cmpI x y = z := ⟨_, rfl⟩; rw [hz] at hst CC
    by_cases e : z = 0
    ·subst e; rw [if_neg (by simp)] at hst
     have HS2 := zH hst; clear hst hx hy hz
     go_wp2_with (go_at_call 76; refine (CC.out _).mono ?_; rintro e w' ⟨rfl, rfl⟩)
     go_roundw
     case rel => exact ⟨m + 1, by omega, by omega, by go_num, HS2.out.symm, by first | rfl | trivial⟩
     case measure => simp [intOf] <;> omega
    ·have hn : (z != 0) = true := by simpa using e
     rw [if_pos e] at hst; subst hst; clear hx hy hz
     go_wp2_with (go_at_call 76; refine (CC.out _).mono ?_; rintro e w' ⟨rfl, rfl⟩)
     go_ret
     exact ⟨rfl, rfl⟩
   ·have h2I : (lq : Int) <= (m : Int) := by omega
    have h := ypo (p := P) (q := Q) (k := m) (.inr (by rw [HLQ.out]; omega)) (by rw [HLP.out]; omega) (by rw [HLQ.out]; omega)
    rw [HS.out, HLP.out, HLQ.out, if_neg (by omega), if_pos (by omega)] at h
    subst h; clear hx
    go_wp2
    go_ret
    exact ⟨rfl, rfl⟩
  ·have h1I : ¬ (m : Int) < (lp : Int) := by omega
   have h := ypo (p := P) (q := Q) (k := m) (.inl (by rw [HLP.out]; omega)) (by rw [HLP.out]; omega) (by rw [HLQ.out]; omega)
   rw [HS.out, HLP.out, HLQ.out] at h
   by_cases h2 : lp < lq
   ·have h2I : (lp : Int) < (lq : Int) := by omega
    rw [if_pos h2] at h; subst h
    go_wp2
    go_ret
    exact ⟨rfl, rfl⟩
   ·have h2I : ¬ (lp : Int) < (lq : Int) := by omega
    rw [if_neg h2, if_neg (by omega)] at h; subst h
    go_wp2
    go_ret
    exact ⟨rfl, rfl⟩
def RdLL (w : World) (v : Value) (ll : List (List Int)) : Prop :=
 ∃ vs : List Value, vs.length = ll.length /\ RdF anyB w v ll.length vs /\ ∀ (i : Nat) (x : List Int), ll[i]? = some x -> ∃ u, vs[i]? = some u /\ RdI anyB w u x
theorem RdLL.below {B : Nat} {w w' : World} {v : Value} {ll : List (List Int)} (h : RdLL w v ll) (hb : Below B w w') (hB : w.heap.size <= B) : RdLL w' v ll := by
 obtain ⟨vs, h1, h2, h3⟩ := h; refine ⟨vs, h1, h2.below hb hB, fun i x hx => ?_⟩
 obtain ⟨u, hu, hr⟩ := h3 i x hx; exact ⟨u, hu, RdF.below hr hb hB⟩
theorem RdLL.form {w : World} {v : Value} {ll : List (List Int)} (h : RdLL w v ll) : ∃ A c, v = .slice A ll.length c := by
 obtain ⟨vs, h1, h2, h3⟩ := h; exact h2.form
theorem RdLL.cap {w : World} {A : Option Addr} {m c : Nat} {ll : List (List Int)} (h : RdLL w (.slice A m c) ll) : ll.length <= c /\ m = ll.length := by
 obtain ⟨vs, h1, h2, h3⟩ := h; exact h2.cap
theorem RdLL.at {w : World} {A : Option Addr} {m c : Nat} {ll : List (List Int)} (h : RdLL w (.slice A m c) ll) {k : Nat} {x : List Int} (hk : ll[k]? = some x) : ∃ (g o : Nat) (u : Value), A = some ⟨g, o, none⟩ /\ w.cell? ⟨g, o + k, none⟩ = some u /\ RdI anyB w u x := by
 obtain ⟨vs, h1, h2, h3⟩ := h; have hlt := (List.getElem?_eq_some_iff.1 hk).1; obtain ⟨g, o, e, -, hx⟩ := h2.base (by omega)
 obtain ⟨u, hu, hr⟩ := h3 k x hk; exact ⟨g, o, u, e, hx k u hu, hr⟩
theorem RdLL.nil (w : World) : RdLL w (.slice none 0 0) [] := ⟨[], rfl, RdF.nil _ _, fun i x h => by simp at h⟩
theorem cmpLL_c {p q : List (List Int)} {k : Nat} {a b : List Int} (ha : p[k]? = some a) (hb : q[k]? = some b) : cmpLL (p.drop k) (q.drop k) = if cmpW a b ≠ 0 then cmpW a b else cmpLL (p.drop (k + 1)) (q.drop (k + 1)) := by
 obtain ⟨h1, rfl⟩ := List.getElem?_eq_some_iff.1 ha; obtain ⟨h2, rfl⟩ := List.getElem?_eq_some_iff.1 hb; rw [List.drop_eq_getElem_cons h1, List.drop_eq_getElem_cons h2]
 show lexC _ _ = _
 unfold lexC
 by_cases e : cmpW p[k] q[k] = 0
 ·rw [if_pos e, if_neg (by rw [e]; simp)]
 ·rw [if_neg e, if_pos e]
theorem ymg {p q : List (List Int)} {k : Nat} (h : p.length <= k \/ q.length <= k) (hp : k <= p.length) (hq : k <= q.length) : cmpLL (p.drop k) (q.drop k) = if p.length < q.length then -1 else if q.length < p.length then 1 else 0 := by
 rcases h with h | h
 ·rw [List.drop_of_length_le h]
  have : p.length = k := by omega
  by_cases h2 : q.length = k
  ·rw [List.drop_of_length_le (Nat.le_of_eq h2), if_neg (by omega), if_neg (by omega)]; rfl
  ·rw [List.drop_eq_getElem_cons (by omega), if_pos (by omega)]; rfl
 ·rw [List.drop_of_length_le (l := q) h]
  have : q.length = k := by omega
  by_cases h2 : p.length = k
  ·rw [List.drop_of_length_le (Nat.le_of_eq h2), if_neg (by omega), if_neg (by omega)]; rfl
  ·rw [List.drop_eq_getElem_cons (by omega), if_neg (by omega), if_pos (by omega)]; rfl
def ShL (ll : List (List Int)) : Prop := ll.length <= 1000 /\ ∀ x ∈ ll, x.length <= 10000000
set_option maxHeartbeats 4000000 in
theorem ynu {w : World} {u v : Value} {P Q : List (List Int)} (hP : RdLL w u P) (hQ : RdLL w v Q) (sP : ShL P) (sQ : ShL Q) {C : Int} (hC : cmpLL P Q = C) :
  Calls Tryz.prog 48 #[u, v, .func (.func 49) #[] #[]] w fun e w' => e = .returned (.int .i64 C) /\ w = w' := by
 have HP := zH hP; have HQ := zH hQ; have HSP := zH sP.2; have HSQ := zH sQ.2; have hl := sP.1; have hm := sQ.1; obtain ⟨Ap, cp, rfl⟩ := hP.form; obtain ⟨Aq, cq, rfl⟩ := hQ.form; have HC := zH hC; obtain ⟨lp, hlp⟩ : ∃ n, P.length = n := ⟨_, rfl⟩; obtain ⟨lq, hlq⟩ : ∃ n, Q.length = n := ⟨_, rfl⟩; have HLP := zH hlp; have HLQ := zH hlq; have cap1 := (RdLL.cap HP.out).1; have cap2 := (RdLL.cap HQ.out).1; rw [hlp] at HP hl cap1 |-; rw [hlq] at HQ hm cap2 |-; clear hP hQ hC hlp hlq sP sQ
 go_enter Tryz.func48, Tryz.ntmps48
 go_wp2
 go_loopw [13] (fun i wr => ∃ m : Nat, m <= lp /\ m <= lq /\ i = .int .i64 (m : Nat) /\ Hid (cmpLL (P.drop m) (Q.drop m) = C) /\ w = wr) (fun i _ => lp - (intOf i).toNat)
 case atStart => exact ⟨0, by omega, by omega, rfl, HC.out, rfl⟩
 case round =>
  obtain ⟨m, hm1, hm2, rfl, HS, hwr⟩ := hrel
  replace hwr := hwr.symm
  subst hwr
  by_cases h1 : m < lp
  ·have h1I : (m : Int) < (lp : Int) := by omega
   have h1c : (m : Int) < (cp : Int) := by omega
   obtain ⟨x, hx⟩ : ∃ u, P[m]? = some u := ⟨_, List.getElem?_eq_getElem (by rw [HLP.out]; exact h1)⟩
   obtain ⟨g1, o1, ux, rfl, c1, r1⟩ := HP.out.at hx
   by_cases h2 : m < lq
   ·have h2I : ¬ (lq : Int) <= (m : Int) := by omega
    have h2J : (m : Int) < (lq : Int) := by omega
    have h2c : (m : Int) < (cq : Int) := by omega
    obtain ⟨y, hy⟩ : ∃ u, Q[m]? = some u := ⟨_, List.getElem?_eq_getElem (by rw [HLQ.out]; exact h2)⟩
    obtain ⟨g2, o2, uy, rfl, c2, r2⟩ := HQ.out.at hy; have hst := cmpLL_c hx hy; rw [HS.out] at hst; obtain ⟨z, hz⟩ : ∃ z, cmpW x y = z := ⟨_, rfl⟩; have CC := zH (zac r1 r2 (HSP.out x (List.mem_of_getElem? hx)) (HSQ.out y (List.mem_of_getElem? hy)) hz); rw [hz] at hst
    by_cases e : z = 0
    ·subst e; rw [if_neg (by simp)] at hst
     have HS2 := zH hst; clear hst hx hy hz r1 r2
     go_wp2_with (go_at_call 49; refine (CC.out).mono ?_; rintro e w' ⟨rfl, rfl⟩)
     go_roundw
     case rel => exact ⟨m + 1, by omega, by omega, by go_num, HS2.out.symm, by first | rfl | trivial⟩
     case measure => simp [intOf] <;> omega
    ·have hn : (z != 0) = true := by simpa using e
     rw [if_pos e] at hst; subst hst; clear hx hy hz r1 r2
     go_wp2_with (go_at_call 49; refine (CC.out).mono ?_; rintro e w' ⟨rfl, rfl⟩)
     go_ret
     exact ⟨rfl, rfl⟩
   ·have h2I : (lq : Int) <= (m : Int) := by omega
    have h := ymg (p := P) (q := Q) (k := m) (.inr (by rw [HLQ.out]; omega)) (by rw [HLP.out]; omega) (by rw [HLQ.out]; omega)
    rw [HS.out, HLP.out, HLQ.out, if_neg (by omega), if_pos (by omega)] at h
    subst h; clear hx r1
    go_wp2
    go_ret
    exact ⟨rfl, rfl⟩
  ·have h1I : ¬ (m : Int) < (lp : Int) := by omega
   have h := ymg (p := P) (q := Q) (k := m) (.inl (by rw [HLP.out]; omega)) (by rw [HLP.out]; omega) (by rw [HLQ.out]; omega)
   rw [HS.out, HLP.out, HLQ.out] at h
   by_cases h2 : lp < lq
   ·have h2I : (lp : Int) < (lq : Int) := by omega
    rw [if_pos h2] at h; subst h
    go_wp2
    go_ret
    exact ⟨rfl, rfl⟩
   ·have h2I : ¬ (lp : Int) < (lq : Int) := by omega
    rw [if_neg h2, if_neg (by omega)] at h; subst h
    go_wp2
    go_ret
    exact ⟨rfl, rfl⟩
end Go.Proofs.YteibnfeokgibmaaGreat
