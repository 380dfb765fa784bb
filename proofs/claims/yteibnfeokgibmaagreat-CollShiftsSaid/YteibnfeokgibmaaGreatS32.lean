/-
  PACKED for a claim.
-/
import Derived.Test.YteibnfeokgibmaaGreatS31
set_option linter.unusedVariables false
set_option linter.unusedSimpArgs false
set_option maxRecDepth 100000
namespace Go.Proofs.YteibnfeokgibmaaGreat
open Go.RowKit
def KR (w : World) (k : Nat) : Prop := ∃ cs T fr, w.heap[k]? = some (.cells cs T fr) /\ (T = 131 \/ T = 77 \/ T = 3)
def KRU (U : Nat -> Prop) (w : World) (k : Nat) : Prop := U k /\ KR w k
theorem RdF.kstep {U : Nat -> Prop} {w w' : World} {v : Value} {n : Nat} {xs : List Value} (hr : RdF (KRU U w) w v n xs) (hf : ∀ k, U k -> KR w k -> k < w.heap.size -> w'.heap[k]? = w.heap[k]?) : RdF (KRU U w') w' v n xs := by
 obtain ⟨A, c, rfl, hc, hr⟩ := hr; refine ⟨A, c, rfl, hc, fun h0 => ?_⟩
 obtain ⟨g, o, e, ⟨hU, hg⟩, hx⟩ := hr h0; have hg0 := hg; obtain ⟨cs, T, fr, h1, h2⟩ := hg; have e2 := hf g hU hg0 (R4.yad h1); refine ⟨g, o, e, ⟨hU, cs, T, fr, e2.trans h1, h2⟩, fun j u hu => ?_⟩
 rw [World.cell?_of_block (w := w) (a := ⟨g, o + j, none⟩) e2]; exact hx j u hu
theorem RdF.kown {U : Nat -> Prop} {B : Nat} {w : World} {e : TypeId} {s : Nat} {v : Value} {n : Nat} {xs : List Value} (h : w.ownsRow B e s v n xs) (he : e = 131 \/ e = 77 \/ e = 3) (hU : ∀ k, B <= k -> U k) : RdF (KRU U w) w v n xs := by
 obtain ⟨A, c, rfl, hc, hr⟩ := R4.yah h; refine ⟨A, c, rfl, hc, fun h0 => ?_⟩
 obtain ⟨g, e', hg, hl, hx⟩ := hr h0; obtain ⟨cur, h1⟩ := R4.ybq h (g := g) (by rw [e']; rfl)
 exact ⟨g, 0, e', ⟨hU g hg, _, _, _, h1, he⟩, fun j u hu => by rw [Nat.zero_add]; exact hx j u hu⟩
def EntU (U : Nat -> Prop) (w : World) (m : ME) : Prop := RdF (KRU U w) w m.vs m.s.length (iv m.s) /\ RdF (KRU U w) w m.vl m.l.length (qcells m.l)
theorem EntU.step {U : Nat -> Prop} {w w' : World} {m : ME} (h : EntU U w m) (hf : ∀ k, U k -> KR w k -> k < w.heap.size -> w'.heap[k]? = w.heap[k]?) : EntU U w' m := ⟨RdF.kstep h.1 hf, RdF.kstep h.2 hf⟩
theorem EntU.below {U : Nat -> Prop} {B : Nat} {w w' : World} {m : ME} (h : EntU U w m) (hb : Below B w w') (hB : w.heap.size <= B) : EntU U w' m := h.step fun k _ _ hk => hb.block k (by omega)
theorem EntU.ints {U : Nat -> Prop} {w : World} {m : ME} (h : EntU U w m) : RdI anyB w m.vs m.s := RdF.any h.1
theorem EntU.els {U : Nat -> Prop} {w : World} {m : ME} (h : EntU U w m) : RdQ anyB w m.vl m.l := RdF.any h.2
theorem EntU.one {U : Nat -> Prop} {w : World} {m : ME} (h : EntU U w m) : m.vs.oneCell' = true /\ m.vl.oneCell' = true := by
 obtain ⟨A, c, e⟩ := h.1.form; obtain ⟨A', c', e'⟩ := h.2.form; rw [e, e']; exact ⟨rfl, rfl⟩
theorem yaz {U : Nat -> Prop} {w : World} {M : List ME} (h : ∀ m ∈ M, EntU U w m) : ∀ u ∈ mcells M, u.oneCell' = true := by
 intro u hu; obtain ⟨p, hp, hq⟩ := List.mem_flatMap.1 hu
 have := (h p hp).one
 simp at hq
 rcases hq with rfl | rfl
 ·exact this.1
 ·exact this.2
def RdN (U : Nat -> Prop) (w : World) (v : Value) (M : List ME) : Prop := RdF (KRU U w) w v M.length (mcells M) /\ ∀ m ∈ M, EntU U w m
def RefU (U : Nat -> Prop) (w : World) (v : Value) (L : List PE) : Prop := ∃ M, pls M = L /\ RdN U w v M
abbrev RefT (w : World) (v : Value) (L : List PE) : Prop := RefU anyB w v L
theorem RdN.step {U : Nat -> Prop} {w w' : World} {v : Value} {M : List ME} (h : RdN U w v M) (hf : ∀ k, U k -> KR w k -> k < w.heap.size -> w'.heap[k]? = w.heap[k]?) : RdN U w' v M := ⟨RdF.kstep h.1 hf, fun m hm => (h.2 m hm).step hf⟩
theorem RdN.below {U : Nat -> Prop} {B : Nat} {w w' : World} {v : Value} {M : List ME} (h : RdN U w v M) (hb : Below B w w') (hB : w.heap.size <= B) : RdN U w' v M := h.step fun k _ _ hk => hb.block k (by omega)
theorem RefU.step {U : Nat -> Prop} {w w' : World} {v : Value} {L : List PE} (h : RefU U w v L) (hf : ∀ k, U k -> KR w k -> k < w.heap.size -> w'.heap[k]? = w.heap[k]?) : RefU U w' v L := by
 obtain ⟨M, e, h⟩ := h; exact ⟨M, e, h.step hf⟩
theorem RefU.below {U : Nat -> Prop} {B : Nat} {w w' : World} {v : Value} {L : List PE} (h : RefU U w v L) (hb : Below B w w') (hB : w.heap.size <= B) : RefU U w' v L := h.step fun k _ _ hk => hb.block k (by omega)
theorem RefU.off {U : Nat -> Prop} {w w' : World} {v : Value} {L : List PE} {b : Nat} {cs : Array Value} {T : TypeId} {fr : Nat × Nat} (h : RefU U w v L) (hg : w.grownBy w' (some b)) (hb : w.heap[b]? = some (.cells cs T fr)) (h1 : T ≠ 131) (h2 : T ≠ 77) (h3 : T ≠ 3) : RefU U w' v L := h.step fun k _ hk hl => by
 refine hg.block k hl ?_; intro e
 injection e with e
 subst e; obtain ⟨cs', T', fr', e1, e2⟩ := hk; rw [hb] at e1
 injection e1 with e1
 injection e1 with _ e4 _
 subst e4
 rcases e2 with e2 | e2 | e2
 ·exact h1 e2
 ·exact h2 e2
 ·exact h3 e2
theorem RefU.form {U : Nat -> Prop} {w : World} {v : Value} {L : List PE} (h : RefU U w v L) : ∃ A c, v = .slice A L.length c := by
 obtain ⟨M, rfl, h⟩ := h; rw [yap]; exact h.1.form
theorem RefT.nil (w : World) : RefT w (.slice none 0 0) [] := ⟨[], rfl, RdF.nil _ _, fun m hm => by cases hm⟩
theorem RdN.at {U : Nat -> Prop} {w : World} {A : Option Addr} {n c : Nat} {M : List ME} (h : RdN U w (.slice A n c) M) {k : Nat} {m : ME} (hk : M[k]? = some m) :
  ∃ g o : Nat, A = some ⟨g, o, none⟩ /\ w.cell? ⟨g, o + k * 2, none⟩ = some m.vs /\ w.cell? ⟨g, o + k * 2 + 1, none⟩ = some m.vl /\ EntU U w m := by
 have hl := (List.getElem?_eq_some_iff.1 hk).1; obtain ⟨g, o, e, _, hx⟩ := RdF.base h.1 (by omega)
 obtain ⟨h1, h2⟩ := ycm hk; exact ⟨g, o, e, hx _ _ h1, by rw [Nat.add_assoc]; exact hx _ _ h2, h.2 m (List.mem_of_getElem? hk)⟩
theorem RefU.at {U : Nat -> Prop} {w : World} {A : Option Addr} {n c : Nat} {L : List PE} (h : RefU U w (.slice A n c) L) {k : Nat} {e : PE} (hk : L[k]? = some e) :
  ∃ (g o : Nat) (vs vl : Value), A = some ⟨g, o, none⟩ /\ w.cell? ⟨g, o + k * 2, none⟩ = some vs /\ w.cell? ⟨g, o + k * 2 + 1, none⟩ = some vl /\ RdI anyB w vs e.1 /\ RdQ anyB w vl e.2 := by
 obtain ⟨M, rfl, h⟩ := h; unfold pls at hk; rw [List.getElem?_map] at hk
 cases hm : M[k]? with
 | none => rw [hm] at hk; cases hk
 | some m =>
  rw [hm] at hk
  simp at hk
  subst hk; obtain ⟨g, o, e, h1, h2, h3⟩ := h.at hm; exact ⟨g, o, m.vs, m.vl, e, h1, h2, h3.ints, h3.els⟩
def SV.qs (l : List Nat) : SV := ⟨fun v w => RdQ anyB w v l, fun _ _ _ h hb => h.below hb (zN _)⟩
def SV.els (l : List Nat) : SV := ⟨fun v w => RdE anyB w v l, fun _ _ _ h hb => h.below hb (zN _)⟩
def SV.ref (L : List PE) : SV := ⟨fun v w => ∃ u, v = .agg #[u] /\ RefT w u L, fun _ _ _ ⟨u, e, h⟩ hb => ⟨u, e, h.below hb (zN _)⟩⟩
theorem yfu {w wr : World} (h : ∃ n, wr = w.drewN n) (k : Nat) : ∃ n, wr.drewN k = w.drewN n := by
 obtain ⟨n, rfl⟩ := h; exact ⟨n + k, by simp [World.drewN, Nat.add_assoc]⟩
theorem bef_hd {a b : List Int} (h : hd a ≠ hd b) : befB a b = decide (hd a < hd b) := by
 unfold befB ord lexC; rw [if_neg (fun e => h (yba.1 e))]
 simp only [yfe]
theorem yyx {a b : List Int} (h : hd a = hd b) (hl : a.length ≠ b.length) : befB a b = decide (a.length < b.length) := by
 unfold befB ord lexC; rw [if_pos (yba.2 h), if_neg (fun e => hl (by have := yba.1 e; omega))]
 simp only [yfe, Int.ofNat_lt]
theorem ywl {a b : List Int} (h : hd a = hd b) (hl : a.length = b.length) : befB a b = decide (cmpL a b < 0) := by
 unfold befB ord lexC; rw [if_pos (yba.2 h), if_pos (yba.2 (by omega))]
set_option maxHeartbeats 1000000 in
theorem yoz {F G : Nat -> Prop} {w : World} {u v : Value} {a b : List Int} (ha : RdI F w u a) (hb : RdI G w v b) (h1 : 1 <= a.length) (h2 : 1 <= b.length) (hl : a.length <= 1000000) (hl2 : b.length <= 1000000) {r : Bool} (hr : befB a b = r) :
  Calls Tryz.prog 78 #[u, v] w fun e w' => e = .returned (.bool r) /\ ∃ n, w' = w.drewN n := by
 obtain ⟨A, c, rfl⟩ := ha.form; obtain ⟨A', c', rfl⟩ := hb.form; obtain ⟨x, hx⟩ : ∃ x, hd a = x := ⟨_, rfl⟩; obtain ⟨y, hy⟩ : ∃ y, hd b = y := ⟨_, rfl⟩; obtain ⟨g1, o1, rfl, c0⟩ := ha.at (hd_at h1); obtain ⟨g2, o2, rfl, d0⟩ := hb.at (hd_at h2); rw [hx] at c0; rw [hy] at d0; simp only [Nat.add_zero] at c0 d0; have HA := zH ha; have HB := zH hb
 have h1I : (0 : Int) < (a.length : Int) := by omega
 have h2I : (0 : Int) < (b.length : Int) := by omega
 have hlI : (a.length : Int) <= 1000000 := by omega
 have hlI2 : (b.length : Int) <= 1000000 := by omega
 by_cases exy : x = y
 ·subst exy
  by_cases elen : a.length = b.length
  ·have hbt := ywl (hx.trans hy.symm) elen; rw [hr] at hbt
   have hs0 : cmpL (a.drop 1) (b.drop 1) = cmpL a b := by
    have h3 := yhe (hd_at h1) (hd_at h2); rw [hx, hy, if_pos (ycp _), List.drop_zero, List.drop_zero] at h3; exact h3.symm
   obtain ⟨q, hq⟩ : ∃ q, cmpL a b = q := ⟨_, rfl⟩; rw [hq] at hs0 hbt; have HS0 := zH hs0; have HR := zH hbt; have HLN := zH elen
   have hne : ((a.length : Int) != (b.length : Int)) = false := by rw [bne_eq_false_iff_eq]; omega
   clear ha hb hr hbt hs0 hx hy elen hq
   go_enter Tryz.func78, Tryz.ntmps78
   go_wp2
   go_quiet (fail)
   go_wp2
   clear c0 d0; generalize hw1 : w.drewN _ = w1
   have HW1 : Hid (∃ n, w1 = w.drewN n) := ⟨_, hw1.symm⟩
   clear hw1
   go_loopw [5] (fun i wr => ∃ k : Nat, 1 <= k /\ k <= a.length /\ i = .int .i64 (k : Nat) /\ Hid (cmpL (a.drop k) (b.drop k) = q) /\ Hid (∃ n, wr = w.drewN n)) (fun i _ => a.length - (intOf i).toNat)
   case atStart => exact ⟨1, zN _, by omega, rfl, HS0.out, HW1.out⟩
   case round =>
    obtain ⟨k, hk1, hk, rfl, HK, HN⟩ := hrel
    by_cases hlt : k < a.length
    ·obtain ⟨x, hx⟩ : ∃ x, a[k]? = some x := ⟨_, List.getElem?_eq_getElem hlt⟩; obtain ⟨y, hy⟩ : ∃ y, b[k]? = some y := ⟨_, List.getElem?_eq_getElem (by have := HLN.out; omega)⟩
     have hbl : Below w.heap.size w wr := by obtain ⟨n, e⟩ := HN.out; rw [e]; exact yab w n
     obtain ⟨g3, o3, e3, c0⟩ := (HA.out.below hbl (zN _)).at hx; obtain ⟨g4, o4, e4, d0⟩ := (HB.out.below hbl (zN _)).at hy
     cases e3
     cases e4
     have hkI : (k : Int) < (a.length : Int) := by omega
     have hkJ : (k : Int) < (b.length : Int) := by have := HLN.out; omega
     have hcd := yhe hx hy; rw [HK.out] at hcd
     by_cases exy : x = y
     ·subst exy; rw [if_pos (ycp _)] at hcd; have HD := zH hcd.symm; clear hcd hx hy hbl hlt
      go_wp2
      go_quiet (fail)
      go_wp2
      go_roundw
      case rel => exact ⟨k + 1, by omega, by omega, by go_num, HD.out, yfu HN.out _⟩
      case measure => simp [intOf]; omega
     ·rw [if_neg (fun e => exy (yba.1 e))] at hcd
      have hne2 : (x != y) = true := by rw [bne_iff_ne]; exact exy
      have hrr : r = decide (x < y) := by rw [HR.out, hcd]; simp only [yfe]
      have HRR := zH hrr; clear hcd hx hy hbl hlt hrr
      go_wp2
      go_quiet (fail)
      go_wp2
      go_quiet (fail)
      go_wp2
      go_ret
      exact ⟨by rw [HRR.out]; rfl, yfu (yfu HN.out _) _⟩
    ·obtain rfl : k = a.length := by omega
     have hrr : r = false := by
      rw [HR.out, <- HK.out, List.drop_length, List.drop_eq_nil_of_le (by have := HLN.out; omega)]; rfl
     subst hrr; clear hlt
     go_wp2
     go_ret
     exact ⟨rfl, HN.out⟩
  ·have hbt := yyx (hx.trans hy.symm) elen; rw [hr] at hbt; have HR := zH hbt
   have hne : ((a.length : Int) != (b.length : Int)) = true := by rw [bne_iff_ne]; omega
   clear ha hb hr hbt hx hy elen
   go_enter Tryz.func78, Tryz.ntmps78
   go_wp2
   go_quiet (fail)
   go_wp2
   go_ret
   exact ⟨by rw [HR.out]; rfl, _, rfl⟩
 ·have hbt := bef_hd (a := a) (b := b) (by rw [hx, hy]; exact exy)
  rw [hr, hx, hy] at hbt; have HR := zH hbt
  have hne : (x != y) = true := by rw [bne_iff_ne]; exact exy
  clear ha hb hr hbt hx hy
  go_enter Tryz.func78, Tryz.ntmps78
  go_wp2
  go_quiet (fail)
  go_wp2
  go_quiet (fail)
  go_wp2
  go_ret
  exact ⟨by rw [HR.out]; rfl, yfu ⟨_, rfl⟩ _⟩
theorem ylf {p s t : Nat} {P S T : Int} {V : Bool} (hp : p < 65536) (hs : s < 256) (ht : t < 128) (hq : q4 (E3.mk p s t 0) = [.int .i64 P, .int .i64 S, .int .i64 T, .bool V]) : P = (p : Int) /\ S = (s : Int) /\ T = (t : Int) /\ V = false := by
 rw [q4_mk hp hs ht] at hq; simp only [List.cons.injEq, Value.int.injEq, Value.bool.injEq, true_and, and_true] at hq; exact ⟨hq.1.symm, hq.2.1.symm, hq.2.2.1.symm, hq.2.2.2.symm⟩
theorem ybg {c : Nat} {x : Int} (h : 65 <= c /\ c <= 90 \/ 97 <= c /\ c <= 122) (hx : (c : Int) = x) {P S T : Int} {V : Bool} (hq : q4 (letW c) = [.int .i64 P, .int .i64 S, .int .i64 T, .bool V]) (w : World) :
  Calls Tryz.prog 43 #[.int .i64 x] w fun e w' => e = .returned (.agg #[.int .i64 P, .int .i64 S, .int .i64 T, .bool V]) /\ Below w.heap.size w w' := by
 subst hx
 rcases h with h | h
 ·have e1 : letW c = E3.mk (256 + 8 * (c - 65)) 32 8 0 := by unfold letW; rw [if_pos (by omega)]
  rw [e1] at hq; obtain ⟨hP, rfl, rfl, rfl⟩ := ylf (by omega) (by omega) (by omega) hq
  have hP2 : P = 256 + 8 * ((c : Int) - 65) := by omega
  subst hP2
  have r1 : ¬ (97 : Int) <= (c : Int) := by omega
  have r2 : (0 : Int) <= (c : Int) - 65 := by omega
  have r3 : (c : Int) <= 90 := by omega
  clear hq e1 h hP
  go_enter Tryz.func43, Tryz.ntmps43
  go_wp2
  exact bodyPost_ret (v := .agg #[.int .i64 (256 + 8 * ((c : Int) - 65)), .int .i64 32, .int .i64 8, .bool false]) (by simp [results, Tryz.results43, go_sem]) rfl ⟨rfl, (zR _ _).alloc (zN _) _⟩
 ·have e1 : letW c = E3.mk (256 + 8 * (c - 97)) 32 2 0 := by unfold letW; rw [if_neg (by omega)]
  rw [e1] at hq; obtain ⟨hP, rfl, rfl, rfl⟩ := ylf (by omega) (by omega) (by omega) hq
  have hP2 : P = 256 + 8 * ((c : Int) - 97) := by omega
  subst hP2
  have r1 : (97 : Int) <= (c : Int) := by omega
  have r2 : (0 : Int) <= (c : Int) - 97 := by omega
  have r3 : (c : Int) <= 122 := by omega
  clear hq e1 h hP
  go_enter Tryz.func43, Tryz.ntmps43
  go_wp2
  exact bodyPost_ret (v := .agg #[.int .i64 (256 + 8 * ((c : Int) - 97)), .int .i64 32, .int .i64 2, .bool false]) (by simp [results, Tryz.results43, go_sem]) rfl ⟨rfl, (zR _ _).alloc (zN _) _⟩
theorem yjm {c : Int} (h : c ∈ mkC) {P S T : Int} {V : Bool} (hq : q4 (mkW c) = [.int .i64 P, .int .i64 S, .int .i64 T, .bool V]) (w : World) :
  Calls Tryz.prog 44 #[.int .i64 c] w fun e w' => e = .returned (.agg #[.int .i64 P, .int .i64 S, .int .i64 T, .bool V]) /\ Below w.heap.size w w' := by
 have hS : mkS c < 256 := by unfold mkS; repeat' split
                             all_goals omega
 obtain ⟨rfl, hS2, rfl, rfl⟩ := ylf (by omega) hS (by omega) hq
 subst hS2; simp only [mkC, List.mem_cons, List.not_mem_nil, or_false] at h; clear hq hS
 rcases h with rfl | rfl | rfl | rfl | rfl | rfl | rfl | rfl
 all_goals
  go_enter Tryz.func44, Tryz.ntmps44
  go_wp2
  refine bodyPost_ret (v := .agg #[.int .i64 0, .int .i64 _, .int .i64 2, .bool false]) (by simp [results, Tryz.results44, go_sem]; rfl) rfl ⟨rfl, (zR _ _).alloc (zN _) _⟩
theorem appendG {T e : TypeId} {i : TypeInfo} {z : Value} {size bytes : Nat} (hT : Tryz.prog.underlying T = some (.slice e)) (hi : Tryz.prog.info? e = some i) (hz0 : i.zero = some z) (hz1 : i.size = size) (hz2 : i.bytes = bytes) (hzs : z.cells.size = size) (h0 : 0 < size) (hby : bytes <= 1000)
  {ops : Array Oper} {rest : List Oper} {o : Oper} {a : Act} {Q : Exit -> Act -> World -> Prop} (hgd : o.guard = none) (s x : Operand) (ho : o.op = .call { callee := .builtin .append, args := #[s, x], argTypes := #[T, T] })
  (w : World) (B : Nat) (v : Value) (n : Nat) (xs : List Value) {A : Option Addr} {m C : Nat} {ys : List Value} {F : Nat -> Prop} (hs : a.eval s = v) (hown : w.ownsRow B e size v n xs) (hx : a.eval x = .slice A m C)
  (hsrc : RdF F w (.slice A m C) m ys) (hys : ys.length = m * size) (hone : ∀ u ∈ ys, u.oneCell' = true) (hB : B <= w.heap.size) (hl : n + m <= 1000000)
  (h : ∀ v' w', w'.ownsRow B e size v' (n + m) (xs ++ ys) -> w.grownBy w' v.ownBlock -> Below B w w' -> wpList Tryz.prog ops Q rest (a.put o.dst v') w') : wpList Tryz.prog ops Q (o :: rest) a w := by
 cases A with
 | none =>
  have hm : m = 0 := by
   rcases Nat.eq_zero_or_pos m with h0 | h0
   ·exact h0
   ·obtain ⟨g, o, e, _⟩ := RdF.base hsrc h0
    cases e
  subst hm; obtain rfl : ys = [] := List.eq_nil_of_length_eq_zero (by omega)
  refine wpList_plain hgd fun K hK => ?_
  have hrun := ycz (w := w) B T o.type e i size C hT hi v n xs hown; unfold Oper.wp
  simp [execOp, ho, resolve, invoke, builtin, hs, hx, hrun, Result.andThen]
  exact hK _ _ (h v w (by rw [List.append_nil]; exact hown) (World.grownBy.refl _ _) (zR _ _))
 | some ad =>
  refine wpList_append_own_at _ hgd s x _ ho B e i z size bytes hT hi hz0 hz1 hz2 hzs h0 v n xs hs hown ad m C ys hx hys
   ?_ hone (by simp only [maxLen]; omega) (Nat.le_trans (Nat.mul_le_mul hl hby) (by omega)) hB ?_
  ·intro j u hu
   have h0' : 0 < m := by
    have := (List.getElem?_eq_some_iff.1 hu).1
    rcases Nat.eq_zero_or_pos m with h1 | h1
    ·subst h1; omega
    ·exact h1
   obtain ⟨g, o, e, _, hc⟩ := RdF.base hsrc h0'
   cases e
   rw [Addr.add_lit]; exact hc j u hu
  ·intro v' w' h2 h3 _ _; exact h v' w' h2 h3 ((zR B w).grown h3 hB (fun k hk => (World.ownsRow.lt hown k hk).1))
theorem RdF.new (w : World) (ys : List Value) (T : TypeId) {n C : Nat} (hn : n <= C) : RdF anyB (w.alloc (.cells ys.toArray T)) (.slice (some ⟨w.heap.size, 0, none⟩) n C) n ys :=
 ⟨_, C, rfl, hn, fun _ => ⟨w.heap.size, 0, rfl, trivial, fun j u hu => by have := R4.yau w ys T j u hu; rw [Addr.add_lit] at this; exact this⟩⟩
theorem ylb : (Tryz.prog.info? 131).map (fun i => (i.zero, i.size, i.bytes)) = some (some (.agg #[.slice none 0 0, .slice none 0 0]), 2, 48) := by kernel_rfl
theorem ynw : (Tryz.prog.info? 77).map (fun i => (i.zero, i.size, i.bytes)) = some (some (.agg #[.int .i64 0, .int .i64 0, .int .i64 0, .bool false]), 4, 32) := by kernel_rfl
def OwnN (B : Nat) (w : World) (v : Value) (M : List ME) : Prop := w.ownsRow B 131 2 v M.length (mcells M)
theorem OwnN.below {B B' : Nat} {w w' : World} {v : Value} {M : List ME} (h : OwnN B w v M) (hb : Below B' w w') (hB : w.heap.size <= B') : OwnN B w' v M := R4.yas h hb hB
theorem OwnN.form {B : Nat} {w : World} {v : Value} {M : List ME} (h : OwnN B w v M) : ∃ A c, v = .slice A M.length c := by
 obtain ⟨A, c, e, _⟩ := R4.yah h; exact ⟨A, c, e⟩
theorem appendN {ops : Array Oper} {rest : List Oper} {o : Oper} {a : Act} {Q : Exit -> Act -> World -> Prop} (hgd : o.guard = none) (s x : Operand)
  (ho : o.op = .call { callee := .builtin .append, args := #[s, x], argTypes := #[38, 38] })
  (w : World) (B : Nat) (v : Value) (M N : List ME) {A : Option Addr} {C : Nat} {F : Nat -> Prop} (hs : a.eval s = v) (hown : OwnN B w v M) (hx : a.eval x = .slice A N.length C) (hsrc : RdF F w (.slice A N.length C) N.length (mcells N)) (hone : ∀ u ∈ mcells N, u.oneCell' = true) (hB : B <= w.heap.size) (hl : M.length + N.length <= 1000000)
  (h : ∀ v' w', OwnN B w' v' (M ++ N) -> w.grownBy w' v.ownBlock -> Below B w w' -> wpList Tryz.prog ops Q rest (a.put o.dst v') w') : wpList Tryz.prog ops Q (o :: rest) a w := by
 obtain ⟨i0, hi0, hz0, hz1, hz2⟩ := info_parts ylb; refine appendG Tryz.underlying38 hi0 hz0 hz1 hz2 rfl (by omega) (by omega) hgd s x ho w B v M.length (mcells M) hs hown hx hsrc (by rw [yax]) hone hB hl fun v' w' h1 h2 h3 => h v' w' ?_ h2 h3
 unfold OwnN; rw [ybl, List.length_append]; exact h1
theorem appendQ {ops : Array Oper} {rest : List Oper} {o : Oper} {a : Act} {Q : Exit -> Act -> World -> Prop} (hgd : o.guard = none) (s x : Operand)
  (ho : o.op = .call { callee := .builtin .append, args := #[s, x], argTypes := #[74, 74] })
  (w : World) (B : Nat) (v : Value) (l m : List Nat) {A : Option Addr} {C : Nat} {F : Nat -> Prop} (hs : a.eval s = v) (hown : OwnQ B w v l) (hx : a.eval x = .slice A m.length C) (hsrc : RdQ F w (.slice A m.length C) m) (hB : B <= w.heap.size) (hl : l.length + m.length <= 1000000)
  (h : ∀ v' w', OwnQ B w' v' (l ++ m) -> w.grownBy w' v.ownBlock -> Below B w w' -> wpList Tryz.prog ops Q rest (a.put o.dst v') w') : wpList Tryz.prog ops Q (o :: rest) a w := by
 obtain ⟨i0, hi0, hz0, hz1, hz2⟩ := info_parts ynw; refine appendG Tryz.underlying74 hi0 hz0 hz1 hz2 rfl (by omega) (by omega) hgd s x ho w B v l.length (qcells l) hs hown hx hsrc (yck m) (yoc m) hB hl fun v' w' h1 h2 h3 => h v' w' ?_ h2 h3
 unfold OwnQ; rw [yht, List.length_append]; exact h1
theorem appendI {ops : Array Oper} {rest : List Oper} {o : Oper} {a : Act} {Q : Exit -> Act -> World -> Prop} (hgd : o.guard = none) (s x : Operand)
  (ho : o.op = .call { callee := .builtin .append, args := #[s, x], argTypes := #[29, 29] })
  (w : World) (B : Nat) (v : Value) (l m : List Int) {A : Option Addr} {C : Nat} {F : Nat -> Prop} (hs : a.eval s = v) (hown : T2.OwnI B w v l) (hx : a.eval x = .slice A m.length C) (hsrc : RdI F w (.slice A m.length C) m) (hB : B <= w.heap.size) (hl : l.length + m.length <= 1000000)
  (h : ∀ v' w', T2.OwnI B w' v' (l ++ m) -> w.grownBy w' v.ownBlock -> Below B w w' -> wpList Tryz.prog ops Q rest (a.put o.dst v') w') : wpList Tryz.prog ops Q (o :: rest) a w := by
 obtain ⟨i0, hi0, hz0, hz1, hz2⟩ := info_parts yfq; refine appendG Tryz.underlying29 hi0 hz0 hz1 hz2 rfl (by omega) (by omega) hgd s x ho w B v l.length (iv l) hs hown hx hsrc (by rw [iv_len]; omega) (fun u hu => by obtain ⟨k, _, rfl⟩ := List.mem_map.1 hu; rfl) hB hl fun v' w' h1 h2 h3 => h v' w' ?_ h2 h3
 unfold T2.OwnI; rw [show T2.iv (l ++ m) = T2.iv l ++ T2.iv m from by simp [T2.iv], List.length_append]; exact h1
end Go.Proofs.YteibnfeokgibmaaGreat
