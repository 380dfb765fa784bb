/-
  PACKED for a claim.
-/
import Derived.Test.YteibnfeokgibmaaGreatS17
import Derived.Test.YteibnfeokgibmaaGreatS22
set_option linter.unusedVariables false
set_option linter.unusedSimpArgs false
set_option maxRecDepth 100000
namespace Go.Proofs.YteibnfeokgibmaaGreat
open Go.RowKit
theorem yjc (x y : Int) (w : World) : Calls Tryz.prog 76 #[.int .i64 x, .int .i64 y] w fun e w' => e = .returned (.int .i64 (cmpI x y)) /\ w = w' := R4.yjc x y w
theorem cmp_is {x y r : Int} (h : cmpI x y = r) (w : World) : Calls Tryz.prog 76 #[.int .i64 x, .int .i64 y] w fun e w' => e = .returned (.int .i64 r) /\ w = w' := by
 rw [<- h]; exact yjc x y w
theorem or_any {g : Nat} {x y z : Int} {w : World} (h0 : w.cell? ⟨g, 0, none⟩ = some (.int .i64 x)) (h1 : w.cell? ⟨g, 1, none⟩ = some (.int .i64 y)) (h2 : w.cell? ⟨g, 2, none⟩ = some (.int .i64 z)) :
  Calls Tryz.prog 46 #[.slice (some ⟨g, 0, none⟩) 3 3] w fun e w' => e = .returned (.int .i64 (lexC x (lexC y z))) /\ w = w' := by
 unfold lexC
 by_cases ex : x = 0
 ·rw [if_pos ex]
  have ex' : (x == 0) = true := by simpa using ex
  by_cases ey : y = 0
  ·rw [if_pos ey]
   have ey' : (y == 0) = true := by simpa using ey
   by_cases ez : z = 0
   ·subst ex ey ez
    go_enter Tryz.func46, Tryz.ntmps46
    go_wp2
    refine wp_loop_rounds 4 ?_; rw [rounds_succ]
    go_wp2
    rw [rounds_succ]
    go_wp2
    rw [rounds_succ]
    go_wp2
    rw [rounds_succ]
    go_wp2
    go_ret
    exact ⟨rfl, rfl⟩
   ·subst ex ey
    have ez' : (z == 0) = false := by simpa using ez
    clear ez
    go_enter Tryz.func46, Tryz.ntmps46
    go_wp2
    refine wp_loop_rounds 4 ?_; rw [rounds_succ]
    go_wp2
    rw [rounds_succ]
    go_wp2
    rw [rounds_succ]
    go_wp2
    go_ret
    exact ⟨rfl, rfl⟩
  ·rw [if_neg ey]; subst ex
   have ey' : (y == 0) = false := by simpa using ey
   clear ey
   go_enter Tryz.func46, Tryz.ntmps46
   go_wp2
   refine wp_loop_rounds 4 ?_; rw [rounds_succ]
   go_wp2
   rw [rounds_succ]
   go_wp2
   go_ret
   exact ⟨rfl, rfl⟩
 ·rw [if_neg ex]
  have ex' : (x == 0) = false := by simpa using ex
  clear ex
  go_enter Tryz.func46, Tryz.ntmps46
  go_wp2
  refine wp_loop_rounds 4 ?_; rw [rounds_succ]
  go_wp2
  go_ret
  exact ⟨rfl, rfl⟩
theorem yhe {a b : List Int} {k : Nat} {x y : Int} (hx : a[k]? = some x) (hy : b[k]? = some y) : cmpL (a.drop k) (b.drop k) = if cmpI x y = 0 then cmpL (a.drop (k + 1)) (b.drop (k + 1)) else cmpI x y := by
 obtain ⟨h1, h2⟩ := List.getElem?_eq_some_iff.1 hx; obtain ⟨h3, h4⟩ := List.getElem?_eq_some_iff.1 hy; rw [List.drop_eq_getElem_cons h1, List.drop_eq_getElem_cons h3, cmpL, h2, h4]
theorem ylr {F G : Nat -> Prop} {w : World} {u v : Value} {a b : List Int} (ha : RdI F w u a) (hb : RdI G w v b) (hl : a.length <= 1000000) (hl2 : b.length <= 1000000) :
  Calls Tryz.prog 49 #[u, v] w fun e w' => e = .returned (.int .i64 (cmpL a b)) /\ w = w' := by
 obtain ⟨A, c, rfl⟩ := ha.form; obtain ⟨A', c', rfl⟩ := hb.form; obtain ⟨r, hr⟩ : ∃ r, cmpL a b = r := ⟨_, rfl⟩; have HR := zH hr; have HA := zH ha; have HB := zH hb
 have hla : (a.length : Int) <= 1000000 := by omega
 have hlb : (b.length : Int) <= 1000000 := by omega
 rw [hr]; clear ha hb hr
 go_enter Tryz.func49, Tryz.ntmps49
 go_wp2
 go_loop [11] (fun i => ∃ k : Nat, k <= a.length /\ k <= b.length /\ i = .int .i64 (k : Nat) /\ Hid (cmpL (a.drop k) (b.drop k) = r)) (fun i => a.length - (intOf i).toNat)
 case atStart => exact ⟨0, Nat.zero_le _, Nat.zero_le _, rfl, HR.out⟩
 case round =>
  obtain ⟨k, hk, hk2, rfl, HK⟩ := hrel
  by_cases hlt : k < a.length
  ·obtain ⟨x, hx⟩ : ∃ x, a[k]? = some x := ⟨_, List.getElem?_eq_getElem hlt⟩; obtain ⟨g, o, rfl, c0⟩ := HA.out.at hx
   have hkI : (k : Int) < (a.length : Int) := by omega
   by_cases hlt2 : k < b.length
   ·obtain ⟨y, hy⟩ : ∃ y, b[k]? = some y := ⟨_, List.getElem?_eq_getElem hlt2⟩; obtain ⟨g', o', rfl, c1⟩ := HB.out.at hy
    have hkJ : (k : Int) < (b.length : Int) := by omega
    have hd := yhe hx hy; rw [HK.out] at hd; obtain ⟨q, hq⟩ : ∃ q, cmpI x y = q := ⟨_, rfl⟩; have HC := zH (fun w => cmp_is hq w)
    rw [hq] at hd
    by_cases hz : q = 0
    ·rw [if_pos hz] at hd; have HD := zH hd.symm; subst hz; clear hd hq hx hy hlt hlt2
     go_wp2_with (go_at_call 76; refine (HC.out _).mono ?_; rintro e w' ⟨rfl, rfl⟩)
     go_round
     case rel => exact ⟨k + 1, by omega, by omega, by go_num, HD.out⟩
     case measure => simp [intOf]; omega
    ·rw [if_neg hz] at hd
     have hz' : (q == 0) = false := by simpa using hz
     subst hd; clear hq hx hy hlt hlt2 hz
     go_wp2_with (go_at_call 76; refine (HC.out _).mono ?_; rintro e w' ⟨rfl, rfl⟩)
     go_ret
     exact ⟨rfl, rfl⟩
   ·obtain rfl : k = b.length := by omega
    have he : r = 1 := by
     rw [<- HK.out, List.drop_length, List.drop_eq_getElem_cons (by omega)]; rfl
    subst he; clear hx hlt2 hlt hk hk2
    go_wp2
    go_ret
    exact ⟨rfl, rfl⟩
  ·have hka : k = a.length := by omega
   subst hka
   by_cases hlt2 : a.length < b.length
   ·have he : r = -1 := by
     rw [<- HK.out, List.drop_length, List.drop_eq_getElem_cons hlt2]; rfl
    subst he
    have hd : (a.length : Int) < (b.length : Int) := by omega
    clear hlt hlt2
    go_wp2
    go_ret
    exact ⟨rfl, rfl⟩
   ·have he : r = 0 := by
     rw [<- HK.out, List.drop_length, List.drop_eq_nil_of_le (by omega)]; rfl
    subst he
    have hd : ¬ (a.length : Int) < (b.length : Int) := by omega
    clear hlt hlt2
    go_wp2
    go_ret
    exact ⟨rfl, rfl⟩
theorem hd_at {a : List Int} (h : 1 <= a.length) : a[0]? = some (hd a) := by
 cases a with
 | nil => simp at h
 | cons x t => rfl
open Go.Shelf Go.Sort
def Gr (w w' : World) : Prop := ∃ q os', w' = grow (w.drewN q) os'
theorem Gr.refl (w : World) : Gr w w := ⟨0, #[], by simp [grow, World.drewN]⟩
theorem Gr.alloc {w a : World} (h : Gr w a) (o : Obj) : Gr w (a.alloc o) := by
 obtain ⟨q, os', rfl⟩ := h; exact ⟨q, _, by rw [alloc_eq_grow, grow_grow]⟩
theorem Gr.drew {w a : World} (h : Gr w a) : Gr w a.drew := by
 obtain ⟨q, os', rfl⟩ := h; exact ⟨q + 1, os', rfl⟩
theorem Gr.block {w a : World} (h : Gr w a) {k : Nat} (hk : k < w.heap.size) : a.heap[k]? = w.heap[k]? := by
 obtain ⟨q, os', rfl⟩ := h
 show (w.heap ++ os')[k]? = _
 rw [Array.getElem?_append_left hk]
theorem Gr.below {w a : World} (h : Gr w a) : Below w.heap.size w a := by
 obtain ⟨q, os', rfl⟩ := h; refine ⟨rfl, rfl, rfl, ?_, fun k hk => ?_⟩
 ·show _ <= (w.heap ++ os').size
  simp
 ·show (w.heap ++ os')[k]? = _
  rw [Array.getElem?_append_left hk]
def InS (w : World) (v1 l1 v2 l2 : Value) (g1 o1 g2 o2 : Nat) (x y : Int) (w' : World) : Prop :=
 w'.cell? ⟨w.heap.size, 0, none⟩ = some v1 /\ w'.cell? ⟨w.heap.size + 1, 0, none⟩ = some v2 /\ w'.cell? ⟨g1, o1, none⟩ = some (.int .i64 x) /\ w'.cell? ⟨g2, o2, none⟩ = some (.int .i64 y) /\ Gr w w'
theorem InS.start {w : World} {v1 l1 v2 l2 : Value} {g1 o1 g2 o2 : Nat} {x y : Int} {T : TypeId} (h1 : w.cell? ⟨g1, o1, none⟩ = some (.int .i64 x)) (h2 : w.cell? ⟨g2, o2, none⟩ = some (.int .i64 y)) :
  InS w v1 l1 v2 l2 g1 o1 g2 o2 x y (((w.alloc (.cells #[v1, l1] T)).alloc (.cells #[v2, l2] T)).drew) := by
 have hg : Gr w (((w.alloc (.cells #[v1, l1] T)).alloc (.cells #[v2, l2] T)).drew) := (((Gr.refl w).alloc _).alloc _).drew
 refine ⟨?_, ?_, ?_, ?_, hg⟩
 ·show ((w.alloc (.cells #[v1, l1] T)).alloc (.cells #[v2, l2] T)).cell? _ = _
  rw [World.cell?_of_block (w := w.alloc (.cells #[v1, l1] T)) (Below.heap_alloc _ _ _ (by simp)), World.cell?_alloc_mark]; rfl
 ·show ((w.alloc (.cells #[v1, l1] T)).alloc (.cells #[v2, l2] T)).cell? _ = _
  have e : (w.alloc (.cells #[v1, l1] T)).heap.size = w.heap.size + 1 := by simp
  rw [<- e, World.cell?_alloc_mark]; rfl
 ·exact (hg.below.cell (p := ⟨g1, o1, none⟩) (yaq h1)).trans h1
 ·exact (hg.below.cell (p := ⟨g2, o2, none⟩) (yaq h2)).trans h2
theorem InS.alloc {w : World} {v1 l1 v2 l2 : Value} {g1 o1 g2 o2 : Nat} {x y : Int} {w' : World} (h : InS w v1 l1 v2 l2 g1 o1 g2 o2 x y w') (o : Obj) : InS w v1 l1 v2 l2 g1 o1 g2 o2 x y (w'.alloc o) := by
 have k : ∀ {p : Addr} {u : Value}, w'.cell? p = some u -> (w'.alloc o).cell? p = some u := fun {p u} hp => by
  rw [World.cell?_of_block (w := w') (Below.heap_alloc _ _ _ (yaq hp))]; exact hp
 exact ⟨k h.1, k h.2.1, k h.2.2.1, k h.2.2.2.1, h.2.2.2.2.alloc o⟩
theorem InS.alloc' {w : World} {v1 l1 v2 l2 : Value} {g1 o1 g2 o2 : Nat} {x y : Int} {X : World} (h : InS w v1 l1 v2 l2 g1 o1 g2 o2 x y X.drew) (o : Obj) : InS w v1 l1 v2 l2 g1 o1 g2 o2 x y (X.alloc o).drew := h.alloc o
theorem InS.gr {w w' : World} {v1 v2 x y : Value} {a b c d : Addr} (h : w'.cell? a = some v1 /\ w'.cell? b = some v2 /\ w'.cell? c = some x /\ w'.cell? d = some y /\ Gr w w') : Gr w w' := h.2.2.2.2
theorem or_new (x y z : Int) (W : World) {b : Nat} (hb : W.heap.size = b) {T : TypeId} : Calls Tryz.prog 46 #[.slice (some ⟨b, 0, none⟩) 3 3] (W.alloc (.cells #[.int .i64 x, .int .i64 y, .int .i64 z] T)).drew fun e w' => e = .returned (.int .i64 (lexC x (lexC y z))) /\ (W.alloc (.cells #[.int .i64 x, .int .i64 y, .int .i64 z] T)).drew = w' := by
 subst hb
 have h : ∀ j, (W.alloc (.cells #[.int .i64 x, .int .i64 y, .int .i64 z] T)).drew.cell? ⟨W.heap.size, j, none⟩ = #[Value.int .i64 x, .int .i64 y, .int .i64 z][j]? := fun j => World.cell?_alloc_mark W _ _ _ j
 exact or_any (h 0) (h 1) (h 2)
set_option maxHeartbeats 1000000 in
theorem yqw {F : Nat -> Prop} {w : World} {x y : ME} (hx : EntOk F w x) (hy : EntOk F w y) (h1 : 1 <= x.s.length) (h2 : 1 <= y.s.length) (h3 : x.s.length <= 1000000) (h4 : y.s.length <= 1000000) :
  Calls Tryz.prog 40 #[.agg #[x.vs, x.vl], .agg #[y.vs, y.vl]] w fun e w' => e = .returned (.int .i64 (ord x.s y.s)) /\ Gr w w' := by
 obtain ⟨a1, n1, e1⟩ := hx.1.form; obtain ⟨a2, n2, e2⟩ := hy.1.form; obtain ⟨b1, m1, e3⟩ := hx.2.form; obtain ⟨b2, m2, e4⟩ := hy.2.form; have hx1 := hx.1; have hy1 := hy.1; rw [e1] at hx1 |-; rw [e2] at hy1 |-; rw [e3, e4]; obtain ⟨g1, o1, rfl, c1⟩ := hx1.at (hd_at h1); obtain ⟨g2, o2, rfl, c2⟩ := hy1.at (hd_at h2); unfold ord; obtain ⟨p, hp⟩ : ∃ p, cmpI (hd x.s) (hd y.s) = p := ⟨_, rfl⟩; obtain ⟨q, hq⟩ : ∃ q, cmpI (x.s.length : Int) (y.s.length : Int) = q := ⟨_, rfl⟩; obtain ⟨r, hr⟩ : ∃ r, cmpL x.s y.s = r := ⟨_, rfl⟩; have HP := zH (fun w => cmp_is hp w)
 have HQ := zH (fun w => cmp_is hq w)
 have HC : Hid (∀ W, Gr w W -> Calls Tryz.prog 49 #[.slice (some ⟨g1, o1, none⟩) x.s.length n1, .slice (some ⟨g2, o2, none⟩) y.s.length n2] W fun e w' => e = .returned (.int .i64 r) /\ W = w') := fun W hb => by
  rw [<- hr]; exact ylr (hx1.below hb.below (zN _)) (hy1.below hb.below (zN _)) h3 h4
 rw [hp, hq, hr]
 have k1 : (0 : Int) < (x.s.length : Int) := by omega
 have k2 : (0 : Int) < (y.s.length : Int) := by omega
 simp only [Nat.add_zero] at c1 c2; have HS := zH (InS.start (v1 := .slice (some ⟨g1, o1, none⟩) x.s.length n1) (l1 := .slice b1 x.l.length m1) (v2 := .slice (some ⟨g2, o2, none⟩) y.s.length n2) (l2 := .slice b2 y.l.length m2) (T := 88) c1 c2); obtain ⟨X, hX⟩ : ∃ X, hd x.s = X := ⟨_, rfl⟩; obtain ⟨Y, hY⟩ : ∃ Y, hd y.s = Y := ⟨_, rfl⟩; rw [hX] at HP HS; rw [hY] at HP HS; obtain ⟨n, hn⟩ : ∃ n, x.s.length = n := ⟨_, rfl⟩; obtain ⟨m, hm⟩ : ∃ m, y.s.length = m := ⟨_, rfl⟩; rw [hn] at HQ HC HS k1 |-; rw [hm] at HQ HC HS k2 |-
 have k3 : 0 < n := by omega
 have k4 : 0 < m := by omega
 clear hx hy hx1 hy1 e1 e2 e3 e4 hp hq hr h1 h2 c1 c2 hX hY h3 h4 hn hm
 go_enter Tryz.func40, Tryz.ntmps40
 go_wp2
 go_region_held3 (fun w' => w'.cell? ⟨w.heap.size, 0, none⟩ = some (.slice (some ⟨g1, o1, none⟩) n n1) /\ w'.cell? ⟨w.heap.size + 1, 0, none⟩ = some (.slice (some ⟨g2, o2, none⟩) m n2) /\ w'.cell? ⟨g1, o1, none⟩ = some (.int .i64 X) /\ w'.cell? ⟨g2, o2, none⟩ = some (.int .i64 Y) /\ Gr w w')
  (first
   | exact HS.out
   | assumption
   | (refine InS.alloc' (l1 := .slice b1 x.l.length m1) (l2 := .slice b2 y.l.length m2) HS.out _))
  (first
   | (go_at_call 76; (with_reducible refine (HP.out _).mono ?_); rintro e w' ⟨rfl, rfl⟩)
   | (go_at_call 76; (with_reducible refine (HQ.out _).mono ?_); rintro e w' ⟨rfl, rfl⟩)
   | (go_at_call 49; refine (HC.out _ (InS.gr (by assumption))).mono ?_; rintro e w' ⟨rfl, rfl⟩)
   | (go_at_call 46; refine (or_new p q r _ (by simp)).mono ?_; rintro e w' ⟨rfl, rfl⟩))
 go_wp2
 go_ret
 rename_i hH
 exact ⟨rfl, hH.2.2.2.2⟩
end Go.Proofs.YteibnfeokgibmaaGreat
