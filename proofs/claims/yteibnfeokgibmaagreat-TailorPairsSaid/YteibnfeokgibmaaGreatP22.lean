/-
  PACKED for a claim.
-/
import Derived.Test.YteibnfeokgibmaaGreatP18
import Derived.Test.YteibnfeokgibmaaGreatP21
set_option linter.unusedVariables false
set_option linter.unusedSimpArgs false
set_option maxRecDepth 100000
section
namespace Go.Proofs.YteibnfeokgibmaaGreat
open Go.RowKit
theorem ykz (x y : Int) (w : World) : Calls Tryz.prog 76 #[.int .i64 x, .int .i64 y] w fun e w' => e = .returned (.int .i64 (cmpI x y)) /\ w = w' := R4.ykz x y w
theorem cmp_is {x y r : Int} (h : cmpI x y = r) (w : World) : Calls Tryz.prog 76 #[.int .i64 x, .int .i64 y] w fun e w' => e = .returned (.int .i64 r) /\ w = w' := by
 rw [<- h]; exact ykz x y w
theorem or_any {g : Nat} {x y z : Int} {w : World} (h0 : w.cell? ⟨g, 0, none⟩ = some (.int .i64 x)) (h1 : w.cell? ⟨g, 1, none⟩ = some (.int .i64 y)) (h2 : w.cell? ⟨g, 2, none⟩ = some (.int .i64 z)) :
  Calls Tryz.prog 46 #[.slice (some ⟨g, 0, none⟩) 3 3] w fun e w' => e = .returned (.int .i64 (lexC x (lexC y z))) /\ w = w' := by
 unfold lexC
 by_cases ex : x = 0
 ·rw [if_pos ex]
  have ex' : (x == 0) = true := by simpa using ex
  by_cases ey : y = 0
  ·rw [if_pos ey]
   have ey' : (y == 0) = true := by simpa using ey
   by_cases ez : z = 0
   ·subst ex ey ez
    go_enter Tryz.func46, Tryz.ntmps46
    go_wp2
    refine wp_loop_rounds 4 ?_; rw [rounds_succ]
    go_wp2
    rw [rounds_succ]
    go_wp2
    rw [rounds_succ]
    go_wp2
    rw [rounds_succ]
    go_wp2
    go_ret
    exact ⟨rfl, rfl⟩
   ·subst ex ey
    have ez' : (z == 0) = false := by simpa using ez
    clear ez
    go_enter Tryz.func46, Tryz.ntmps46
    go_wp2
    refine wp_loop_rounds 4 ?_; rw [rounds_succ]
    go_wp2
    rw [rounds_succ]
    go_wp2
    rw [rounds_succ]
    go_wp2
    go_ret
    exact ⟨rfl, rfl⟩
  ·rw [if_neg ey]; subst ex
   have ey' : (y == 0) = false := by simpa using ey
   clear ey
   go_enter Tryz.func46, Tryz.ntmps46
   go_wp2
   refine wp_loop_rounds 4 ?_; rw [rounds_succ]
   go_wp2
   rw [rounds_succ]
   go_wp2
   go_ret
   exact ⟨rfl, rfl⟩
 ·rw [if_neg ex]
  have ex' : (x == 0) = false := by simpa using ex
  clear ex
  go_enter Tryz.func46, Tryz.ntmps46
  go_wp2
  refine wp_loop_rounds 4 ?_; rw [rounds_succ]
  go_wp2
  go_ret
  exact ⟨rfl, rfl⟩
theorem yip {a b : List Int} {k : Nat} {x y : Int} (hx : a[k]? = some x) (hy : b[k]? = some y) : cmpL (a.drop k) (b.drop k) = if cmpI x y = 0 then cmpL (a.drop (k + 1)) (b.drop (k + 1)) else cmpI x y := by
 obtain ⟨h1, h2⟩ := List.getElem?_eq_some_iff.1 hx; obtain ⟨h3, h4⟩ := List.getElem?_eq_some_iff.1 hy; rw [List.drop_eq_getElem_cons h1, List.drop_eq_getElem_cons h3, cmpL, h2, h4]
theorem ynt {F G : Nat -> Prop} {w : World} {u v : Value} {a b : List Int} (ha : RdI F w u a) (hb : RdI G w v b) (hl : a.length <= 1000000) (hl2 : b.length <= 1000000) :
  Calls Tryz.prog 49 #[u, v] w fun e w' => e = .returned (.int .i64 (cmpL a b)) /\ w = w' := by
 obtain ⟨A, c, rfl⟩ := ha.form; obtain ⟨A', c', rfl⟩ := hb.form; obtain ⟨r, hr⟩ : ∃ r, cmpL a b = r := ⟨_, rfl⟩; have HR := zH hr; have HA := zH ha; have HB := zH hb
 have hla : (a.length : Int) <= 1000000 := by omega
 have hlb : (b.length : Int) <= 1000000 := by omega
 rw [hr]; clear ha hb hr
 go_enter Tryz.func49, Tryz.ntmps49
 go_wp2
 go_loop [11] (fun i => ∃ k : Nat, k <= a.length /\ k <= b.length /\ i = .int .i64 (k : Nat) /\ Hid (cmpL (a.drop k) (b.drop k) = r)) (fun i => a.length - (intOf i).toNat)
 case atStart => exact ⟨0, Nat.zero_le _, Nat.zero_le _, rfl, HR.out⟩
 case round =>
  obtain ⟨k, hk, hk2, rfl, HK⟩ := hrel
  by_cases hlt : k < a.length
  ·obtain ⟨x, hx⟩ : ∃ x, a[k]? = some x := ⟨_, List.getElem?_eq_getElem hlt⟩; obtain ⟨g, o, rfl, c0⟩ := HA.out.at hx
   have hkI : (k : Int) < (a.length : Int) := by omega
   by_cases hlt2 : k < b.length
   ·obtain ⟨y, hy⟩ : ∃ y, b[k]? = some y := ⟨_, List.getElem?_eq_getElem hlt2⟩; obtain ⟨g', o', rfl, c1⟩ := HB.out.at hy
    have hkJ : (k : Int) < (b.length : Int) := by omega
    have hd := yip hx hy; rw [HK.out] at hd; obtain ⟨q, hq⟩ : ∃ q, cmpI x y = q := ⟨_, rfl⟩; have HC := zH (fun w => cmp_is hq w)
    rw [hq] at hd
    by_cases hz : q = 0
    ·rw [if_pos hz] at hd; have HD := zH hd.symm; subst hz; clear hd hq hx hy hlt hlt2
     go_wp2_with (go_at_call 76; refine (HC.out _).mono ?_; rintro e w' ⟨rfl, rfl⟩)
     go_round
     case rel => exact ⟨k + 1, by omega, by omega, by go_num, HD.out⟩
     case measure => simp [intOf]; omega
    ·rw [if_neg hz] at hd
     have hz' : (q == 0) = false := by simpa using hz
     subst hd; clear hq hx hy hlt hlt2 hz
     go_wp2_with (go_at_call 76; refine (HC.out _).mono ?_; rintro e w' ⟨rfl, rfl⟩)
     go_ret
     exact ⟨rfl, rfl⟩
   ·obtain rfl : k = b.length := by omega
    have he : r = 1 := by
     rw [<- HK.out, List.drop_length, List.drop_eq_getElem_cons (by omega)]; rfl
    subst he; clear hx hlt2 hlt hk hk2
    go_wp2
    go_ret
    exact ⟨rfl, rfl⟩
  ·have hka : k = a.length := by omega
   subst hka
   by_cases hlt2 : a.length < b.length
   ·have he : r = -1 := by
     rw [<- HK.out, List.drop_length, List.drop_eq_getElem_cons hlt2]; rfl
    subst he
    have hd : (a.length : Int) < (b.length : Int) := by omega
    clear hlt hlt2
    go_wp2
    go_ret
    exact ⟨rfl, rfl⟩
   ·have he : r = 0 := by
     rw [<- HK.out, List.drop_length, List.drop_eq_nil_of_le (by omega)]; rfl
    subst he
    have hd : ¬ (a.length : Int) < (b.length : Int) := by omega
    clear hlt hlt2
    go_wp2
    go_ret
    exact ⟨rfl, rfl⟩
theorem hd_at {a : List Int} (h : 1 <= a.length) : a[0]? = some (hd a) := by
 cases a with
 | nil => simp at h
 | cons x t => rfl
open Go.Shelf Go.Sort
def Gr (w w' : World) : Prop := ∃ q os', w' = grow (w.drewN q) os'
theorem Gr.refl (w : World) : Gr w w := ⟨0, #[], by simp [grow, World.drewN]⟩
theorem Gr.alloc {w a : World} (h : Gr w a) (o : Obj) : Gr w (a.alloc o) := by
 obtain ⟨q, os', rfl⟩ := h; exact ⟨q, _, by rw [alloc_eq_grow, grow_grow]⟩
theorem Gr.drew {w a : World} (h : Gr w a) : Gr w a.drew := by
 obtain ⟨q, os', rfl⟩ := h; exact ⟨q + 1, os', rfl⟩
theorem Gr.block {w a : World} (h : Gr w a) {k : Nat} (hk : k < w.heap.size) : a.heap[k]? = w.heap[k]? := by
 obtain ⟨q, os', rfl⟩ := h
 show (w.heap ++ os')[k]? = _
 rw [Array.getElem?_append_left hk]
theorem Gr.below {w a : World} (h : Gr w a) : Below w.heap.size w a := by
 obtain ⟨q, os', rfl⟩ := h; refine ⟨rfl, rfl, rfl, ?_, fun k hk => ?_⟩
 ·show _ <= (w.heap ++ os').size
  simp
 ·show (w.heap ++ os')[k]? = _
  rw [Array.getElem?_append_left hk]
def InS (w : World) (v1 l1 v2 l2 : Value) (g1 o1 g2 o2 : Nat) (x y : Int) (w' : World) : Prop :=
 w'.cell? ⟨w.heap.size, 0, none⟩ = some v1 /\ w'.cell? ⟨w.heap.size + 1, 0, none⟩ = some v2 /\ w'.cell? ⟨g1, o1, none⟩ = some (.int .i64 x) /\ w'.cell? ⟨g2, o2, none⟩ = some (.int .i64 y) /\ Gr w w'
theorem InS.start {w : World} {v1 l1 v2 l2 : Value} {g1 o1 g2 o2 : Nat} {x y : Int} {T : TypeId} (h1 : w.cell? ⟨g1, o1, none⟩ = some (.int .i64 x)) (h2 : w.cell? ⟨g2, o2, none⟩ = some (.int .i64 y)) :
  InS w v1 l1 v2 l2 g1 o1 g2 o2 x y (((w.alloc (.cells #[v1, l1] T)).alloc (.cells #[v2, l2] T)).drew) := by
 have hg : Gr w (((w.alloc (.cells #[v1, l1] T)).alloc (.cells #[v2, l2] T)).drew) := (((Gr.refl w).alloc _).alloc _).drew
 refine ⟨?_, ?_, ?_, ?_, hg⟩
 ·show ((w.alloc (.cells #[v1, l1] T)).alloc (.cells #[v2, l2] T)).cell? _ = _
  rw [World.cell?_of_block (w := w.alloc (.cells #[v1, l1] T)) (Below.heap_alloc _ _ _ (by simp)), World.cell?_alloc_mark]; rfl
 ·show ((w.alloc (.cells #[v1, l1] T)).alloc (.cells #[v2, l2] T)).cell? _ = _
  have e : (w.alloc (.cells #[v1, l1] T)).heap.size = w.heap.size + 1 := by simp
  rw [<- e, World.cell?_alloc_mark]; rfl
 ·exact (hg.below.cell (p := ⟨g1, o1, none⟩) (yaj h1)).trans h1
 ·exact (hg.below.cell (p := ⟨g2, o2, none⟩) (yaj h2)).trans h2
theorem InS.alloc {w : World} {v1 l1 v2 l2 : Value} {g1 o1 g2 o2 : Nat} {x y : Int} {w' : World} (h : InS w v1 l1 v2 l2 g1 o1 g2 o2 x y w') (o : Obj) : InS w v1 l1 v2 l2 g1 o1 g2 o2 x y (w'.alloc o) := by
 have k : ∀ {p : Addr} {u : Value}, w'.cell? p = some u -> (w'.alloc o).cell? p = some u := fun {p u} hp => by
  rw [World.cell?_of_block (w := w') (Below.heap_alloc _ _ _ (yaj hp))]; exact hp
 exact ⟨k h.1, k h.2.1, k h.2.2.1, k h.2.2.2.1, h.2.2.2.2.alloc o⟩
theorem InS.alloc' {w : World} {v1 l1 v2 l2 : Value} {g1 o1 g2 o2 : Nat} {x y : Int} {X : World} (h : InS w v1 l1 v2 l2 g1 o1 g2 o2 x y X.drew) (o : Obj) : InS w v1 l1 v2 l2 g1 o1 g2 o2 x y (X.alloc o).drew := h.alloc o
theorem InS.gr {w w' : World} {v1 v2 x y : Value} {a b c d : Addr} (h : w'.cell? a = some v1 /\ w'.cell? b = some v2 /\ w'.cell? c = some x /\ w'.cell? d = some y /\ Gr w w') : Gr w w' := h.2.2.2.2
theorem or_new (x y z : Int) (W : World) {b : Nat} (hb : W.heap.size = b) {T : TypeId} : Calls Tryz.prog 46 #[.slice (some ⟨b, 0, none⟩) 3 3] (W.alloc (.cells #[.int .i64 x, .int .i64 y, .int .i64 z] T)).drew fun e w' => e = .returned (.int .i64 (lexC x (lexC y z))) /\ (W.alloc (.cells #[.int .i64 x, .int .i64 y, .int .i64 z] T)).drew = w' := by
 subst hb
 have h : ∀ j, (W.alloc (.cells #[.int .i64 x, .int .i64 y, .int .i64 z] T)).drew.cell? ⟨W.heap.size, j, none⟩ = #[Value.int .i64 x, .int .i64 y, .int .i64 z][j]? := fun j => World.cell?_alloc_mark W _ _ _ j
 exact or_any (h 0) (h 1) (h 2)
set_option maxHeartbeats 1000000 in
theorem yhy {F : Nat -> Prop} {w : World} {x y : ME} (hx : EntOk F w x) (hy : EntOk F w y) (h1 : 1 <= x.s.length) (h2 : 1 <= y.s.length) (h3 : x.s.length <= 1000000) (h4 : y.s.length <= 1000000) :
  Calls Tryz.prog 40 #[.agg #[x.vs, x.vl], .agg #[y.vs, y.vl]] w fun e w' => e = .returned (.int .i64 (ord x.s y.s)) /\ Gr w w' := by
 obtain ⟨a1, n1, e1⟩ := hx.1.form; obtain ⟨a2, n2, e2⟩ := hy.1.form; obtain ⟨b1, m1, e3⟩ := hx.2.form; obtain ⟨b2, m2, e4⟩ := hy.2.form; have hx1 := hx.1; have hy1 := hy.1; rw [e1] at hx1 |-; rw [e2] at hy1 |-; rw [e3, e4]; obtain ⟨g1, o1, rfl, c1⟩ := hx1.at (hd_at h1); obtain ⟨g2, o2, rfl, c2⟩ := hy1.at (hd_at h2); unfold ord; obtain ⟨p, hp⟩ : ∃ p, cmpI (hd x.s) (hd y.s) = p := ⟨_, rfl⟩; obtain ⟨q, hq⟩ : ∃ q, cmpI (x.s.length : Int) (y.s.length : Int) = q := ⟨_, rfl⟩; obtain ⟨r, hr⟩ : ∃ r, cmpL x.s y.s = r := ⟨_, rfl⟩; have HP := zH (fun w => cmp_is hp w)
 have HQ := zH (fun w => cmp_is hq w)
 have HC : Hid (∀ W, Gr w W -> Calls Tryz.prog 49 #[.slice (some ⟨g1, o1, none⟩) x.s.length n1, .slice (some ⟨g2, o2, none⟩) y.s.length n2] W fun e w' => e = .returned (.int .i64 r) /\ W = w') := fun W hb => by
  rw [<- hr]; exact ynt (hx1.below hb.below (zN _)) (hy1.below hb.below (zN _)) h3 h4
 rw [hp, hq, hr]
 have k1 : (0 : Int) < (x.s.length : Int) := by omega
 have k2 : (0 : Int) < (y.s.length : Int) := by omega
 simp only [Nat.add_zero] at c1 c2; have HS := zH (InS.start (v1 := .slice (some ⟨g1, o1, none⟩) x.s.length n1) (l1 := .slice b1 x.l.length m1) (v2 := .slice (some ⟨g2, o2, none⟩) y.s.length n2) (l2 := .slice b2 y.l.length m2) (T := 88) c1 c2); obtain ⟨X, hX⟩ : ∃ X, hd x.s = X := ⟨_, rfl⟩; obtain ⟨Y, hY⟩ : ∃ Y, hd y.s = Y := ⟨_, rfl⟩; rw [hX] at HP HS; rw [hY] at HP HS; obtain ⟨n, hn⟩ : ∃ n, x.s.length = n := ⟨_, rfl⟩; obtain ⟨m, hm⟩ : ∃ m, y.s.length = m := ⟨_, rfl⟩; rw [hn] at HQ HC HS k1 |-; rw [hm] at HQ HC HS k2 |-
 have k3 : 0 < n := by omega
 have k4 : 0 < m := by omega
 clear hx hy hx1 hy1 e1 e2 e3 e4 hp hq hr h1 h2 c1 c2 hX hY h3 h4 hn hm
 go_enter Tryz.func40, Tryz.ntmps40
 go_wp2
 go_region_held3 (fun w' => w'.cell? ⟨w.heap.size, 0, none⟩ = some (.slice (some ⟨g1, o1, none⟩) n n1) /\ w'.cell? ⟨w.heap.size + 1, 0, none⟩ = some (.slice (some ⟨g2, o2, none⟩) m n2) /\ w'.cell? ⟨g1, o1, none⟩ = some (.int .i64 X) /\ w'.cell? ⟨g2, o2, none⟩ = some (.int .i64 Y) /\ Gr w w')
  (first
   | exact HS.out
   | assumption
   | (refine InS.alloc' (l1 := .slice b1 x.l.length m1) (l2 := .slice b2 y.l.length m2) HS.out _))
  (first
   | (go_at_call 76; (with_reducible refine (HP.out _).mono ?_); rintro e w' ⟨rfl, rfl⟩)
   | (go_at_call 76; (with_reducible refine (HQ.out _).mono ?_); rintro e w' ⟨rfl, rfl⟩)
   | (go_at_call 49; refine (HC.out _ (InS.gr (by assumption))).mono ?_; rintro e w' ⟨rfl, rfl⟩)
   | (go_at_call 46; refine (or_new p q r _ (by simp)).mono ?_; rintro e w' ⟨rfl, rfl⟩))
 go_wp2
 go_ret
 rename_i hH
 exact ⟨rfl, hH.2.2.2.2⟩
end Go.Proofs.YteibnfeokgibmaaGreat
end
namespace Go.Proofs.YteibnfeokgibmaaGreat
open Go.RowKit
def NotE (w : World) (k : Nat) : Prop := ∃ cs T fr, w.heap[k]? = some (.cells cs T fr) /\ T ≠ 88
def Ent (B : Nat) (w : World) (m : ME) : Prop := EntOk (fun k => B <= k /\ NotE w k) w m
theorem Ent.ok {B : Nat} {w : World} {m : ME} (h : Ent B w m) {F : Nat -> Prop} (hF : ∀ k, B <= k -> F k) : EntOk F w m := h.mono fun k hk => hF k hk.1
theorem Ent.step {B : Nat} {w w' : World} {m : ME} (h : Ent B w m) (hf : ∀ k, NotE w k -> k < w.heap.size -> w'.heap[k]? = w.heap[k]?) : Ent B w' m := by
 have key : ∀ {v : Value} {n : Nat} {xs : List Value}, RdF (fun k => B <= k /\ NotE w k) w v n xs -> RdF (fun k => B <= k /\ NotE w' k) w' v n xs := fun {v n xs} hr => by
  obtain ⟨A, c, rfl, hc, hr⟩ := hr; refine ⟨A, c, rfl, hc, fun h0 => ?_⟩
  obtain ⟨g, o, e, hg, hx⟩ := hr h0; obtain ⟨cs, T, fr, h1, h2⟩ := hg.2; have e2 := hf g hg.2 (R4.yad h1); refine ⟨g, o, e, ⟨hg.1, cs, T, fr, e2.trans h1, h2⟩, fun j u hu => ?_⟩
  rw [World.cell?_of_block (w := w) (a := ⟨g, o + j, none⟩) e2]; exact hx j u hu
 exact ⟨key h.1, key h.2⟩
theorem Ent.below {B B' : Nat} {w w' : World} {m : ME} (h : Ent B w m) (hb : Below B' w w') (hB : w.heap.size <= B') : Ent B w' m := h.step fun k _ hk => hb.block k (by omega)
theorem Ent.grown {B B' : Nat} {w w' : World} {v : Value} {M : List ME} {m : ME} (h : Ent B w m) (ho : OwnM B' w v M) (hg : w.grownBy w' v.ownBlock) : Ent B w' m := h.step fun k hk hl => by
 obtain ⟨cs, T, fr, h1, h2⟩ := hk; exact hg.block k hl (R4.yao ho h1 h2)
theorem ytt {B B' : Nat} {w : World} {e : TypeId} {s : Nat} {v : Value} {n : Nat} {xs : List Value} (h : w.ownsRow B e s v n xs) (he : e ≠ 88) (hB : B' <= B) : RdF (fun k => B' <= k /\ NotE w k) w v n xs := by
 obtain ⟨A, c, rfl, hc, hr⟩ := R4.yai h; refine ⟨A, c, rfl, hc, fun h0 => ?_⟩
 obtain ⟨g, e', hg, hl, hx⟩ := hr h0; obtain ⟨cur, h1⟩ := R4.yca h (g := g) (by rw [e']; rfl)
 exact ⟨g, 0, e', ⟨by omega, _, _, _, h1, he⟩, fun j u hu => by rw [Nat.zero_add]; exact hx j u hu⟩
theorem ent_of {B B1 B2 : Nat} {w : World} {vs vl : Value} {s : List Int} {l : List Nat} (h1 : T2.OwnI B1 w vs s) (h2 : OwnE B2 w vl l) (hB1 : B <= B1) (hB2 : B <= B2) : Ent B w ⟨vs, vl, s, l⟩ :=
 ⟨ytt h1 (by decide) hB1, ytt h2 (by decide) hB2⟩
theorem OwnE.below {B B' : Nat} {w w' : World} {v : Value} {l : List Nat} (h : OwnE B w v l) (hb : Below B' w w') (hB : w.heap.size <= B') : OwnE B w' v l := R4.yan h hb hB
theorem OwnM.below {B B' : Nat} {w w' : World} {v : Value} {M : List ME} (h : OwnM B w v M) (hb : Below B' w w') (hB : w.heap.size <= B') : OwnM B w' v M := R4.yan h hb hB
theorem OwnE.form {B : Nat} {w : World} {v : Value} {l : List Nat} (h : OwnE B w v l) : ∃ A c, v = .slice A l.length c := by
 obtain ⟨A, c, e, _⟩ := R4.yai h; exact ⟨A, c, e⟩
theorem OwnM.form {B : Nat} {w : World} {v : Value} {M : List ME} (h : OwnM B w v M) : ∃ A c, v = .slice A M.length c := by
 obtain ⟨A, c, e, _⟩ := R4.yai h; exact ⟨A, c, e⟩
theorem yck {B : Nat} {W : World} {vl : Value} {l : List Nat} (h : OwnE B W vl l) (hB : B <= W.heap.size) (c : Int) :
  Calls Tryz.prog 101 #[.int .i64 c, vl] W fun e w' => ∃ vs, e = .returned (.agg #[vs, vl]) /\ Ent B w' ⟨vs, vl, [c], l⟩ /\ Below W.heap.size W w' := by
 obtain ⟨A, n, rfl⟩ := h.form; exact (yul c A _ n W).mono fun e w' ⟨⟨vs, he, ho⟩, hb⟩ => ⟨vs, he, ent_of ho (h.below hb (zN _)) hB (zN _), hb⟩
theorem ybm : (Tryz.prog.info? 88).map (fun i => (i.zero, i.size, i.bytes)) = some (some (.agg #[.slice none 0 0, .slice none 0 0]), 2, 48) := by kernel_rfl
theorem pushM {ops : Array Oper} {rest : List Oper} {o : Oper} {a : Act} {Q : Exit -> Act -> World -> Prop} (hgd : o.guard = none) (s x : Operand)
  (ho : o.op = .call { callee := .builtin .append, args := #[s, x], argTypes := #[83, 83] })
  (w0 : World) (B : Nat) (v : Value) (M N : List ME) (C : Nat) (hs : a.eval s = v) (hown : OwnM B w0 v M) (hM : ∀ m ∈ M, Ent B w0 m) (hN : ∀ m ∈ N, Ent B w0 m) (hx : a.eval x = .slice (some ⟨w0.heap.size, 0, none⟩) N.length C)
  (hB : B <= w0.heap.size) (hl : M.length + N.length <= 1000000)
  (h : ∀ v' w', OwnM B w' v' (M ++ N) -> (∀ m ∈ M ++ N, Ent B w' m) -> Below B w0 w' -> wpList Tryz.prog ops Q rest (a.put o.dst v') w') : wpList Tryz.prog ops Q (o :: rest) a (w0.alloc (.cells (mcells N).toArray 88)) := by
 obtain ⟨i0, hi0, hz0, hz1, hz2⟩ := info_parts ybm
 have hb1 : Below B w0 (w0.alloc (.cells (mcells N).toArray 88)) := (zR B w0).alloc hB _
 have hb0 : Below w0.heap.size w0 (w0.alloc (.cells (mcells N).toArray 88)) := (zR _ w0).alloc (zN _) _
 have hb2 : B <= (w0.alloc (.cells (mcells N).toArray 88)).heap.size := Nat.le_trans hB hb1.size
 have hone : ∀ u ∈ mcells N, u.oneCell' = true := ydb (F := anyB) fun m hm => (hN m hm).ok fun _ _ => trivial
 refine wpList_append_own_at _ hgd s x _ ho B 88 i0 _ 2 48 Tryz.underlying83 hi0 hz0 hz1 hz2 rfl (by omega) v M.length (mcells M) hs (hown.alloc _) _ N.length C (mcells N) hx (by rw [yaq])
  (R4.yax w0 (mcells N) _) hone (by simp only [maxLen]; omega) (by omega) hb2 ?_
 intro v' w' h2 h3 _ _; refine h v' w' ?_ ?_ ?_
 ·unfold OwnM; rw [yaw, List.length_append]; exact h2
 ·intro m hm
  have he : Ent B w0 m := by
   rcases List.mem_append.1 hm with hm | hm
   ·exact hM m hm
   ·exact hN m hm
  exact (he.below hb0 (zN _)).grown (hown.below hb0 (zN _)) h3
 ·exact hb1.grown h3 hb2 (fun k hk => (World.ownsRow.lt hown k hk).1)
def GotM (B : Nat) (w : World) (L : List PE) (e : Ending) (w' : World) : Prop := ∃ v M, e = .returned v /\ pls M = L /\ OwnM B w' v M /\ (∀ m ∈ M, Ent B w' m) /\ Below B w w'
structure Made (B : Nat) (w wr : World) (v : Value) (L : List PE) : Prop where
 got : ∃ M, pls M = L /\ OwnM B wr v M /\ ∀ m ∈ M, Ent B wr m
 bel : Below B w wr
theorem Made.nil (B : Nat) (w : World) : Made B w w (.slice none 0 0) [] := ⟨⟨[], rfl, World.ownsRow_nil _ _ _ _, fun m hm => by simp at hm⟩, zR _ _⟩
theorem Made.more {B : Nat} {w wr wr' : World} {v : Value} {L : List PE} (h : Made B w wr v L) (hb : Below wr.heap.size wr wr') (hB : B <= wr.heap.size) : Made B w wr' v L := by
 obtain ⟨⟨M, h1, h2, h3⟩, h4⟩ := h; exact ⟨⟨M, h1, h2.below hb (zN _), fun m hm => (h3 m hm).below hb (zN _)⟩, h4.trans (hb.mono hB)⟩
theorem Made.pushed {ops : Array Oper} {rest : List Oper} {o : Oper} {a : Act} {Q : Exit -> Act -> World -> Prop} {B : Nat} {w w0 : World} {v : Value} {L : List PE} (hmade : Made B w w0 v L) (hgd : o.guard = none) (s x : Operand)
  (ho : o.op = .call { callee := .builtin .append, args := #[s, x], argTypes := #[83, 83] }) (N : List ME) (hN : ∀ m ∈ N, Ent B w0 m) (C : Nat) (hs : a.eval s = v) (hx : a.eval x = .slice (some ⟨w0.heap.size, 0, none⟩) N.length C)
  (hB : B <= w0.heap.size) (hl : L.length + N.length <= 1000000)
  (h : ∀ v' w', Made B w w' v' (L ++ pls N) -> wpList Tryz.prog ops Q rest (a.put o.dst v') w') : wpList Tryz.prog ops Q (o :: rest) a (w0.alloc (.cells (mcells N).toArray 88)) := by
 obtain ⟨⟨M, rfl, h2, h3⟩, h4⟩ := hmade; rw [yap] at hl; exact pushM hgd s x ho w0 B v M N C hs h2 h3 hN hx hB hl fun v' w' k1 k2 k3 => h v' w' ⟨⟨M ++ N, yay _ _, k1, k2⟩, h4.trans k3⟩
theorem Made.gotM {B : Nat} {w wr : World} {v : Value} {L : List PE} (h : Made B w wr v L) : GotM B w L (.returned v) wr := by
 obtain ⟨⟨M, h1, h2, h3⟩, h4⟩ := h; exact ⟨v, M, rfl, h1, h2, h3, h4⟩
theorem yga {α : Type} (f : Nat -> α) (k : Nat) : (List.range (k + 1)).map f = (List.range k).map f ++ [f k] := by rw [List.range_succ, List.map_append]; rfl
theorem yrh (w : World) : Calls Tryz.prog 69 #[] w (GotM w.heap.size w ((List.range 10).map digE)) := by
 have HS := zH (Made.nil w.heap.size w)
 go_enter Tryz.func69, Tryz.ntmps69
 go_wp2
 go_loopw [1, 3] (fun v i wr => ∃ k : Nat, k <= 10 /\ i = .int .i64 (k : Nat) /\ Hid (Made w.heap.size w wr v ((List.range k).map digE))) (fun _ i _ => 10 - (intOf i).toNat)
 case atStart => exact ⟨0, Nat.zero_le _, rfl, HS.out⟩
 case round =>
  clear HS; obtain ⟨k, hk, rfl, HM⟩ := hrel
  by_cases hlt : k < 10
  ·have hkI : (k : Int) < 10 := by omega
   obtain ⟨x, hx⟩ : ∃ x, E3.mk (128 + 4 * k) 32 2 0 = x := ⟨_, rfl⟩; have HX := zH (fun w => yex (x := 128 + 4 * (k : Int)) (y := 32) (z := 2) (p := 128 + 4 * k) (s := 32) (t := 2) (v := false) (by omega) rfl rfl (by omega) (by omega) (by omega) hx w)
   have HB : Hid (w.heap.size <= wr.heap.size) := HM.out.bel.size
   have HE : Hid (digE k = ([48 + (k : Int)], [x])) := by show _ = _; unfold digE; rw [hx]
   have HL : Hid (((List.range k).map digE).length + 1 <= 1000000) := by show _ <= _; simp; omega
   have HR := zH (yga digE k); have HA := zH ((HM.out.more ((zR _ wr).alloc (zN _) (.cells #[.int .u32 (x : Int)] 168)) HB.out)); clear hx hlt
   go_wp2_with (first
    | (go_at_call 102; refine (HX.out _).mono ?_; rintro e w' ⟨rfl, rfl⟩)
    | (go_at_call 101; refine (yck (B := w.heap.size) (ybn wr [x] (by simp) HB.out) (by simp; exact Nat.le_succ_of_le HB.out) _).mono ?_; rintro e w1 ⟨vs, rfl, he, hb⟩; have HW1 := zH hb; have HEn := zH he; have HA1 := zH (HA.out.more hb (by simp; exact Nat.le_succ_of_le HB.out)); clear hb he)
    | (at_builtin; refine HA1.out.pushed rfl _ _ rfl [⟨vs, _, [_], [x]⟩] (by simpa using HEn.out) 1 rfl rfl HA1.out.bel.size HL.out ?_; intro v2 w2 hm2; have HM2 := zH hm2; clear hm2))
   go_roundw
   case rel => exact ⟨k + 1, by omega, by go_num, by rw [HR.out, HE.out]; exact HM2.out⟩
   case measure => simp [intOf]; omega
  ·obtain rfl : k = 10 := by omega
   go_wp2
   go_ret
   exact HM.out.gotM
theorem yco {α : Type} (f : Nat -> List α) (k : Nat) : (List.range (k + 1)).flatMap f = (List.range k).flatMap f ++ f k := by rw [List.range_succ, List.flatMap_append]; simp
theorem yei {α : Type} (f : Nat -> List α) (n : Nat) (h : ∀ k, (f k).length <= n) (k : Nat) : ((List.range k).flatMap f).length <= k * n := by
 induction k with
 | zero => simp
 | succ k ih =>
  rw [yco, List.length_append, Nat.succ_mul]
  have := h k
  omega
theorem Made.weaken {B : Nat} {w w1 wr : World} {v : Value} {L : List PE} (h : Made B w1 wr v L) (h1 : Below w.heap.size w w1) (hB : w.heap.size <= B) : GotM w.heap.size w L (.returned v) wr := by
 obtain ⟨⟨M, e, h2, h3⟩, h4⟩ := h; exact ⟨v, M, rfl, e, R4.yau h2 hB, fun m hm => (h3 m hm).mono fun k hk => ⟨by omega, hk.2⟩, h1.trans (h4.mono hB)⟩
theorem yno (w : World) : Calls Tryz.prog 70 #[] w (GotM w.heap.size w ((List.range 26).flatMap letE)) := by
 have HS := zH (Made.nil w.heap.size w)
 go_enter Tryz.func70, Tryz.ntmps70
 go_wp2
 go_loopw [1, 3] (fun v i wr => ∃ k : Nat, k <= 26 /\ i = .int .i64 (k : Nat) /\ Hid (Made w.heap.size w wr v ((List.range k).flatMap letE))) (fun _ i _ => 26 - (intOf i).toNat)
 case atStart => exact ⟨0, Nat.zero_le _, rfl, HS.out⟩
 case round =>
  clear HS; obtain ⟨k, hk, rfl, HM⟩ := hrel
  by_cases hlt : k < 26
  ·have hkI : (k : Int) < 26 := by omega
   obtain ⟨x, hx⟩ : ∃ x, letW (97 + k) = x := ⟨_, rfl⟩; obtain ⟨y, hy⟩ : ∃ y, letW (65 + k) = y := ⟨_, rfl⟩; have HX := zH (fun w => ybt (c := 97 + k) (x := 97 + (k : Int)) (.inr ⟨by omega, by omega⟩) (by omega) hx w)
   have HY := zH (fun w => ybt (c := 65 + k) (x := 65 + (k : Int)) (.inl ⟨by omega, by omega⟩) (by omega) hy w)
   have HB : Hid (w.heap.size <= wr.heap.size) := HM.out.bel.size
   have HE : Hid (letE k = [([97 + (k : Int)], [x]), ([65 + (k : Int)], [y])]) := by show _ = _; unfold letE; rw [hx, hy]
   have HL : Hid (((List.range k).flatMap letE).length + 2 <= 1000000) := by
    have := yei letE 2 (fun k => by simp [letE]) k
    show _ <= _; omega
   have HR := zH (yco letE k); have HA := zH ((HM.out.more ((zR _ wr).alloc (zN _) (.cells #[.int .u32 (x : Int)] 168)) HB.out))
   have tok : True := trivial
   clear hx hy hlt
   go_wp2_with (first
    | (go_at_call 103; (with_reducible refine (HX.out _).mono ?_); rintro e w' ⟨rfl, rfl⟩)
    | (go_at_call 103; (with_reducible refine (HY.out _).mono ?_); rintro e w' ⟨rfl, rfl⟩)
    | (go_at_call 101; have _t := tok; refine (yck (B := w.heap.size) (ybn wr [x] (by simp) HB.out) (by simp; exact Nat.le_succ_of_le HB.out) _).mono ?_; rintro e w1 ⟨vs, rfl, he, hb⟩; have HW1 := zH hb; have HEn := zH he; have HA1 := zH (HA.out.more hb (by simp; exact Nat.le_succ_of_le HB.out));
        have HA2 := zH (HA1.out.more ((zR _ w1).alloc (zN _) (.cells #[.int .u32 (y : Int)] 168)) HA1.out.bel.size); have HE2 := zH (HEn.out.below ((zR _ w1).alloc (zN _) (.cells #[.int .u32 (y : Int)] 168)) (zN _)); clear hb he _t tok)
    | (go_at_call 101; refine (yck (B := w.heap.size) (ybn w1 [y] (by simp) HA1.out.bel.size) HA2.out.bel.size _).mono ?_; rintro e w2 ⟨vt, rfl, he, hb⟩; have HEm := zH he; have HE3 := zH (HE2.out.below hb (zN _)); have HA3 := zH (HA2.out.more hb HA2.out.bel.size); clear hb he)
    | (at_builtin; refine HA3.out.pushed rfl _ _ rfl [⟨vs, _, [_], [x]⟩, ⟨vt, _, [_], [y]⟩] (by intro m hm; simp at hm; rcases hm with rfl | rfl; exact HE3.out; exact HEm.out) 2 rfl rfl HA3.out.bel.size HL.out ?_; intro v2 w3 hm2; have HM2 := zH hm2; clear hm2))
   go_roundw
   case rel => exact ⟨k + 1, by omega, by go_num, by rw [HR.out, HE.out]; exact HM2.out⟩
   case measure => simp [intOf]; omega
  ·obtain rfl : k = 26 := by omega
   go_wp2
   go_ret
   exact HM.out.gotM
theorem yim {w : World} {cs : List Value} {T : TypeId} {k : Nat} {u : Value} (h : cs[k]? = some u) : (w.alloc (.cells cs.toArray T)).cell? ⟨w.heap.size, k, none⟩ = some u := by
 rw [World.cell?_alloc_mark, List.getElem?_toArray]; exact h
theorem varC_at {k : Nat} (h : k < 6) : (iv varC)[k]? = some (.int .i64 (varC.getD k 0)) := by
 match k, h with
 | 0, _ => rfl
 | 1, _ => rfl
 | 2, _ => rfl
 | 3, _ => rfl
 | 4, _ => rfl
 | 5, _ => rfl
theorem mkC_at {k : Nat} (h : k < 8) : (iv mkC)[k]? = some (.int .i64 (mkC.getD k 0)) := by
 match k, h with
 | 0, _ => rfl
 | 1, _ => rfl
 | 2, _ => rfl
 | 3, _ => rfl
 | 4, _ => rfl
 | 5, _ => rfl
 | 6, _ => rfl
 | 7, _ => rfl
theorem yjs (w : World) : Calls Tryz.prog 68 #[] w (GotM w.heap.size w ((List.range 6).map varE)) := by
 have HW0 := zH ((zR w.heap.size w).alloc (zN _) (.cells (iv varC).toArray 3)); have HC := zH (fun k (h : k < 6) => yim (w := w) (T := 3) (varC_at h))
 have HZ : Hid ((w.alloc (.cells (iv varC).toArray 3)).heap.size = w.heap.size + 1) := by show _ = _; simp
 have HS := zH (Made.nil (w.heap.size + 1) (w.alloc (.cells (iv varC).toArray 3)))
 go_enter Tryz.func68, Tryz.ntmps68
 go_wp2
 go_loopw [1, 6] (fun v i wr => ∃ k : Nat, k <= 6 /\ i = .int .i64 (k : Nat) /\ Hid (Made (w.heap.size + 1) (w.alloc (.cells (iv varC).toArray 3)) wr v ((List.range k).map varE))) (fun _ i _ => 6 - (intOf i).toNat)
 case atStart => exact ⟨0, Nat.zero_le _, rfl, HS.out⟩
 case round =>
  clear HS; obtain ⟨k, hk, rfl, HM⟩ := hrel
  by_cases hlt : k < 6
  ·have hkI : (k : Int) < 6 := by omega
   obtain ⟨x, hx⟩ : ∃ x, E3.mk (16 + 4 * k) 32 2 1 = x := ⟨_, rfl⟩; obtain ⟨c, hc⟩ : ∃ c, varC.getD k 0 = c := ⟨_, rfl⟩; have c0 := (HM.out.bel.cell (p := ⟨w.heap.size, k, none⟩) (by show w.heap.size < _; omega)).trans (HC.out k hlt)
   rw [hc] at c0; have HX := zH (fun w => yex (x := 16 + 4 * (k : Int)) (y := 32) (z := 2) (p := 16 + 4 * k) (s := 32) (t := 2) (v := true) (by omega) rfl rfl (by omega) (by omega) (by omega) hx w)
   have HB : Hid (w.heap.size + 1 <= wr.heap.size) := by have h1 := HM.out.bel.size; rw [HZ.out] at h1; exact h1
   have HE : Hid (varE k = ([c], [x])) := by show _ = _; unfold varE; rw [hx, hc]
   have HL : Hid (((List.range k).map varE).length + 1 <= 1000000) := by show _ <= _; simp; omega
   have HR := zH (yga varE k); have HA := zH ((HM.out.more ((zR _ wr).alloc (zN _) (.cells #[.int .u32 (x : Int)] 168)) HB.out)); clear hx hlt hc
   go_wp2_with (first
    | (go_at_call 102; refine (HX.out _).mono ?_; rintro e w' ⟨rfl, rfl⟩)
    | (go_at_call 101; refine (yck (B := w.heap.size + 1) (ybn wr [x] (by simp) HB.out) (by simp; exact Nat.le_of_succ_le HB.out) _).mono ?_; rintro e w1 ⟨vs, rfl, he, hb⟩; have HW1 := zH hb; have HEn := zH he; have HA1 := zH (HA.out.more hb (by simp; exact Nat.le_of_succ_le HB.out)); clear hb he)
    | (at_builtin; refine HA1.out.pushed rfl _ _ rfl [⟨vs, _, [_], [x]⟩] (by simpa using HEn.out) 1 rfl rfl (Nat.le_trans (Nat.le_of_eq HZ.out.symm) HA1.out.bel.size) HL.out ?_; intro v2 w2 hm2; have HM2 := zH hm2; clear hm2))
   go_roundw
   case rel => exact ⟨k + 1, by omega, by go_num, by rw [HR.out, HE.out]; exact HM2.out⟩
   case measure => simp [intOf]; omega
  ·obtain rfl : k = 6 := by omega
   go_wp2
   go_ret
   exact HM.out.weaken HW0.out (Nat.le_succ _)
theorem yuy (w : World) : Calls Tryz.prog 71 #[] w (GotM w.heap.size w ((List.range 8).map mkE)) := by
 have HW0 := zH ((zR w.heap.size w).alloc (zN _) (.cells (iv mkC).toArray 3)); have HC := zH (fun k (h : k < 8) => yim (w := w) (T := 3) (mkC_at h))
 have HZ : Hid ((w.alloc (.cells (iv mkC).toArray 3)).heap.size = w.heap.size + 1) := by show _ = _; simp
 have HS := zH (Made.nil (w.heap.size + 1) (w.alloc (.cells (iv mkC).toArray 3)))
 go_enter Tryz.func71, Tryz.ntmps71
 go_wp2
 go_loopw [1, 6] (fun v i wr => ∃ k : Nat, k <= 8 /\ i = .int .i64 (k : Nat) /\ Hid (Made (w.heap.size + 1) (w.alloc (.cells (iv mkC).toArray 3)) wr v ((List.range k).map mkE))) (fun _ i _ => 8 - (intOf i).toNat)
 case atStart => exact ⟨0, Nat.zero_le _, rfl, HS.out⟩
 case round =>
  clear HS; obtain ⟨k, hk, rfl, HM⟩ := hrel
  by_cases hlt : k < 8
  ·have hkI : (k : Int) < 8 := by omega
   obtain ⟨c, hc⟩ : ∃ c, mkC.getD k 0 = c := ⟨_, rfl⟩; obtain ⟨x, hx⟩ : ∃ x, mkW c = x := ⟨_, rfl⟩; have c0 := (HM.out.bel.cell (p := ⟨w.heap.size, k, none⟩) (by show w.heap.size < _; omega)).trans (HC.out k hlt)
   rw [hc] at c0; have HX := zH (fun w => ygw c w)
   rw [hx] at HX
   have HB : Hid (w.heap.size + 1 <= wr.heap.size) := by have h1 := HM.out.bel.size; rw [HZ.out] at h1; exact h1
   have HE : Hid (mkE k = ([c], [x])) := by show _ = _; unfold mkE; rw [hc, hx]
   have HL : Hid (((List.range k).map mkE).length + 1 <= 1000000) := by show _ <= _; simp; omega
   have HR := zH (yga mkE k); have HA := zH ((HM.out.more ((zR _ wr).alloc (zN _) (.cells #[.int .u32 (x : Int)] 168)) HB.out)); clear hx hlt hc
   go_wp2_with (first
    | (go_at_call 104; refine (HX.out _).mono ?_; rintro e w' ⟨rfl, rfl⟩)
    | (go_at_call 101; refine (yck (B := w.heap.size + 1) (ybn wr [x] (by simp) HB.out) (by simp; exact Nat.le_of_succ_le HB.out) _).mono ?_; rintro e w1 ⟨vs, rfl, he, hb⟩; have HW1 := zH hb; have HEn := zH he; have HA1 := zH (HA.out.more hb (by simp; exact Nat.le_of_succ_le HB.out)); clear hb he)
    | (at_builtin; refine HA1.out.pushed rfl _ _ rfl [⟨vs, _, [_], [x]⟩] (by simpa using HEn.out) 1 rfl rfl (Nat.le_trans (Nat.le_of_eq HZ.out.symm) HA1.out.bel.size) HL.out ?_; intro v2 w2 hm2; have HM2 := zH hm2; clear hm2))
   go_roundw
   case rel => exact ⟨k + 1, by omega, by go_num, by rw [HR.out, HE.out]; exact HM2.out⟩
   case measure => simp [intOf]; omega
  ·obtain rfl : k = 8 := by omega
   go_wp2
   go_ret
   exact HM.out.weaken HW0.out (Nat.le_succ _)
end Go.Proofs.YteibnfeokgibmaaGreat
namespace Go.Proofs.YteibnfeokgibmaaGreat
open Go.RowKit Go.Shelf Go.Sort
abbrev SE (B : Nat) (w : World) : Type := { m : ME // EntOk (fun g => g < B) w m /\ 1 <= m.s.length /\ m.s.length <= 3 }
def encM (m : ME) : List Value := [m.vs, m.vl]
def encS {B : Nat} {w : World} (x : SE B w) : List Value := encM x.1
def cfS {B : Nat} {w : World} (x y : SE B w) : Int := ord x.1.s y.1.s
theorem lt_cfS {B : Nat} {w : World} (x y : SE B w) : ltOf cfS x y = decide (ord x.1.s y.1.s < 0) := by
 unfold ltOf cfS; rfl
theorem swoS {B : Nat} {w : World} : SWO (ltOf (cfS (B := B) (w := w))) where
 irrefl x := by rw [lt_cfS, you]; rfl
 trans x y z h1 h2 := by
  rw [lt_cfS] at *
  simp at *
  exact to_ord.trans _ _ _ h1 h2
 ntrans x y z h1 h2 := by
  rw [lt_cfS] at *
  simp at *
  have a1 := to_ord.anti x.1.s y.1.s; have a2 := to_ord.anti y.1.s z.1.s; have a3 := to_ord.anti x.1.s z.1.s
  by_cases e1 : ord y.1.s x.1.s = 0
  ·have := to_ord.zero y.1.s x.1.s z.1.s e1
   omega
  ·by_cases e2 : ord z.1.s y.1.s = 0
   ·have := to_ord.zero z.1.s y.1.s x.1.s e2
    omega
   ·have := to_ord.trans y.1.s x.1.s z.1.s
    have b := to_ord.trans z.1.s y.1.s x.1.s
    omega
theorem yii {B : Nat} {w : World} [Inhabited (SE B w)] (d : Array (SE B w)) (t : Nat) (h : t < d.size * 2) : (mcells (d.toList.map (·.1)))[t]? = some ((flatK encS 2 d)[t]!) := by
 rw [get_flatK encS 2 d t h]
 have hk : t / 2 < d.size := by omega
 have hp : (d.toList.map (·.1))[t / 2]? = some d[t / 2]!.1 := by simp [hk]
 obtain ⟨h1, h2⟩ := ycl hp
 rcases Nat.mod_two_eq_zero_or_one t with e | e
 ·rw [e]
  have : t = t / 2 * 2 := by omega
  rw [<- this] at h1; rw [h1]; rfl
 ·rw [e]
  have : t = t / 2 * 2 + 1 := by omega
  rw [<- this] at h2; rw [h2]; rfl
theorem yhl {B : Nat} {w : World} [Inhabited (SE B w)] (g : Nat) (hg : B <= g) (hgs : g < w.heap.size) (n : Nat) (d : Array (SE B w)) (os : Array Obj) {k : Nat} (hk : k < B) : (sortWorldK encS 2 w g 0 n d os).heap[k]? = w.heap[k]? := by
 have hkg : k ≠ g := by omega
 show ((w.heap.modify g _) ++ os)[k]? = w.heap[k]?
 rw [Array.getElem?_append_left (by simp; omega), Array.getElem?_modify, if_neg (fun e => hkg e.symm)]
def SortedM (M : List ME) : Prop := M.Pairwise fun p q => ¬ ord q.s p.s < 0
theorem yjw {B : Nat} {w : World} {v : Value} {M : List ME} (h : OwnM B w v M) (h0 : 0 < M.length) (hl : M.length <= 1000000) (hB : B <= w.heap.size) (hM : ∀ m ∈ M, EntOk (fun g => g < B) w m /\ 1 <= m.s.length /\ m.s.length <= 3) :
  Calls Tryz.prog 39 #[v, .func (.func 40) #[] #[]] w fun e w' => e = .returned (.tuple #[]) /\ ∃ M', M.Perm M' /\ SortedM M' /\ RdF anyB w' v M'.length (mcells M') /\ Below B w w' := by
 obtain ⟨m0, hm0⟩ : ∃ m, m ∈ M := by
  cases M with
  | nil => simp at h0
  | cons m t => exact ⟨m, by simp⟩
 haveI : Inhabited (SE B w) := ⟨⟨m0, hM m0 hm0⟩⟩
 obtain ⟨A, hA⟩ : ∃ A : List (SE B w), A.map (·.1) = M := ⟨M.pmap (fun m hm => ⟨m, hm⟩) hM, by rw [List.map_pmap]; simp⟩
 have hAl : A.length = M.length := by rw [<- hA]; simp
 rcases h.2 with ⟨_, hn⟩ | ⟨g, cap, cur, rfl, hg, hgg, hlc, _⟩
 ·omega
 ·have hH : HoldsK encS 2 w g 0 A.toArray := by
   intro j hj
   have hj' : j < A.toArray.size * 2 := by simpa using hj
   rw [Nat.zero_add]; refine ⟨?_, frozen_of_row w g j _ _ hgg⟩
   have := World.ownsRow.cells h (g := g) rfl j _ (by rw [<- hA]; exact yii A.toArray j hj')
   rw [Addr.add_lit, Nat.zero_add] at this; exact this
  have hgs : g < w.heap.size := R4.yad hgg
  have eg : ∀ args w, (callFunc 40 args).run Tryz.prog w = .ok (.enter 40 args) w := enters_of Tryz.func40 (by kernel_rfl) rfl
  have hcl : CmpLays Tryz.prog 40 #[] encS 2 cfS g 0 A.toArray.size w := fun n os dk _ x y => by
   have f : ∀ k, k < B -> k < w.heap.size -> (sortWorldK encS 2 w g 0 n dk os).heap[k]? = w.heap[k]? := fun k hk _ => yhl g hg hgs n dk os hk
   exact yhy (x.2.1.frame f) (y.2.1.frame f) x.2.2.1 y.2.2.1 (by have := x.2.2.2; omega) (by have := y.2.2.2; omega)
  have hcon := AnyQ.slices_SortFunc Tryz.sortE 2 Tryz.isAgg88 Tryz.sizeOf88 encS (fun _ => rfl) (fun x v hv => by
   have := x.2.1.one
   simp [encS, encM] at hv
   rcases hv with rfl | rfl
   ·exact this.1
   ·exact this.2) cfS swoS 40 #[] g 0 cap A.toArray w eg hcl hH hgs (by simp; omega)
  rw [show A.toArray.size = M.length by simpa using hAl] at hcon
  refine Calls.mono hcon fun e w' => ?_
  rintro ⟨he, d', n, os, hp, hs, rfl⟩
  have hsz : d'.size = M.length := by have := hp.1; simpa [hAl] using this
  have hH' := holdsK_sortWorldK encS 2 w g 0 n A.toArray d' os hgs hH (by rw [hsz]; simp [hAl])
  refine ⟨he, d'.toList.map (·.1), ?_, ?_, ?_, ?_⟩
  ·have h2 := hp.2.2
   have e1 : d'.extract 0 M.length = d' := by rw [<- hsz]; exact Array.extract_size
   have e2 : A.toArray.extract 0 M.length = A.toArray := by rw [show M.length = A.toArray.size by simpa using hAl.symm]; exact Array.extract_size
   rw [e1, e2] at h2
   have h3 : d'.toList.Perm A := by simpa using h2
   rw [<- hA]; exact (h3.map (·.1)).symm
  ·refine List.pairwise_iff_getElem.2 fun i j hi hj hij => ?_
   have hj' : j < d'.size := by simpa using hj
   have h3 := hs i j (Nat.zero_le _) hij (by simpa [<- hsz] using hj')
   rw [lt_cfS] at h3
   have ei : d'[i]! = d'.toList[i]'(by simp; omega) := by simp [show i < d'.size by omega]
   have ej : d'[j]! = d'.toList[j]'(by simpa using hj') := by simp [hj']
   rw [ei, ej] at h3
   simpa using h3
  ·refine ⟨_, cap, by rw [show (d'.toList.map (·.1)).length = M.length by simpa using hsz], by rw [show (d'.toList.map (·.1)).length = M.length by simpa using hsz]; exact hlc, fun _ => ⟨g, 0, rfl, trivial, fun j u hu => ?_⟩⟩
   have hj : j < d'.size * 2 := by
    have := (List.getElem?_eq_some_iff.1 hu).1
    rw [yaq] at this
    simpa using this
   rw [yii d' j hj] at hu; rw [<- Option.some.inj hu]; exact (hH' j (by simpa using hj)).1
  ·exact ⟨rfl, rfl, rfl, size_sortWorldK_c encS 2 w g 0 n d' os, fun k hk => yhl g hg hgs n d' os hk⟩
end Go.Proofs.YteibnfeokgibmaaGreat
