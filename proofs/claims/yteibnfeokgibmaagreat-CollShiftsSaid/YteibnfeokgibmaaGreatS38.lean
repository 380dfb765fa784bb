/-
  PACKED for a claim.
-/
import Derived.Test.YteibnfeokgibmaaGreatS37
set_option linter.unusedVariables false
set_option linter.unusedSimpArgs false
set_option maxRecDepth 100000
section
namespace Go.Proofs.YteibnfeokgibmaaGreat
open Go.RowKit
variable {U : Nat -> Prop}
structure BelU (U : Nat -> Prop) (B px : Nat) : Prop where
 le : B <= px
 nu : ∀ k, B <= k -> U k
structure TA (U : Nat -> Prop) (B : Nat) (w : World) (px : Nat) (t : ST) : Prop where
 blk : ∃ q va, w.heap[px]? = some (.cells #[.pointer (some ⟨q, 0, none⟩), va, .bool t.A.isSome] 143 (0, 0)) /\ TabAt (fun k => va.ownBlock ≠ some k /\ (k ≠ px /\ U k)) w q t.L /\ OwnE B w va (t.A.getD [])
 bel : BelU U B px
theorem TA.lt {B : Nat} {w : World} {px : Nat} {t : ST} (h : TA U B w px t) : px < w.heap.size := by
 obtain ⟨⟨q, va, h1, h2, h3⟩, h4⟩ := h; exact R4.yad h1
theorem TA.below {B : Nat} {w w' : World} {px : Nat} {t : ST} (h : TA U B w px t) (hb : Below w.heap.size w w') : TA U B w' px t := by
 obtain ⟨⟨q, va, h1, h2, h3⟩, h4⟩ := h; exact ⟨⟨q, va, (hb.block _ (R4.yad h1)).trans h1, h2.below hb (zN _), R4.yas h3 hb (zN _)⟩, h4⟩
theorem TA.cells {B : Nat} {w : World} {px : Nat} {t : ST} (h : TA U B w px t) {A : List Nat} (hA : t.A.getD [] = A) : ∃ (q : Nat) (Aa : Option Addr) (c : Nat), w.cell? ⟨px, 0, none⟩ = some (.pointer (some ⟨q, 0, none⟩)) /\ w.cell? ⟨px, 1, none⟩ = some (.slice Aa A.length c) /\ w.cell? ⟨px, 2, none⟩ = some (.bool t.A.isSome) ∧
  w.frozen? ⟨px, 0, none⟩ = false /\ w.frozen? ⟨px, 1, none⟩ = false /\ w.frozen? ⟨px, 2, none⟩ = false /\ TabAt (fun k => (Value.slice Aa A.length c).ownBlock ≠ some k /\ (k ≠ px /\ U k)) w q t.L /\ OwnE B w (.slice Aa A.length c) A /\ RdE anyB w (.slice Aa A.length c) A := by
 subst hA; obtain ⟨⟨q, va, h1, h2, h3⟩, h4⟩ := h; have h5 := OwnE.rd (F := anyB) h3 fun _ _ => trivial
 obtain ⟨Aa, c, rfl⟩ := h5.form; exact ⟨q, Aa, c, by rw [cell_of_row w px 0 _ _ _ h1]; rfl, by rw [cell_of_row w px 1 _ _ _ h1]; rfl, by rw [cell_of_row w px 2 _ _ _ h1]; rfl, frozen_of_row w px 0 _ _ h1, frozen_of_row w px 1 _ _ h1, frozen_of_row w px 2 _ _ h1, h2, h3, h5⟩
end Go.Proofs.YteibnfeokgibmaaGreat
end
section
namespace Go.Proofs.YteibnfeokgibmaaGreat
open Go.RowKit
variable {U : Nat -> Prop}
end Go.Proofs.YteibnfeokgibmaaGreat
end
section
namespace Go.Proofs.YteibnfeokgibmaaGreat
open Go.RowKit
variable {U : Nat -> Prop}
end Go.Proofs.YteibnfeokgibmaaGreat
end
namespace Go.Proofs.YteibnfeokgibmaaGreat
open Go.RowKit
theorem yxo {B : Nat} {w : World} {A : Option Addr} {n c : Nat} {l : List Nat} (h : OwnE B w (.slice A n c) l) (hn : l.length = n) : w.ownsRow B 168 1 (.slice A n c) n (ev l) := by
 subst hn; exact h
structure AR (B : Nat) (w5 : World) (g n c : Nat) (l : List Nat) (wq : World) : Prop where
 gr : w5.grownBy wq (some g)
 keep : ∀ p u, IsSl u -> w5.cell? p = some u -> wq.cell? p = some u
 raw : wq.ownsRow B 168 1 (.slice (some ⟨g, 0, none⟩) n c) n (ev l)
 len : l.length = n
theorem AR.own {B : Nat} {w5 : World} {g n c : Nat} {l : List Nat} {wq : World} (h : AR B w5 g n c l wq) : OwnE B wq (.slice (some ⟨g, 0, none⟩) n c) l := by
 have h1 := h.raw; unfold OwnE; rw [h.len]; exact h1
theorem AR.start {B : Nat} {w5 : World} {g n c : Nat} {l : List Nat} (h : OwnE B w5 (.slice (some ⟨g, 0, none⟩) n c) l) (hn : l.length = n) : AR B w5 g n c l w5 := ⟨World.grownBy.refl _ _, fun _ _ _ h => h, yxo h hn, hn⟩
theorem AR.put {B : Nat} {w5 : World} {g n c : Nat} {l : List Nat} {wq : World} (h : AR B w5 g n c l wq) {j : Nat} (hj : j < n) (y : Nat) : AR B w5 g n c (l.set j y) (wq.setCell ⟨g, j, none⟩ (.int .u32 (y : Nat))) := by
 obtain ⟨s1, g1⟩ := World.ownsRow.stored h.raw j (.int .u32 (y : Nat)); have hl := h.len; refine ⟨h.gr.trans (R4.yae wq ⟨g, j, none⟩ _), fun p u hu hp => ?_, ?_, by rw [List.length_set]; exact hl⟩
 ·have hq := h.keep p u hu hp
  by_cases e : (⟨g, j, none⟩ : Addr) = p
  ·subst e; have h7 := World.ownsRow.cellAt h.raw j (by omega)
   rw [h7] at hq
   have h8 : (ev l)[j]? = some (.int .u32 ((l[j]'(by omega) : Nat) : Int)) := ev_at (List.getElem?_eq_getElem _)
   rw [h8] at hq; obtain ⟨A, m, k, rfl⟩ := hu
   cases hq
  ·rw [World.cell?_setCell_other _ _ _ _ e]; exact hq
 ·have e : (ev l).set j (.int .u32 (y : Nat)) = ev (l.set j y) := by unfold ev; rw [List.map_set]
  rw [e] at s1; exact s1
theorem AR.more {B : Nat} {w5 : World} {g n c : Nat} {l : List Nat} {wq w' : World} (h : AR B w5 g n c l wq) (hb : Below wq.heap.size wq w') : AR B w5 g n c l w' :=
 ⟨h.gr.trans ⟨hb.os, hb.tape, hb.output, hb.size, fun k hk _ => hb.block k hk⟩, fun p u hu hp => yac hb (h.keep p u hu hp), R4.yas h.raw hb (zN _), h.len⟩
theorem AR.blk {B : Nat} {w5 : World} {g n c : Nat} {l : List Nat} {wq : World} (h : AR B w5 g n c l wq) : ∃ cs, wq.heap[g]? = some (.cells cs 168 (0, 0)) := R4.ybq h.raw rfl
theorem AR.tab {B : Nat} {w5 : World} {g n c : Nat} {l l0 : List Nat} {wq : World} (h : AR B w5 g n c l wq) (h0 : OwnE B w5 (.slice (some ⟨g, 0, none⟩) n c) l0) {F : Nat -> Prop} {p : Nat} {L : List PE} (ht : TabAt F w5 p L) (hF : ∀ k, F k -> k ≠ g) : TabAt F wq p L := by
 obtain ⟨cs, hx⟩ := R4.ybq h0 rfl; exact ht.off hF h.gr hx (by decide) (by decide) (by decide) (by decide) fun o u1 u2 s1 s2 c1 c2 => ⟨h.keep _ _ s1 c1, h.keep _ _ s2 c2⟩
theorem AR.other {B : Nat} {w5 : World} {g n c : Nat} {l l0 : List Nat} {wq : World} (h : AR B w5 g n c l wq) (h0 : OwnE B w5 (.slice (some ⟨g, 0, none⟩) n c) l0) {k : Nat} {cs : Array Value} {T : TypeId} {fr : Nat × Nat} (hk : w5.heap[k]? = some (.cells cs T fr)) (hT : T ≠ 168) : wq.heap[k]? = some (.cells cs T fr) :=
 (h.gr.block k (R4.yad hk) (R4.yal h0 hk hT)).trans hk
end Go.Proofs.YteibnfeokgibmaaGreat
section
namespace Go.Proofs.YteibnfeokgibmaaGreat
open Go.RowKit
variable {U : Nat -> Prop}
def Kp (w w' : World) : Prop := ∀ (k : Nat) (cs : Array Value) (T : TypeId) (fr : Nat × Nat), w.heap[k]? = some (.cells cs T fr) -> T ≠ 168 -> T ≠ 143 -> w'.heap[k]? = some (.cells cs T fr)
theorem Kp.of_below {w w' : World} (h : Below w.heap.size w w') : Kp w w' := fun k cs T fr hk _ _ => (h.block k (R4.yad hk)).trans hk
theorem Kp.trans {a b c : World} (h : Kp a b) (h2 : Kp b c) : Kp a c := fun k cs T fr hk h1 h3 => h2 k cs T fr (h k cs T fr hk h1 h3) h1 h3
theorem Kp.px {w : World} {px i : Nat} {v : Value} {cs : Array Value} (hp : w.heap[px]? = some (.cells cs 143 (0, 0))) : Kp w (w.setCell ⟨px, i, none⟩ v) := fun k c2 T fr hk _ h3 => (Below.heap_setCell _ _ _ _ (by
 intro e
 have e : k = px := e
 rw [e, hp] at hk
 injection hk with hk
 injection hk with _ hk _
 exact h3 hk.symm)).trans hk
end Go.Proofs.YteibnfeokgibmaaGreat
end
section
namespace Go.Proofs.YteibnfeokgibmaaGreat
open Go.RowKit
variable {U : Nat -> Prop}
def SV.two (V : Value) (l : List Nat) : SV := ⟨fun v w => ∃ (g : Nat) (u : Value), v = .slice (some ⟨g, 0, none⟩) 2 2 /\ w.cell? ⟨g, 0, none⟩ = some V /\ w.cell? ⟨g, 1, none⟩ = some u /\ RdE anyB w u l, fun v w w' h hb => by
 obtain ⟨g, u, h1, h2, h3, h4⟩ := h; exact ⟨g, u, h1, yac hb h2, yac hb h3, h4.below hb (zN _)⟩⟩
theorem els_lt {L : List PE} (hg : GoodT L) (ss : List Int) : ∀ x ∈ elsP L ss, x < 4294967296 := ysk hg ss.length ss (zN _)
theorem ysj {L : List PE} (hg : GoodT L) (ss : List Int) : (elsP L ss).length <= 8 * ss.length := ynf hg ss.length ss (zN _)
end Go.Proofs.YteibnfeokgibmaaGreat
end
namespace Go.Proofs.YteibnfeokgibmaaGreat
open Go.RowKit
theorem RdF.pstep {P Q : Nat -> Prop} {w w' : World} {v : Value} {n : Nat} {xs : List Value} (hr : RdF P w v n xs) (hf : ∀ k, P k -> w'.heap[k]? = w.heap[k]? /\ Q k) : RdF Q w' v n xs := by
 obtain ⟨A, c, rfl, hc, hr⟩ := hr; refine ⟨A, c, rfl, hc, fun h0 => ?_⟩
 obtain ⟨g, o, e, hg, hx⟩ := hr h0; obtain ⟨e2, hq⟩ := hf g hg; refine ⟨g, o, e, hq, fun j u hu => ?_⟩
 rw [World.cell?_of_block (w := w) (a := ⟨g, o + j, none⟩) e2]; exact hx j u hu
theorem KR.lt {w : World} {k : Nat} (h : KR w k) : k < w.heap.size := by
 obtain ⟨cs, T, fr, h1, _⟩ := h; exact R4.yad h1
theorem NotN.lt {w : World} {k : Nat} (h : NotN w k) : k < w.heap.size := by
 obtain ⟨cs, T, fr, h1, _⟩ := h; exact R4.yad h1
theorem KR.to {w w' : World} {k : Nat} (h : KR w k) (e : w'.heap[k]? = w.heap[k]?) : KR w' k := by
 obtain ⟨cs, T, fr, h1, h2⟩ := h; exact ⟨cs, T, fr, e.trans h1, h2⟩
theorem NotN.to {w w' : World} {k : Nat} (h : NotN w k) (e : w'.heap[k]? = w.heap[k]?) : NotN w' k := by
 obtain ⟨cs, T, fr, h1, h2⟩ := h; exact ⟨cs, T, fr, e.trans h1, h2⟩
def EntW (b : Nat) (w : World) (m : ME) : Prop := RdF (fun k => k < b /\ KR w k) w m.vs m.s.length (iv m.s) /\ RdF (fun k => b + 1 <= k /\ NotN w k) w m.vl m.l.length (qcells m.l)
theorem EntW.step {b : Nat} {w w' : World} {m : ME} (h : EntW b w m) (h1 : ∀ k, k < b -> k < w.heap.size -> w'.heap[k]? = w.heap[k]?) (h2 : ∀ k, b + 1 <= k -> NotN w k -> w'.heap[k]? = w.heap[k]?) : EntW b w' m :=
 ⟨RdF.pstep h.1 fun k hk => have e := h1 k hk.1 hk.2.lt; ⟨e, hk.1, hk.2.to e⟩, RdF.pstep h.2 fun k hk => have e := h2 k hk.1 hk.2; ⟨e, hk.1, hk.2.to e⟩⟩
theorem EntW.below {b : Nat} {w w' : World} {m : ME} (h : EntW b w m) (hb : Below w.heap.size w w') : EntW b w' m := h.step (fun k _ hk => hb.block k hk) fun k _ hk => hb.block k hk.lt
theorem EntW.grown {b : Nat} {w w' : World} {v : Value} {M : List ME} {m : ME} (h : EntW b w m) (ho : OwnN (b + 1) w v M) (hg : w.grownBy w' v.ownBlock) : EntW b w' m := h.step
 (fun k hk hl => hg.block k hl (by
  intro e
  have := (World.ownsRow.lt ho k e.symm).1
  omega))
 fun k _ hk => hg.block k hk.lt (by
  obtain ⟨cs, T, fr, h1, h2⟩ := hk; exact R4.yal ho h1 (by rcases h2 with e | e <;> (rw [e]; decide)))
theorem EntW.off {b : Nat} {w w' : World} {m : ME} (h : EntW b w m) (hg : w.grownBy w' (some b)) : EntW b w' m := h.step (fun k hk hl => hg.block k hl (by intro e; injection e with e; omega)) fun k hk hn => hg.block k hn.lt (by intro e; injection e with e; omega)
theorem EntW.ok {b : Nat} {w : World} {m : ME} (h : EntW b w m) : EntU anyB w m := ⟨RdF.mono h.1 fun k hk => ⟨trivial, hk.2⟩, RdF.mono h.2 fun k hk => ⟨trivial, hk.2.kr⟩⟩
structure VS (w0 : World) (b : Nat) (f : Nat -> Nat) (L : List PE) (k : Nat) (wr : World) : Prop where
 own : ∃ v M, wr.heap[b]? = some (.cells #[v] 40 (0, 0)) /\ OwnN (b + 1) wr v M /\ pls M = mapP f (L.take k) /\ ∀ m ∈ M, EntW b wr m
 bel : Below b w0 wr
theorem VS.more {w0 : World} {b : Nat} {f : Nat -> Nat} {L : List PE} {k : Nat} {wr wr' : World} (h : VS w0 b f L k wr) (hb : Below wr.heap.size wr wr') : VS w0 b f L k wr' := by
 obtain ⟨⟨v, M, h1, h2, h3, h4⟩, h5⟩ := h; exact ⟨⟨v, M, (hb.block _ (R4.yad h1)).trans h1, h2.below hb (zN _), h3, fun m hm => (h4 m hm).below hb⟩, h5.trans (hb.mono (Nat.le_of_lt (R4.yad h1)))⟩
theorem VS.start (w0 : World) (f : Nat -> Nat) (L : List PE) : VS w0 w0.heap.size f L 0 (w0.alloc (.cells #[.slice none 0 0] 40)) :=
 ⟨⟨_, [], heap_alloc_new w0 _, World.ownsRow_nil _ _ _ _, rfl, fun m hm => by cases hm⟩, yaa w0 _⟩
theorem VS.form {w0 : World} {b : Nat} {f : Nat -> Nat} {L : List PE} {k : Nat} {wr : World} (h : VS w0 b f L k wr) (hk : k <= L.length) : ∃ A c M, wr.heap[b]? = some (.cells #[.slice A k c] 40 (0, 0)) /\ OwnN (b + 1) wr (.slice A k c) M /\ M.length = k /\ pls M = mapP f (L.take k) /\ ∀ m ∈ M, EntW b wr m := by
 obtain ⟨⟨v, M, h1, h2, h3, h4⟩, h5⟩ := h; obtain ⟨A, c, rfl⟩ := h2.form
 have hl : M.length = k := by rw [<- yap, h3, ycs, List.length_take]; omega
 rw [hl] at h1 h2; exact ⟨A, c, M, h1, h2, hl, h3, h4⟩
theorem VS.put {w0 w6 w7 : World} {b : Nat} {f : Nat -> Nat} {L : List PE} {k : Nat} {v v' : Value} {M : List ME} {m : ME} {e : PE} (hbel : Below b w0 w6) (hv : w6.heap[b]? = some (.cells #[v] 40 (0, 0))) (ho : OwnN (b + 1) w6 v M) (hp : pls M = mapP f (L.take k)) (hE : ∀ q ∈ M, EntW b w6 q) (hm : EntW b w6 m) (hk : L[k]? = some e) (hme : m.pl = mpE f e)
  (ho7 : OwnN (b + 1) w7 v' (M ++ [m])) (hg : w6.grownBy w7 v.ownBlock) : VS w0 b f L (k + 1) (w7.setCell ⟨b, 0, none⟩ v') := by
 have hg2 := R4.yae w7 ⟨b, 0, none⟩ v'; have hbl := R4.yad hv
 have hv7 : w7.heap[b]? = some (.cells #[v] 40 (0, 0)) := (hg.block b hbl (by
  intro e
  have := (World.ownsRow.lt ho b e.symm).1
  omega)).trans hv
 have hv8 := heap_setCell_same w7 b 0 _ _ v' hv7; refine ⟨⟨v', M ++ [m], hv8, ybt ho7 hg2 (Nat.lt_succ_self _), ?_, fun q hq => ?_⟩, (hbel.grown hg (Nat.le_of_lt hbl) fun j hj => ?_).setCell (by show _ <= b; exact zN _) _⟩
 ·rw [yav, hp, List.take_add_one, hk]
  simp [mapP, pls, hme]
 ·rcases List.mem_append.1 hq with hq | hq
  ·exact ((hE q hq).grown ho hg).off hg2
  ·simp at hq
   subst hq; exact (hm.grown ho hg).off hg2
 ·have := (World.ownsRow.lt ho j hj).1
  omega
theorem VS.done {w0 : World} {b : Nat} {f : Nat -> Nat} {L : List PE} {wr : World} {n : Nat} (h : VS w0 b f L n wr) (hn : L.length = n) : ∃ A c, wr.heap[b]? = some (.cells #[.slice A n c] 40 (0, 0)) /\ RefT wr (.slice A n c) (mapP f L) := by
 obtain ⟨A, c, M, h1, h2, h3, h4, h5⟩ := h.form (Nat.le_of_eq hn.symm); rw [<- hn, List.take_length] at h4; refine ⟨A, c, h1, M, h4, ?_, fun m hm => (h5 m hm).ok⟩
 rw [h3]; unfold OwnN at h2; rw [h3] at h2; exact RdF.kown h2 (.inl rfl) fun _ _ => trivial
theorem yan {w : World} {b i : Nat} {cs : Array Value} {T : TypeId} {fr : Nat × Nat} {v : Value} (h : w.heap[b]? = some (.cells cs T fr)) (hv : cs[i]? = some v) : w.cell? ⟨b, i, none⟩ = some v := by rw [cell_of_row w b i _ _ _ h]; exact hv
theorem yil {l0 : List Nat} {k i : Nat} (hk : l0.length = k) (xs : List Value) (v : Value) (hi : i < xs.length) : (qcells l0 ++ xs).set (k * 4 + i) v = qcells l0 ++ xs.set i v := by
 rw [List.set_append_right _ _ (by rw [yck, hk]; omega), yck, hk, show k * 4 + i - k * 4 = i by omega]
structure QR (B : Nat) (w : World) (g n c k : Nat) (l0 : List Nat) (P S T V : Value) : Prop where
 row : w.ownsRow B 77 4 (.slice (some ⟨g, 0, none⟩) n c) n (qcells l0 ++ [P, S, T, V])
 len : l0.length = k /\ n = k + 1
theorem QR.cell {B : Nat} {w : World} {g n c k : Nat} {l0 : List Nat} {P S T V : Value} (h : QR B w g n c k l0 P S T V) (i : Nat) (hi : i < 4) {u : Value} (hu : ([P, S, T, V] : List Value)[i]? = some u) : w.cell? ⟨g, k * 4 + i, none⟩ = some u /\ w.frozen? ⟨g, k * 4 + i, none⟩ = false := by
 obtain ⟨h1, h2, h3⟩ := h; refine ⟨?_, h1.frozenAt _⟩; rw [h1.cellAt _ (by omega), List.getElem?_append_right (by rw [yck, h2]; omega), yck, h2, show k * 4 + i - k * 4 = i by omega]
 exact hu
theorem QR.set0 {B : Nat} {w : World} {g n c k : Nat} {l0 : List Nat} {P S T V : Value} (h : QR B w g n c k l0 P S T V) (X : Value) : QR B (w.setCell ⟨g, k * 4, none⟩ X) g n c k l0 X S T V := by
 refine ⟨?_, h.len⟩
 have := (h.row.stored (k * 4 + 0) X).1
 rw [yil h.len.1 _ _ (by simp)] at this
 exact this
theorem QR.set1 {B : Nat} {w : World} {g n c k : Nat} {l0 : List Nat} {P S T V : Value} (h : QR B w g n c k l0 P S T V) (X : Value) : QR B (w.setCell ⟨g, k * 4 + 1, none⟩ X) g n c k l0 P X T V := by
 refine ⟨?_, h.len⟩
 have := (h.row.stored (k * 4 + 1) X).1
 rw [yil h.len.1 _ _ (by simp)] at this
 exact this
theorem QR.set2 {B : Nat} {w : World} {g n c k : Nat} {l0 : List Nat} {P S T V : Value} (h : QR B w g n c k l0 P S T V) (X : Value) : QR B (w.setCell ⟨g, k * 4 + 2, none⟩ X) g n c k l0 P S X V := by
 refine ⟨?_, h.len⟩
 have := (h.row.stored (k * 4 + 2) X).1
 rw [yil h.len.1 _ _ (by simp)] at this
 exact this
theorem QR.done {B : Nat} {w : World} {g n c k : Nat} {l0 : List Nat} {P S T V : Value} (h : QR B w g n c k l0 P S T V) {z : Nat} (hz : q4 z = [P, S, T, V]) : OwnQ B w (.slice (some ⟨g, 0, none⟩) n c) (l0 ++ [z]) := by
 unfold OwnQ
 have hq : qcells [z] = q4 z := by unfold qcells; simp
 rw [yht, hq, hz, List.length_append, h.len.1]; simp only [List.length_cons, List.length_nil]; have h1 := h.row; rw [h.len.2] at h1 |-; exact h1
theorem QR.ref {B b : Nat} {w w3 wq : World} {v : Value} {L : List PE} (h : RefT w v L) (hb : Below w.heap.size w wq) : RefT wq v L := h.below hb (zN _)
end Go.Proofs.YteibnfeokgibmaaGreat
