/-
  PACKED for a claim.
-/
import Derived.Laws.CopyOwn
import Derived.Lib.AppendZerosOnto
import Derived.Lib.Overlaps
import Derived.Lib.JoinLaws
import Derived.Laws.Externs
import Derived.Defers
import Derived.Recover
import Derived.Test.YteibnfeokgibmaaGreatS34
set_option linter.unusedVariables false
set_option linter.unusedSimpArgs false
set_option maxRecDepth 100000
section
namespace Go.Proofs.YteibnfeokgibmaaGreat
open Go.RowKit
def seqs (L : List PE) : List (List Int) := L.map (·.1)
theorem yoe {L L' : List PE} (h : seqs L = seqs L') (s : List Int) : place L s = place L' s := by
 have e : ∀ K : List PE, place K s = (seqs K).findIdx? (· == s) := fun K => by
  unfold place seqs; rw [List.findIdx?_map]; rfl
 rw [e L, e L', h]
theorem yjs : ∀ {L L' : List PE} (k : Nat), seqs L = seqs L' -> ones k L = ones k L'
 | [], [], _, _ => rfl
 | [], _ :: _, _, h => by simp [seqs] at h
 | _ :: _, [], _, h => by simp [seqs] at h
 | e :: t, e' :: t', k, h => by
  simp only [seqs, List.map_cons, List.cons.injEq] at h; rw [ones, ones, h.1, yjs (k + 1) h.2]
theorem ytt {L L' : List PE} (h : seqs L = seqs L') : L.length = L'.length := by
 have := congrArg List.length h
 simpa [seqs] using this
theorem KMap.seqs {kt : TypeId} {n : Nat} {w : World} {b : Nat} {L L' : List PE} (h : KMap kt n w b L) (e : seqs L = seqs L') : KMap kt n w b L' := by
 obtain ⟨m, D, h1, h2, h3⟩ := h; exact ⟨m, D, by rw [<- ytt e]; exact h1, h2, fun s kl hs hk => by rw [<- yoe e]; exact h3 s kl hs hk⟩
theorem TabAt.parts {F : Nat -> Prop} {w : World} {p : Nat} {L : List PE} (h : TabAt F w p L) : ∃ (A : Option Addr) (c bo b2 b3 : Nat), w.heap[p]? = some (.cells #[.slice A L.length c, .pointer (some ⟨bo, 0, none⟩), .map (some b2), .map (some b3)] 122 (0, 0)) /\ RdT F w (.slice A L.length c) L /\ R4.TrieAt w bo (R4.rowsF 17412 (R4.findP (ones 0 L))) /\ KMap 126 2 w b2 L /\ KMap 127 3 w b3 L := by
 obtain ⟨hg, ve, bo, b2, b3, h1, h2, h3, h4, h5⟩ := h; obtain ⟨A, c, rfl⟩ := h2.form; exact ⟨A, c, bo, b2, b3, h1, h2, h3, h4, h5⟩
set_option maxHeartbeats 1000000 in
theorem of_raw {w : World} {p bo b2 b3 : Nat} {ve v : Value} (h : w.heap[p]? = some (.cells #[ve, .pointer (some ⟨bo, 0, none⟩), .map (some b2), .map (some b3)] 122 (0, 0))) (hv : ve.oneCell' = true) (hv2 : v.oneCell' = true) {A : Option Addr} {n c : Nat} (hve : ve = .slice A n c) {A' : Option Addr} {n' c' : Nat} (hvv : v = .slice A' n' c') :
  Calls Tryz.prog 129 #[.pointer (some ⟨p, 0, none⟩), v] w fun e w' => (∃ q, e = .returned (.pointer (some ⟨q, 0, none⟩)) /\ w'.heap[q]? = some (.cells #[v, .pointer (some ⟨bo, 0, none⟩), .map (some b2), .map (some b3)] 122 (0, 0))) /\ Below w.heap.size w w' := by
 subst hve; subst hvv
 have d0 : w.cell? ⟨p, 0, none⟩ = some (.slice A n c) := by rw [cell_of_row w p 0 _ _ _ h]; rfl
 have d1 : w.cell? ⟨p, 1, none⟩ = some (.pointer (some ⟨bo, 0, none⟩)) := by rw [cell_of_row w p 1 _ _ _ h]; rfl
 have d2 : w.cell? ⟨p, 2, none⟩ = some (.map (some b2)) := by rw [cell_of_row w p 2 _ _ _ h]; rfl
 have d3 : w.cell? ⟨p, 3, none⟩ = some (.map (some b3)) := by rw [cell_of_row w p 3 _ _ _ h]; rfl
 have hn := heap_alloc_new w (.cells #[.slice A' n' c', .pointer (some ⟨bo, 0, none⟩), .map (some b2), .map (some b3)] 122); have HN := zH hn; clear h hn hv hv2
 go_enter Tryz.func129, Tryz.ntmps129
 go_wp2
 go_ret
 exact ⟨⟨_, rfl, HN.out⟩, yaa w _⟩
theorem of_any {F : Nat -> Prop} {w w1 : World} {p : Nat} {L L' : List PE} {v : Value} (hb1 : Below w.heap.size w w1) (h : TabAt F w p L) (hv : RdT F w1 v L') (hg : GoodT L') (e : seqs L = seqs L') :
  Calls Tryz.prog 129 #[.pointer (some ⟨p, 0, none⟩), v] w1 fun r w' => (∃ q, r = .returned (.pointer (some ⟨q, 0, none⟩)) /\ TabAt F w' q L') /\ Below w1.heap.size w1 w' := by
 obtain ⟨A, c, bo, b2, b3, h1, h2, h3, h4, h5⟩ := (h.below hb1 (zN _)).parts; obtain ⟨A', c', rfl⟩ := hv.form; refine (of_raw h1 rfl rfl rfl rfl).mono fun r w' => ?_
 rintro ⟨⟨q, rfl, hq⟩, hb⟩; refine ⟨⟨q, rfl, hg, _, bo, b2, b3, hq, hv.below hb (zN _), ?_, (h4.below hb (zN _)).seqs e, (h5.below hb (zN _)).seqs e⟩, hb⟩
 have := h3.below hb (zN _)
 rw [yjs 0 e] at this; exact this
end Go.Proofs.YteibnfeokgibmaaGreat
namespace Go.Proofs.YteibnfeokgibmaaGreat
open Go.RowKit
structure WSt (F : Nat -> Prop) (w : World) (p : Nat) (L : List PE) (s : List Int) (l : List Nat) (va vb : Value) (wr : World) : Prop where
 bel : Below w.heap.size w wr
 ent : EntOk F wr ⟨va, vb, s, l⟩
theorem WSt.more {F : Nat -> Prop} {w : World} {p : Nat} {L : List PE} {s : List Int} {l : List Nat} {va vb : Value} {wr wr' : World} (h : WSt F w p L s l va vb wr) (hb : Below wr.heap.size wr wr') : WSt F w p L s l va vb wr' :=
 ⟨h.bel.trans (hb.mono h.bel.size), h.ent.below hb (zN _)⟩
theorem RdF.lt {F : Nat -> Prop} {w : World} {v : Value} {n : Nat} {xs : List Value} (h : RdF F w v n xs) (hx : xs.length = n) : RdF (fun g => F g /\ g < w.heap.size) w v n xs := by
 obtain ⟨A, c, rfl, hc, h⟩ := h; refine ⟨A, c, rfl, hc, fun h0 => ?_⟩
 obtain ⟨g, o, e, hg, hxx⟩ := h h0; refine ⟨g, o, e, ⟨hg, ?_⟩, hxx⟩; obtain ⟨y, t, rfl⟩ : ∃ y t, xs = y :: t := by cases xs with | nil => simp at hx; omega | cons y t => exact ⟨y, t, rfl⟩
 exact yaq (hxx 0 y rfl)
theorem EntOk.lt {F : Nat -> Prop} {w : World} {m : ME} (h : EntOk F w m) : EntOk (fun g => F g /\ g < w.heap.size) w m := ⟨RdF.lt h.1 (iv_len m.s), RdF.lt h.2 (ev_len m.l)⟩
end Go.Proofs.YteibnfeokgibmaaGreat
namespace Go.Proofs.YteibnfeokgibmaaGreat
open Go.RowKit
theorem yoi {M : List ME} {x : ME} {k : Nat} (hk : k < M.length) : ((mcells M).set (k * 2) x.vs).set (k * 2 + 1) x.vl = mcells (M.set k x) := by
 have h1 : M = M.take k ++ M[k] :: M.drop (k + 1) := by rw [<- List.drop_eq_getElem_cons hk, List.take_append_drop]
 have h2 : M.set k x = M.take k ++ [x] ++ M.drop (k + 1) := by rw [List.set_eq_take_append_cons_drop, if_pos hk, List.append_assoc]; rfl
 rw [h2]
 conv => lhs; rw [h1]
 exact yhw (m := x) (by rw [List.length_take]; omega)
end Go.Proofs.YteibnfeokgibmaaGreat
end
namespace Go.Proofs.YteibnfeokgibmaaGreat
open Go.RowKit
theorem yok (f : Nat -> Nat) (L : List PE) : seqs L = seqs (mapP f L) := (yrn f L).symm
theorem yrm {f : Nat -> Nat} {L : List PE} {k : Nat} {e : PE} (hk : L[k]? = some e) : (mapP f (L.take k) ++ L.drop k).set k (mpE f e) = mapP f (L.take (k + 1)) ++ L.drop (k + 1) := by
 have hlt := (List.getElem?_eq_some_iff.1 hk).1
 have hl : (mapP f (L.take k)).length = k := by rw [ycs, List.length_take]; omega
 rw [List.set_append_right (s := mapP f (L.take k)) k _ (by omega), hl, Nat.sub_self, List.take_add_one, hk, List.drop_eq_getElem_cons hlt, zA]
 simp [mapP]
structure MS (F : Nat -> Prop) (w : World) (f : Nat -> Nat) (A : Option Addr) (g n c : Nat) (L : List PE) (k : Nat) (wr : World) : Prop where
 own : ∃ M, pls M = mapP f (L.take k) ++ L.drop k /\ wr.ownsRow w.heap.size 88 2 (.slice A n c) n (mcells M) /\ ∀ m ∈ M, EntOk (fun j => F j /\ j ≠ g) wr m
 bel : Below w.heap.size w wr
 adr : 0 < n -> A = some ⟨g, 0, none⟩
theorem MS.more {F : Nat -> Prop} {w : World} {f : Nat -> Nat} {A : Option Addr} {g n c : Nat} {L : List PE} {k : Nat} {wr wr' : World} (h : MS F w f A g n c L k wr) (hb : Below wr.heap.size wr wr') : MS F w f A g n c L k wr' := by
 obtain ⟨⟨M, h1, h2, h3⟩, h4, h5⟩ := h; exact ⟨⟨M, h1, R4.yas h2 hb (zN _), fun m hm => (h3 m hm).below hb (zN _)⟩, h4.trans (hb.mono h4.size), h5⟩
theorem MS.start {F : Nat -> Prop} {w w1 : World} {f : Nat -> Nat} {M : List ME} {v : Value} {n : Nat} {L : List PE} (hL : pls M = L) (hn : L.length = n) (ho : OwnM w.heap.size w1 v M) (hM : ∀ m ∈ M, EntOk F w m) (hb : Below w.heap.size w w1) : ∃ A g c, v = .slice A n c /\ MS F w f A g n c L 0 w1 := by
 have hMn : M.length = n := by rw [<- yap, hL, hn]
 unfold OwnM at ho; rw [hMn] at ho; obtain ⟨A, c, rfl, _, hr⟩ := R4.yah ho
 have hE : ∀ g, w.heap.size <= g -> ∀ m ∈ M, EntOk (fun j => F j /\ j ≠ g) w1 m := fun g hg m hm =>
  ((hM m hm).lt.below hb (zN _)).mono fun j hj => ⟨hj.1, by omega⟩
 by_cases h0 : 0 < n
 ·obtain ⟨g, rfl, h1, h2, _⟩ := hr h0; exact ⟨_, g, c, rfl, ⟨M, by simp [hL, mapP], ho, hE g h1⟩, hb, fun _ => rfl⟩
 ·exact ⟨A, w.heap.size, c, rfl, ⟨M, by simp [hL, mapP], ho, hE _ (zN _)⟩, hb, fun h => absurd h h0⟩
theorem yri {M : List ME} {m : ME} {k : Nat} (hk : M[k]? = some m) (u : Value) (l : List Nat) : (mcells M).set (k * 2 + 1) u = mcells (M.set k ⟨m.vs, u, m.s, l⟩) := by
 have hlt := (List.getElem?_eq_some_iff.1 hk).1; rw [<- yoi (x := ⟨m.vs, u, m.s, l⟩) hlt]; have h1 := (ycm hk).1; obtain ⟨h2, h3⟩ := List.getElem?_eq_some_iff.1 h1
 congr 1
 rw [<- h3, List.set_getElem_self]
theorem MS.put {F : Nat -> Prop} {w w2 : World} {f : Nat -> Nat} {g n c : Nat} {L : List PE} {k : Nat} {wr : World} {e : PE} {u : Value} (h : MS F w f (some ⟨g, 0, none⟩) g n c L k wr) (hb : Below wr.heap.size wr w2) (hk : L[k]? = some e) (hu : RdE (fun j => wr.heap.size <= j) w2 u (e.2.map (f))) (hF : ∀ j, w.heap.size <= j -> F j) :
  MS F w f (some ⟨g, 0, none⟩) g n c L (k + 1) (w2.setCell ⟨g, k * 2 + 1, none⟩ u) := by
 obtain ⟨⟨M, h1, h2, h3⟩, h4, h5⟩ := h; have hlt := (List.getElem?_eq_some_iff.1 hk).1; have hgB := World.ownsRow.lt h2 g rfl; have h2' := R4.yas h2 hb (zN _); obtain ⟨s1, g1⟩ := h2'.stored (k * 2 + 1) u
 have hMk : (pls M)[k]? = some e := by
  rw [h1]
  have hl : (mapP f (L.take k)).length = k := by rw [ycs, List.length_take]; omega
  rw [List.getElem?_append_right (by omega), hl, Nat.sub_self, List.getElem?_drop]
  exact hk
 obtain ⟨m, hm, hme⟩ : ∃ m, M[k]? = some m /\ m.pl = e := pls_of hMk; rw [yri hm u (e.2.map (f))] at s1; have h4' := h4.trans (hb.mono h4.size)
 have hms : m.s = e.1 := by rw [<- hme]; rfl
 refine ⟨⟨_, ?_, s1, fun q hq => ?_⟩, h4'.setCell (by show _ <= g; exact hgB.1) _, fun _ => rfl⟩
 ·rw [<- yrm hk, <- h1]
  simp [pls, ME.pl, List.map_set, mpE, hms]
 ·rcases List.mem_or_eq_of_mem_set hq with hq | rfl
  ·exact ((h3 q hq).below hb (zN _)).frame fun j hj hl => g1.block j hl (by intro e'; injection e' with e'; exact hj.2 e')
  ·have hm3 := (h3 m (List.mem_of_getElem? hm)).below hb (zN _); refine EntOk.frame ⟨hm3.1, RdF.mono hu fun j hj => ⟨hF j (Nat.le_trans h4.size hj), by omega⟩⟩ fun j hj hl => g1.block j hl (by intro e'; injection e' with e'; exact hj.2 e')
theorem MS.at_ {F : Nat -> Prop} {w : World} {f : Nat -> Nat} {A : Option Addr} {g n c : Nat} {L : List PE} {k : Nat} {wr : World} {e : PE} (h : MS F w f A g n c L k wr) (hn : L.length = n) (hk : L[k]? = some e) : A = some ⟨g, 0, none⟩ /\ ∃ vs vl, wr.cell? ⟨g, k * 2, none⟩ = some vs /\ wr.cell? ⟨g, k * 2 + 1, none⟩ = some vl /\ wr.frozen? ⟨g, k * 2 + 1, none⟩ = false /\ RdI anyB wr vs e.1 /\ RdE anyB wr vl e.2 /\ g < wr.heap.size := by
 obtain ⟨⟨M, h1, h2, h3⟩, h4, h5⟩ := h; have hlt := (List.getElem?_eq_some_iff.1 hk).1; obtain rfl := h5 (by omega)
 have hMk : (pls M)[k]? = some e := by
  rw [h1]
  have hl : (mapP f (L.take k)).length = k := by rw [ycs, List.length_take]; omega
  rw [List.getElem?_append_right (by omega), hl, Nat.sub_self, List.getElem?_drop]
  exact hk
 obtain ⟨m, hm, rfl⟩ : ∃ m, M[k]? = some m /\ m.pl = e := pls_of hMk
 have hMn : M.length = n := by
  rw [<- yap, h1, List.length_append, ycs, List.length_take, List.length_drop]; omega
 obtain ⟨c0, c1⟩ := ycm hm
 have hml : (mcells M).length = n * 2 := by rw [yax, hMn]
 refine ⟨rfl, m.vs, m.vl, ?_, ?_, h2.frozenAt _, RdF.any (h3 m (List.mem_of_getElem? hm)).1, RdF.any (h3 m (List.mem_of_getElem? hm)).2, (World.ownsRow.lt h2 g rfl).2⟩
 ·rw [h2.cellAt _ (by omega)]; exact c0
 ·rw [h2.cellAt _ (by omega)]; exact c1
theorem MS.done {F : Nat -> Prop} {w : World} {f : Nat -> Nat} {A : Option Addr} {g n c : Nat} {L : List PE} {wr : World} (h : MS F w f A g n c L n wr) (hn : L.length = n) : RdT F wr (.slice A n c) (mapP f L) := by
 obtain ⟨⟨M, h1, h2, h3⟩, h4, h5⟩ := h; rw [<- hn, List.take_length, List.drop_length, List.append_nil] at h1
 have hMn : M.length = n := by rw [<- yap, h1, ycs, hn]
 refine ⟨M, h1, ?_, fun m hm => (h3 m hm).mono fun j hj => hj.1⟩
 rw [hMn]; exact RdF.of_own h2 fun _ _ => trivial
structure IS (wx : World) (f : Nat -> Nat) (h n : Nat) (l : List Nat) (j : Nat) (wr : World) : Prop where
 own : wr.ownsRow h 168 1 (.slice (some ⟨h, 0, none⟩) n n) n (ev ((l.take j).map (f) ++ List.replicate (n - j) 0))
 bel : Below wx.heap.size wx wr
theorem IS.more {wx : World} {f : Nat -> Nat} {h n : Nat} {l : List Nat} {j : Nat} {wr wr' : World} (hh : IS wx f h n l j wr) (hb : Below wr.heap.size wr wr') : IS wx f h n l j wr' := ⟨R4.yas hh.own hb (zN _), hh.bel.trans (hb.mono hh.bel.size)⟩
theorem yya (n : Nat) : (madeCells (Value.int .u32 0).cells (n * 1)).toList = ev (List.replicate n 0) := by
 apply List.ext_getElem?
 intro j
 by_cases hj : j < n
 ·simp [madeCells, Value.cells, ev, hj]
  rw [Nat.mod_one]; rfl
 ·simp [madeCells, Value.cells, ev, hj]
theorem IS.put {wx : World} {f : Nat -> Nat} {h n : Nat} {l : List Nat} {j y : Nat} {wr : World} (hh : IS wx f h n l j wr) (hn : l.length = n) (hj : l[j]? = some y) (hB : wx.heap.size <= h) : IS wx f h n l (j + 1) (wr.setCell ⟨h, j, none⟩ (.int .u32 (f y : Nat))) := by
 have hlt := (List.getElem?_eq_some_iff.1 hj).1; obtain ⟨s1, g1⟩ := hh.own.stored j (.int .u32 (f y : Nat)); refine ⟨?_, hh.bel.setCell (by show _ <= h; exact hB) _⟩
 have hl : ((l.take j).map (f)).length = j := by rw [List.length_map, List.length_take]; omega
 have he : (ev ((l.take j).map (f) ++ List.replicate (n - j) 0)).set j (.int .u32 (f y : Nat)) = ev ((l.take (j + 1)).map (f) ++ List.replicate (n - (j + 1)) 0) := by
  rw [show ev ((l.take j).map (f) ++ List.replicate (n - j) 0) = ev ((l.take j).map (f)) ++ ev (List.replicate (n - j) 0) from ev_app _ _]
  have hl2 : (ev ((l.take j).map (f))).length = j := by rw [ev_len, hl]
  rw [List.set_append_right _ _ (by omega), hl2, Nat.sub_self, show n - j = (n - (j + 1)) + 1 by omega, List.replicate_succ, List.take_add_one, hj]
  simp [ev]
 rw [<- he]; exact s1
theorem IS.cells {wx : World} {f : Nat -> Nat} {h n : Nat} {l : List Nat} {j : Nat} {wr : World} (hh : IS wx f h n l j wr) (hn : l.length = n) (hj : j < n) : (∃ u, wr.cell? ⟨h, j, none⟩ = some u) /\ wr.frozen? ⟨h, j, none⟩ = false := by
 refine ⟨?_, hh.own.frozenAt j⟩
 have hl : (ev ((l.take j).map (f) ++ List.replicate (n - j) 0)).length = n := by rw [ev_len, List.length_append, List.length_map, List.length_take, List.length_replicate]; omega
 rw [hh.own.cellAt _ (by omega), List.getElem?_eq_getElem (by omega)]; exact ⟨_, rfl⟩
theorem IS.done {wx : World} {f : Nat -> Nat} {h n : Nat} {l : List Nat} {wr : World} (hh : IS wx f h n l n wr) (hn : l.length = n) (hB : wx.heap.size <= h) : RdE (fun j => wx.heap.size <= j) wr (.slice (some ⟨h, 0, none⟩) n n) (l.map (f)) := by
 have h2 := hh.own; rw [Nat.sub_self, List.replicate_zero, List.append_nil, <- hn, List.take_length, hn] at h2; unfold RdE; rw [List.length_map, hn]; exact RdF.of_own h2 fun k hk => by omega
theorem ytn (e : Nat) (w : World) : Calls Tryz.prog 84 #[.int .u32 (e : Nat)] w fun r w' => r = .returned (.int .u32 (id e : Nat)) /\ w = w' := by
 go_enter Tryz.func84, Tryz.ntmps84
 go_wp2
 go_ret
 exact ⟨rfl, rfl⟩
theorem yoy (p q : Addr) (w : World) :
  CallsD Tryz.prog 174 #[.pointer (some p), .pointer (some q)] .returning w fun e u' w' => e = .returned (.tuple #[]) /\ u' = .returning /\ w' = w := by
 refine callsD_of_wpS Tryz.func174 rfl fun c₀ cs hu => ?_
 apply wpS_seq
 apply wpS_region
 simp [wpOpsS, go_sem, recoverD, hu, Tryz.ntmps174, Exit.thenS]
 refine wpS_cond (t := false) (by simp [Act.eval, Array.replicate]) ?_
 simp only [Bool.false_eq_true, if_false]; refine wpS_of_wp (wp_skip ?_)
 cases c₀
 simp_all [bodyPostS, results, Tryz.results174]
set_option maxHeartbeats 1000000 in
theorem yks {e : Nat} (he : e < 4294967296) {w : World} :
  Calls Tryz.prog 128 #[.func (.func 84) #[] #[], .int .u32 (e : Int)] w fun r w' => r = .returned (.int .u32 (id e : Nat)) /\ Below w.heap.size w w' := by
 have hmf : ∀ (fn : Fn) (first cap : Array Value) (w : World), (Instr.makeFunc fn first cap).run Tryz.prog w = .ok (.func fn first cap) w := fun _ _ _ _ => rfl
 have hb1 := yaa w (.cells #[.int .u32 (e : Int)] 168); have hb2 := yaa (w.alloc (.cells #[.int .u32 (e : Int)] 168)) (.cells #[.int .u32 0] 168); have CX := zH (fun w => ytn e w)
 obtain ⟨y, hy⟩ : ∃ y, ((id e : Nat) : Int) = y := ⟨_, rfl⟩; rw [hy] at CX |-; have HB := zH hb1; clear hy hb1 hb2
 go_enter_defers Tryz.func128, Tryz.ntmps128
 go_wp2_with (go_at_call 84; refine (CX.out _).mono ?_; rintro r w' ⟨rfl, rfl⟩)
 refine leaves_cons (f := 174) (args := #[.pointer (some ⟨w.heap.size, 0, none⟩), .pointer (some ⟨w.heap.size + 1, 0, none⟩)]) (by simp) (by simp [go_sem]) ?_
 refine (yoy _ _ _).mono ?_; rintro r u' w'' ⟨rfl, rfl, rfl⟩
 simp [Leaves, settle, results, Tryz.results128, go_sem]
 exact HB.out.trans ((yaa _ _).mono HB.out.size)
set_option maxHeartbeats 4000000 in
theorem yve {F : Nat -> Prop} {w : World} {p : Nat} {L : List PE} (hF : ∀ k, w.heap.size <= k -> F k) (h : TabAt F w p L) :
  Calls Tryz.prog 83 #[.pointer (some ⟨p, 0, none⟩), .func (.func 84) #[] #[]] w fun r w' => (∃ q, r = .returned (.pointer (some ⟨q, 0, none⟩)) /\ TabAt F w' q (mapP (id) L)) /\ Below w.heap.size w w' := by
 obtain ⟨A1, c1, bo, b2, b3, d0, -, -, -, hrt, -, -, -⟩ := h.cells; obtain ⟨M, hML, hM⟩ := hrt; have HML := zH hML; have HM := zH hM; have HD := zH d0; have HT := zH h; have HF := zH hF; have hlen := h.good.len; have HGOOD := zH h.good
 have HML2 : Hid (M.length <= 1000000) := by show _ <= _; rw [<- yap, hML]; omega
 obtain ⟨n, hn⟩ : ∃ n, L.length = n := ⟨_, rfl⟩; have HN := zH hn; rw [hn] at d0 HD HM hlen
 have hnI : (n : Int) <= 500 := by omega
 obtain ⟨i0, hi0, hz0, hz1, hz2⟩ := info_parts yka; have HI := zH hi0; have HZ0 := zH hz0; have HZ1 := zH hz1; have HZ2 := zH hz2; clear h hF hM hML hn hi0 hz0 hz1 hz2
 go_enter Tryz.func83, Tryz.ntmps83
 go_wp2_with (go_at_call 127; refine (yss (by have := HM.out; exact this) HML2.out).mono ?_; rintro e w1 ⟨⟨vm, rfl, ho⟩, hb1⟩; obtain ⟨A, g, c, rfl, hms⟩ := MS.start (f := id) (F := F) HML.out HN.out ho HM.out.2 hb1; have HMS := zH hms; clear ho hb1 hms)
 clear d0
 go_loopw [18] (fun i wr => ∃ k : Nat, k <= n /\ i = .int .i64 (k : Nat) /\ Hid (MS F w (id) A g n c L k wr)) (fun i _ => n - (intOf i).toNat)
 case atStart => exact ⟨0, Nat.zero_le _, rfl, HMS.out⟩
 case round =>
  clear HMS; obtain ⟨k, hk, rfl, HS⟩ := hrel; obtain ⟨wo, rfl⟩ : ∃ wo, wo = wr := ⟨_, rfl⟩
  by_cases hlt : k < n
  ·obtain ⟨e, he⟩ : ∃ e, L[k]? = some e := ⟨_, List.getElem?_eq_getElem (by rw [HN.out]; exact hlt)⟩
   obtain ⟨rfl, vs, vl, e0, e1, fz, hri, hre, hgw⟩ := HS.out.at_ HN.out he; obtain ⟨A2, k2, rfl⟩ := hri.form; obtain ⟨A3, k3, rfl⟩ := hre.form; have HRE := zH hre; have HEE := zH he
   have hkI : (k : Int) < (n : Int) := by omega
   have hl8 := (HGOOD.out.els e (List.mem_of_getElem? he)).1; have hlw := zH (HGOOD.out.els e (List.mem_of_getElem? he)).2; obtain ⟨n2, hn2⟩ : ∃ n2, e.2.length = n2 := ⟨_, rfl⟩; have HN2 := zH hn2; rw [hn2] at HRE e1 hl8 hre
   have hl8I : (n2 : Int) <= 8 := by omega
   clear hri hre he hlt hn2; have HFZ := zH fz; have HGW := zH hgw; have HXX := yaa wo (.cells #[.slice A2 e.1.length k2, .slice A3 n2 k3] 88); have HSX := zH (HS.out.more HXX); have HREX := zH (HRE.out.below HXX (zN _))
   have HSZ : Hid ((wo.alloc (.cells #[.slice A2 e.1.length k2, .slice A3 n2 k3] 88)).heap.size = wo.heap.size + 1) := World.size_alloc _ _
   have HX1 : Hid ((wo.alloc (.cells #[.slice A2 e.1.length k2, .slice A3 n2 k3] 88)).cell? ⟨wo.heap.size, 1, none⟩ = some (.slice A3 n2 k3)) := by show _ = _; rw [cell_of_row _ _ 1 _ _ _ (heap_alloc_new wo _)]; rfl
   clear fz hgw HXX
   go_wp2_with (refine wpList_make_full _ rfl (.tmp 25) (.tmp 25) 86 rfl (wo.heap.size + 1) 168 i0 _ 1 Tryz.underlying86 HI.out HZ0.out HZ1.out .i64 .i64 _ _ n2 rfl rfl rfl rfl (by rw [HZ2.out]; omega) (by simp only [maxLen]; omega) (by rw [HSZ.out]; exact zN _) ?_; intro w2 ho hg; have hb2 := (zR (wo.alloc (.cells #[.slice A2 e.1.length k2, .slice A3 n2 k3] 88)).heap.size (wo.alloc (.cells #[.slice A2 e.1.length k2, .slice A3 n2 k3] 88))).grown hg (zN _) (by simp); have e12 := yac hb2 HX1.out; have HIS : Hid (IS (wo.alloc (.cells #[.slice A2 e.1.length k2, .slice A3 n2 k3] 88)) (id) (wo.alloc (.cells #[.slice A2 e.1.length k2, .slice A3 n2 k3] 88)).heap.size n2 e.2 0 w2) := ⟨(by rw [List.take_zero, List.map_nil, List.nil_append, Nat.sub_zero, <- yya]; have h3 := HSZ.out; rw [<- h3] at ho; exact ho), hb2⟩; clear ho hg hb2 e0 e1)
   clear e12; generalize (wo.alloc (.cells #[.slice A2 e.1.length k2, .slice A3 n2 k3] 88)) = wx at HSX HREX HSZ HX1 HIS |-; obtain ⟨h, hh⟩ : ∃ h, wo.heap.size + 1 = h := ⟨_, rfl⟩
   have HH : Hid (wx.heap.size = h) := HSZ.out.trans hh
   rw [HSZ.out] at HIS; rw [hh] at HIS |-; obtain ⟨bz, hbz⟩ : ∃ b, wo.heap.size = b := ⟨_, rfl⟩; rw [hbz] at HX1 |-; clear hh hbz
   go_loopw [30] (fun i wq => ∃ j : Nat, j <= n2 /\ i = .int .i64 (j : Nat) /\ Hid (IS wx (id) h n2 e.2 j wq)) (fun i _ => n2 - (intOf i).toNat)
   case atStart => exact ⟨0, Nat.zero_le _, rfl, HIS.out⟩
   case round =>
    clear HIS; obtain ⟨j, hj, rfl, HJ⟩ := hrel
    by_cases hjl : j < n2
    ·obtain ⟨y, hy⟩ : ∃ y, e.2[j]? = some y := ⟨_, List.getElem?_eq_getElem (by rw [HN2.out]; exact hjl)⟩
     obtain ⟨g5, o5, rfl, c5⟩ := (HREX.out.below HJ.out.bel (zN _)).at hy; have HYY := zH hy; have HYW := zH (hlw.out y (List.mem_of_getElem? hy)); have HJL := zH hjl
     have hjI : (j : Int) < (n2 : Int) := by omega
     clear hy hjl
     go_wp2_with (go_at_call 128; refine (yks HYW.out).mono ?_; rintro r w3 ⟨rfl, hb3⟩; have HJ3 := zH (HJ.out.more hb3); obtain ⟨⟨u, f0⟩, f1⟩ := HJ3.out.cells HN2.out HJL.out; clear hb3 c5)
     go_roundw
     case rel => exact ⟨j + 1, by omega, by go_num, HJ3.out.put HN2.out HYY.out (by rw [HH.out]; exact zN _)⟩
     case measure => simp [intOf]; omega
    ·obtain rfl : j = n2 := by omega
     clear hjl; obtain ⟨-, vs1, vl1, -, f1, fz, -, -, -⟩ := (HSX.out.more HJ.out.bel).at_ HN.out HEE.out; have HDN := zH (MS.put HSX.out HJ.out.bel HEE.out (HJ.out.done HN2.out (by rw [HH.out]; exact zN _)) HF.out)
     go_wp2
     go_roundw
     case rel => exact ⟨k + 1, by omega, by go_num, HDN.out⟩
     case measure => simp [intOf]; omega
  ·obtain rfl : k = n := by omega
   clear hlt
   go_wp2_with (go_at_call 129; refine (of_any HS.out.bel HT.out (HS.out.done HN.out) (yvt (fun x hx => hx) HGOOD.out) (yok (id) L)).mono ?_; rintro r w8 ⟨⟨q8, rfl, ht8⟩, hb8⟩; have HT8 := zH ht8; have HB8 := zH (HS.out.bel.trans (hb8.mono HS.out.bel.size)); clear ht8 hb8)
   go_ret
   exact ⟨⟨_, rfl, HT8.out⟩, HB8.out⟩
theorem yxz (L : List PE) : mapP id L = L := by
 unfold mapP mpE
 simp
end Go.Proofs.YteibnfeokgibmaaGreat
