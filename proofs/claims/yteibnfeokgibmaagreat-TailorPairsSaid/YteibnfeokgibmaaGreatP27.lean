/-
  PACKED for a claim.
-/
import Derived.Defers
import Derived.Recover
import Derived.Test.YteibnfeokgibmaaGreatP16
import Derived.Test.YteibnfeokgibmaaGreatP26
set_option linter.unusedVariables false
set_option linter.unusedSimpArgs false
set_option maxRecDepth 100000
namespace Go.Proofs.YteibnfeokgibmaaGreat
open Go.RowKit
theorem catch8 (p : Addr) (w : World) :
  CallsD Tryz.prog 150 #[.pointer (some p)] .returning w fun e u' w' => e = .returned (.tuple #[]) /\ u' = .returning /\ w' = w := by
 refine callsD_of_wpS Tryz.func150 rfl fun c₀ cs hu => ?_
 apply wpS_seq
 apply wpS_region
 simp [wpOpsS, go_sem, recoverD, hu, Tryz.ntmps150, Exit.thenS]
 refine wpS_cond (t := false) (by simp [Act.eval, Array.replicate]) ?_
 simp only [Bool.false_eq_true, if_false]; refine wpS_of_wp (wp_skip ?_)
 cases c₀
 simp_all [bodyPostS, results, Tryz.results150]
set_option maxHeartbeats 2000000 in
theorem yla {F : Nat -> Prop} {w : World} {p : Nat} {L : List PE} (h : TabAt F w p L) (b : ByteArray) (hb : b.size <= 100000) (k l : Int) (sh bk : Bool) {E : List Nat} (hE : elsP L (T2.sgs b.data.toList) = E) :
  Calls Tryz.prog 96 #[.agg #[.int .i64 k, .int .i64 l, .bool sh, .bool bk, .pointer (some ⟨p, 0, none⟩)], .string b] w fun e w' => (∃ u, e = .returned u /\ RdE anyB w' u E) /\ Below w.heap.size w w' := by
 have hmf : ∀ (fn : Fn) (first cap : Array Value) (w : World), (Instr.makeFunc fn first cap).run Tryz.prog w = .ok (.func fn first cap) w := fun _ _ _ _ => rfl
 have hb1 := belAlloc w (.cells #[.int .i64 k, .int .i64 l, .bool sh, .bool bk, .pointer (some ⟨p, 0, none⟩)] 25); have hb2 := belAlloc (w.alloc (.cells #[.int .i64 k, .int .i64 l, .bool sh, .bool bk, .pointer (some ⟨p, 0, none⟩)] 25)) (.cells #[.slice none 0 0] 86)
 have HX : Hid (((w.alloc (.cells #[.int .i64 k, .int .i64 l, .bool sh, .bool bk, .pointer (some ⟨p, 0, none⟩)] 25)).alloc (.cells #[.slice none 0 0] 86)).cell? ⟨w.heap.size, 4, none⟩ = some (.pointer (some ⟨p, 0, none⟩))) := cellAt ((hb2.block w.heap.size (by simp)).trans (heap_alloc_new w _)) rfl
 have HY : Hid (((w.alloc (.cells #[.int .i64 k, .int .i64 l, .bool sh, .bool bk, .pointer (some ⟨p, 0, none⟩)] 25)).alloc (.cells #[.slice none 0 0] 86)).heap[w.heap.size + 1]? = some (.cells #[.slice none 0 0] 86 (0, 0))) := by
  have := heap_alloc_new (w.alloc (.cells #[.int .i64 k, .int .i64 l, .bool sh, .bool bk, .pointer (some ⟨p, 0, none⟩)] 25)) (.cells #[.slice none 0 0] 86)
  rw [World.size_alloc] at this; exact this
 have HB := zH (hb1.trans (hb2.mono hb1.size)); have CE := zH (ymb ((h.below hb1 (zN _)).below hb2 (zN _)) b hb); rw [hE] at CE
 have HS : Hid (((w.alloc (.cells #[.int .i64 k, .int .i64 l, .bool sh, .bool bk, .pointer (some ⟨p, 0, none⟩)] 25)).alloc (.cells #[.slice none 0 0] 86)).heap.size = w.heap.size + 2) := by show _ = _; rw [World.size_alloc, World.size_alloc]
 clear h hb hE hb1 hb2
 go_enter_defers Tryz.func96, Tryz.ntmps96
 go_upto_region 2 with (fail)
 generalize ((w.alloc (.cells #[.int .i64 k, .int .i64 l, .bool sh, .bool bk, .pointer (some ⟨p, 0, none⟩)] 25)).alloc (.cells #[.slice none 0 0] 86)) = w2 at HX HY HB CE HS |-; obtain ⟨bx, hbx⟩ : ∃ b, w.heap.size = b := ⟨_, rfl⟩; have HBX := zH hbx; rw [hbx] at HX HY HB HS |-; obtain ⟨nE, hnE⟩ : ∃ n, E.length = n := ⟨_, rfl⟩; have HN := zH hnE; clear hnE; have c4 := HX.out
 go_wp2_with (go_at_call 151; refine (CE.out).mono ?_; rintro e w3 ⟨v, rfl, ho, hb⟩; obtain ⟨A3, c3, e3, -, -⟩ := R4.yai ho; rw [HN.out] at e3; subst e3; have HO := zH ho; have HB3 := zH hb; have hy := (hb.block (bx + 1) (by rw [HS.out]; omega)).trans HY.out; have HY3 := zH hy; have y0 := cellAt (i := 0) (v := .slice none 0 0) hy rfl; have y1 := frozen_of_row _ (bx + 1) 0 _ _ hy; clear ho hb hy c4)
 refine leaves_cons (f := 150) (args := #[.pointer (some ⟨bx + 1, 0, none⟩)]) (by simp) (by simp [go_sem]) ?_
 refine (catch8 _ _).mono ?_; rintro r u' w'' ⟨rfl, rfl, rfl⟩; have h9 := heap_setCell_same w3 (bx + 1) 0 _ _ (.slice A3 nE c3) HY3.out
 have x9 : (w3.setCell ⟨bx + 1, 0, none⟩ (.slice A3 nE c3)).cell? ⟨bx + 1, 0, none⟩ = some (.slice A3 nE c3) := cellAt (i := 0) (v := .slice A3 nE c3) h9 rfl
 simp [Leaves, settle, results, Tryz.results96, go_sem, x9]
 refine ⟨?_, ?_⟩
 ·have hr : RdE (fun k => bx + 2 <= k) w3 (.slice A3 nE c3) E := HO.out.rd fun _ hk => by rw [HS.out] at hk; exact hk
  have hr2 : RdF (fun k => bx + 2 <= k) (w3.setCell ⟨bx + 1, 0, none⟩ (.slice A3 nE c3)) (.slice A3 nE c3) E.length (ev E) := RdF.frame hr fun g hg _ => Below.heap_setCell _ _ _ _ (by simp; omega)
  exact RdF.mono hr2 fun _ _ => trivial
 ·rw [HBX.out]; exact (HB.out.trans (HB3.out.mono (by rw [HS.out]; omega))).setCell (p := ⟨bx + 1, 0, none⟩) (by show bx <= bx + 1; omega) _
def PlcAt (w : World) (v : Value) (p : PL) : Prop := ∃ (s : ByteArray) (u : Value), v = .agg #[.string s, u] /\ s.data.toList = p.bytes /\ RdLL w u p.lists /\ ShL p.lists
theorem PlcAt.below {B : Nat} {w w' : World} {v : Value} {p : PL} (h : PlcAt w v p) (hb : Below B w w') (hB : w.heap.size <= B) : PlcAt w' v p := by
 obtain ⟨s, u, h1, h2, h3, h4⟩ := h; exact ⟨s, u, h1, h2, h3.below hb hB, h4⟩
theorem ysw : ShL [] := ⟨by simp, fun x h => by simp at h⟩
theorem set2 {w : World} {b : Nat} {t : TypeId} {a0 a1 : Value} (h : w.heap[b]? = some (.cells #[a0, a1] t (0, 0))) (u0 u1 : Value) : ((w.setCell ⟨b, 0, none⟩ u0).setCell ⟨b, 1, none⟩ u1).heap[b]? = some (.cells #[u0, u1] t (0, 0)) :=
 heap_setCell_same _ b 1 _ _ u1 (heap_setCell_same w b 0 _ _ u0 h)
set_option maxHeartbeats 1000000 in
theorem yyv (k l : Int) (sh bk : Bool) (p : Value) (b : ByteArray) (w : World) :
  Calls Tryz.prog 60 #[.agg #[.int .i64 k, .int .i64 l, .bool sh, .bool bk, p], .string b] w fun e w' => e = .returned (.agg #[.string b, .slice none 0 0]) /\ Below w.heap.size w w' := by
 have hb1 := belAlloc w (.cells #[.int .i64 k, .int .i64 l, .bool sh, .bool bk, p] 25); have hb2 := belAlloc (w.alloc (.cells #[.int .i64 k, .int .i64 l, .bool sh, .bool bk, p] 25)) (.cells #[.string ⟨#[]⟩, .slice none 0 0] 63); have hx := heap_alloc_new (w.alloc (.cells #[.int .i64 k, .int .i64 l, .bool sh, .bool bk, p] 25)) (.cells #[.string ⟨#[]⟩, .slice none 0 0] 63); have hc := (hb2.block w.heap.size (by simp)).trans (heap_alloc_new w (.cells #[.int .i64 k, .int .i64 l, .bool sh, .bool bk, p] 25))
 have HX := zH hx; have HC := zH hc; have HB := zH (hb1.trans (hb2.mono hb1.size))
 have HS : Hid ((w.alloc (.cells #[.int .i64 k, .int .i64 l, .bool sh, .bool bk, p] 25)).heap.size = w.heap.size + 1) := World.size_alloc _ _
 have HS2 : Hid (((w.alloc (.cells #[.int .i64 k, .int .i64 l, .bool sh, .bool bk, p] 25)).alloc (.cells #[.string ⟨#[]⟩, .slice none 0 0] 63)).heap.size = w.heap.size + 2) := by show _ = _; rw [World.size_alloc, World.size_alloc]
 clear hb1 hb2 hx hc
 go_enter Tryz.func60, Tryz.ntmps60
 go_upto_region 1 with (fail)
 generalize hw1 : (w.alloc (.cells #[.int .i64 k, .int .i64 l, .bool sh, .bool bk, p] 25)) = w1 at HX HB HS HS2 HC |-; rw [HS.out] at HX; clear hw1; generalize (w1.alloc (.cells #[.string ⟨#[]⟩, .slice none 0 0] 63)) = w2 at HX HB HS2 HC |-; obtain ⟨bx, hbx⟩ : ∃ b, w.heap.size = b := ⟨_, rfl⟩; have HBX := zH hbx; rw [hbx] at HX HB HS2 HC; rw [show (({ block := w.heap.size + 1, off := 0 } : Addr)) = ⟨bx + 1, 0, none⟩ by rw [hbx], show (({ block := w.heap.size, off := 0 } : Addr)) = ⟨bx, 0, none⟩ by rw [hbx]]
 clear hbx; have x0 := cellAt (i := 0) (v := .string ⟨#[]⟩) HX.out rfl; have x1 := cellAt (i := 1) (v := .slice none 0 0) HX.out rfl; have x2 := frozen_of_row _ (bx + 1) 0 _ _ HX.out; have x3 := frozen_of_row _ (bx + 1) 1 _ _ HX.out
 go_wp2
 have h9 := set2 HX.out (.string b) (.slice none 0 0); have z0 := cellAt (i := 0) (v := .string b) h9 rfl; have z1 := cellAt (i := 1) (v := .slice none 0 0) h9 rfl; refine bodyPost_ret (v := .agg #[.string b, .slice none 0 0]) (by simp [results, Tryz.results60, go_sem, z0, z1]) rfl ⟨rfl, ?_⟩
 rw [HBX.out]; exact (HB.out.setCell (p := ⟨bx + 1, 0, none⟩) (by show bx <= bx + 1; omega) _).setCell (p := ⟨bx + 1, 1, none⟩) (by show bx <= bx + 1; omega) _
set_option maxHeartbeats 1000000 in
theorem pl_fold (k l : Int) (sh bk : Bool) (p : Value) (b : ByteArray) (w : World) (hb : b.size <= 1000000) :
  Calls Tryz.prog 61 #[.agg #[.int .i64 k, .int .i64 l, .bool sh, .bool bk, p], .string b] w fun e w' => e = .returned (.agg #[.string ⟨(T2.ft b.data.toList).toArray⟩, .slice none 0 0]) /\ Below w.heap.size w w' := by
 have CF := zH (fun w => T2.ylx b w hb)
 obtain ⟨s, hs⟩ : ∃ s, (⟨(T2.ft b.data.toList).toArray⟩ : ByteArray) = s := ⟨_, rfl⟩; rw [hs] at CF |-; clear hs hb; have hb1 := belAlloc w (.cells #[.int .i64 k, .int .i64 l, .bool sh, .bool bk, p] 25); have hb2 := belAlloc (w.alloc (.cells #[.int .i64 k, .int .i64 l, .bool sh, .bool bk, p] 25)) (.cells #[.string ⟨#[]⟩, .slice none 0 0] 63); have hx := heap_alloc_new (w.alloc (.cells #[.int .i64 k, .int .i64 l, .bool sh, .bool bk, p] 25)) (.cells #[.string ⟨#[]⟩, .slice none 0 0] 63); have hc := (hb2.block w.heap.size (by simp)).trans (heap_alloc_new w (.cells #[.int .i64 k, .int .i64 l, .bool sh, .bool bk, p] 25))
 have HX := zH hx; have HC := zH hc; have HB := zH (hb1.trans (hb2.mono hb1.size))
 have HS : Hid ((w.alloc (.cells #[.int .i64 k, .int .i64 l, .bool sh, .bool bk, p] 25)).heap.size = w.heap.size + 1) := World.size_alloc _ _
 have HS2 : Hid (((w.alloc (.cells #[.int .i64 k, .int .i64 l, .bool sh, .bool bk, p] 25)).alloc (.cells #[.string ⟨#[]⟩, .slice none 0 0] 63)).heap.size = w.heap.size + 2) := by show _ = _; rw [World.size_alloc, World.size_alloc]
 clear hb1 hb2 hx hc
 go_enter Tryz.func61, Tryz.ntmps61
 go_upto_region 1 with (fail)
 generalize hw1 : (w.alloc (.cells #[.int .i64 k, .int .i64 l, .bool sh, .bool bk, p] 25)) = w1 at HX HB HS HS2 HC |-; rw [HS.out] at HX; clear hw1; generalize (w1.alloc (.cells #[.string ⟨#[]⟩, .slice none 0 0] 63)) = w2 at HX HB HS2 HC |-; obtain ⟨bx, hbx⟩ : ∃ b, w.heap.size = b := ⟨_, rfl⟩; have HBX := zH hbx; rw [hbx] at HX HB HS2 HC; rw [show (({ block := w.heap.size + 1, off := 0 } : Addr)) = ⟨bx + 1, 0, none⟩ by rw [hbx], show (({ block := w.heap.size, off := 0 } : Addr)) = ⟨bx, 0, none⟩ by rw [hbx]]
 clear hbx
 go_wp2_with (go_at_call 94; refine (CF.out _).mono ?_; rintro e w3 ⟨rfl, hb⟩; have hx3 := (hb.block (bx + 1) (by rw [HS2.out]; omega)).trans HX.out; have HX3 := zH hx3; have HB3 := zH (HB.out.trans (hb.mono (by rw [HS2.out]; omega))); have x0 := cellAt (i := 0) (v := .string ⟨#[]⟩) hx3 rfl; have x1 := cellAt (i := 1) (v := .slice none 0 0) hx3 rfl; have x2 := frozen_of_row _ (bx + 1) 0 _ _ hx3; have x3 := frozen_of_row _ (bx + 1) 1 _ _ hx3; clear hb hx3)
 have h9 := set2 HX3.out (.string s) (.slice none 0 0); have z0 := cellAt (i := 0) (v := .string s) h9 rfl; have z1 := cellAt (i := 1) (v := .slice none 0 0) h9 rfl; refine bodyPost_ret (v := .agg #[.string s, .slice none 0 0]) (by simp [results, Tryz.results61, go_sem, z0, z1]) rfl ⟨rfl, ?_⟩
 rw [HBX.out]; exact (HB3.out.setCell (p := ⟨bx + 1, 0, none⟩) (by show bx <= bx + 1; omega) _).setCell (p := ⟨bx + 1, 1, none⟩) (by show bx <= bx + 1; omega) _
def TabRows (g n : Nat) (rows : List (List Int)) (m : Nat) (wr : World) : Prop :=
 ∃ vs : List Value, vs.length = n /\ wr.heap[g]? = some (.cells vs.toArray 29 (0, 0)) /\ ∀ (i : Nat) (x : List Int), i < m -> rows[i]? = some x -> ∃ u, vs[i]? = some u /\ RdI (fun k => g < k) wr u x
theorem TabRows.below {g n : Nat} {rows : List (List Int)} {m : Nat} {w w' : World} (h : TabRows g n rows m w) (hb : Below w.heap.size w w') : TabRows g n rows m w' := by
 obtain ⟨vs, h1, h2, h3⟩ := h; refine ⟨vs, h1, (hb.block g (R4.yad h2)).trans h2, fun i x hi hx => ?_⟩
 obtain ⟨u, hu, hr⟩ := h3 i x hi hx; exact ⟨u, hu, RdF.below hr hb (zN _)⟩
theorem TabRows.put {g n : Nat} {rows : List (List Int)} {m : Nat} {w : World} (h : TabRows g n rows m w) (hm : m < n) {u : Value} {x : List Int} (hx : rows[m]? = some x) (hu : RdI (fun k => g < k) w u x) : TabRows g n rows (m + 1) (w.setCell ⟨g, m, none⟩ u) := by
 obtain ⟨vs, h1, h2, h3⟩ := h; have hset := heap_setCell_same w g m _ _ u h2; rw [zS] at hset
 have hfr : ∀ {v : Value} {y : List Int}, RdI (fun k => g < k) w v y -> RdI (fun k => g < k) (w.setCell ⟨g, m, none⟩ u) v y := fun hr => RdF.frame hr fun j hj _ => Below.heap_setCell _ _ _ _ (by simp; omega)
 refine ⟨vs.set m u, by rw [List.length_set]; exact h1, hset, fun i y hi hy => ?_⟩
 by_cases e : i = m
 ·subst e; rw [hx] at hy
  injection hy with hy
  subst hy; exact ⟨u, by rw [List.getElem?_set_self (by omega)], hfr hu⟩
 ·obtain ⟨v, hv, hr⟩ := h3 i y (by omega) hy
  exact ⟨v, by rw [List.getElem?_set_ne (by omega)]; exact hv, hfr hr⟩
theorem TabRows.old {g n : Nat} {rows : List (List Int)} {m : Nat} {w : World} (h : TabRows g n rows m w) (hm : m < n) : (∃ v, w.cell? ⟨g, m, none⟩ = some v) /\ w.frozen? ⟨g, m, none⟩ = false := by
 obtain ⟨vs, h1, h2, h3⟩ := h; exact ⟨⟨vs[m], cellAt h2 (by simp [h1, hm])⟩, frozen_of_row _ g m _ _ h2⟩
theorem TabRows.all {g n c : Nat} {rows : List (List Int)} {w : World} (h : TabRows g n rows n w) (hn : rows.length = n) (hc : n <= c) : RdLL w (.slice (some ⟨g, 0, none⟩) n c) rows := by
 obtain ⟨vs, h1, h2, h3⟩ := h; refine ⟨vs, by omega, ?_, fun i x hx => ?_⟩
 ·rw [hn]; refine ⟨_, c, rfl, hc, fun _ => ⟨g, 0, rfl, trivial, fun j u hu => ?_⟩⟩
  rw [Nat.zero_add]; exact cellAt h2 (by simpa using hu)
 ·obtain ⟨u, hu, hr⟩ := h3 i x (by have := (List.getElem?_eq_some_iff.1 hx).1; omega) hx
  exact ⟨u, hu, RdF.mono hr fun _ _ => trivial⟩
theorem yyg : (Tryz.prog.info? 29).map (fun i => (i.zero, i.size, i.bytes)) = some (some (.slice none 0 0), 1, 24) := by kernel_rfl
theorem TabRows.new {w : World} {g n : Nat} {xs : List Value} {B : Nat} {rows : List (List Int)} (h : w.ownsRow B 29 1 (.slice (some ⟨g, 0, none⟩) n n) n xs) : TabRows g n rows 0 w := by
 rcases h.2 with ⟨h0, _⟩ | ⟨g', cap, cur, e, hg, hgg, hlc, _, hs, _⟩
 ·cases h0
 ·cases e
  exact ⟨cur.toList, by simpa using hs, by simpa using hgg, fun i x hi => absurd hi (by omega)⟩
end Go.Proofs.YteibnfeokgibmaaGreat
