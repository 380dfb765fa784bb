/-
  PACKED for a claim.
-/
import Derived.Defers
import Derived.Recover
import Derived.Test.YteibnfeokgibmaaGreatP33
set_option linter.unusedVariables false
set_option linter.unusedSimpArgs false
set_option maxRecDepth 100000
namespace Go.Proofs.YteibnfeokgibmaaGreat
open Go.RowKit
theorem yjg (f : Nat -> Nat) (L : List PE) : seqs L = seqs (mapP f L) := (yvc f L).symm
theorem yvb {f : Nat -> Nat} {L : List PE} {k : Nat} {e : PE} (hk : L[k]? = some e) : (mapP f (L.take k) ++ L.drop k).set k (mpE f e) = mapP f (L.take (k + 1)) ++ L.drop (k + 1) := by
 have hlt := (List.getElem?_eq_some_iff.1 hk).1
 have hl : (mapP f (L.take k)).length = k := by rw [ycs, List.length_take]; omega
 rw [List.set_append_right (s := mapP f (L.take k)) k _ (by omega), hl, Nat.sub_self, List.take_add_one, hk, List.drop_eq_getElem_cons hlt, zA]
 simp [mapP]
structure MS (F : Nat -> Prop) (w : World) (f : Nat -> Nat) (A : Option Addr) (g n c : Nat) (L : List PE) (k : Nat) (wr : World) : Prop where
 own : ∃ M, pls M = mapP f (L.take k) ++ L.drop k /\ wr.ownsRow w.heap.size 88 2 (.slice A n c) n (mcells M) /\ ∀ m ∈ M, EntOk (fun j => F j /\ j ≠ g) wr m
 bel : Below w.heap.size w wr
 adr : 0 < n -> A = some ⟨g, 0, none⟩
theorem MS.more {F : Nat -> Prop} {w : World} {f : Nat -> Nat} {A : Option Addr} {g n c : Nat} {L : List PE} {k : Nat} {wr wr' : World} (h : MS F w f A g n c L k wr) (hb : Below wr.heap.size wr wr') : MS F w f A g n c L k wr' := by
 obtain ⟨⟨M, h1, h2, h3⟩, h4, h5⟩ := h; exact ⟨⟨M, h1, R4.yan h2 hb (zN _), fun m hm => (h3 m hm).below hb (zN _)⟩, h4.trans (hb.mono h4.size), h5⟩
theorem MS.start {F : Nat -> Prop} {w w1 : World} {f : Nat -> Nat} {M : List ME} {v : Value} {n : Nat} {L : List PE} (hL : pls M = L) (hn : L.length = n) (ho : OwnM w.heap.size w1 v M) (hM : ∀ m ∈ M, EntOk F w m) (hb : Below w.heap.size w w1) : ∃ A g c, v = .slice A n c /\ MS F w f A g n c L 0 w1 := by
 have hMn : M.length = n := by rw [<- yap, hL, hn]
 unfold OwnM at ho; rw [hMn] at ho; obtain ⟨A, c, rfl, _, hr⟩ := R4.yai ho
 have hE : ∀ g, w.heap.size <= g -> ∀ m ∈ M, EntOk (fun j => F j /\ j ≠ g) w1 m := fun g hg m hm =>
  ((hM m hm).lt.below hb (zN _)).mono fun j hj => ⟨hj.1, by omega⟩
 by_cases h0 : 0 < n
 ·obtain ⟨g, rfl, h1, h2, _⟩ := hr h0; exact ⟨_, g, c, rfl, ⟨M, by simp [hL, mapP], ho, hE g h1⟩, hb, fun _ => rfl⟩
 ·exact ⟨A, w.heap.size, c, rfl, ⟨M, by simp [hL, mapP], ho, hE _ (zN _)⟩, hb, fun h => absurd h h0⟩
theorem yuw {M : List ME} {m : ME} {k : Nat} (hk : M[k]? = some m) (u : Value) (l : List Nat) : (mcells M).set (k * 2 + 1) u = mcells (M.set k ⟨m.vs, u, m.s, l⟩) := by
 have hlt := (List.getElem?_eq_some_iff.1 hk).1; rw [<- yjf (x := ⟨m.vs, u, m.s, l⟩) hlt]; have h1 := (ycl hk).1; obtain ⟨h2, h3⟩ := List.getElem?_eq_some_iff.1 h1
 congr 1
 rw [<- h3, List.set_getElem_self]
theorem MS.put {F : Nat -> Prop} {w w2 : World} {f : Nat -> Nat} {g n c : Nat} {L : List PE} {k : Nat} {wr : World} {e : PE} {u : Value} (h : MS F w f (some ⟨g, 0, none⟩) g n c L k wr) (hb : Below wr.heap.size wr w2) (hk : L[k]? = some e) (hu : RdE (fun j => wr.heap.size <= j) w2 u (e.2.map (f))) (hF : ∀ j, w.heap.size <= j -> F j) :
  MS F w f (some ⟨g, 0, none⟩) g n c L (k + 1) (w2.setCell ⟨g, k * 2 + 1, none⟩ u) := by
 obtain ⟨⟨M, h1, h2, h3⟩, h4, h5⟩ := h; have hlt := (List.getElem?_eq_some_iff.1 hk).1; have hgB := World.ownsRow.lt h2 g rfl; have h2' := R4.yan h2 hb (zN _); obtain ⟨s1, g1⟩ := h2'.stored (k * 2 + 1) u
 have hMk : (pls M)[k]? = some e := by
  rw [h1]
  have hl : (mapP f (L.take k)).length = k := by rw [ycs, List.length_take]; omega
  rw [List.getElem?_append_right (by omega), hl, Nat.sub_self, List.getElem?_drop]
  exact hk
 obtain ⟨m, hm, hme⟩ : ∃ m, M[k]? = some m /\ m.pl = e := pls_of hMk; rw [yuw hm u (e.2.map (f))] at s1; have h4' := h4.trans (hb.mono h4.size)
 have hms : m.s = e.1 := by rw [<- hme]; rfl
 refine ⟨⟨_, ?_, s1, fun q hq => ?_⟩, h4'.setCell (by show _ <= g; exact hgB.1) _, fun _ => rfl⟩
 ·rw [<- yvb hk, <- h1]
  simp [pls, ME.pl, List.map_set, mpE, hms]
 ·rcases List.mem_or_eq_of_mem_set hq with hq | rfl
  ·exact ((h3 q hq).below hb (zN _)).frame fun j hj hl => g1.block j hl (by intro e'; injection e' with e'; exact hj.2 e')
  ·have hm3 := (h3 m (List.mem_of_getElem? hm)).below hb (zN _); refine EntOk.frame ⟨hm3.1, RdF.mono hu fun j hj => ⟨hF j (Nat.le_trans h4.size hj), by omega⟩⟩ fun j hj hl => g1.block j hl (by intro e'; injection e' with e'; exact hj.2 e')
theorem MS.at_ {F : Nat -> Prop} {w : World} {f : Nat -> Nat} {A : Option Addr} {g n c : Nat} {L : List PE} {k : Nat} {wr : World} {e : PE} (h : MS F w f A g n c L k wr) (hn : L.length = n) (hk : L[k]? = some e) : A = some ⟨g, 0, none⟩ /\ ∃ vs vl, wr.cell? ⟨g, k * 2, none⟩ = some vs /\ wr.cell? ⟨g, k * 2 + 1, none⟩ = some vl /\ wr.frozen? ⟨g, k * 2 + 1, none⟩ = false /\ RdI anyB wr vs e.1 /\ RdE anyB wr vl e.2 /\ g < wr.heap.size := by
 obtain ⟨⟨M, h1, h2, h3⟩, h4, h5⟩ := h; have hlt := (List.getElem?_eq_some_iff.1 hk).1; obtain rfl := h5 (by omega)
 have hMk : (pls M)[k]? = some e := by
  rw [h1]
  have hl : (mapP f (L.take k)).length = k := by rw [ycs, List.length_take]; omega
  rw [List.getElem?_append_right (by omega), hl, Nat.sub_self, List.getElem?_drop]
  exact hk
 obtain ⟨m, hm, rfl⟩ : ∃ m, M[k]? = some m /\ m.pl = e := pls_of hMk
 have hMn : M.length = n := by
  rw [<- yap, h1, List.length_append, ycs, List.length_take, List.length_drop]; omega
 obtain ⟨c0, c1⟩ := ycl hm
 have hml : (mcells M).length = n * 2 := by rw [yaq, hMn]
 refine ⟨rfl, m.vs, m.vl, ?_, ?_, h2.frozenAt _, RdF.any (h3 m (List.mem_of_getElem? hm)).1, RdF.any (h3 m (List.mem_of_getElem? hm)).2, (World.ownsRow.lt h2 g rfl).2⟩
 ·rw [h2.cellAt _ (by omega)]; exact c0
 ·rw [h2.cellAt _ (by omega)]; exact c1
theorem MS.done {F : Nat -> Prop} {w : World} {f : Nat -> Nat} {A : Option Addr} {g n c : Nat} {L : List PE} {wr : World} (h : MS F w f A g n c L n wr) (hn : L.length = n) : RdT F wr (.slice A n c) (mapP f L) := by
 obtain ⟨⟨M, h1, h2, h3⟩, h4, h5⟩ := h; rw [<- hn, List.take_length, List.drop_length, List.append_nil] at h1
 have hMn : M.length = n := by rw [<- yap, h1, ycs, hn]
 refine ⟨M, h1, ?_, fun m hm => (h3 m hm).mono fun j hj => hj.1⟩
 rw [hMn]; exact RdF.of_own h2 fun _ _ => trivial
structure IS (wx : World) (f : Nat -> Nat) (h n : Nat) (l : List Nat) (j : Nat) (wr : World) : Prop where
 own : wr.ownsRow h 168 1 (.slice (some ⟨h, 0, none⟩) n n) n (ev ((l.take j).map (f) ++ List.replicate (n - j) 0))
 bel : Below wx.heap.size wx wr
theorem IS.more {wx : World} {f : Nat -> Nat} {h n : Nat} {l : List Nat} {j : Nat} {wr wr' : World} (hh : IS wx f h n l j wr) (hb : Below wr.heap.size wr wr') : IS wx f h n l j wr' := ⟨R4.yan hh.own hb (zN _), hh.bel.trans (hb.mono hh.bel.size)⟩
theorem yve (n : Nat) : (madeCells (Value.int .u32 0).cells (n * 1)).toList = ev (List.replicate n 0) := by
 apply List.ext_getElem?
 intro j
 by_cases hj : j < n
 ·simp [madeCells, Value.cells, ev, hj]
  rw [Nat.mod_one]; rfl
 ·simp [madeCells, Value.cells, ev, hj]
theorem IS.put {wx : World} {f : Nat -> Nat} {h n : Nat} {l : List Nat} {j y : Nat} {wr : World} (hh : IS wx f h n l j wr) (hn : l.length = n) (hj : l[j]? = some y) (hB : wx.heap.size <= h) : IS wx f h n l (j + 1) (wr.setCell ⟨h, j, none⟩ (.int .u32 (f y : Nat))) := by
 have hlt := (List.getElem?_eq_some_iff.1 hj).1; obtain ⟨s1, g1⟩ := hh.own.stored j (.int .u32 (f y : Nat)); refine ⟨?_, hh.bel.setCell (by show _ <= h; exact hB) _⟩
 have hl : ((l.take j).map (f)).length = j := by rw [List.length_map, List.length_take]; omega
 have he : (ev ((l.take j).map (f) ++ List.replicate (n - j) 0)).set j (.int .u32 (f y : Nat)) = ev ((l.take (j + 1)).map (f) ++ List.replicate (n - (j + 1)) 0) := by
  rw [show ev ((l.take j).map (f) ++ List.replicate (n - j) 0) = ev ((l.take j).map (f)) ++ ev (List.replicate (n - j) 0) from ev_app _ _]
  have hl2 : (ev ((l.take j).map (f))).length = j := by rw [ev_len, hl]
  rw [List.set_append_right _ _ (by omega), hl2, Nat.sub_self, show n - j = (n - (j + 1)) + 1 by omega, List.replicate_succ, List.take_add_one, hj]
  simp [ev]
 rw [<- he]; exact s1
theorem IS.cells {wx : World} {f : Nat -> Nat} {h n : Nat} {l : List Nat} {j : Nat} {wr : World} (hh : IS wx f h n l j wr) (hn : l.length = n) (hj : j < n) : (∃ u, wr.cell? ⟨h, j, none⟩ = some u) /\ wr.frozen? ⟨h, j, none⟩ = false := by
 refine ⟨?_, hh.own.frozenAt j⟩
 have hl : (ev ((l.take j).map (f) ++ List.replicate (n - j) 0)).length = n := by rw [ev_len, List.length_append, List.length_map, List.length_take, List.length_replicate]; omega
 rw [hh.own.cellAt _ (by omega), List.getElem?_eq_getElem (by omega)]; exact ⟨_, rfl⟩
theorem IS.done {wx : World} {f : Nat -> Nat} {h n : Nat} {l : List Nat} {wr : World} (hh : IS wx f h n l n wr) (hn : l.length = n) (hB : wx.heap.size <= h) : RdE (fun j => wx.heap.size <= j) wr (.slice (some ⟨h, 0, none⟩) n n) (l.map (f)) := by
 have h2 := hh.own; rw [Nat.sub_self, List.replicate_zero, List.append_nil, <- hn, List.take_length, hn] at h2; unfold RdE; rw [List.length_map, hn]; exact RdF.of_own h2 fun k hk => by omega
theorem yxm (e : Nat) (w : World) : Calls Tryz.prog 84 #[.int .u32 (e : Nat)] w fun r w' => r = .returned (.int .u32 (id e : Nat)) /\ w = w' := by
 go_enter Tryz.func84, Tryz.ntmps84
 go_wp2
 go_ret
 exact ⟨rfl, rfl⟩
theorem yjo (p q : Addr) (w : World) :
  CallsD Tryz.prog 174 #[.pointer (some p), .pointer (some q)] .returning w fun e u' w' => e = .returned (.tuple #[]) /\ u' = .returning /\ w' = w := by
 refine callsD_of_wpS Tryz.func174 rfl fun c₀ cs hu => ?_
 apply wpS_seq
 apply wpS_region
 simp [wpOpsS, go_sem, recoverD, hu, Tryz.ntmps174, Exit.thenS]
 refine wpS_cond (t := false) (by simp [Act.eval, Array.replicate]) ?_
 simp only [Bool.false_eq_true, if_false]; refine wpS_of_wp (wp_skip ?_)
 cases c₀
 simp_all [bodyPostS, results, Tryz.results174]
set_option maxHeartbeats 1000000 in
theorem yle {e lv fr u1 u2 : Nat} (hl : Lv lv) (he : e < 4294967296) {w : World} (h1 : w.cell? ⟨u1, 0, none⟩ = some (.int .i64 (lv : Nat))) (h2 : w.cell? ⟨u2, 0, none⟩ = some (.int .i64 (fr : Nat))) :
  Calls Tryz.prog 128 #[.func (.func 224) #[] #[.pointer (some ⟨u1, 0, none⟩), .pointer (some ⟨u2, 0, none⟩)], .int .u32 (e : Int)] w fun r w' => r = .returned (.int .u32 (up lv fr e : Nat)) /\ Below w.heap.size w w' := by
 have hmf : ∀ (fn : Fn) (first cap : Array Value) (w : World), (Instr.makeFunc fn first cap).run Tryz.prog w = .ok (.func fn first cap) w := fun _ _ _ _ => rfl
 have hb1 := yaa w (.cells #[.int .u32 (e : Int)] 168); have hb2 := yaa (w.alloc (.cells #[.int .u32 (e : Int)] 168)) (.cells #[.int .u32 0] 168); have hc2 := yab hb2 (yab hb1 h1); have hd2 := yab hb2 (yab hb1 h2); have CX := zH (yll hl he (r := up lv fr e) rfl hc2 hd2); obtain ⟨y, hy⟩ : ∃ y, ((up lv fr e : Nat) : Int) = y := ⟨_, rfl⟩; rw [hy] at CX |-; have HB := zH hb1; clear hy h1 h2 hb1 hb2 hc2 hd2
 go_enter_defers Tryz.func128, Tryz.ntmps128
 go_wp2_with (go_at_call 224; refine (CX.out).mono ?_; rintro r w' ⟨rfl, rfl⟩)
 refine leaves_cons (f := 174) (args := #[.pointer (some ⟨w.heap.size, 0, none⟩), .pointer (some ⟨w.heap.size + 1, 0, none⟩)]) (by simp) (by simp [go_sem]) ?_
 refine (yjo _ _ _).mono ?_; rintro r u' w'' ⟨rfl, rfl, rfl⟩
 simp [Leaves, settle, results, Tryz.results128, go_sem]
 exact HB.out.trans ((yaa _ _).mono HB.out.size)
set_option maxHeartbeats 4000000 in
theorem yva {F : Nat -> Prop} {w : World} {p : Nat} {L : List PE} {lv fr u1 u2 : Nat} (hl : Lv lv) (hF : ∀ k, w.heap.size <= k -> F k) (h : TabAt F w p L) (h1 : w.cell? ⟨u1, 0, none⟩ = some (.int .i64 (lv : Nat))) (h2 : w.cell? ⟨u2, 0, none⟩ = some (.int .i64 (fr : Nat))) :
  Calls Tryz.prog 83 #[.pointer (some ⟨p, 0, none⟩), .func (.func 224) #[] #[.pointer (some ⟨u1, 0, none⟩), .pointer (some ⟨u2, 0, none⟩)]] w fun r w' => (∃ q, r = .returned (.pointer (some ⟨q, 0, none⟩)) /\ TabAt F w' q (mapP (up lv fr) L)) /\ Below w.heap.size w w' := by
 obtain ⟨A1, c1, bo, b2, b3, d0, -, -, -, hrt, -, -, -⟩ := h.cells; obtain ⟨M, hML, hM⟩ := hrt; have HML := zH hML; have HM := zH hM; have HD := zH d0; have HT := zH h; have HF := zH hF; have HC := zH h1; have HD2 := zH h2; have HX := zH hl; have hlen := h.good.len; have HGOOD := zH h.good
 have HML2 : Hid (M.length <= 1000000) := by show _ <= _; rw [<- yap, hML]; omega
 obtain ⟨n, hn⟩ : ∃ n, L.length = n := ⟨_, rfl⟩; have HN := zH hn; rw [hn] at d0 HD HM hlen
 have hnI : (n : Int) <= 500 := by omega
 obtain ⟨i0, hi0, hz0, hz1, hz2⟩ := info_parts yde; have HI := zH hi0; have HZ0 := zH hz0; have HZ1 := zH hz1; have HZ2 := zH hz2; clear h hF h1 h2 hl hM hML hn hi0 hz0 hz1 hz2
 go_enter Tryz.func83, Tryz.ntmps83
 go_wp2_with (go_at_call 127; refine (yec (by have := HM.out; exact this) HML2.out).mono ?_; rintro e w1 ⟨⟨vm, rfl, ho⟩, hb1⟩; obtain ⟨A, g, c, rfl, hms⟩ := MS.start (f := up lv fr) (F := F) HML.out HN.out ho HM.out.2 hb1; have HMS := zH hms; clear ho hb1 hms)
 clear d0
 go_loopw [18] (fun i wr => ∃ k : Nat, k <= n /\ i = .int .i64 (k : Nat) /\ Hid (MS F w (up lv fr) A g n c L k wr)) (fun i _ => n - (intOf i).toNat)
 case atStart => exact ⟨0, Nat.zero_le _, rfl, HMS.out⟩
 case round =>
  clear HMS; obtain ⟨k, hk, rfl, HS⟩ := hrel; obtain ⟨wo, rfl⟩ : ∃ wo, wo = wr := ⟨_, rfl⟩
  by_cases hlt : k < n
  ·obtain ⟨e, he⟩ : ∃ e, L[k]? = some e := ⟨_, List.getElem?_eq_getElem (by rw [HN.out]; exact hlt)⟩
   obtain ⟨rfl, vs, vl, e0, e1, fz, hri, hre, hgw⟩ := HS.out.at_ HN.out he; obtain ⟨A2, k2, rfl⟩ := hri.form; obtain ⟨A3, k3, rfl⟩ := hre.form; have HRE := zH hre; have HEE := zH he
   have hkI : (k : Int) < (n : Int) := by omega
   have hl8 := (HGOOD.out.els e (List.mem_of_getElem? he)).1; have hlw := zH (HGOOD.out.els e (List.mem_of_getElem? he)).2; obtain ⟨n2, hn2⟩ : ∃ n2, e.2.length = n2 := ⟨_, rfl⟩; have HN2 := zH hn2; rw [hn2] at HRE e1 hl8 hre
   have hl8I : (n2 : Int) <= 8 := by omega
   clear hri hre he hlt hn2; have HFZ := zH fz; have HGW := zH hgw; have HXX := yaa wo (.cells #[.slice A2 e.1.length k2, .slice A3 n2 k3] 88); have HSX := zH (HS.out.more HXX); have HREX := zH (HRE.out.below HXX (zN _))
   have HSZ : Hid ((wo.alloc (.cells #[.slice A2 e.1.length k2, .slice A3 n2 k3] 88)).heap.size = wo.heap.size + 1) := World.size_alloc _ _
   have HX1 : Hid ((wo.alloc (.cells #[.slice A2 e.1.length k2, .slice A3 n2 k3] 88)).cell? ⟨wo.heap.size, 1, none⟩ = some (.slice A3 n2 k3)) := by show _ = _; rw [cell_of_row _ _ 1 _ _ _ (heap_alloc_new wo _)]; rfl
   clear fz hgw HXX
   go_wp2_with (refine wpList_make_full _ rfl (.tmp 25) (.tmp 25) 86 rfl (wo.heap.size + 1) 168 i0 _ 1 Tryz.underlying86 HI.out HZ0.out HZ1.out .i64 .i64 _ _ n2 rfl rfl rfl rfl (by rw [HZ2.out]; omega) (by simp only [maxLen]; omega) (by rw [HSZ.out]; exact zN _) ?_; intro w2 ho hg; have hb2 := (zR (wo.alloc (.cells #[.slice A2 e.1.length k2, .slice A3 n2 k3] 88)).heap.size (wo.alloc (.cells #[.slice A2 e.1.length k2, .slice A3 n2 k3] 88))).grown hg (zN _) (by simp); have e12 := yab hb2 HX1.out; have HIS : Hid (IS (wo.alloc (.cells #[.slice A2 e.1.length k2, .slice A3 n2 k3] 88)) (up lv fr) (wo.alloc (.cells #[.slice A2 e.1.length k2, .slice A3 n2 k3] 88)).heap.size n2 e.2 0 w2) := ⟨(by rw [List.take_zero, List.map_nil, List.nil_append, Nat.sub_zero, <- yve]; have h3 := HSZ.out; rw [<- h3] at ho; exact ho), hb2⟩; clear ho hg hb2 e0 e1)
   clear e12; generalize (wo.alloc (.cells #[.slice A2 e.1.length k2, .slice A3 n2 k3] 88)) = wx at HSX HREX HSZ HX1 HIS |-; obtain ⟨h, hh⟩ : ∃ h, wo.heap.size + 1 = h := ⟨_, rfl⟩
   have HH : Hid (wx.heap.size = h) := HSZ.out.trans hh
   rw [HSZ.out] at HIS; rw [hh] at HIS |-; obtain ⟨bz, hbz⟩ : ∃ b, wo.heap.size = b := ⟨_, rfl⟩; rw [hbz] at HX1 |-; clear hh hbz
   go_loopw [30] (fun i wq => ∃ j : Nat, j <= n2 /\ i = .int .i64 (j : Nat) /\ Hid (IS wx (up lv fr) h n2 e.2 j wq)) (fun i _ => n2 - (intOf i).toNat)
   case atStart => exact ⟨0, Nat.zero_le _, rfl, HIS.out⟩
   case round =>
    clear HIS; obtain ⟨j, hj, rfl, HJ⟩ := hrel
    by_cases hjl : j < n2
    ·obtain ⟨y, hy⟩ : ∃ y, e.2[j]? = some y := ⟨_, List.getElem?_eq_getElem (by rw [HN2.out]; exact hjl)⟩
     obtain ⟨g5, o5, rfl, c5⟩ := (HREX.out.below HJ.out.bel (zN _)).at hy; have HYY := zH hy; have HYW := zH (hlw.out y (List.mem_of_getElem? hy)); have HJL := zH hjl
     have hjI : (j : Int) < (n2 : Int) := by omega
     have HCC := zH ((HSX.out.bel.trans (HJ.out.bel.mono HSX.out.bel.size)).cell (p := ⟨u1, 0, none⟩) (yaj HC.out) |>.trans HC.out)
     have HCD := zH ((HSX.out.bel.trans (HJ.out.bel.mono HSX.out.bel.size)).cell (p := ⟨u2, 0, none⟩) (yaj HD2.out) |>.trans HD2.out)
     clear hy hjl
     go_wp2_with (go_at_call 128; refine (yle HX.out HYW.out HCC.out HCD.out).mono ?_; rintro r w3 ⟨rfl, hb3⟩; have HJ3 := zH (HJ.out.more hb3); obtain ⟨⟨u, f0⟩, f1⟩ := HJ3.out.cells HN2.out HJL.out; clear hb3 c5)
     go_roundw
     case rel => exact ⟨j + 1, by omega, by go_num, HJ3.out.put HN2.out HYY.out (by rw [HH.out]; exact zN _)⟩
     case measure => simp [intOf]; omega
    ·obtain rfl : j = n2 := by omega
     clear hjl; obtain ⟨-, vs1, vl1, -, f1, fz, -, -, -⟩ := (HSX.out.more HJ.out.bel).at_ HN.out HEE.out; have HDN := zH (MS.put HSX.out HJ.out.bel HEE.out (HJ.out.done HN2.out (by rw [HH.out]; exact zN _)) HF.out)
     go_wp2
     go_roundw
     case rel => exact ⟨k + 1, by omega, by go_num, HDN.out⟩
     case measure => simp [intOf]; omega
  ·obtain rfl : k = n := by omega
   clear hlt
   go_wp2_with (go_at_call 129; refine (of_any HS.out.bel HT.out (HS.out.done HN.out) (ygy (fun x hx => up_lt hx) HGOOD.out) (yjg (up lv fr) L)).mono ?_; rintro r w8 ⟨⟨q8, rfl, ht8⟩, hb8⟩; have HT8 := zH ht8; have HB8 := zH (HS.out.bel.trans (hb8.mono HS.out.bel.size)); clear ht8 hb8)
   go_ret
   exact ⟨⟨_, rfl, HT8.out⟩, HB8.out⟩
set_option maxHeartbeats 1000000 in
theorem yms {e : Nat} (he : e < 4294967296) {w : World} :
  Calls Tryz.prog 128 #[.func (.func 84) #[] #[], .int .u32 (e : Int)] w fun r w' => r = .returned (.int .u32 (id e : Nat)) /\ Below w.heap.size w w' := by
 have hmf : ∀ (fn : Fn) (first cap : Array Value) (w : World), (Instr.makeFunc fn first cap).run Tryz.prog w = .ok (.func fn first cap) w := fun _ _ _ _ => rfl
 have hb1 := yaa w (.cells #[.int .u32 (e : Int)] 168); have hb2 := yaa (w.alloc (.cells #[.int .u32 (e : Int)] 168)) (.cells #[.int .u32 0] 168); have CX := zH (fun w => yxm e w)
 obtain ⟨y, hy⟩ : ∃ y, ((id e : Nat) : Int) = y := ⟨_, rfl⟩; rw [hy] at CX |-; have HB := zH hb1; clear hy hb1 hb2
 go_enter_defers Tryz.func128, Tryz.ntmps128
 go_wp2_with (go_at_call 84; refine (CX.out _).mono ?_; rintro r w' ⟨rfl, rfl⟩)
 refine leaves_cons (f := 174) (args := #[.pointer (some ⟨w.heap.size, 0, none⟩), .pointer (some ⟨w.heap.size + 1, 0, none⟩)]) (by simp) (by simp [go_sem]) ?_
 refine (yjo _ _ _).mono ?_; rintro r u' w'' ⟨rfl, rfl, rfl⟩
 simp [Leaves, settle, results, Tryz.results128, go_sem]
 exact HB.out.trans ((yaa _ _).mono HB.out.size)
set_option maxHeartbeats 4000000 in
theorem ypb {F : Nat -> Prop} {w : World} {p : Nat} {L : List PE} (hF : ∀ k, w.heap.size <= k -> F k) (h : TabAt F w p L) :
  Calls Tryz.prog 83 #[.pointer (some ⟨p, 0, none⟩), .func (.func 84) #[] #[]] w fun r w' => (∃ q, r = .returned (.pointer (some ⟨q, 0, none⟩)) /\ TabAt F w' q (mapP (id) L)) /\ Below w.heap.size w w' := by
 obtain ⟨A1, c1, bo, b2, b3, d0, -, -, -, hrt, -, -, -⟩ := h.cells; obtain ⟨M, hML, hM⟩ := hrt; have HML := zH hML; have HM := zH hM; have HD := zH d0; have HT := zH h; have HF := zH hF; have hlen := h.good.len; have HGOOD := zH h.good
 have HML2 : Hid (M.length <= 1000000) := by show _ <= _; rw [<- yap, hML]; omega
 obtain ⟨n, hn⟩ : ∃ n, L.length = n := ⟨_, rfl⟩; have HN := zH hn; rw [hn] at d0 HD HM hlen
 have hnI : (n : Int) <= 500 := by omega
 obtain ⟨i0, hi0, hz0, hz1, hz2⟩ := info_parts yde; have HI := zH hi0; have HZ0 := zH hz0; have HZ1 := zH hz1; have HZ2 := zH hz2; clear h hF hM hML hn hi0 hz0 hz1 hz2
 go_enter Tryz.func83, Tryz.ntmps83
 go_wp2_with (go_at_call 127; refine (yec (by have := HM.out; exact this) HML2.out).mono ?_; rintro e w1 ⟨⟨vm, rfl, ho⟩, hb1⟩; obtain ⟨A, g, c, rfl, hms⟩ := MS.start (f := id) (F := F) HML.out HN.out ho HM.out.2 hb1; have HMS := zH hms; clear ho hb1 hms)
 clear d0
 go_loopw [18] (fun i wr => ∃ k : Nat, k <= n /\ i = .int .i64 (k : Nat) /\ Hid (MS F w (id) A g n c L k wr)) (fun i _ => n - (intOf i).toNat)
 case atStart => exact ⟨0, Nat.zero_le _, rfl, HMS.out⟩
 case round =>
  clear HMS; obtain ⟨k, hk, rfl, HS⟩ := hrel; obtain ⟨wo, rfl⟩ : ∃ wo, wo = wr := ⟨_, rfl⟩
  by_cases hlt : k < n
  ·obtain ⟨e, he⟩ : ∃ e, L[k]? = some e := ⟨_, List.getElem?_eq_getElem (by rw [HN.out]; exact hlt)⟩
   obtain ⟨rfl, vs, vl, e0, e1, fz, hri, hre, hgw⟩ := HS.out.at_ HN.out he; obtain ⟨A2, k2, rfl⟩ := hri.form; obtain ⟨A3, k3, rfl⟩ := hre.form; have HRE := zH hre; have HEE := zH he
   have hkI : (k : Int) < (n : Int) := by omega
   have hl8 := (HGOOD.out.els e (List.mem_of_getElem? he)).1; have hlw := zH (HGOOD.out.els e (List.mem_of_getElem? he)).2; obtain ⟨n2, hn2⟩ : ∃ n2, e.2.length = n2 := ⟨_, rfl⟩; have HN2 := zH hn2; rw [hn2] at HRE e1 hl8 hre
   have hl8I : (n2 : Int) <= 8 := by omega
   clear hri hre he hlt hn2; have HFZ := zH fz; have HGW := zH hgw; have HXX := yaa wo (.cells #[.slice A2 e.1.length k2, .slice A3 n2 k3] 88); have HSX := zH (HS.out.more HXX); have HREX := zH (HRE.out.below HXX (zN _))
   have HSZ : Hid ((wo.alloc (.cells #[.slice A2 e.1.length k2, .slice A3 n2 k3] 88)).heap.size = wo.heap.size + 1) := World.size_alloc _ _
   have HX1 : Hid ((wo.alloc (.cells #[.slice A2 e.1.length k2, .slice A3 n2 k3] 88)).cell? ⟨wo.heap.size, 1, none⟩ = some (.slice A3 n2 k3)) := by show _ = _; rw [cell_of_row _ _ 1 _ _ _ (heap_alloc_new wo _)]; rfl
   clear fz hgw HXX
   go_wp2_with (refine wpList_make_full _ rfl (.tmp 25) (.tmp 25) 86 rfl (wo.heap.size + 1) 168 i0 _ 1 Tryz.underlying86 HI.out HZ0.out HZ1.out .i64 .i64 _ _ n2 rfl rfl rfl rfl (by rw [HZ2.out]; omega) (by simp only [maxLen]; omega) (by rw [HSZ.out]; exact zN _) ?_; intro w2 ho hg; have hb2 := (zR (wo.alloc (.cells #[.slice A2 e.1.length k2, .slice A3 n2 k3] 88)).heap.size (wo.alloc (.cells #[.slice A2 e.1.length k2, .slice A3 n2 k3] 88))).grown hg (zN _) (by simp); have e12 := yab hb2 HX1.out; have HIS : Hid (IS (wo.alloc (.cells #[.slice A2 e.1.length k2, .slice A3 n2 k3] 88)) (id) (wo.alloc (.cells #[.slice A2 e.1.length k2, .slice A3 n2 k3] 88)).heap.size n2 e.2 0 w2) := ⟨(by rw [List.take_zero, List.map_nil, List.nil_append, Nat.sub_zero, <- yve]; have h3 := HSZ.out; rw [<- h3] at ho; exact ho), hb2⟩; clear ho hg hb2 e0 e1)
   clear e12; generalize (wo.alloc (.cells #[.slice A2 e.1.length k2, .slice A3 n2 k3] 88)) = wx at HSX HREX HSZ HX1 HIS |-; obtain ⟨h, hh⟩ : ∃ h, wo.heap.size + 1 = h := ⟨_, rfl⟩
   have HH : Hid (wx.heap.size = h) := HSZ.out.trans hh
   rw [HSZ.out] at HIS; rw [hh] at HIS |-; obtain ⟨bz, hbz⟩ : ∃ b, wo.heap.size = b := ⟨_, rfl⟩; rw [hbz] at HX1 |-; clear hh hbz
   go_loopw [30] (fun i wq => ∃ j : Nat, j <= n2 /\ i = .int .i64 (j : Nat) /\ Hid (IS wx (id) h n2 e.2 j wq)) (fun i _ => n2 - (intOf i).toNat)
   case atStart => exact ⟨0, Nat.zero_le _, rfl, HIS.out⟩
   case round =>
    clear HIS; obtain ⟨j, hj, rfl, HJ⟩ := hrel
    by_cases hjl : j < n2
    ·obtain ⟨y, hy⟩ : ∃ y, e.2[j]? = some y := ⟨_, List.getElem?_eq_getElem (by rw [HN2.out]; exact hjl)⟩
     obtain ⟨g5, o5, rfl, c5⟩ := (HREX.out.below HJ.out.bel (zN _)).at hy; have HYY := zH hy; have HYW := zH (hlw.out y (List.mem_of_getElem? hy)); have HJL := zH hjl
     have hjI : (j : Int) < (n2 : Int) := by omega
     clear hy hjl
     go_wp2_with (go_at_call 128; refine (yms HYW.out).mono ?_; rintro r w3 ⟨rfl, hb3⟩; have HJ3 := zH (HJ.out.more hb3); obtain ⟨⟨u, f0⟩, f1⟩ := HJ3.out.cells HN2.out HJL.out; clear hb3 c5)
     go_roundw
     case rel => exact ⟨j + 1, by omega, by go_num, HJ3.out.put HN2.out HYY.out (by rw [HH.out]; exact zN _)⟩
     case measure => simp [intOf]; omega
    ·obtain rfl : j = n2 := by omega
     clear hjl; obtain ⟨-, vs1, vl1, -, f1, fz, -, -, -⟩ := (HSX.out.more HJ.out.bel).at_ HN.out HEE.out; have HDN := zH (MS.put HSX.out HJ.out.bel HEE.out (HJ.out.done HN2.out (by rw [HH.out]; exact zN _)) HF.out)
     go_wp2
     go_roundw
     case rel => exact ⟨k + 1, by omega, by go_num, HDN.out⟩
     case measure => simp [intOf]; omega
  ·obtain rfl : k = n := by omega
   clear hlt
   go_wp2_with (go_at_call 129; refine (of_any HS.out.bel HT.out (HS.out.done HN.out) (ygy (fun x hx => hx) HGOOD.out) (yjg (id) L)).mono ?_; rintro r w8 ⟨⟨q8, rfl, ht8⟩, hb8⟩; have HT8 := zH ht8; have HB8 := zH (HS.out.bel.trans (hb8.mono HS.out.bel.size)); clear ht8 hb8)
   go_ret
   exact ⟨⟨_, rfl, HT8.out⟩, HB8.out⟩
theorem yvd (L : List PE) : mapP id L = L := by
 unfold mapP mpE
 simp
end Go.Proofs.YteibnfeokgibmaaGreat
