/-
  THE CONTRACTS of turned and of the law's closure.
  THE CONTRACT of Map, where what turns is the law's own closure.
  THE WALK of Map.
  THE STATES of the law TableMaps: the table that the law builds by itself.
  THE WALK of the law TableMaps.
-/
import Derived.Test.YtaabdpfhpolcgaaGreatBWith
import Derived.Defers
import Derived.Recover
import Derived.Laws.BitsAllLaws
import Derived.Test.YtaabdpfhpolcgaaGreatBRUse
import Derived.Test.YtaabdpfhpolcgaaGreatBLike
import Derived.Test.YtaabdpfhpolcgaaGreatBRRoot
namespace Go.Proofs.YtaabdpfhpolcgaaGreat
open Go.RowKit
set_option linter.unusedVariables false
set_option linter.unusedSimpArgs false
def xr (x e : Nat) : Nat := e ^^^ x
theorem xr_lt {x e : Nat} (hx : x < 4294967296) (he : e < 4294967296) : xr x e < 4294967296 := Nat.xor_lt_two_pow (n := 32) he hx
theorem xr_bits {x e : Nat} (hx : x < 4294967296) (he : e < 4294967296) : bits .xor .u32 (e : Int) (x : Int) = ((xr x e : Nat) : Int) := u32_xor_nat e x he hx
theorem xor_any {x e bx : Nat} (hx : x < 4294967296) (he : e < 4294967296) {w : World} (hc : w.cell? ⟨bx, 0, none⟩ = some (.int .u32 (x : Int))) :
    Calls Tryz.prog 30 #[.int .u32 (e : Int), .pointer (some ⟨bx, 0, none⟩)] w fun r w' => r = .returned (.int .u32 (xr x e : Nat)) ∧ w = w' := by
  have hb := xr_bits hx he
  obtain ⟨y, hy⟩ : ∃ y, ((xr x e : Nat) : Int) = y := ⟨_, rfl⟩
  rw [hy] at hb ⊢
  clear hy
  go_enter Tryz.func30, Tryz.ntmps30
  go_wp2
  go_ret
  exact ⟨rfl, rfl⟩
theorem catch_idle (p q : Addr) (w : World) :
    CallsD Tryz.prog 94 #[.pointer (some p), .pointer (some q)] .returning w fun e u' w' => e = .returned (.tuple #[]) ∧ u' = .returning ∧ w' = w := by
  refine callsD_of_wpS Tryz.func94 rfl fun c₀ cs hu => ?_
  apply wpS_seq
  apply wpS_region
  simp [wpOpsS, go_sem, recoverD, hu, Tryz.ntmps94, Exit.thenS]
  refine wpS_cond (t := false) (by simp [Act.eval, Array.replicate]) ?_
  simp only [Bool.false_eq_true, if_false]
  refine wpS_of_wp (wp_skip ?_)
  cases c₀
  simp_all [bodyPostS, results, Tryz.results94]
set_option maxHeartbeats 1000000 in
set_option maxRecDepth 100000 in
theorem turned_any {x e bx : Nat} (hx : x < 4294967296) (he : e < 4294967296) {w : World} (hc : w.cell? ⟨bx, 0, none⟩ = some (.int .u32 (x : Int))) :
    Calls Tryz.prog 66 #[.func (.func 30) #[] #[.pointer (some ⟨bx, 0, none⟩)], .int .u32 (e : Int)] w fun r w' => r = .returned (.int .u32 (xr x e : Nat)) ∧ Below w.heap.size w w' := by
  have hmf : ∀ (fn : Fn) (first cap : Array Value) (w : World), (Instr.makeFunc fn first cap).run Tryz.prog w = .ok (.func fn first cap) w := fun _ _ _ _ => rfl
  have hb1 := alloc_below w (.cells #[.int .u32 (e : Int)] 26)
  have hb2 := alloc_below (w.alloc (.cells #[.int .u32 (e : Int)] 26)) (.cells #[.int .u32 0] 26)
  have hc2 := cell_call hb2 (cell_call hb1 hc)
  have CX := Lib.hid (xor_any hx he hc2)
  obtain ⟨y, hy⟩ : ∃ y, ((xr x e : Nat) : Int) = y := ⟨_, rfl⟩
  rw [hy] at CX ⊢
  have HB := Lib.hid hb1
  clear hy hc hb1 hb2 hc2
  go_enter_defers Tryz.func66, Tryz.ntmps66
  go_wp2_with (go_at_call 30; refine (CX.out).mono ?_; rintro r w' ⟨rfl, rfl⟩)
  refine leaves_cons (f := 94) (args := #[.pointer (some ⟨w.heap.size, 0, none⟩), .pointer (some ⟨w.heap.size + 1, 0, none⟩)]) (by simp) (by simp [go_sem]) ?_
  refine (catch_idle _ _ _).mono ?_
  rintro r u' w'' ⟨rfl, rfl, rfl⟩
  simp [Leaves, settle, results, Tryz.results66, go_sem]
  exact HB.out.trans ((alloc_below _ _).mono HB.out.size)
end Go.Proofs.YtaabdpfhpolcgaaGreat
namespace Go.Proofs.YtaabdpfhpolcgaaGreat
open Go.RowKit
set_option linter.unusedVariables false
set_option linter.unusedSimpArgs false
def mpE (x : Nat) (e : PE) : PE := (e.1, e.2.map (xr x))
def mapP (x : Nat) (L : List PE) : List PE := L.map (mpE x)
theorem mapP_seqs (x : Nat) (L : List PE) : seqs L = seqs (mapP x L) := by
  unfold seqs mapP
  rw [List.map_map]; rfl
theorem mapP_len (x : Nat) (L : List PE) : (mapP x L).length = L.length := List.length_map _
theorem good_map {x : Nat} (hx : x < 4294967296) {L : List PE} (h : GoodT L) : GoodT (mapP x L) where
  srt := srt_seqs h.srt (mapP_seqs x L)
  seq e he := by
    obtain ⟨f, hf, rfl⟩ := List.mem_map.1 he
    exact h.seq f hf
  els e he := by
    obtain ⟨f, hf, rfl⟩ := List.mem_map.1 he
    have h2 := h.els f hf
    refine ⟨by simpa [mpE] using h2.1, fun y hy => ?_⟩
    obtain ⟨z, hz, rfl⟩ := List.mem_map.1 hy
    exact xr_lt hx (h2.2 z hz)
  len := by rw [mapP_len]; exact h.len
theorem mapP_step {x : Nat} {L : List PE} {k : Nat} {e : PE} (hk : L[k]? = some e) : (mapP x (L.take k) ++ L.drop k).set k (mpE x e) = mapP x (L.take (k + 1)) ++ L.drop (k + 1) := by
  have hlt := (List.getElem?_eq_some_iff.1 hk).1
  have hl : (mapP x (L.take k)).length = k := by rw [mapP_len, List.length_take]; omega
  rw [List.set_append_right (s := mapP x (L.take k)) k _ (by omega), hl, Nat.sub_self, List.take_add_one, hk, List.drop_eq_getElem_cons hlt, List.set_cons_zero]
  simp [mapP]
/-- Between two rounds of Map: the first k entries of the row are turned. -/
structure MS (F : Nat → Prop) (w : World) (x : Nat) (A : Option Addr) (g n c : Nat) (L : List PE) (k : Nat) (wr : World) : Prop where
  own : ∃ M, pls M = mapP x (L.take k) ++ L.drop k ∧ wr.ownsRow w.heap.size 83 2 (.slice A n c) n (mcells M) ∧ ∀ m ∈ M, EntOk (fun j => F j ∧ j ≠ g) wr m
  bel : Below w.heap.size w wr
  adr : 0 < n → A = some ⟨g, 0, none⟩
theorem MS.more {F : Nat → Prop} {w : World} {x : Nat} {A : Option Addr} {g n c : Nat} {L : List PE} {k : Nat} {wr wr' : World} (h : MS F w x A g n c L k wr) (hb : Below wr.heap.size wr wr') : MS F w x A g n c L k wr' := by
  obtain ⟨⟨M, h1, h2, h3⟩, h4, h5⟩ := h
  exact ⟨⟨M, h1, R4.own_below h2 hb (Nat.le_refl _), fun m hm => (h3 m hm).below hb (Nat.le_refl _)⟩, h4.trans (hb.mono h4.size), h5⟩
theorem MS.start {F : Nat → Prop} {w w1 : World} {x : Nat} {M : List ME} {v : Value} {n : Nat} {L : List PE} (hL : pls M = L) (hn : L.length = n) (ho : OwnM w.heap.size w1 v M) (hM : ∀ m ∈ M, EntOk F w m) (hb : Below w.heap.size w w1) : ∃ A g c, v = .slice A n c ∧ MS F w x A g n c L 0 w1 := by
  have hMn : M.length = n := by rw [← pls_len, hL, hn]
  unfold OwnM at ho
  rw [hMn] at ho
  obtain ⟨A, c, rfl, _, hr⟩ := R4.own_parts ho
  have hE : ∀ g, w.heap.size ≤ g → ∀ m ∈ M, EntOk (fun j => F j ∧ j ≠ g) w1 m := fun g hg m hm =>
    ((hM m hm).lt.below hb (Nat.le_refl _)).mono fun j hj => ⟨hj.1, by omega⟩
  by_cases h0 : 0 < n
  · obtain ⟨g, rfl, h1, h2, _⟩ := hr h0
    exact ⟨_, g, c, rfl, ⟨M, by simp [hL, mapP], ho, hE g h1⟩, hb, fun _ => rfl⟩
  · exact ⟨A, w.heap.size, c, rfl, ⟨M, by simp [hL, mapP], ho, hE _ (Nat.le_refl _)⟩, hb, fun h => absurd h h0⟩
theorem mcells_vl {M : List ME} {m : ME} {k : Nat} (hk : M[k]? = some m) (u : Value) (l : List Nat) : (mcells M).set (k * 2 + 1) u = mcells (M.set k ⟨m.vs, u, m.s, l⟩) := by
  have hlt := (List.getElem?_eq_some_iff.1 hk).1
  rw [← mcells_rep (x := ⟨m.vs, u, m.s, l⟩) hlt]
  have h1 := (mcells_at hk).1
  obtain ⟨h2, h3⟩ := List.getElem?_eq_some_iff.1 h1
  congr 1
  rw [← h3, List.set_getElem_self]
theorem MS.put {F : Nat → Prop} {w w2 : World} {x : Nat} {g n c : Nat} {L : List PE} {k : Nat} {wr : World} {e : PE} {u : Value} (h : MS F w x (some ⟨g, 0, none⟩) g n c L k wr) (hb : Below wr.heap.size wr w2) (hk : L[k]? = some e) (hu : RdE (fun j => wr.heap.size ≤ j) w2 u (e.2.map (xr x))) (hF : ∀ j, w.heap.size ≤ j → F j) :
    MS F w x (some ⟨g, 0, none⟩) g n c L (k + 1) (w2.setCell ⟨g, k * 2 + 1, none⟩ u) := by
  obtain ⟨⟨M, h1, h2, h3⟩, h4, h5⟩ := h
  have hlt := (List.getElem?_eq_some_iff.1 hk).1
  have hgB := World.ownsRow.lt h2 g rfl
  have h2' := R4.own_below h2 hb (Nat.le_refl _)
  obtain ⟨s1, g1⟩ := h2'.stored (k * 2 + 1) u
  have hMk : (pls M)[k]? = some e := by
    rw [h1]
    have hl : (mapP x (L.take k)).length = k := by rw [mapP_len, List.length_take]; omega
    rw [List.getElem?_append_right (by omega), hl, Nat.sub_self, List.getElem?_drop]
    exact hk
  obtain ⟨m, hm, hme⟩ : ∃ m, M[k]? = some m ∧ m.pl = e := pls_of hMk
  rw [mcells_vl hm u (e.2.map (xr x))] at s1
  have h4' := h4.trans (hb.mono h4.size)
  have hms : m.s = e.1 := by rw [← hme]; rfl
  refine ⟨⟨_, ?_, s1, fun q hq => ?_⟩, h4'.setCell (by show _ ≤ g; exact hgB.1) _, fun _ => rfl⟩
  · rw [← mapP_step hk, ← h1]
    simp [pls, ME.pl, List.map_set, mpE, hms]
  · rcases List.mem_or_eq_of_mem_set hq with hq | rfl
    · exact ((h3 q hq).below hb (Nat.le_refl _)).frame fun j hj hl => g1.block j hl (by intro e'; injection e' with e'; exact hj.2 e')
    · have hm3 := (h3 m (List.mem_of_getElem? hm)).below hb (Nat.le_refl _)
      refine EntOk.frame ⟨hm3.1, RdF.mono hu fun j hj => ⟨hF j (Nat.le_trans h4.size hj), by omega⟩⟩ fun j hj hl => g1.block j hl (by intro e'; injection e' with e'; exact hj.2 e')
theorem MS.at_ {F : Nat → Prop} {w : World} {x : Nat} {A : Option Addr} {g n c : Nat} {L : List PE} {k : Nat} {wr : World} {e : PE} (h : MS F w x A g n c L k wr) (hn : L.length = n) (hk : L[k]? = some e) : A = some ⟨g, 0, none⟩ ∧ ∃ vs vl, wr.cell? ⟨g, k * 2, none⟩ = some vs ∧ wr.cell? ⟨g, k * 2 + 1, none⟩ = some vl ∧ wr.frozen? ⟨g, k * 2 + 1, none⟩ = false ∧ RdI anyB wr vs e.1 ∧ RdE anyB wr vl e.2 ∧ g < wr.heap.size := by
  obtain ⟨⟨M, h1, h2, h3⟩, h4, h5⟩ := h
  have hlt := (List.getElem?_eq_some_iff.1 hk).1
  obtain rfl := h5 (by omega)
  have hMk : (pls M)[k]? = some e := by
    rw [h1]
    have hl : (mapP x (L.take k)).length = k := by rw [mapP_len, List.length_take]; omega
    rw [List.getElem?_append_right (by omega), hl, Nat.sub_self, List.getElem?_drop]
    exact hk
  obtain ⟨m, hm, rfl⟩ : ∃ m, M[k]? = some m ∧ m.pl = e := pls_of hMk
  have hMn : M.length = n := by
    rw [← pls_len, h1, List.length_append, mapP_len, List.length_take, List.length_drop]; omega
  obtain ⟨c0, c1⟩ := mcells_at hm
  have hml : (mcells M).length = n * 2 := by rw [mcells_len, hMn]
  refine ⟨rfl, m.vs, m.vl, ?_, ?_, h2.frozenAt _, RdF.any (h3 m (List.mem_of_getElem? hm)).1, RdF.any (h3 m (List.mem_of_getElem? hm)).2, (World.ownsRow.lt h2 g rfl).2⟩
  · rw [h2.cellAt _ (by omega)]; exact c0
  · rw [h2.cellAt _ (by omega)]; exact c1
theorem MS.done {F : Nat → Prop} {w : World} {x : Nat} {A : Option Addr} {g n c : Nat} {L : List PE} {wr : World} (h : MS F w x A g n c L n wr) (hn : L.length = n) : RdT F wr (.slice A n c) (mapP x L) := by
  obtain ⟨⟨M, h1, h2, h3⟩, h4, h5⟩ := h
  rw [← hn, List.take_length, List.drop_length, List.append_nil] at h1
  have hMn : M.length = n := by rw [← pls_len, h1, mapP_len, hn]
  refine ⟨M, h1, ?_, fun m hm => (h3 m hm).mono fun j hj => hj.1⟩
  rw [hMn]
  exact RdF.of_own h2 fun _ _ => trivial
/-- Between two rounds of the inner loop: the first j elements are turned. -/
structure IS (wx : World) (x h n : Nat) (l : List Nat) (j : Nat) (wr : World) : Prop where
  own : wr.ownsRow h 26 1 (.slice (some ⟨h, 0, none⟩) n n) n (ev ((l.take j).map (xr x) ++ List.replicate (n - j) 0))
  bel : Below wx.heap.size wx wr
theorem IS.more {wx : World} {x h n : Nat} {l : List Nat} {j : Nat} {wr wr' : World} (hh : IS wx x h n l j wr) (hb : Below wr.heap.size wr wr') : IS wx x h n l j wr' := ⟨R4.own_below hh.own hb (Nat.le_refl _), hh.bel.trans (hb.mono hh.bel.size)⟩
theorem made_ev (n : Nat) : (madeCells (Value.int .u32 0).cells (n * 1)).toList = ev (List.replicate n 0) := by
  apply List.ext_getElem?
  intro j
  by_cases hj : j < n
  · simp [madeCells, Value.cells, ev, hj]
    rw [Nat.mod_one]; rfl
  · simp [madeCells, Value.cells, ev, hj]
theorem IS.put {wx : World} {x h n : Nat} {l : List Nat} {j y : Nat} {wr : World} (hh : IS wx x h n l j wr) (hn : l.length = n) (hj : l[j]? = some y) (hB : wx.heap.size ≤ h) : IS wx x h n l (j + 1) (wr.setCell ⟨h, j, none⟩ (.int .u32 (xr x y : Nat))) := by
  have hlt := (List.getElem?_eq_some_iff.1 hj).1
  obtain ⟨s1, g1⟩ := hh.own.stored j (.int .u32 (xr x y : Nat))
  refine ⟨?_, hh.bel.setCell (by show _ ≤ h; exact hB) _⟩
  have hl : ((l.take j).map (xr x)).length = j := by rw [List.length_map, List.length_take]; omega
  have he : (ev ((l.take j).map (xr x) ++ List.replicate (n - j) 0)).set j (.int .u32 (xr x y : Nat)) = ev ((l.take (j + 1)).map (xr x) ++ List.replicate (n - (j + 1)) 0) := by
    rw [show ev ((l.take j).map (xr x) ++ List.replicate (n - j) 0) = ev ((l.take j).map (xr x)) ++ ev (List.replicate (n - j) 0) from ev_app _ _]
    have hl2 : (ev ((l.take j).map (xr x))).length = j := by rw [ev_len, hl]
    rw [List.set_append_right _ _ (by omega), hl2, Nat.sub_self, show n - j = (n - (j + 1)) + 1 by omega, List.replicate_succ, List.take_add_one, hj]
    simp [ev]
  rw [← he]
  exact s1
theorem IS.cells {wx : World} {x h n : Nat} {l : List Nat} {j : Nat} {wr : World} (hh : IS wx x h n l j wr) (hn : l.length = n) (hj : j < n) : (∃ u, wr.cell? ⟨h, j, none⟩ = some u) ∧ wr.frozen? ⟨h, j, none⟩ = false := by
  refine ⟨?_, hh.own.frozenAt j⟩
  have hl : (ev ((l.take j).map (xr x) ++ List.replicate (n - j) 0)).length = n := by rw [ev_len, List.length_append, List.length_map, List.length_take, List.length_replicate]; omega
  rw [hh.own.cellAt _ (by omega), List.getElem?_eq_getElem (by omega)]; exact ⟨_, rfl⟩
theorem IS.done {wx : World} {x h n : Nat} {l : List Nat} {wr : World} (hh : IS wx x h n l n wr) (hn : l.length = n) (hB : wx.heap.size ≤ h) : RdE (fun j => wx.heap.size ≤ j) wr (.slice (some ⟨h, 0, none⟩) n n) (l.map (xr x)) := by
  have h2 := hh.own
  rw [Nat.sub_self, List.replicate_zero, List.append_nil, ← hn, List.take_length, hn] at h2
  unfold RdE
  rw [List.length_map, hn]
  exact RdF.of_own h2 fun k hk => by omega
end Go.Proofs.YtaabdpfhpolcgaaGreat
namespace Go.Proofs.YtaabdpfhpolcgaaGreat
open Go.RowKit
set_option linter.unusedVariables false
set_option linter.unusedSimpArgs false
set_option maxHeartbeats 4000000 in
set_option maxRecDepth 100000 in
theorem map_any {F : Nat → Prop} {w : World} {p : Nat} {L : List PE} {x bx : Nat} (hF : ∀ k, w.heap.size ≤ k → F k) (h : TabAt F w p L) (hx : x < 4294967296) (hc : w.cell? ⟨bx, 0, none⟩ = some (.int .u32 (x : Int))) :
    Calls Tryz.prog 29 #[.pointer (some ⟨p, 0, none⟩), .func (.func 30) #[] #[.pointer (some ⟨bx, 0, none⟩)]] w fun r w' => (∃ q, r = .returned (.pointer (some ⟨q, 0, none⟩)) ∧ TabAt F w' q (mapP x L)) ∧ Below w.heap.size w w' := by
  obtain ⟨A1, c1, bo, b2, b3, d0, -, -, -, hrt, -, -, -⟩ := h.cells
  obtain ⟨M, hML, hM⟩ := hrt
  have HML := Lib.hid hML
  have HM := Lib.hid hM
  have HD := Lib.hid d0
  have HT := Lib.hid h
  have HF := Lib.hid hF
  have HC := Lib.hid hc
  have HX := Lib.hid hx
  have hlen := h.good.len
  have HGOOD := Lib.hid h.good
  have HML2 : Hid (M.length ≤ 1000000) := by show _ ≤ _; rw [← pls_len, hML]; omega
  obtain ⟨n, hn⟩ : ∃ n, L.length = n := ⟨_, rfl⟩
  have HN := Lib.hid hn
  rw [hn] at d0 HD HM hlen
  have hnI : (n : Int) ≤ 500 := by omega
  obtain ⟨i0, hi0, hz0, hz1, hz2⟩ := info_parts elem_info
  have HI := Lib.hid hi0
  have HZ0 := Lib.hid hz0
  have HZ1 := Lib.hid hz1
  have HZ2 := Lib.hid hz2
  clear h hF hc hx hM hML hn hi0 hz0 hz1 hz2
  go_enter Tryz.func29, Tryz.ntmps29
  go_wp2_with (go_at_call 44; refine (cloneM_is (by have := HM.out; exact this) HML2.out).mono ?_; rintro e w1 ⟨⟨vm, rfl, ho⟩, hb1⟩; obtain ⟨A, g, c, rfl, hms⟩ := MS.start (x := x) (F := F) HML.out HN.out ho HM.out.2 hb1; have HMS := Lib.hid hms; clear ho hb1 hms)
  clear d0
  go_loopw [18] (fun i wr => ∃ k : Nat, k ≤ n ∧ i = .int .i64 (k : Nat) ∧ Hid (MS F w x A g n c L k wr)) (fun i _ => n - (intOf i).toNat)
  case atStart => exact ⟨0, Nat.zero_le _, rfl, HMS.out⟩
  case round =>
    clear HMS
    obtain ⟨k, hk, rfl, HS⟩ := hrel
    obtain ⟨wo, rfl⟩ : ∃ wo, wo = wr := ⟨_, rfl⟩
    by_cases hlt : k < n
    · obtain ⟨e, he⟩ : ∃ e, L[k]? = some e := ⟨_, List.getElem?_eq_getElem (by rw [HN.out]; exact hlt)⟩
      obtain ⟨rfl, vs, vl, e0, e1, fz, hri, hre, hgw⟩ := HS.out.at_ HN.out he
      obtain ⟨A2, k2, rfl⟩ := hri.form
      obtain ⟨A3, k3, rfl⟩ := hre.form
      have HRE := Lib.hid hre
      have HEE := Lib.hid he
      have hkI : (k : Int) < (n : Int) := by omega
      have hl8 := (HGOOD.out.els e (List.mem_of_getElem? he)).1
      have hlw := Lib.hid (HGOOD.out.els e (List.mem_of_getElem? he)).2
      obtain ⟨n2, hn2⟩ : ∃ n2, e.2.length = n2 := ⟨_, rfl⟩
      have HN2 := Lib.hid hn2
      rw [hn2] at HRE e1 hl8 hre
      have hl8I : (n2 : Int) ≤ 8 := by omega
      clear hri hre he hlt hn2
      have HFZ := Lib.hid fz
      have HGW := Lib.hid hgw
      have HXX := alloc_below wo (.cells #[.slice A2 e.1.length k2, .slice A3 n2 k3] 83)
      have HSX := Lib.hid (HS.out.more HXX)
      have HREX := Lib.hid (HRE.out.below HXX (Nat.le_refl _))
      have HSZ : Hid ((wo.alloc (.cells #[.slice A2 e.1.length k2, .slice A3 n2 k3] 83)).heap.size = wo.heap.size + 1) := World.size_alloc _ _
      have HX1 : Hid ((wo.alloc (.cells #[.slice A2 e.1.length k2, .slice A3 n2 k3] 83)).cell? ⟨wo.heap.size, 1, none⟩ = some (.slice A3 n2 k3)) := by show _ = _; rw [cell_of_row _ _ 1 _ _ _ (heap_alloc_new wo _)]; rfl
      clear fz hgw HXX
      go_wp2_with (refine wpList_make_full _ rfl (.tmp 25) (.tmp 25) 24 rfl (wo.heap.size + 1) 26 i0 _ 1 Tryz.underlying24 HI.out HZ0.out HZ1.out .i64 .i64 _ _ n2 rfl rfl rfl rfl (by rw [HZ2.out]; omega) (by simp only [maxLen]; omega) (by rw [HSZ.out]; exact Nat.le_refl _) ?_; intro w2 ho hg; have hb2 := (Below.refl (wo.alloc (.cells #[.slice A2 e.1.length k2, .slice A3 n2 k3] 83)).heap.size (wo.alloc (.cells #[.slice A2 e.1.length k2, .slice A3 n2 k3] 83))).grown hg (Nat.le_refl _) (by simp); have e12 := cell_call hb2 HX1.out; have HIS : Hid (IS (wo.alloc (.cells #[.slice A2 e.1.length k2, .slice A3 n2 k3] 83)) x (wo.alloc (.cells #[.slice A2 e.1.length k2, .slice A3 n2 k3] 83)).heap.size n2 e.2 0 w2) := ⟨(by rw [List.take_zero, List.map_nil, List.nil_append, Nat.sub_zero, ← made_ev]; have h3 := HSZ.out; rw [← h3] at ho; exact ho), hb2⟩; clear ho hg hb2 e0 e1)
      clear e12
      generalize (wo.alloc (.cells #[.slice A2 e.1.length k2, .slice A3 n2 k3] 83)) = wx at HSX HREX HSZ HX1 HIS ⊢
      obtain ⟨h, hh⟩ : ∃ h, wo.heap.size + 1 = h := ⟨_, rfl⟩
      have HH : Hid (wx.heap.size = h) := HSZ.out.trans hh
      rw [HSZ.out] at HIS
      rw [hh] at HIS ⊢
      obtain ⟨bz, hbz⟩ : ∃ b, wo.heap.size = b := ⟨_, rfl⟩
      rw [hbz] at HX1 ⊢
      clear hh hbz
      go_loopw [30] (fun i wq => ∃ j : Nat, j ≤ n2 ∧ i = .int .i64 (j : Nat) ∧ Hid (IS wx x h n2 e.2 j wq)) (fun i _ => n2 - (intOf i).toNat)
      case atStart => exact ⟨0, Nat.zero_le _, rfl, HIS.out⟩
      case round =>
        clear HIS
        obtain ⟨j, hj, rfl, HJ⟩ := hrel
        by_cases hjl : j < n2
        · obtain ⟨y, hy⟩ : ∃ y, e.2[j]? = some y := ⟨_, List.getElem?_eq_getElem (by rw [HN2.out]; exact hjl)⟩
          obtain ⟨g5, o5, rfl, c5⟩ := (HREX.out.below HJ.out.bel (Nat.le_refl _)).at hy
          have HYY := Lib.hid hy
          have HYW := Lib.hid (hlw.out y (List.mem_of_getElem? hy))
          have HJL := Lib.hid hjl
          have hjI : (j : Int) < (n2 : Int) := by omega
          have HCC := Lib.hid ((HSX.out.bel.trans (HJ.out.bel.mono HSX.out.bel.size)).cell (p := ⟨bx, 0, none⟩) (cell_lt HC.out) |>.trans HC.out)
          clear hy hjl
          go_wp2_with (go_at_call 66; refine (turned_any HX.out HYW.out HCC.out).mono ?_; rintro r w3 ⟨rfl, hb3⟩; have HJ3 := Lib.hid (HJ.out.more hb3); obtain ⟨⟨u, f0⟩, f1⟩ := HJ3.out.cells HN2.out HJL.out; clear hb3 c5)
          go_roundw
          case rel => exact ⟨j + 1, by omega, by go_num, HJ3.out.put HN2.out HYY.out (by rw [HH.out]; exact Nat.le_refl _)⟩
          case measure => simp [intOf]; omega
        · obtain rfl : j = n2 := by omega
          clear hjl
          obtain ⟨-, vs1, vl1, -, f1, fz, -, -, -⟩ := (HSX.out.more HJ.out.bel).at_ HN.out HEE.out
          have HDN := Lib.hid (MS.put HSX.out HJ.out.bel HEE.out (HJ.out.done HN2.out (by rw [HH.out]; exact Nat.le_refl _)) HF.out)
          go_wp2
          go_roundw
          case rel => exact ⟨k + 1, by omega, by go_num, HDN.out⟩
          case measure => simp [intOf]; omega
    · obtain rfl : k = n := by omega
      clear hlt
      go_wp2_with (go_at_call 46; refine (of_any HS.out.bel HT.out (HS.out.done HN.out) (good_map HX.out HGOOD.out) (mapP_seqs x L)).mono ?_; rintro r w8 ⟨⟨q8, rfl, ht8⟩, hb8⟩; have HT8 := Lib.hid ht8; have HB8 := Lib.hid (HS.out.bel.trans (hb8.mono HS.out.bel.size)); clear ht8 hb8)
      go_ret
      exact ⟨⟨_, rfl, HT8.out⟩, HB8.out⟩
end Go.Proofs.YtaabdpfhpolcgaaGreat
namespace Go.Proofs.YtaabdpfhpolcgaaGreat
open Go.RowKit
set_option linter.unusedVariables false
set_option linter.unusedSimpArgs false
theorem RdF.pstep {P Q : Nat → Prop} {w w' : World} {v : Value} {n : Nat} {xs : List Value} (hr : RdF P w v n xs) (hf : ∀ k, P k → w'.heap[k]? = w.heap[k]? ∧ Q k) : RdF Q w' v n xs := by
  obtain ⟨A, c, rfl, hc, hr⟩ := hr
  refine ⟨A, c, rfl, hc, fun h0 => ?_⟩
  obtain ⟨g, o, e, hg, hx⟩ := hr h0
  obtain ⟨e2, hq⟩ := hf g hg
  refine ⟨g, o, e, hq, fun j u hu => ?_⟩
  rw [World.cell?_of_block (w := w) (a := ⟨g, o + j, none⟩) e2]
  exact hx j u hu
theorem KR.lt {w : World} {k : Nat} (h : KR w k) : k < w.heap.size := by
  obtain ⟨cs, T, fr, h1, _⟩ := h
  exact R4.heap_lt h1
theorem NotN.lt {w : World} {k : Nat} (h : NotN w k) : k < w.heap.size := by
  obtain ⟨cs, T, fr, h1, _⟩ := h
  exact R4.heap_lt h1
theorem KR.to {w w' : World} {k : Nat} (h : KR w k) (e : w'.heap[k]? = w.heap[k]?) : KR w' k := by
  obtain ⟨cs, T, fr, h1, h2⟩ := h
  exact ⟨cs, T, fr, e.trans h1, h2⟩
theorem NotN.to {w w' : World} {k : Nat} (h : NotN w k) (e : w'.heap[k]? = w.heap[k]?) : NotN w' k := by
  obtain ⟨cs, T, fr, h1, h2⟩ := h
  exact ⟨cs, T, fr, e.trans h1, h2⟩
/-- An entry whose signs lie in blocks below b, its elements in blocks above it that hold no entries. -/
def EntW (b : Nat) (w : World) (m : ME) : Prop := RdF (fun k => k < b ∧ KR w k) w m.vs m.s.length (iv m.s) ∧ RdF (fun k => b + 1 ≤ k ∧ NotN w k) w m.vl m.l.length (qcells m.l)
theorem EntW.step {b : Nat} {w w' : World} {m : ME} (h : EntW b w m) (h1 : ∀ k, k < b → k < w.heap.size → w'.heap[k]? = w.heap[k]?) (h2 : ∀ k, b + 1 ≤ k → NotN w k → w'.heap[k]? = w.heap[k]?) : EntW b w' m :=
  ⟨RdF.pstep h.1 fun k hk => have e := h1 k hk.1 hk.2.lt; ⟨e, hk.1, hk.2.to e⟩, RdF.pstep h.2 fun k hk => have e := h2 k hk.1 hk.2; ⟨e, hk.1, hk.2.to e⟩⟩
theorem EntW.below {b : Nat} {w w' : World} {m : ME} (h : EntW b w m) (hb : Below w.heap.size w w') : EntW b w' m := h.step (fun k _ hk => hb.block k hk) fun k _ hk => hb.block k hk.lt
theorem EntW.grown {b : Nat} {w w' : World} {v : Value} {M : List ME} {m : ME} (h : EntW b w m) (ho : OwnN (b + 1) w v M) (hg : w.grownBy w' v.ownBlock) : EntW b w' m := h.step
  (fun k hk hl => hg.block k hl (by
    intro e
    have := (World.ownsRow.lt ho k e.symm).1
    omega))
  fun k _ hk => hg.block k hk.lt (by
    obtain ⟨cs, T, fr, h1, h2⟩ := hk
    exact R4.own_apart ho h1 (by rcases h2 with e | e <;> (rw [e]; decide)))
theorem EntW.off {b : Nat} {w w' : World} {m : ME} (h : EntW b w m) (hg : w.grownBy w' (some b)) : EntW b w' m := h.step (fun k hk hl => hg.block k hl (by intro e; injection e with e; omega)) fun k hk hn => hg.block k hn.lt (by intro e; injection e with e; omega)
theorem EntW.ok {b : Nat} {w : World} {m : ME} (h : EntW b w m) : EntU anyB w m := ⟨RdF.mono h.1 fun k hk => ⟨trivial, hk.2⟩, RdF.mono h.2 fun k hk => ⟨trivial, hk.2.kr⟩⟩
/-- Between two rounds of the outer loop: the first k entries are built. -/
structure VS (w0 : World) (b x : Nat) (L : List PE) (k : Nat) (wr : World) : Prop where
  own : ∃ v M, wr.heap[b]? = some (.cells #[v] 42 (0, 0)) ∧ OwnN (b + 1) wr v M ∧ pls M = mapP x (L.take k) ∧ ∀ m ∈ M, EntW b wr m
  bel : Below b w0 wr
theorem VS.more {w0 : World} {b x : Nat} {L : List PE} {k : Nat} {wr wr' : World} (h : VS w0 b x L k wr) (hb : Below wr.heap.size wr wr') : VS w0 b x L k wr' := by
  obtain ⟨⟨v, M, h1, h2, h3, h4⟩, h5⟩ := h
  exact ⟨⟨v, M, (hb.block _ (R4.heap_lt h1)).trans h1, h2.below hb (Nat.le_refl _), h3, fun m hm => (h4 m hm).below hb⟩, h5.trans (hb.mono (Nat.le_of_lt (R4.heap_lt h1)))⟩
theorem VS.start (w0 : World) (x : Nat) (L : List PE) : VS w0 w0.heap.size x L 0 (w0.alloc (.cells #[.slice none 0 0] 42)) :=
  ⟨⟨_, [], heap_alloc_new w0 _, World.ownsRow_nil _ _ _ _, rfl, fun m hm => by cases hm⟩, alloc_below w0 _⟩
theorem VS.form {w0 : World} {b x : Nat} {L : List PE} {k : Nat} {wr : World} (h : VS w0 b x L k wr) (hk : k ≤ L.length) : ∃ A c M, wr.heap[b]? = some (.cells #[.slice A k c] 42 (0, 0)) ∧ OwnN (b + 1) wr (.slice A k c) M ∧ M.length = k ∧ pls M = mapP x (L.take k) ∧ ∀ m ∈ M, EntW b wr m := by
  obtain ⟨⟨v, M, h1, h2, h3, h4⟩, h5⟩ := h
  obtain ⟨A, c, rfl⟩ := h2.form
  have hl : M.length = k := by rw [← pls_len, h3, mapP_len, List.length_take]; omega
  rw [hl] at h1 h2
  exact ⟨A, c, M, h1, h2, hl, h3, h4⟩
theorem VS.put {w0 w6 w7 : World} {b x : Nat} {L : List PE} {k : Nat} {v v' : Value} {M : List ME} {m : ME} {e : PE} (hbel : Below b w0 w6) (hv : w6.heap[b]? = some (.cells #[v] 42 (0, 0))) (ho : OwnN (b + 1) w6 v M) (hp : pls M = mapP x (L.take k)) (hE : ∀ q ∈ M, EntW b w6 q) (hm : EntW b w6 m) (hk : L[k]? = some e) (hme : m.pl = mpE x e)
    (ho7 : OwnN (b + 1) w7 v' (M ++ [m])) (hg : w6.grownBy w7 v.ownBlock) : VS w0 b x L (k + 1) (w7.setCell ⟨b, 0, none⟩ v') := by
  have hg2 := R4.grown_setCell w7 ⟨b, 0, none⟩ v'
  have hbl := R4.heap_lt hv
  have hv7 : w7.heap[b]? = some (.cells #[v] 42 (0, 0)) := (hg.block b hbl (by
    intro e
    have := (World.ownsRow.lt ho b e.symm).1
    omega)).trans hv
  have hv8 := heap_setCell_same w7 b 0 _ _ v' hv7
  refine ⟨⟨v', M ++ [m], hv8, own_off ho7 hg2 (Nat.lt_succ_self _), ?_, fun q hq => ?_⟩, (hbel.grown hg (Nat.le_of_lt hbl) fun j hj => ?_).setCell (by show _ ≤ b; exact Nat.le_refl _) _⟩
  · rw [pls_app, hp, List.take_add_one, hk]
    simp [mapP, pls, hme]
  · rcases List.mem_append.1 hq with hq | hq
    · exact ((hE q hq).grown ho hg).off hg2
    · simp at hq
      subst hq
      exact (hm.grown ho hg).off hg2
  · have := (World.ownsRow.lt ho j hj).1
    omega
theorem VS.done {w0 : World} {b x : Nat} {L : List PE} {wr : World} {n : Nat} (h : VS w0 b x L n wr) (hn : L.length = n) : ∃ A c, wr.heap[b]? = some (.cells #[.slice A n c] 42 (0, 0)) ∧ RefT wr (.slice A n c) (mapP x L) := by
  obtain ⟨A, c, M, h1, h2, h3, h4, h5⟩ := h.form (Nat.le_of_eq hn.symm)
  rw [← hn, List.take_length] at h4
  refine ⟨A, c, h1, M, h4, ?_, fun m hm => (h5 m hm).ok⟩
  rw [h3]
  unfold OwnN at h2
  rw [h3] at h2
  exact RdF.kown h2 (.inl rfl) fun _ _ => trivial
/-- Between two rounds of the inner loop: the entry's struct in block be, its first j elements. -/
structure IV (wo : World) (be x : Nat) (vs : Value) (l : List Nat) (j : Nat) (wq : World) : Prop where
  own : ∃ v, wq.heap[be]? = some (.cells #[vs, v] 70 (0, 0)) ∧ OwnQ (be + 1) wq v ((l.take j).map (xr x))
  bel : Below be wo wq
theorem IV.start (wo : World) (x : Nat) (vs : Value) (l : List Nat) : IV wo wo.heap.size x vs l 0 (wo.alloc (.cells #[vs, .slice none 0 0] 70)) :=
  ⟨⟨_, heap_alloc_new wo _, World.ownsRow_nil _ _ _ _⟩, alloc_below wo _⟩
theorem IV.form {wo : World} {be x : Nat} {vs : Value} {l : List Nat} {j : Nat} {wq : World} (h : IV wo be x vs l j wq) (hj : j ≤ l.length) : ∃ A c, wq.heap[be]? = some (.cells #[vs, .slice A j c] 70 (0, 0)) ∧ OwnQ (be + 1) wq (.slice A j c) ((l.take j).map (xr x)) := by
  obtain ⟨⟨v, h1, h2⟩, h3⟩ := h
  obtain ⟨A, c, rfl⟩ := h2.form
  have hl : ((l.take j).map (xr x)).length = j := by rw [List.length_map, List.length_take]; omega
  rw [hl] at h1 h2
  exact ⟨A, c, h1, h2⟩
theorem IV.put {wo w6 w7 : World} {be x : Nat} {vs v v' : Value} {l : List Nat} {j y : Nat} (hbel : Below be wo w6) (hv : w6.heap[be]? = some (.cells #[vs, v] 70 (0, 0))) (ho : OwnQ (be + 1) w6 v ((l.take j).map (xr x))) (hj : l[j]? = some y)
    (ho7 : OwnQ (be + 1) w7 v' ((l.take j).map (xr x) ++ [xr x y])) (hg : w6.grownBy w7 v.ownBlock) : IV wo be x vs l (j + 1) (w7.setCell ⟨be, 1, none⟩ v') := by
  have hg2 := R4.grown_setCell w7 ⟨be, 1, none⟩ v'
  have hbl := R4.heap_lt hv
  have hv7 : w7.heap[be]? = some (.cells #[vs, v] 70 (0, 0)) := (hg.block be hbl (by
    intro e
    have := (World.ownsRow.lt ho be e.symm).1
    omega)).trans hv
  have hv8 := heap_setCell_same w7 be 1 _ _ v' hv7
  refine ⟨⟨v', hv8, ?_⟩, (hbel.grown hg (Nat.le_of_lt hbl) fun i hi => ?_).setCell (by show _ ≤ be; exact Nat.le_refl _) _⟩
  · have := own_off ho7 hg2 (Nat.lt_succ_self _)
    rw [List.take_add_one, hj, List.map_append]
    exact this
  · have := (World.ownsRow.lt ho i hi).1
    omega
/-- The struct's entry, ready to be put. -/
theorem IV.ent {wo : World} {b be x : Nat} {vs : Value} {s : List Int} {l : List Nat} {A : Option Addr} {c n : Nat} {wq : World} (ho : OwnQ (be + 1) wq (.slice A n c) (l.map (xr x))) (hvs : RdF (fun k => k < b ∧ KR wo k) wo vs s.length (iv s)) (hbo : b ≤ be) (hbel : Below be wo wq) : EntW b wq ⟨vs, .slice A n c, s, l.map (xr x)⟩ :=
  ⟨RdF.pstep hvs fun k hk => have e := hbel.block k (by omega); ⟨e, hk.1, hk.2.to e⟩, RdF.nown ho (.inl rfl) (by omega)⟩
theorem IV_slot {w6 w7 : World} {be : Nat} {cs : Array Value} {v : Value} {l : List Nat} (hv : w6.heap[be]? = some (.cells cs 70 (0, 0))) (ho : OwnQ (be + 1) w6 v l) (hg : w6.grownBy w7 v.ownBlock) : w7.heap[be]? = some (.cells cs 70 (0, 0)) :=
  (hg.block be (R4.heap_lt hv) (by
    intro e
    have := (World.ownsRow.lt ho be e.symm).1
    omega)).trans hv
theorem VS_slot {w6 w7 : World} {b : Nat} {cs : Array Value} {v : Value} {M : List ME} (hv : w6.heap[b]? = some (.cells cs 42 (0, 0))) (ho : OwnN (b + 1) w6 v M) (hg : w6.grownBy w7 v.ownBlock) : w7.heap[b]? = some (.cells cs 42 (0, 0)) :=
  (hg.block b (R4.heap_lt hv) (by
    intro e
    have := (World.ownsRow.lt ho b e.symm).1
    omega)).trans hv
def SV.q1 (y : Nat) : SV := ⟨fun v w => ∃ g C, v = .slice (some ⟨g, 0, none⟩) 1 C ∧ RdQ anyB w v [y], fun _ _ _ ⟨g, C, e, h⟩ hb => ⟨g, C, e, h.below hb (Nat.le_refl _)⟩⟩
theorem RefU.atK {U : Nat → Prop} {w : World} {A : Option Addr} {n c b : Nat} {L : List PE} (h : RefU U w (.slice A n c) L) (hb : w.heap.size ≤ b) {k : Nat} {e : PE} (hk : L[k]? = some e) :
    ∃ (g o : Nat) (vs vl : Value), A = some ⟨g, o, none⟩ ∧ w.cell? ⟨g, o + k * 2, none⟩ = some vs ∧ w.cell? ⟨g, o + k * 2 + 1, none⟩ = some vl ∧ RdF (fun j => j < b ∧ KR w j) w vs e.1.length (iv e.1) ∧ RdQ anyB w vl e.2 := by
  obtain ⟨M, rfl, h⟩ := h
  obtain ⟨m, hm, rfl⟩ := pls_of hk
  obtain ⟨g, o, e, h1, h2, h3⟩ := h.at hm
  exact ⟨g, o, m.vs, m.vl, e, h1, h2, RdF.mono h3.1 fun j hj => ⟨by have := hj.2.lt; omega, hj.2⟩, h3.els⟩
end Go.Proofs.YtaabdpfhpolcgaaGreat
namespace Go.Proofs.YtaabdpfhpolcgaaGreat
open Go.RowKit
set_option linter.unusedVariables false
set_option linter.unusedSimpArgs false
set_option maxHeartbeats 8000000 in
set_option maxRecDepth 100000 in
theorem maps_any {x : Nat} (hx : x < 4294967296) (w : World) : Calls Tryz.prog 7 #[.int .u32 (x : Int)] w fun e w' => e = .returned (.bool true) ∧ Below w.heap.size w w' := by
  obtain ⟨L, hL⟩ : ∃ L, rootP = L := ⟨_, rfl⟩
  have HL := Lib.hid hL
  obtain ⟨n, hn⟩ : ∃ n, L.length = n := ⟨_, rfl⟩
  have HN := Lib.hid hn
  have HX := Lib.hid hx
  have HC0 : Hid ((w.alloc (.cells #[.int .u32 (x : Int)] 25)).cell? ⟨w.heap.size, 0, none⟩ = some (.int .u32 (x : Int))) := by show _ = _; rw [cell_of_row _ _ 0 _ _ _ (heap_alloc_new w _)]; rfl
  have HB0 := Lib.hid (alloc_below w (.cells #[.int .u32 (x : Int)] 25))
  clear hL hn hx
  go_enter Tryz.func7, Tryz.ntmps7
  go_wp2_with (first
    | (go_at_call 9; refine (root_any _).mono ?_; rintro e w1 ⟨p, rfl, ht, hb⟩; rw [HL.out] at ht; have HT := Lib.hid (ht.mono (G := anyB) fun _ _ => trivial); have HC1 := Lib.hid (cell_call hb HC0.out); have HB1 := Lib.hid (HB0.out.trans (hb.mono HB0.out.size)); clear ht hb)
    | (go_at_call 18; refine (rroot_any _).mono ?_; rintro e w2 ⟨⟨u, rfl, hu⟩, hb⟩; rw [HL.out] at hu; obtain ⟨Au, cu, rfl⟩ := hu.form; rw [HN.out] at hu ⊢; have hA := alloc_below w2 (.cells #[.slice Au n cu] 42); have HT3 := Lib.hid ((HT.out.below hb (Nat.le_refl _)).below hA (Nat.le_refl _)); have HU3 := Lib.hid (hu.below hA (Nat.le_refl _)); have HC3 := Lib.hid (cell_call hA (cell_call hb HC1.out)); have HW3 := Lib.hid (heap_alloc_new w2 (.cells #[.slice Au n cu] 42)); have HB3 := Lib.hid ((HB1.out.trans (hb.mono HB1.out.size)).trans (hA.mono (HB1.out.trans (hb.mono HB1.out.size)).size)); clear hu hb hA)
    | (go_at_call 29; refine (map_any (F := anyB) (fun _ _ => trivial) HT3.out HX.out HC3.out).mono ?_; rintro e w4 ⟨⟨q, rfl, ht⟩, hb⟩; have HQ4 := Lib.hid ht; have HT4 := Lib.hid (HT3.out.below hb (Nat.le_refl _)); have HU4 := Lib.hid (HU3.out.below hb (Nat.le_refl _)); have HC4 := Lib.hid (cell_call hb HC3.out); have HW4 := Lib.hid ((hb.block _ (R4.heap_lt HW3.out)).trans HW3.out); have HB4 := Lib.hid (HB3.out.trans (hb.mono HB3.out.size)); clear ht hb HT3 HU3 HC3 HW3 HB3))
  have HVS := Lib.hid (VS.start w4 x L)
  obtain ⟨bx, hbx⟩ : ∃ b, w.heap.size = b := ⟨_, rfl⟩
  obtain ⟨bw, hbw⟩ : ∃ b, w2.heap.size = b := ⟨_, rfl⟩
  obtain ⟨bv, hbv⟩ : ∃ b, w4.heap.size = b := ⟨_, rfl⟩
  have HBV := Lib.hid hbv
  rw [hbx] at HC4
  rw [hbw] at HW4
  rw [hbv] at HVS
  rw [show (({ block := w.heap.size, off := 0 } : Addr)) = ⟨bx, 0, none⟩ by rw [hbx]]
  rw [show (({ block := w2.heap.size, off := 0 } : Addr)) = ⟨bw, 0, none⟩ by rw [hbw]]
  rw [show (({ block := w4.heap.size, off := 0 } : Addr)) = ⟨bv, 0, none⟩ by rw [hbv]]
  have HCW : Hid (w4.cell? ⟨bw, 0, none⟩ = some (.slice Au n cu)) := by show _ = _; rw [cell_of_row _ _ 0 _ _ _ HW4.out]; rfl
  have HGOOD := Lib.hid HT4.out.good
  have hlen := HGOOD.out.len
  rw [HN.out] at hlen
  have hnI : (n : Int) ≤ 500 := by omega
  clear hbx hbw hbv HC0 HB0 HC1 HB1 HT HW4
  generalize (w4.alloc (.cells #[.slice none 0 0] 42)) = w5 at HVS ⊢
  go_loopw [7] (fun i wr => ∃ k : Nat, k ≤ n ∧ i = .int .i64 (k : Nat) ∧ Hid (VS w4 bv x L k wr)) (fun i _ => n - (intOf i).toNat)
  case atStart => exact ⟨0, Nat.zero_le _, rfl, HVS.out⟩
  case round =>
    clear HVS
    obtain ⟨k, hk, rfl, HS⟩ := hrel
    obtain ⟨wo, rfl⟩ : ∃ wo, wo = wr := ⟨_, rfl⟩
    have HBW : Hid (Below w4.heap.size w4 wo) := by have h := HS.out.bel; rw [← HBV.out] at h; exact h
    have cw := cell_call HBW.out HCW.out
    by_cases hlt : k < n
    · obtain ⟨e, he⟩ : ∃ e, L[k]? = some e := ⟨_, List.getElem?_eq_getElem (by rw [HN.out]; exact hlt)⟩
      obtain ⟨g2, o2, vs, vl, rfl, e0w, e1w, hvs, hqe⟩ := HU4.out.atK (b := bv) (Nat.le_of_eq HBV.out) he
      obtain ⟨A4, k4, e4⟩ := hvs.form
      obtain ⟨A5, k5, e5⟩ := hqe.form
      subst e4
      subst e5
      have e0 := cell_call HBW.out e0w
      have e1 := cell_call HBW.out e1w
      have HVSS : Hid (RdF (fun j => j < bv ∧ KR wo j) wo (.slice A4 e.1.length k4) e.1.length (iv e.1)) := RdF.pstep hvs fun j hj => have h := HS.out.bel.block j hj.1; ⟨h, hj.1, hj.2.to h⟩
      have HQE := Lib.hid (hqe.below HBW.out (Nat.le_refl _))
      have HEE := Lib.hid he
      have hl8 := (HGOOD.out.els e (List.mem_of_getElem? he)).1
      have HLW := Lib.hid (HGOOD.out.els e (List.mem_of_getElem? he)).2
      obtain ⟨n2, hn2⟩ : ∃ n2, e.2.length = n2 := ⟨_, rfl⟩
      have HN2 := Lib.hid hn2
      rw [hn2] at HQE e1 hl8
      have hl8I : (n2 : Int) ≤ 8 := by omega
      have hkI : (k : Int) < (n : Int) := by omega
      have HCWo := Lib.hid cw
      have HE0 := Lib.hid e0
      have HE1 := Lib.hid e1
      have HCXo := Lib.hid (cell_call HBW.out HC4.out)
      clear hvs hqe he hlt e0w e1w hn2
      go_wp2
      clear cw e0 e1
      have HIV := Lib.hid (IV.start wo x (.slice A4 e.1.length k4) e.2)
      obtain ⟨be, hbe⟩ : ∃ b, wo.heap.size = b := ⟨_, rfl⟩
      have HBE := Lib.hid hbe
      rw [hbe] at HIV
      rw [show (({ block := wo.heap.size, off := 0 } : Addr)) = ⟨be, 0, none⟩ by rw [hbe]]
      clear hbe
      generalize (wo.alloc (.cells #[.slice A4 e.1.length k4, .slice none 0 0] 70)) = w6 at HIV ⊢
      go_loopw [9] (fun i wq => ∃ j : Nat, j ≤ n2 ∧ i = .int .i64 (j : Nat) ∧ Hid (IV wo be x (.slice A4 e.1.length k4) e.2 j wq)) (fun i _ => n2 - (intOf i).toNat)
      case atStart => exact ⟨0, Nat.zero_le _, rfl, HIV.out⟩
      case round =>
        clear HIV
        obtain ⟨j, hj, rfl, HJ⟩ := hrel
        have HBQ : Hid (Below wo.heap.size wo wr) := by have h := HJ.out.bel; rw [← HBE.out] at h; exact h
        have cw := cell_call HBQ.out HCWo.out
        have e1 := cell_call HBQ.out HE1.out
        obtain ⟨Av, cv, hrow, hoq⟩ := HJ.out.form (by rw [HN2.out]; exact hj)
        have HROW := Lib.hid hrow
        have HOQ := Lib.hid hoq
        clear hrow hoq
        by_cases hjl : j < n2
        · obtain ⟨y, hy⟩ : ∃ y, e.2[j]? = some y := ⟨_, List.getElem?_eq_getElem (by rw [HN2.out]; exact hjl)⟩
          obtain ⟨g5, o5, rfl, f0, f1, f2, f3⟩ := (HQE.out.below HBQ.out (Nat.le_refl _)).at hy
          have HYY := Lib.hid hy
          have hy32 := HLW.out y (List.mem_of_getElem? hy)
          have hxb := xr_bits HX.out hy32
          obtain ⟨z, hz⟩ : ∃ z, xr x y = z := ⟨_, rfl⟩
          have hz32 : z < 4294967296 := by rw [← hz]; exact xr_lt HX.out hy32
          rw [hz] at hxb
          have HXB := Lib.hid hxb
          have HZZ := Lib.hid hz
          have CW := Lib.hid (fun w => word_is hy32 w)
          obtain ⟨yp, hyp⟩ : ∃ p, y / 65536 = p := ⟨_, rfl⟩
          obtain ⟨ys, hys⟩ : ∃ p, y / 256 % 256 = p := ⟨_, rfl⟩
          obtain ⟨yt, hyt⟩ : ∃ p, y / 2 % 128 = p := ⟨_, rfl⟩
          obtain ⟨yv, hyv⟩ : ∃ p, decide (y % 2 = 1) = p := ⟨_, rfl⟩
          rw [hyp, hys, hyt, hyv] at CW
          rw [hyp] at f0
          rw [hys] at f1
          rw [hyt] at f2
          rw [hyv] at f3
          have HF0 := Lib.hid f0
          have HF1 := Lib.hid f1
          have HF2 := Lib.hid f2
          have HF3 := Lib.hid f3
          obtain ⟨zp, hzp⟩ : ∃ p, z / 65536 = p := ⟨_, rfl⟩
          obtain ⟨zs, hzs⟩ : ∃ p, z / 256 % 256 = p := ⟨_, rfl⟩
          obtain ⟨zt, hzt⟩ : ∃ p, z / 2 % 128 = p := ⟨_, rfl⟩
          obtain ⟨zv, hzv⟩ : ∃ p, decide (z % 2 = 1) = p := ⟨_, rfl⟩
          have CO := Lib.hid (fun w => E3.rof_any z zp zs zt zv hz32 hzp hzs hzt (by show _ = _; rw [← hzv]; simp) w)
          have HQC : Hid (qcells [z] = [.int .i64 (zp : Int), .int .i64 (zs : Int), .int .i64 (zt : Int), .bool zv]) := by show _ = _; rw [← hzp, ← hzs, ← hzt, ← hzv]; rfl
          have hjI : (j : Int) < (n2 : Int) := by omega
          have HCW1 := Lib.hid cw
          have HE11 := Lib.hid e1
          have HCX := Lib.hid (cell_call HBQ.out HCXo.out)
          have HRC1 : Hid (wr.cell? ⟨be, 1, none⟩ = some (.slice Av j cv)) := by show _ = _; rw [cell_of_row _ _ 1 _ _ _ HROW.out]; rfl
          clear hy hjl hxb hz hy32 hz32 hyp hys hyt hyv hzp hzs hzt hzv f0 f1 f2 f3
          go_wp2
          clear cw e1
          refine any_region (m := 16) [42, 43, 44, 45, 46, 47, 48, 49, 50, 51, 52, 53, 54, 55, 56, 57] [SV.eq (.pointer (some ⟨be, 1, none⟩)), SV.eq (.slice Av j cv), SV.eq (.pointer (some ⟨bw, 0, none⟩)), SV.eq (.slice (some ⟨g2, o2, none⟩) n cu), SV.eq (.int .i64 (k : Int)), SV.eq (.pointer (some ⟨g2, o2 + k * 2, none⟩)), SV.eq (.pointer (some ⟨g2, o2 + k * 2 + 1, none⟩)), SV.eq (.slice (some ⟨g5, o5, none⟩) n2 k5), SV.eq (.int .i64 (j : Int)), SV.eq (.pointer (some ⟨g5, o5 + j * 4, none⟩)), SV.eq (.agg #[.int .i64 (yp : Int), .int .i64 (ys : Int), .int .i64 (yt : Int), .bool yv]), SV.eq (.int .u32 (y : Int)), SV.eq (.int .u32 (x : Int)), SV.eq (.int .u32 (z : Int)), SV.eq (.agg #[.int .i64 (zp : Int), .int .i64 (zs : Int), .int .i64 (zt : Int), .bool zv]), SV.q1 z] (by kernel_rfl) (by kernel_rfl) ?_ ?_
          · refine ⟨⟨⟨⟨⟨⟨⟨⟨⟨⟨⟨⟨⟨⟨⟨⟨trivial, ?_⟩, ?_⟩, ?_⟩, ?_⟩, ?_⟩, ?_⟩, ?_⟩, ?_⟩, ?_⟩, ?_⟩, ?_⟩, ?_⟩, ?_⟩, ?_⟩, ?_⟩, ?_⟩
            · refine OpIs.mk rfl ?_
              intro vs w1 hb hd K hK
              simp only [frameV, List.setIfInBounds_toArray, List.set_cons_zero, List.set_cons_succ, List.getD_cons_zero, List.getD_cons_succ] at hK ⊢
              have HK := Lib.hid hK
              clear hK
              go_simp
              exact HK.out _ _ rfl (Below.refl _ _)
            · refine OpIs.mk rfl ?_
              intro vs w1 hb hd K hK
              have d0 : vs 0 = .pointer (some ⟨be, 1, none⟩) := hd 0 (by kernel_rfl)
              have c0 := cell_call hb HRC1.out
              simp only [frameV, List.setIfInBounds_toArray, List.set_cons_zero, List.set_cons_succ, List.getD_cons_zero, List.getD_cons_succ] at hK ⊢
              simp only [d0] at hK ⊢
              have HK := Lib.hid hK
              clear hK
              go_simp
              exact HK.out _ _ rfl (Below.refl _ _)
            · refine OpIs.mk rfl ?_
              intro vs w1 hb hd K hK
              simp only [frameV, List.setIfInBounds_toArray, List.set_cons_zero, List.set_cons_succ, List.getD_cons_zero, List.getD_cons_succ] at hK ⊢
              have HK := Lib.hid hK
              clear hK
              go_simp
              exact HK.out _ _ rfl (Below.refl _ _)
            · refine OpIs.mk rfl ?_
              intro vs w1 hb hd K hK
              have d2 : vs 2 = .pointer (some ⟨bw, 0, none⟩) := hd 2 (by kernel_rfl)
              have c0 := cell_call hb HCW1.out
              simp only [frameV, List.setIfInBounds_toArray, List.set_cons_zero, List.set_cons_succ, List.getD_cons_zero, List.getD_cons_succ] at hK ⊢
              simp only [d2] at hK ⊢
              have HK := Lib.hid hK
              clear hK
              go_simp
              exact HK.out _ _ rfl (Below.refl _ _)
            · refine OpIs.mk rfl ?_
              intro vs w1 hb hd K hK
              simp only [frameV, List.setIfInBounds_toArray, List.set_cons_zero, List.set_cons_succ, List.getD_cons_zero, List.getD_cons_succ] at hK ⊢
              have HK := Lib.hid hK
              clear hK
              go_simp
              exact HK.out _ _ rfl (Below.refl _ _)
            · refine OpIs.mk rfl ?_
              intro vs w1 hb hd K hK
              have d3 : vs 3 = .slice (some ⟨g2, o2, none⟩) n cu := hd 3 (by kernel_rfl)
              have d4 : vs 4 = .int .i64 (k : Int) := hd 4 (by kernel_rfl)
              simp only [frameV, List.setIfInBounds_toArray, List.set_cons_zero, List.set_cons_succ, List.getD_cons_zero, List.getD_cons_succ] at hK ⊢
              simp only [d3, d4] at hK ⊢
              have HK := Lib.hid hK
              clear hK
              go_simp
              exact HK.out _ _ rfl (Below.refl _ _)
            · refine OpIs.mk rfl ?_
              intro vs w1 hb hd K hK
              have d5 : vs 5 = .pointer (some ⟨g2, o2 + k * 2, none⟩) := hd 5 (by kernel_rfl)
              simp only [frameV, List.setIfInBounds_toArray, List.set_cons_zero, List.set_cons_succ, List.getD_cons_zero, List.getD_cons_succ] at hK ⊢
              simp only [d5] at hK ⊢
              have HK := Lib.hid hK
              clear hK
              go_simp
              exact HK.out _ _ rfl (Below.refl _ _)
            · refine OpIs.mk rfl ?_
              intro vs w1 hb hd K hK
              have d6 : vs 6 = .pointer (some ⟨g2, o2 + k * 2 + 1, none⟩) := hd 6 (by kernel_rfl)
              have c0 := cell_call hb HE11.out
              simp only [frameV, List.setIfInBounds_toArray, List.set_cons_zero, List.set_cons_succ, List.getD_cons_zero, List.getD_cons_succ] at hK ⊢
              simp only [d6] at hK ⊢
              have HK := Lib.hid hK
              clear hK
              go_simp
              exact HK.out _ _ rfl (Below.refl _ _)
            · refine OpIs.mk rfl ?_
              intro vs w1 hb hd K hK
              simp only [frameV, List.setIfInBounds_toArray, List.set_cons_zero, List.set_cons_succ, List.getD_cons_zero, List.getD_cons_succ] at hK ⊢
              have HK := Lib.hid hK
              clear hK
              go_simp
              exact HK.out _ _ rfl (Below.refl _ _)
            · refine OpIs.mk rfl ?_
              intro vs w1 hb hd K hK
              have d7 : vs 7 = .slice (some ⟨g5, o5, none⟩) n2 k5 := hd 7 (by kernel_rfl)
              have d8 : vs 8 = .int .i64 (j : Int) := hd 8 (by kernel_rfl)
              simp only [frameV, List.setIfInBounds_toArray, List.set_cons_zero, List.set_cons_succ, List.getD_cons_zero, List.getD_cons_succ] at hK ⊢
              simp only [d7, d8] at hK ⊢
              have HK := Lib.hid hK
              clear hK
              go_simp
              exact HK.out _ _ rfl (Below.refl _ _)
            · refine OpIs.mk rfl ?_
              intro vs w1 hb hd K hK
              have d9 : vs 9 = .pointer (some ⟨g5, o5 + j * 4, none⟩) := hd 9 (by kernel_rfl)
              have c0 := cell_call hb HF0.out
              have c1 := cell_call hb HF1.out
              have c2 := cell_call hb HF2.out
              have c3 := cell_call hb HF3.out
              simp only [frameV, List.setIfInBounds_toArray, List.set_cons_zero, List.set_cons_succ, List.getD_cons_zero, List.getD_cons_succ] at hK ⊢
              simp only [d9] at hK ⊢
              have HK := Lib.hid hK
              clear hK
              go_simp
              exact HK.out _ _ rfl (Below.refl _ _)
            · refine OpIs.mk rfl ?_
              intro vs w1 hb hd K hK
              have d10 : vs 10 = .agg #[.int .i64 (yp : Int), .int .i64 (ys : Int), .int .i64 (yt : Int), .bool yv] := hd 10 (by kernel_rfl)
              simp only [frameV, List.setIfInBounds_toArray, List.set_cons_zero, List.set_cons_succ, List.getD_cons_zero, List.getD_cons_succ] at hK ⊢
              simp only [d10] at hK ⊢
              have HK := Lib.hid hK
              clear hK
              go_simp
              go_at_call 32
              refine (CW.out _).mono ?_
              rintro r w3 ⟨rfl, hb3⟩
              exact HK.out _ _ rfl hb3
            · refine OpIs.mk rfl ?_
              intro vs w1 hb hd K hK
              have c0 := cell_call hb HCX.out
              simp only [frameV, List.setIfInBounds_toArray, List.set_cons_zero, List.set_cons_succ, List.getD_cons_zero, List.getD_cons_succ] at hK ⊢
              have HK := Lib.hid hK
              clear hK
              go_simp
              exact HK.out _ _ rfl (Below.refl _ _)
            · refine OpIs.mk rfl ?_
              intro vs w1 hb hd K hK
              have d11 : vs 11 = .int .u32 (y : Int) := hd 11 (by kernel_rfl)
              have d12 : vs 12 = .int .u32 (x : Int) := hd 12 (by kernel_rfl)
              have c0 := HXB.out
              simp only [frameV, List.setIfInBounds_toArray, List.set_cons_zero, List.set_cons_succ, List.getD_cons_zero, List.getD_cons_succ] at hK ⊢
              simp only [d11, d12] at hK ⊢
              have HK := Lib.hid hK
              clear hK
              go_simp
              exact HK.out _ _ rfl (Below.refl _ _)
            · refine OpIs.mk rfl ?_
              intro vs w1 hb hd K hK
              have d13 : vs 13 = .int .u32 (z : Int) := hd 13 (by kernel_rfl)
              simp only [frameV, List.setIfInBounds_toArray, List.set_cons_zero, List.set_cons_succ, List.getD_cons_zero, List.getD_cons_succ] at hK ⊢
              simp only [d13] at hK ⊢
              have HK := Lib.hid hK
              clear hK
              go_simp
              go_at_call 31
              refine (CO.out _).mono ?_
              rintro r w3 ⟨rfl, hb3⟩
              exact HK.out _ _ rfl hb3
            · refine OpIs.mk rfl ?_
              intro vs w1 hb hd K hK
              have d14 : vs 14 = .agg #[.int .i64 (zp : Int), .int .i64 (zs : Int), .int .i64 (zt : Int), .bool zv] := hd 14 (by kernel_rfl)
              simp only [frameV, List.setIfInBounds_toArray, List.set_cons_zero, List.set_cons_succ, List.getD_cons_zero, List.getD_cons_succ] at hK ⊢
              simp only [d14] at hK ⊢
              have HK := Lib.hid hK
              clear hK
              go_simp
              exact HK.out _ _ ⟨_, _, rfl, by show RdF anyB _ _ 1 (qcells _); rw [HQC.out]; exact RdF.new w1 _ _ (Nat.le_refl _)⟩ (alloc_below w1 _)
          · intro vs w3 hb hd
            have d1 : vs 1 = .slice Av j cv := hd 1 (by omega)
            obtain ⟨g15, C15, d15, hq15⟩ : ∃ g C, vs 15 = .slice (some ⟨g, 0, none⟩) 1 C ∧ RdQ anyB w3 (vs 15) [z] := hd 15 (by omega)
            rw [d15] at hq15
            have HQ15 := Lib.hid hq15
            have HB3 := Lib.hid hb
            have HROW3 := Lib.hid ((hb.block _ (R4.heap_lt HROW.out)).trans HROW.out)
            have HOQ3 := Lib.hid (HOQ.out.below hb (Nat.le_refl _))
            have HTL : Hid ((((e.2.take j).map (xr x)).length = j)) := by show _ = _; rw [List.length_map, List.length_take, HN2.out]; omega
            simp only [frameV, List.setIfInBounds_toArray, List.set_cons_zero, List.set_cons_succ, List.drop_succ_cons, List.drop_zero, d1, d15]
            clear hb hd d1 d15 hq15
            go_wp2_with (at_builtin; refine appendQ rfl (.tmp 43) (.tmp 57) rfl _ (be + 1) _ ((e.2.take j).map (xr x)) [z] rfl HOQ3.out rfl HQ15.out (R4.heap_lt HROW3.out) (by rw [HTL.out]; simp; omega) ?_; intro v7 w7 h7 hg7 hb7; obtain ⟨A7, c7, e7⟩ := OwnQ.form h7; obtain ⟨n7, hn7⟩ : ∃ m, ((e.2.take j).map (xr x) ++ [z]).length = m := ⟨_, rfl⟩; rw [hn7] at e7; subst e7; have HO7 := Lib.hid h7; have HG7 := Lib.hid hg7; have hr7 := IV_slot HROW3.out HOQ3.out hg7; have HF1 : w7.cell? ⟨be, 1, none⟩ = some (.slice Av j cv) := (by rw [cell_of_row _ _ 1 _ _ _ hr7]; rfl); have HF2 : w7.frozen? ⟨be, 1, none⟩ = false := frozen_of_row _ _ 1 _ _ hr7; clear h7 hg7 hb7 hr7 hn7)
            go_roundw
            case rel => exact ⟨j + 1, by omega, by go_num, IV.put (HJ.out.bel.trans (HB3.out.mono (by have := R4.heap_lt HROW.out; omega))) HROW3.out HOQ3.out HYY.out (by rw [HZZ.out]; exact HO7.out) HG7.out⟩
            case measure => simp [intOf]; omega
        · obtain rfl : j = n2 := by omega
          clear hjl
          have HROW2 := Lib.hid HROW.out
          have hoq : OwnQ (be + 1) wr (.slice Av j cv) (e.2.map (xr x)) := by have h := HOQ.out; rw [← HN2.out, List.take_length, HN2.out] at h; exact h
          have hbve : bv ≤ be := by have h := HS.out.bel.size; rw [HBV.out, HBE.out] at h; exact h
          have HENT : Hid (EntW bv wr ⟨.slice A4 e.1.length k4, .slice Av j cv, e.1, e.2.map (xr x)⟩) := IV.ent hoq HVSS.out hbve HJ.out.bel
          have HSQ := Lib.hid (HS.out.more HBQ.out)
          obtain ⟨Am, cm, M, hm1, hm2, hm3, hm4, hm5⟩ := HSQ.out.form (by rw [HN.out]; exact hk)
          have HA6 := alloc_below wr (.cells #[.slice A4 e.1.length k4, .slice Av j cv] 70)
          have HB6 : Hid (Below bv w4 (wr.alloc (.cells #[.slice A4 e.1.length k4, .slice Av j cv] 70))) := HSQ.out.bel.trans (HA6.mono (Nat.le_of_lt (R4.heap_lt hm1)))
          have HV6 : Hid ((wr.alloc (.cells #[.slice A4 e.1.length k4, .slice Av j cv] 70)).heap[bv]? = some (.cells #[.slice Am k cm] 42 (0, 0))) := (HA6.block _ (R4.heap_lt hm1)).trans hm1
          have HO6 := Lib.hid (hm2.below HA6 (Nat.le_refl _))
          have HM4 := Lib.hid hm4
          have HE6 : Hid (∀ q ∈ M, EntW bv (wr.alloc (.cells #[.slice A4 e.1.length k4, .slice Av j cv] 70)) q) := fun q hq => (hm5 q hq).below HA6
          have HN6 := Lib.hid (HENT.out.below HA6)
          have HML := Lib.hid hm3
          have c0 : wr.cell? ⟨bv, 0, none⟩ = some (.slice Am k cm) := by rw [cell_of_row _ _ 0 _ _ _ hm1]; rfl
          have c1 : wr.cell? ⟨be, 0, none⟩ = some (.slice A4 e.1.length k4) := by rw [cell_of_row _ _ 0 _ _ _ HROW.out]; rfl
          have c2 : wr.cell? ⟨be, 1, none⟩ = some (.slice Av j cv) := by rw [cell_of_row _ _ 1 _ _ _ HROW.out]; rfl
          clear hoq hbve hm1 hm2 hm3 hm4 hm5 HA6
          go_wp2_with (at_builtin; refine appendN rfl (.tmp 61) (.tmp 63) rfl _ (bv + 1) _ M [⟨.slice A4 e.1.length k4, .slice Av j cv, e.1, e.2.map (xr x)⟩] rfl HO6.out rfl (RdF.new wr _ _ (Nat.le_refl _)) (qentries_one (by intro q hq; simp at hq; subst hq; exact HN6.out.ok)) (R4.heap_lt HV6.out) (by rw [HML.out]; simp; omega) ?_; intro v7 w7 h7 hg7 hb7; obtain ⟨A7, c7, e7⟩ := OwnN.form h7; obtain ⟨n7, hn7⟩ : ∃ m, (M ++ [(⟨.slice A4 e.1.length k4, .slice Av j cv, e.1, e.2.map (xr x)⟩ : ME)]).length = m := ⟨_, rfl⟩; rw [hn7] at e7; subst e7; have HO7 := Lib.hid h7; have HG7 := Lib.hid hg7; have hr7 := VS_slot HV6.out HO6.out hg7; have hf1 : w7.cell? ⟨bv, 0, none⟩ = some (.slice Am k cm) := (by rw [cell_of_row _ _ 0 _ _ _ hr7]; rfl); have hf2 : w7.frozen? ⟨bv, 0, none⟩ = false := frozen_of_row _ _ 0 _ _ hr7; clear h7 hg7 hb7 hr7 hn7 cw e1 c0 c1 c2)
          go_roundw
          case rel => exact ⟨k + 1, by omega, by go_num, VS.put HB6.out HV6.out HO6.out HM4.out HE6.out HN6.out HEE.out rfl HO7.out HG7.out⟩
          case measure => simp [intOf]; omega
    · obtain rfl : k = n := by omega
      clear hlt
      obtain ⟨Am, cm, hrow, href⟩ := HS.out.done HN.out
      have hc1 : wo.cell? ⟨bv, 0, none⟩ = some (.slice Am k cm) := by rw [cell_of_row _ _ 0 _ _ _ hrow]; rfl
      have HC1 := Lib.hid hc1
      have HCWo := Lib.hid cw
      have HREF := Lib.hid href
      have HQo := Lib.hid (HQ4.out.below HBW.out (Nat.le_refl _))
      have HTo := Lib.hid (HT4.out.below HBW.out (Nat.le_refl _))
      have HUo := Lib.hid (HU4.out.below HBW.out (Nat.le_refl _))
      have HGM := Lib.hid (good_map HX.out HGOOD.out)
      have HLM : Hid ((mapP x L).length ≤ 1000) := by show _ ≤ _; rw [mapP_len, HN.out]; omega
      obtain ⟨r, hr⟩ : ∃ r, checkP (mapP x L) = r := ⟨_, rfl⟩
      have HR := Lib.hid hr
      clear hrow href hr
      go_wp2
      clear cw hc1
      refine any_region (m := 18) [66, 67, 68, 69, 70, 71, 72, 73, 74, 75, 76, 77, 78, 79, 80, 81, 82, 83] [SV.eq (.pointer (some ⟨q, 0, none⟩)), SV.eq (.agg #[.slice Am k cm]), SV.eq (.bool true), SV.eq (.bool true), SV.eq (.pointer (some ⟨p, 0, none⟩)), SV.eq (.agg #[.slice Au k cu]), SV.eq (.bool true), SV.eq (.bool true), SV.eq (.bool true), SV.eq (.pointer (some ⟨q, 0, none⟩)), SV.eq (.int .i64 r), SV.eq (.agg #[.slice Am k cm]), SV.eq (.int .i64 r), SV.eq (.bool true), SV.eq (.bool true), SV.eq (.bool true), SV.eq (.bool true), SV.eq (.bool true)] (by kernel_rfl) (by kernel_rfl) ?_ ?_
      · refine ⟨⟨⟨⟨⟨⟨⟨⟨⟨⟨⟨⟨⟨⟨⟨⟨⟨⟨trivial, ?_⟩, ?_⟩, ?_⟩, ?_⟩, ?_⟩, ?_⟩, ?_⟩, ?_⟩, ?_⟩, ?_⟩, ?_⟩, ?_⟩, ?_⟩, ?_⟩, ?_⟩, ?_⟩, ?_⟩, ?_⟩
        · refine OpIs.mk rfl ?_
          intro vs w1 hb hd K hK
          simp only [frameV, List.setIfInBounds_toArray, List.set_cons_zero, List.set_cons_succ, List.getD_cons_zero, List.getD_cons_succ] at hK ⊢
          have HK := Lib.hid hK
          clear hK
          go_simp
          exact HK.out _ _ rfl (Below.refl _ _)
        · refine OpIs.mk rfl ?_
          intro vs w1 hb hd K hK
          have c0 := cell_call hb HC1.out
          simp only [frameV, List.setIfInBounds_toArray, List.set_cons_zero, List.set_cons_succ, List.getD_cons_zero, List.getD_cons_succ] at hK ⊢
          have HK := Lib.hid hK
          clear hK
          go_simp
          exact HK.out _ _ rfl (Below.refl _ _)
        · refine OpIs.mk rfl ?_
          intro vs w1 hb hd K hK
          have d0 : vs 0 = .pointer (some ⟨q, 0, none⟩) := hd 0 (by kernel_rfl)
          have d1 : vs 1 = .agg #[.slice Am k cm] := hd 1 (by kernel_rfl)
          simp only [frameV, List.setIfInBounds_toArray, List.set_cons_zero, List.set_cons_succ, List.getD_cons_zero, List.getD_cons_succ] at hK ⊢
          simp only [d0, d1] at hK ⊢
          have HK := Lib.hid hK
          clear hK
          go_simp
          go_at_call 17
          refine (like_any (HQo.out.below hb (Nat.le_refl _)) (HREF.out.below hb (Nat.le_refl _))).mono ?_
          rintro q w3 ⟨rfl, hb3⟩
          exact HK.out _ _ rfl hb3
        · refine OpIs.mk rfl ?_
          intro vs w1 hb hd K hK
          have d2 : vs 2 = .bool true := hd 2 (by kernel_rfl)
          simp only [frameV, List.setIfInBounds_toArray, List.set_cons_zero, List.set_cons_succ, List.getD_cons_zero, List.getD_cons_succ] at hK ⊢
          simp only [d2] at hK ⊢
          have HK := Lib.hid hK
          clear hK
          go_simp
          exact HK.out _ _ rfl (Below.refl _ _)
        · refine OpIs.mk rfl ?_
          intro vs w1 hb hd K hK
          have d3 : vs 3 = .bool true := hd 3 (by kernel_rfl)
          simp only [frameV, List.setIfInBounds_toArray, List.set_cons_zero, List.set_cons_succ, List.getD_cons_zero, List.getD_cons_succ] at hK ⊢
          simp only [d3] at hK ⊢
          have HK := Lib.hid hK
          clear hK
          go_simp
          exact HK.out _ _ rfl (Below.refl _ _)
        · refine OpIs.mk rfl ?_
          intro vs w1 hb hd K hK
          have d3 : vs 3 = .bool true := hd 3 (by kernel_rfl)
          have c0 := cell_call hb HCWo.out
          simp only [frameV, List.setIfInBounds_toArray, List.set_cons_zero, List.set_cons_succ, List.getD_cons_zero, List.getD_cons_succ] at hK ⊢
          simp only [d3] at hK ⊢
          have HK := Lib.hid hK
          clear hK
          go_simp
          exact HK.out _ _ rfl (Below.refl _ _)
        · refine OpIs.mk rfl ?_
          intro vs w1 hb hd K hK
          have d4 : vs 4 = .pointer (some ⟨p, 0, none⟩) := hd 4 (by kernel_rfl)
          have d5 : vs 5 = .agg #[.slice Au k cu] := hd 5 (by kernel_rfl)
          have d3 : vs 3 = .bool true := hd 3 (by kernel_rfl)
          simp only [frameV, List.setIfInBounds_toArray, List.set_cons_zero, List.set_cons_succ, List.getD_cons_zero, List.getD_cons_succ] at hK ⊢
          simp only [d4, d5, d3] at hK ⊢
          have HK := Lib.hid hK
          clear hK
          go_simp
          go_at_call 17
          refine (like_any (HTo.out.below hb (Nat.le_refl _)) (HUo.out.below hb (Nat.le_refl _))).mono ?_
          rintro q w3 ⟨rfl, hb3⟩
          exact HK.out _ _ rfl hb3
        · refine OpIs.mk rfl ?_
          intro vs w1 hb hd K hK
          have d3 : vs 3 = .bool true := hd 3 (by kernel_rfl)
          have d6 : vs 6 = .bool true := hd 6 (by kernel_rfl)
          simp only [frameV, List.setIfInBounds_toArray, List.set_cons_zero, List.set_cons_succ, List.getD_cons_zero, List.getD_cons_succ] at hK ⊢
          simp only [d3, d6] at hK ⊢
          have HK := Lib.hid hK
          clear hK
          go_simp
          exact HK.out _ _ rfl (Below.refl _ _)
        · refine OpIs.mk rfl ?_
          intro vs w1 hb hd K hK
          have d7 : vs 7 = .bool true := hd 7 (by kernel_rfl)
          simp only [frameV, List.setIfInBounds_toArray, List.set_cons_zero, List.set_cons_succ, List.getD_cons_zero, List.getD_cons_succ] at hK ⊢
          simp only [d7] at hK ⊢
          have HK := Lib.hid hK
          clear hK
          go_simp
          exact HK.out _ _ rfl (Below.refl _ _)
        · refine OpIs.mk rfl ?_
          intro vs w1 hb hd K hK
          have d8 : vs 8 = .bool true := hd 8 (by kernel_rfl)
          simp only [frameV, List.setIfInBounds_toArray, List.set_cons_zero, List.set_cons_succ, List.getD_cons_zero, List.getD_cons_succ] at hK ⊢
          simp only [d8] at hK ⊢
          have HK := Lib.hid hK
          clear hK
          go_simp
          exact HK.out _ _ rfl (Below.refl _ _)
        · refine OpIs.mk rfl ?_
          intro vs w1 hb hd K hK
          have d9 : vs 9 = .pointer (some ⟨q, 0, none⟩) := hd 9 (by kernel_rfl)
          have d8 : vs 8 = .bool true := hd 8 (by kernel_rfl)
          simp only [frameV, List.setIfInBounds_toArray, List.set_cons_zero, List.set_cons_succ, List.getD_cons_zero, List.getD_cons_succ] at hK ⊢
          simp only [d9, d8] at hK ⊢
          have HK := Lib.hid hK
          clear hK
          go_simp
          go_at_call 15
          refine (check_any (HQo.out.below hb (Nat.le_refl _)) HR.out).mono ?_
          rintro q w3 ⟨rfl, hb3⟩
          exact HK.out _ _ rfl hb3
        · refine OpIs.mk rfl ?_
          intro vs w1 hb hd K hK
          have d8 : vs 8 = .bool true := hd 8 (by kernel_rfl)
          have c0 := cell_call hb HC1.out
          simp only [frameV, List.setIfInBounds_toArray, List.set_cons_zero, List.set_cons_succ, List.getD_cons_zero, List.getD_cons_succ] at hK ⊢
          simp only [d8] at hK ⊢
          have HK := Lib.hid hK
          clear hK
          go_simp
          exact HK.out _ _ rfl (Below.refl _ _)
        · refine OpIs.mk rfl ?_
          intro vs w1 hb hd K hK
          have d11 : vs 11 = .agg #[.slice Am k cm] := hd 11 (by kernel_rfl)
          have d8 : vs 8 = .bool true := hd 8 (by kernel_rfl)
          simp only [frameV, List.setIfInBounds_toArray, List.set_cons_zero, List.set_cons_succ, List.getD_cons_zero, List.getD_cons_succ] at hK ⊢
          simp only [d11, d8] at hK ⊢
          have HK := Lib.hid hK
          clear hK
          go_simp
          go_at_call 28
          refine (rcheck_any (HREF.out.below hb (Nat.le_refl _)) HLM.out (fun e he => ⟨by have := (HGM.out.seq e he).2.1; omega, (HGM.out.seq e he).1, by have := (HGM.out.els e he).1; omega⟩) HR.out).mono ?_
          rintro q w3 ⟨rfl, hb3⟩
          exact HK.out _ _ rfl hb3
        · refine OpIs.mk rfl ?_
          intro vs w1 hb hd K hK
          have d10 : vs 10 = .int .i64 r := hd 10 (by kernel_rfl)
          have d12 : vs 12 = .int .i64 r := hd 12 (by kernel_rfl)
          have d8 : vs 8 = .bool true := hd 8 (by kernel_rfl)
          simp only [frameV, List.setIfInBounds_toArray, List.set_cons_zero, List.set_cons_succ, List.getD_cons_zero, List.getD_cons_succ] at hK ⊢
          simp only [d10, d12, d8] at hK ⊢
          have HK := Lib.hid hK
          clear hK
          go_simp
          exact HK.out _ _ rfl (Below.refl _ _)
        · refine OpIs.mk rfl ?_
          intro vs w1 hb hd K hK
          have d8 : vs 8 = .bool true := hd 8 (by kernel_rfl)
          have d13 : vs 13 = .bool true := hd 13 (by kernel_rfl)
          simp only [frameV, List.setIfInBounds_toArray, List.set_cons_zero, List.set_cons_succ, List.getD_cons_zero, List.getD_cons_succ] at hK ⊢
          simp only [d8, d13] at hK ⊢
          have HK := Lib.hid hK
          clear hK
          go_simp
          exact HK.out _ _ rfl (Below.refl _ _)
        · refine OpIs.mk rfl ?_
          intro vs w1 hb hd K hK
          have d14 : vs 14 = .bool true := hd 14 (by kernel_rfl)
          simp only [frameV, List.setIfInBounds_toArray, List.set_cons_zero, List.set_cons_succ, List.getD_cons_zero, List.getD_cons_succ] at hK ⊢
          simp only [d14] at hK ⊢
          have HK := Lib.hid hK
          clear hK
          go_simp
          exact HK.out _ _ rfl (Below.refl _ _)
        · refine OpIs.mk rfl ?_
          intro vs w1 hb hd K hK
          have d15 : vs 15 = .bool true := hd 15 (by kernel_rfl)
          simp only [frameV, List.setIfInBounds_toArray, List.set_cons_zero, List.set_cons_succ, List.getD_cons_zero, List.getD_cons_succ] at hK ⊢
          simp only [d15] at hK ⊢
          have HK := Lib.hid hK
          clear hK
          go_simp
          go_at_call 16
          refine (awake_any _).mono ?_
          rintro q w3 ⟨rfl, hb3⟩
          exact HK.out _ _ rfl hb3
        · refine OpIs.mk rfl ?_
          intro vs w1 hb hd K hK
          have d15 : vs 15 = .bool true := hd 15 (by kernel_rfl)
          have d16 : vs 16 = .bool true := hd 16 (by kernel_rfl)
          simp only [frameV, List.setIfInBounds_toArray, List.set_cons_zero, List.set_cons_succ, List.getD_cons_zero, List.getD_cons_succ] at hK ⊢
          simp only [d15, d16] at hK ⊢
          have HK := Lib.hid hK
          clear hK
          go_simp
          exact HK.out _ _ rfl (Below.refl _ _)
      · intro vs w3 hb hd
        have d17 : vs 17 = .bool true := hd 17 (by omega)
        have HB3 := Lib.hid (HB4.out.trans ((HBW.out.trans (hb.mono HBW.out.size)).mono HB4.out.size))
        simp only [frameV, List.setIfInBounds_toArray, List.set_cons_zero, List.set_cons_succ, List.drop_succ_cons, List.drop_zero, d17]
        clear hb hd
        go_wp2
        go_ret
        exact ⟨rfl, HB3.out⟩
theorem tableMaps_walk (a : Int) (w : World) (h : 0 ≤ a ∧ a ≤ 4294967295) : Calls Tryz.prog 7 #[.int .u32 a] w fun e w' => e = .returned (.bool true) ∧ Below w.heap.size w w' := by
  obtain ⟨x, rfl⟩ : ∃ x : Nat, (x : Int) = a := ⟨a.toNat, by omega⟩
  exact maps_any (by omega) w
end Go.Proofs.YtaabdpfhpolcgaaGreat
