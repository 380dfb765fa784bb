/-
  PACKED for a claim.
-/
import Derived.Test.YteibnfeokgibmaaGreatP31
import Derived.Test.YteibnfeokgibmaaGreatP32
set_option linter.unusedVariables false
set_option linter.unusedSimpArgs false
set_option maxRecDepth 100000
namespace Go.Proofs.YteibnfeokgibmaaGreat
open Go.RowKit
def seqs (L : List PE) : List (List Int) := L.map (·.1)
theorem yqt {L L' : List PE} (h : seqs L = seqs L') (s : List Int) : place L s = place L' s := by
 have e : ∀ K : List PE, place K s = (seqs K).findIdx? (· == s) := fun K => by
  unfold place seqs; rw [List.findIdx?_map]; rfl
 rw [e L, e L', h]
theorem yls : ∀ {L L' : List PE} (k : Nat), seqs L = seqs L' -> ones k L = ones k L'
 | [], [], _, _ => rfl
 | [], _ :: _, _, h => by simp [seqs] at h
 | _ :: _, [], _, h => by simp [seqs] at h
 | e :: t, e' :: t', k, h => by
  simp only [seqs, List.map_cons, List.cons.injEq] at h; rw [ones, ones, h.1, yls (k + 1) h.2]
theorem yxt {L L' : List PE} (h : seqs L = seqs L') : L.length = L'.length := by
 have := congrArg List.length h
 simpa [seqs] using this
theorem KMap.seqs {kt : TypeId} {n : Nat} {w : World} {b : Nat} {L L' : List PE} (h : KMap kt n w b L) (e : seqs L = seqs L') : KMap kt n w b L' := by
 obtain ⟨m, D, h1, h2, h3⟩ := h; exact ⟨m, D, by rw [<- yxt e]; exact h1, h2, fun s kl hs hk => by rw [<- yqt e]; exact h3 s kl hs hk⟩
theorem TabAt.parts {F : Nat -> Prop} {w : World} {p : Nat} {L : List PE} (h : TabAt F w p L) : ∃ (A : Option Addr) (c bo b2 b3 : Nat), w.heap[p]? = some (.cells #[.slice A L.length c, .pointer (some ⟨bo, 0, none⟩), .map (some b2), .map (some b3)] 122 (0, 0)) /\ RdT F w (.slice A L.length c) L /\ R4.TrieAt w bo (R4.rowsF 17412 (R4.findP (ones 0 L))) /\ KMap 126 2 w b2 L /\ KMap 127 3 w b3 L := by
 obtain ⟨hg, ve, bo, b2, b3, h1, h2, h3, h4, h5⟩ := h; obtain ⟨A, c, rfl⟩ := h2.form; exact ⟨A, c, bo, b2, b3, h1, h2, h3, h4, h5⟩
set_option maxHeartbeats 1000000 in
theorem of_raw {w : World} {p bo b2 b3 : Nat} {ve v : Value} (h : w.heap[p]? = some (.cells #[ve, .pointer (some ⟨bo, 0, none⟩), .map (some b2), .map (some b3)] 122 (0, 0))) (hv : ve.oneCell' = true) (hv2 : v.oneCell' = true) {A : Option Addr} {n c : Nat} (hve : ve = .slice A n c) {A' : Option Addr} {n' c' : Nat} (hvv : v = .slice A' n' c') :
  Calls Tryz.prog 129 #[.pointer (some ⟨p, 0, none⟩), v] w fun e w' => (∃ q, e = .returned (.pointer (some ⟨q, 0, none⟩)) /\ w'.heap[q]? = some (.cells #[v, .pointer (some ⟨bo, 0, none⟩), .map (some b2), .map (some b3)] 122 (0, 0))) /\ Below w.heap.size w w' := by
 subst hve; subst hvv
 have d0 : w.cell? ⟨p, 0, none⟩ = some (.slice A n c) := by rw [cell_of_row w p 0 _ _ _ h]; rfl
 have d1 : w.cell? ⟨p, 1, none⟩ = some (.pointer (some ⟨bo, 0, none⟩)) := by rw [cell_of_row w p 1 _ _ _ h]; rfl
 have d2 : w.cell? ⟨p, 2, none⟩ = some (.map (some b2)) := by rw [cell_of_row w p 2 _ _ _ h]; rfl
 have d3 : w.cell? ⟨p, 3, none⟩ = some (.map (some b3)) := by rw [cell_of_row w p 3 _ _ _ h]; rfl
 have hn := heap_alloc_new w (.cells #[.slice A' n' c', .pointer (some ⟨bo, 0, none⟩), .map (some b2), .map (some b3)] 122); have HN := zH hn; clear h hn hv hv2
 go_enter Tryz.func129, Tryz.ntmps129
 go_wp2
 go_ret
 exact ⟨⟨_, rfl, HN.out⟩, yaa w _⟩
theorem of_any {F : Nat -> Prop} {w w1 : World} {p : Nat} {L L' : List PE} {v : Value} (hb1 : Below w.heap.size w w1) (h : TabAt F w p L) (hv : RdT F w1 v L') (hg : GoodT L') (e : seqs L = seqs L') :
  Calls Tryz.prog 129 #[.pointer (some ⟨p, 0, none⟩), v] w1 fun r w' => (∃ q, r = .returned (.pointer (some ⟨q, 0, none⟩)) /\ TabAt F w' q L') /\ Below w1.heap.size w1 w' := by
 obtain ⟨A, c, bo, b2, b3, h1, h2, h3, h4, h5⟩ := (h.below hb1 (zN _)).parts; obtain ⟨A', c', rfl⟩ := hv.form; refine (of_raw h1 rfl rfl rfl rfl).mono fun r w' => ?_
 rintro ⟨⟨q, rfl, hq⟩, hb⟩; refine ⟨⟨q, rfl, hg, _, bo, b2, b3, hq, hv.below hb (zN _), ?_, (h4.below hb (zN _)).seqs e, (h5.below hb (zN _)).seqs e⟩, hb⟩
 have := h3.below hb (zN _)
 rw [yls 0 e] at this; exact this
theorem yxs {L : List PE} {k : Nat} {e x : PE} (hk : L[k]? = some e) (hx : x.1 = e.1) : seqs L = seqs (L.set k x) := by
 unfold seqs; rw [List.map_set]
 apply List.ext_getElem?
 intro j; rw [List.getElem?_set]
 by_cases hj : k = j
 ·subst hj; obtain ⟨h1, h2⟩ := List.getElem?_eq_some_iff.1 hk
  simp [h1, h2, hx]
 ·rw [if_neg hj]
end Go.Proofs.YteibnfeokgibmaaGreat
namespace Go.Proofs.YteibnfeokgibmaaGreat
open Go.RowKit
def WithIs (F : Nat -> Prop) (L : List PE) (s : List Int) (l : List Nat) (w : World) (r : Ending) (w' : World) : Prop :=
 (withE L s l = 0 -> ∃ q, r = .returned (.tuple #[.pointer (some ⟨q, 0, none⟩), .int .i64 0]) /\ TabAt F w' q (putP L (s, l))) /\ (withE L s l ≠ 0 -> r = .returned (.tuple #[.pointer none, .int .i64 (withE L s l)])) /\ Below w.heap.size w w'
set_option maxHeartbeats 1000000 in
theorem yxi {w : World} {G H : Nat -> Prop} {p : Value} {sv lv : Value} {s : List Int} {l : List Nat} (hs : RdI G w sv s) (hl : RdE H w lv l) (hsl : s.length <= 1000000000000000) (hll : l.length <= 1000000000000000) (hb : badA s l = true) :
  Calls Tryz.prog 177 #[p, sv, lv] w fun r w' => r = .returned (.tuple #[.pointer none, .int .i64 1]) /\ Below w.heap.size w w' := by
 obtain ⟨A, c, rfl⟩ := hs.form; obtain ⟨A', c', rfl⟩ := hl.form; unfold badA at hb; simp only [Bool.or_eq_true, decide_eq_true_eq] at hb
 by_cases h1 : s.length < 1
 ·have k1 : (s.length : Int) < 1 := by omega
  clear hs hl hb
  go_enter Tryz.func177, Tryz.ntmps177
  go_wp2
  go_ret2
  exact ⟨rfl, zR _ _⟩
 ·have k1 : ¬ (s.length : Int) < 1 := by omega
  have kb : decide ((s.length : Int) < 1) = false := decide_eq_false k1
  by_cases h3 : 3 < s.length
  ·have k3 : (3 : Int) < (s.length : Int) := by omega
   clear hs hl hb
   go_enter Tryz.func177, Tryz.ntmps177
   go_wp2
   go_ret2
   exact ⟨rfl, zR _ _⟩
  ·have k3 : ¬ (3 : Int) < (s.length : Int) := by omega
   by_cases h8 : 8 < l.length
   ·have k8 : (8 : Int) < (l.length : Int) := by omega
    clear hs hl hb
    go_enter Tryz.func177, Tryz.ntmps177
    go_wp2
    go_ret2
    exact ⟨rfl, zR _ _⟩
   ·have k8 : ¬ (8 : Int) < (l.length : Int) := by omega
    have hsg : sgsB s = false := by
     cases hq : sgsB s with
     | false => rfl
     | true =>
      rw [hq] at hb
      rcases hb with ((hb | hb) | hb) | hb
      ·exact absurd hb h1
      ·exact absurd hb h3
      ·exact absurd hb h8
      ·exact absurd hb (by simp)
    have CS := zH (ybv hsg hs (by omega))
    clear hs hl hb hsg
    go_enter Tryz.func177, Tryz.ntmps177
    go_wp2_with (go_at_call 210; refine (CS.out).mono ?_; rintro e w1 ⟨rfl, hb1⟩; have HB1 := zH hb1; clear hb1)
    go_ret2
    exact ⟨rfl, HB1.out⟩
structure WSt (F : Nat -> Prop) (w : World) (p : Nat) (L : List PE) (s : List Int) (l : List Nat) (va vb : Value) (wr : World) : Prop where
 bel : Below w.heap.size w wr
 ent : EntOk F wr ⟨va, vb, s, l⟩
theorem WSt.more {F : Nat -> Prop} {w : World} {p : Nat} {L : List PE} {s : List Int} {l : List Nat} {va vb : Value} {wr wr' : World} (h : WSt F w p L s l va vb wr) (hb : Below wr.heap.size wr wr') : WSt F w p L s l va vb wr' :=
 ⟨h.bel.trans (hb.mono h.bel.size), h.ent.below hb (zN _)⟩
theorem ygh {s : List Int} {l : List Nat} (hb : badA s l = false) : 1 <= s.length /\ s.length <= 3 /\ l.length <= 8 /\ sgsB s = true := by
 unfold badA at hb; simp only [Bool.or_eq_false_iff, decide_eq_false_iff_not, Bool.not_eq_false'] at hb; exact ⟨by omega, by omega, by omega, hb.2⟩
theorem RdF.lt {F : Nat -> Prop} {w : World} {v : Value} {n : Nat} {xs : List Value} (h : RdF F w v n xs) (hx : xs.length = n) : RdF (fun g => F g /\ g < w.heap.size) w v n xs := by
 obtain ⟨A, c, rfl, hc, h⟩ := h; refine ⟨A, c, rfl, hc, fun h0 => ?_⟩
 obtain ⟨g, o, e, hg, hxx⟩ := h h0; refine ⟨g, o, e, ⟨hg, ?_⟩, hxx⟩; obtain ⟨y, t, rfl⟩ : ∃ y t, xs = y :: t := by cases xs with | nil => simp at hx; omega | cons y t => exact ⟨y, t, rfl⟩
 exact yaj (hxx 0 y rfl)
theorem EntOk.lt {F : Nat -> Prop} {w : World} {m : ME} (h : EntOk F w m) : EntOk (fun g => F g /\ g < w.heap.size) w m := ⟨RdF.lt h.1 (iv_len m.s), RdF.lt h.2 (ev_len m.l)⟩
theorem ins_tab {F : Nat -> Prop} {w w8 w9 : World} {L : List PE} {M : List ME} {x : ME} {v : Value} {q B : Nat} (e : pls M = L) (hM : ∀ m ∈ M, EntOk F w m) (hb : Below w.heap.size w w8) (hb9 : Below B w8 w9) (hwB : w.heap.size <= B) (hxx : EntOk F w9 x)
  (hp : place L x.s = none) (hq : cnt L x.s = q) (hr : RdF anyB w9 v (M.length + 1) (mcells (M.take q ++ [x] ++ M.drop q))) : RdT F w9 v (putP L x.pl) := by
 have hb2 : Below w.heap.size w w9 := hb.trans (hb9.mono hwB)
 refine ⟨M.take q ++ [x] ++ M.drop q, ?_, ?_, fun m hm => ?_⟩
 ·unfold putP; rw [show x.pl.1 = x.s from rfl, hp, hq, yay, yay, ygu, ykd, e, List.append_assoc]; rfl
 ·have hq2 : q <= M.length := by rw [<- hq, <- yap, e]; exact List.countP_le_length
  rw [show (M.take q ++ [x] ++ M.drop q).length = M.length + 1 by simp only [List.length_append, List.length_take, List.length_drop, List.length_cons, List.length_nil]; omega]
  exact hr
 ·rcases List.mem_append.1 hm with hm | hm
  ·rcases List.mem_append.1 hm with hm | hm
   ·exact (hM m (List.mem_of_mem_take hm)).below hb2 (zN _)
   ·simp at hm; subst hm; exact hxx
  ·exact (hM m (List.mem_of_mem_drop hm)).below hb2 (zN _)
theorem WR9 {F : Nat -> Prop} {w w3 w7 w9 : World} {L : List PE} {M : List ME} {n q c1 c9 ca cb : Nat} {A1 A9 Aa Ab : Option Addr} {s : List Int} {l : List Nat} (h1 : pls M = L) (h2 : M.length = L.length) (h3 : L.length = n) (h4 : RdM F w (.slice A1 n c1) M)
  (h5 : EntOk (fun g => F g /\ g < w3.heap.size) w7 ⟨.slice Aa s.length ca, .slice Ab l.length cb, s, l⟩) (h6 : Below w.heap.size w w7) (h7 : Below (w3.alloc (.cells #[.slice Aa s.length ca, .slice Ab l.length cb] 88)).heap.size (w7.alloc (.cells #[.slice Aa s.length ca, .slice Ab l.length cb] 88)) w9)
  (h8 : Below w.heap.size w w3) (h9 : w3.heap.size + 1 <= w7.heap.size) (h10 : place L s = none) (h11 : cnt L s = q) (h12 : RdF anyB w9 (.slice A9 (n + 1) c9) (n + 1) (mcells (M.take q ++ [⟨.slice Aa s.length ca, .slice Ab l.length cb, s, l⟩] ++ M.drop q))) : RdT F w9 (.slice A9 (n + 1) c9) (putP L (s, l)) := by
 have hs3 := h8.size; rw [World.size_alloc] at h7
 have hB8 : Below w.heap.size w (w7.alloc (.cells #[.slice Aa s.length ca, .slice Ab l.length cb] 88)) := h6.trans ((yaa w7 _).mono h6.size)
 refine ins_tab (x := ⟨.slice Aa s.length ca, .slice Ab l.length cb, s, l⟩) h1 h4.2 hB8 h7 (by omega) ?_ h10 h11 (by rw [show M.length = n from h2.trans h3]; exact h12)
 refine (h5.frame fun g hg hlt => ?_).mono fun g hg => hg.1
 exact (h7.block g (by omega)).trans ((yaa w7 _).block g hlt)
set_option maxHeartbeats 4000000 in
theorem yxg {F G H : Nat -> Prop} {w : World} {p : Nat} {L : List PE} {sv lv : Value} {s : List Int} {l : List Nat} (hF : ∀ k, w.heap.size <= k -> F k) (h : TabAt F w p L) (hs : RdI G w sv s) (hl : RdE H w lv l) (hlw : ∀ x ∈ l, x < 4294967296) (hb : badA s l = false) (hp : place L s = none) (h500 : L.length < 500) :
  Calls Tryz.prog 177 #[.pointer (some ⟨p, 0, none⟩), sv, lv] w fun r w' => (∃ q, r = .returned (.tuple #[.pointer (some ⟨q, 0, none⟩), .int .i64 0]) /\ TabAt F w' q (putP L (s, l))) /\ Below w.heap.size w w' := by
 obtain ⟨g1, g3, g8, gs⟩ := ygh hb; obtain ⟨A, c, rfl⟩ := hs.form; obtain ⟨A', c', rfl⟩ := hl.form; have hgood := h.good
 have HGP : Hid (GoodT (putP L (s, l))) := hgood.put g1 g3 gs g8 hlw (.inr h500)
 have hI : I64 s := sg_i64 gs
 have HT := zH h; have HS := zH hs; have HLE := zH hl; have HF := zH hF; have HP := zH hp; have HI := zH hI; have CS := zH (ybv gs hs (by omega))
 obtain ⟨A1, c1, bo, b2, b3, d0, -, -, -, hrt, -, -, -⟩ := h.cells; obtain ⟨M, hML, hM⟩ := hrt; have HML := zH hML; have HM := zH hM; have HD := zH d0
 have hMl : M.length = L.length := by rw [<- yap, hML]
 have HMl := zH hMl; have HSRT := zH hgood.srt
 have HSQ : Hid (∀ m ∈ M, 1 <= m.s.length /\ m.s.length <= 3) := fun m hm => by
  have := hgood.seq m.pl (by rw [<- hML]; exact List.mem_map.2 ⟨m, hm, rfl⟩)
  exact ⟨this.1, this.2.1⟩
 obtain ⟨n, hn⟩ : ∃ n, L.length = n := ⟨_, rfl⟩; have HN := zH hn; rw [hn] at d0 HD HM h500
 have hnI : (n : Int) < 500 := by omega
 obtain ⟨q, hq⟩ : ∃ q, cnt L s = q := ⟨_, rfl⟩; have HQ := zH hq
 have hqn : q <= n := by rw [<- hq, <- hn]; exact List.countP_le_length
 have k1 : ¬ (s.length : Int) < 1 := by omega
 have k3 : ¬ (3 : Int) < (s.length : Int) := by omega
 have k8 : ¬ (8 : Int) < (l.length : Int) := by omega
 have HQN : Hid (cnt (pls M) s = q) := by show _ = _; rw [hML]; exact hq
 clear h hs hl hF hp hI hM hML d0 hgood hlw hb hn hq gs hMl
 go_enter Tryz.func177, Tryz.ntmps177
 go_wp2_with (first
  | (go_at_call 210; refine (CS.out).mono ?_; rintro e w1 ⟨rfl, hb1⟩; have HB1 := zH hb1; clear hb1)
  | (go_at_call 211; refine (yfn (HS.out.below HB1.out (zN _)) (by omega)).mono ?_; rintro e w2 ⟨⟨va, rfl, ho⟩, hb2⟩; have hri := ybi (F := F) ho (fun g hg => HF.out g (Nat.le_trans HB1.out.size hg)); obtain ⟨Aa, ca, rfl⟩ := hri.form; have HRI := zH hri; have HB2 := zH (HB1.out.trans (hb2.mono HB1.out.size)); clear hb2 ho hri HB1)
  | (go_at_call 212; refine (yed (HLE.out.below HB2.out (zN _)) (by omega)).mono ?_; rintro e w3 ⟨⟨vb, rfl, ho⟩, hb3⟩; have hre := ho.rd (F := F) (fun g hg => HF.out g (Nat.le_trans HB2.out.size hg)); obtain ⟨Ab, cb, rfl⟩ := hre.form; have HX3 : Hid (EntOk (fun g => F g /\ g < w3.heap.size) (w3.alloc (.cells #[.slice Aa s.length ca, .slice Ab l.length cb] 88)) ⟨.slice Aa s.length ca, .slice Ab l.length cb, s, l⟩) := EntOk.below (EntOk.lt ⟨HRI.out.below hb3 (zN _), hre⟩) (yaa w3 _) (zN _); have HB3 := zH (HB2.out.trans (hb3.mono HB2.out.size)); have HB4 : Hid (Below w.heap.size w (w3.alloc (.cells #[.slice Aa s.length ca, .slice Ab l.length cb] 88))) := HB3.out.trans ((yaa w3 _).mono HB3.out.size); have HBX := zH (heap_alloc_new w3 (.cells #[.slice Aa s.length ca, .slice Ab l.length cb] 88)); have c04 := (HB4.out.cell (p := ⟨p, 0, none⟩) (yaj HD.out)).trans HD.out; clear hb3 ho hre HRI HB2)
  | (go_at_call 127; refine (yec (by have := HM.out.below HB4.out (zN _); exact this) (by have := HMl.out; have := HN.out; omega)).mono ?_; rintro e w5 ⟨⟨vm, rfl, ho⟩, hb5⟩; obtain ⟨Am, cm, em⟩ := (OwnM.rd (F := anyB) ho (fun m hm => (HM.out.2 m hm).mono (fun _ _ => trivial) |>.below (HB4.out.trans (hb5.mono HB4.out.size)) (zN _))).form; rw [show M.length = n from HMl.out.trans HN.out] at em; subst em; have HO5 := zH ho; have HB5 := zH (HB4.out.trans (hb5.mono HB4.out.size)); have HX5 := zH (HX3.out.below hb5 (zN _)); have HBX5 := zH ((hb5.block _ (R4.yad HBX.out)).trans HBX.out); clear hb5 ho c04 HX3 HBX)
  | (go_at_call 181; refine (yku HP.out (HT.out.below HB5.out (zN _)) (HS.out.below HB5.out (zN _)) HI.out (by omega)).mono ?_; rintro e w6 ⟨⟨i, rfl⟩, hb6⟩; have HO6 := zH (OwnM.rd (F := F) (HO5.out) (fun m hm => (HM.out.2 m hm).below HB5.out (zN _))); have HO6o := zH (R4.yan HO5.out hb6 (zN _)); have HM6 := zH (HO6.out.below hb6 (zN _)); have HB6 := zH (HB5.out.trans (hb6.mono HB5.out.size)); have HX6 := zH (HX5.out.below hb6 (zN _)); have HBX6 := zH ((hb6.block _ (R4.yad HBX5.out)).trans HBX5.out); have c60 : w6.cell? ⟨w3.heap.size, 0, none⟩ = some (.slice Aa s.length ca) := (by rw [cell_of_row _ _ 0 _ _ _ HBX6.out]; rfl); have c61 : w6.cell? ⟨w3.heap.size, 1, none⟩ = some (.slice Ab l.length cb) := (by rw [cell_of_row _ _ 1 _ _ _ HBX6.out]; rfl); clear hb6 HO5 HO6 HX5 HBX5)
  | (go_at_call 213; refine (yqg HM6.out HX6.out (by rw [HML.out]; exact HSRT.out) HSQ.out g1 g3 (by have := HMl.out; have := HN.out; omega) HQN.out).mono ?_; rintro e w7 ⟨⟨bb, rfl⟩, hb7⟩; have HO7 := zH (R4.yan HO6o.out hb7 (zN _)); have HB7 := zH (HB6.out.trans (hb7.mono HB6.out.size)); have HX7 := zH (HX6.out.below hb7 (zN _)); have HBX7 := zH ((hb7.block _ (R4.yad HBX6.out)).trans HBX6.out); have c70 : w7.cell? ⟨w3.heap.size, 0, none⟩ = some (.slice Aa s.length ca) := (by rw [cell_of_row _ _ 0 _ _ _ HBX7.out]; rfl); have c71 : w7.cell? ⟨w3.heap.size, 1, none⟩ = some (.slice Ab l.length cb) := (by rw [cell_of_row _ _ 1 _ _ _ HBX7.out]; rfl); have HSZ : Hid (w3.heap.size + 1 <= w7.heap.size) := R4.yad HBX7.out; clear hb7 HO6o HM6 HX6 HBX6 c60 c61)
  | (go_at_call 214; refine (yrb (B := (w3.alloc (.cells #[.slice Aa s.length ca, .slice Ab l.length cb] 88)).heap.size) (M := M) (x := ⟨.slice Aa s.length ca, .slice Ab l.length cb, s, l⟩) (R4.yan HO7.out (yaa w7 _) (zN _) |> fun h => (by rw [show M.length = n from HMl.out.trans HN.out] at h; unfold OwnM; rw [show M.length = n from HMl.out.trans HN.out]; exact h)) (HMl.out.trans HN.out) hqn (heap_alloc_new w7 _) (fun g hg => by have := (World.ownsRow.lt HO7.out g (by rw [hg]; rfl)).2; omega) ⟨rfl, rfl⟩ (ydb HM.out.2) (by rw [World.size_alloc, World.size_alloc]; have := HSZ.out; omega) (by omega)).mono ?_; rintro e w9 ⟨⟨A9, c9, rfl, hr9⟩, hb9⟩; have HR9 := zH hr9; have HB9 := zH hb9; clear hr9 hb9 c70 c71)
  | (go_at_call 41; refine (yfp (F := F) (L := putP L (s, l)) (WR9 HML.out HMl.out HN.out HM.out HX7.out HB7.out HB9.out HB3.out HSZ.out HP.out HQ.out HR9.out) HGP.out).mono ?_; rintro e w10 ⟨p10, rfl, ht10, hb10⟩; have HT10 := zH ht10; have HB10 := zH hb10; clear ht10 hb10))
 go_ret2
 have hB8 : Below w.heap.size w (w7.alloc (.cells #[.slice Aa s.length ca, .slice Ab l.length cb] 88)) := HB7.out.trans ((yaa w7 _).mono HB7.out.size)
 have hB9 : Below w.heap.size w w9 := hB8.trans (HB9.out.mono (by rw [World.size_alloc]; have := HB3.out.size; omega))
 exact ⟨⟨_, rfl, HT10.out⟩, hB9.trans (HB10.out.mono hB9.size)⟩
end Go.Proofs.YteibnfeokgibmaaGreat
namespace Go.Proofs.YteibnfeokgibmaaGreat
open Go.RowKit
theorem own_rep {w : World} {B n c k : Nat} {A : Option Addr} {M : List ME} (hn : M.length = n) (hk : k < n) (h : w.ownsRow B 88 2 (.slice A n c) M.length (mcells M)) :
  ∃ g, A = some ⟨g, 0, none⟩ /\ B <= g /\ g < w.heap.size /\ (∀ a b, ((w.setCell ⟨g, k * 2, none⟩ a).setCell ⟨g, k * 2 + 1, none⟩ b).ownsRow B 88 2 (.slice (some ⟨g, 0, none⟩) n c) n (((mcells M).set (k * 2) a).set (k * 2 + 1) b) /\ w.grownBy ((w.setCell ⟨g, k * 2, none⟩ a).setCell ⟨g, k * 2 + 1, none⟩ b) (some g)) ∧
   (∃ u, w.cell? ⟨g, k * 2, none⟩ = some u) /\ (∃ u, w.cell? ⟨g, k * 2 + 1, none⟩ = some u) /\ w.frozen? ⟨g, k * 2, none⟩ = false /\ w.frozen? ⟨g, k * 2 + 1, none⟩ = false := by
 rw [hn] at h
 have hl : (mcells M).length = n * 2 := by rw [yaq, hn]
 obtain ⟨A', c', e, _, hr⟩ := R4.yai h
 cases e
 obtain ⟨g, rfl, h1, h2, _⟩ := hr (by omega)
 refine ⟨g, rfl, h1, h2, fun a b => ?_, ?_, ?_, h.frozenAt _, h.frozenAt _⟩
 ·obtain ⟨s1, g1⟩ := h.stored (k * 2) a; obtain ⟨s2, g2⟩ := s1.stored (k * 2 + 1) b; exact ⟨s2, g1.trans g2⟩
 iterate 2 (·rw [h.cellAt _ (by omega), List.getElem?_eq_getElem (by omega)]; exact ⟨_, rfl⟩)
theorem yjf {M : List ME} {x : ME} {k : Nat} (hk : k < M.length) : ((mcells M).set (k * 2) x.vs).set (k * 2 + 1) x.vl = mcells (M.set k x) := by
 have h1 : M = M.take k ++ M[k] :: M.drop (k + 1) := by rw [<- List.drop_eq_getElem_cons hk, List.take_append_drop]
 have h2 : M.set k x = M.take k ++ [x] ++ M.drop (k + 1) := by rw [List.set_eq_take_append_cons_drop, if_pos hk, List.append_assoc]; rfl
 rw [h2]
 conv => lhs; rw [h1]
 exact yje (m := x) (by rw [List.length_take]; omega)
theorem REP6 {w w3 w6 : World} {g k : Nat} {va vb : Value} {o : Obj} (h6 : Below w.heap.size w w6) (h3 : Below w.heap.size w w3) (hg : (w3.alloc o).heap.size <= g) : Below w.heap.size w ((w6.setCell ⟨g, k * 2, none⟩ va).setCell ⟨g, k * 2 + 1, none⟩ vb) := by
 rw [World.size_alloc] at hg
 have := h3.size
 exact (h6.setCell (by show _ <= g; omega) _).setCell (by show _ <= g; omega) _
theorem REP8 {L : List PE} {s : List Int} {l : List Nat} {k : Nat} (hp : place L s = some k) : seqs L = seqs (putP L (s, l)) := by
 obtain ⟨e, h1, h2⟩ := ybr hp; unfold putP; rw [show (s, l).1 = s from rfl, hp]
 exact yxs h1 h2.symm
theorem REP7 {F : Nat -> Prop} {w w3 w6 : World} {L : List PE} {M : List ME} {n k c1 cm ca cb g : Nat} {A1 Aa Ab : Option Addr} {s : List Int} {l : List Nat} {o : Obj} {B : Nat} (h1 : pls M = L) (h2 : M.length = n) (hk : k < n) (h4 : RdM F w (.slice A1 n c1) M)
  (h5 : EntOk (fun g => F g /\ g < w3.heap.size) w6 ⟨.slice Aa s.length ca, .slice Ab l.length cb, s, l⟩) (h6 : Below w.heap.size w w6) (h8 : Below w.heap.size w w3) (hg : (w3.alloc o).heap.size <= g) (hp : place L s = some k)
  (ho : ∀ a b, ((w6.setCell ⟨g, k * 2, none⟩ a).setCell ⟨g, k * 2 + 1, none⟩ b).ownsRow B 88 2 (.slice (some ⟨g, 0, none⟩) n cm) n (((mcells M).set (k * 2) a).set (k * 2 + 1) b) /\ w6.grownBy ((w6.setCell ⟨g, k * 2, none⟩ a).setCell ⟨g, k * 2 + 1, none⟩ b) (some g)) :
  RdT F ((w6.setCell ⟨g, k * 2, none⟩ (.slice Aa s.length ca)).setCell ⟨g, k * 2 + 1, none⟩ (.slice Ab l.length cb)) (.slice (some ⟨g, 0, none⟩) n cm) (putP L (s, l)) := by
 have hb7 := REP6 (k := k) (va := .slice Aa s.length ca) (vb := .slice Ab l.length cb) h6 h8 hg; obtain ⟨o1, gr⟩ := ho (.slice Aa s.length ca) (.slice Ab l.length cb); rw [World.size_alloc] at hg; rw [yjf (x := ⟨.slice Aa s.length ca, .slice Ab l.length cb, s, l⟩) (by omega)] at o1
 refine ⟨M.set k ⟨.slice Aa s.length ca, .slice Ab l.length cb, s, l⟩, ?_, ?_, fun m hm => ?_⟩
 ·unfold putP; rw [show (s, l).1 = s from rfl, hp, <- h1]
  simp [pls, ME.pl, List.map_set]
 ·rw [List.length_set, h2]; exact RdF.of_own o1 fun _ _ => trivial
 ·rcases List.mem_or_eq_of_mem_set hm with hm | rfl
  ·exact (h4.2 m hm).below hb7 (zN _)
  ·refine (h5.frame fun j hj hlt => ?_).mono fun j hj => hj.1
   exact gr.block j hlt (by intro e; injection e with e; omega)
set_option maxHeartbeats 4000000 in
theorem ysf {F G H : Nat -> Prop} {w : World} {p : Nat} {L : List PE} {sv lv : Value} {s : List Int} {l : List Nat} (hF : ∀ k, w.heap.size <= k -> F k) (h : TabAt F w p L) (hs : RdI G w sv s) (hl : RdE H w lv l) (hlw : ∀ x ∈ l, x < 4294967296) (hb : badA s l = false) (hp : place L s = none) (h500 : 500 <= L.length) :
  Calls Tryz.prog 177 #[.pointer (some ⟨p, 0, none⟩), sv, lv] w fun r w' => r = .returned (.tuple #[.pointer none, .int .i64 65]) /\ Below w.heap.size w w' := by
 obtain ⟨g1, g3, g8, gs⟩ := ygh hb; obtain ⟨A, c, rfl⟩ := hs.form; obtain ⟨A', c', rfl⟩ := hl.form; have hgood := h.good; have hge := hgood.len
 have hI : I64 s := sg_i64 gs
 have HT := zH h; have HS := zH hs; have HLE := zH hl; have HF := zH hF; have HP := zH hp; have HI := zH hI; have CS := zH (ybv gs hs (by omega))
 obtain ⟨A1, c1, bo, b2, b3, d0, -, -, -, hrt, -, -, -⟩ := h.cells; obtain ⟨M, hML, hM⟩ := hrt; have HML := zH hML; have HM := zH hM; have HD := zH d0
 have hMl : M.length = L.length := by rw [<- yap, hML]
 have HMl := zH hMl; have HSRT := zH hgood.srt
 have HSQ : Hid (∀ m ∈ M, 1 <= m.s.length /\ m.s.length <= 3) := fun m hm => by
  have := hgood.seq m.pl (by rw [<- hML]; exact List.mem_map.2 ⟨m, hm, rfl⟩)
  exact ⟨this.1, this.2.1⟩
 obtain ⟨n, hn⟩ : ∃ n, L.length = n := ⟨_, rfl⟩; have HN := zH hn; rw [hn] at d0 HD HM h500; rw [hn] at hge
 have hnI : (500 : Int) <= (n : Int) := by omega
 have hnJ : (n : Int) <= 500 := by omega
 obtain ⟨q, hq⟩ : ∃ q, cnt L s = q := ⟨_, rfl⟩; have HQ := zH hq
 have hqn : q <= n := by rw [<- hq, <- hn]; exact List.countP_le_length
 have k1 : ¬ (s.length : Int) < 1 := by omega
 have k3 : ¬ (3 : Int) < (s.length : Int) := by omega
 have k8 : ¬ (8 : Int) < (l.length : Int) := by omega
 have HQN : Hid (cnt (pls M) s = q) := by show _ = _; rw [hML]; exact hq
 clear h hs hl hF hp hI hM hML d0 hgood hlw hb hn hq gs hMl
 go_enter Tryz.func177, Tryz.ntmps177
 go_wp2_with (first
  | (go_at_call 210; refine (CS.out).mono ?_; rintro e w1 ⟨rfl, hb1⟩; have HB1 := zH hb1; clear hb1)
  | (go_at_call 211; refine (yfn (HS.out.below HB1.out (zN _)) (by omega)).mono ?_; rintro e w2 ⟨⟨va, rfl, ho⟩, hb2⟩; have hri := ybi (F := F) ho (fun g hg => HF.out g (Nat.le_trans HB1.out.size hg)); obtain ⟨Aa, ca, rfl⟩ := hri.form; have HRI := zH hri; have HB2 := zH (HB1.out.trans (hb2.mono HB1.out.size)); clear hb2 ho hri HB1)
  | (go_at_call 212; refine (yed (HLE.out.below HB2.out (zN _)) (by omega)).mono ?_; rintro e w3 ⟨⟨vb, rfl, ho⟩, hb3⟩; have hre := ho.rd (F := F) (fun g hg => HF.out g (Nat.le_trans HB2.out.size hg)); obtain ⟨Ab, cb, rfl⟩ := hre.form; have HX3 : Hid (EntOk (fun g => F g /\ g < w3.heap.size) (w3.alloc (.cells #[.slice Aa s.length ca, .slice Ab l.length cb] 88)) ⟨.slice Aa s.length ca, .slice Ab l.length cb, s, l⟩) := EntOk.below (EntOk.lt ⟨HRI.out.below hb3 (zN _), hre⟩) (yaa w3 _) (zN _); have HB3 := zH (HB2.out.trans (hb3.mono HB2.out.size)); have HB4 : Hid (Below w.heap.size w (w3.alloc (.cells #[.slice Aa s.length ca, .slice Ab l.length cb] 88))) := HB3.out.trans ((yaa w3 _).mono HB3.out.size); have HBX := zH (heap_alloc_new w3 (.cells #[.slice Aa s.length ca, .slice Ab l.length cb] 88)); have c04 := (HB4.out.cell (p := ⟨p, 0, none⟩) (yaj HD.out)).trans HD.out; clear hb3 ho hre HRI HB2)
  | (go_at_call 127; refine (yec (by have := HM.out.below HB4.out (zN _); exact this) (by have := HMl.out; have := HN.out; omega)).mono ?_; rintro e w5 ⟨⟨vm, rfl, ho⟩, hb5⟩; obtain ⟨Am, cm, em⟩ := (OwnM.rd (F := anyB) ho (fun m hm => (HM.out.2 m hm).mono (fun _ _ => trivial) |>.below (HB4.out.trans (hb5.mono HB4.out.size)) (zN _))).form; rw [show M.length = n from HMl.out.trans HN.out] at em; subst em; have HO5 := zH ho; have HB5 := zH (HB4.out.trans (hb5.mono HB4.out.size)); have HX5 := zH (HX3.out.below hb5 (zN _)); have HBX5 := zH ((hb5.block _ (R4.yad HBX.out)).trans HBX.out); clear hb5 ho c04 HX3 HBX)
  | (go_at_call 181; refine (yku HP.out (HT.out.below HB5.out (zN _)) (HS.out.below HB5.out (zN _)) HI.out (by omega)).mono ?_; rintro e w6 ⟨⟨i, rfl⟩, hb6⟩; have HB6 := zH (HB5.out.trans (hb6.mono HB5.out.size)); clear hb6 HO5 HX5 HBX5))
 go_ret2
 exact ⟨rfl, HB6.out⟩
set_option maxHeartbeats 4000000 in
theorem yxf {F G H : Nat -> Prop} {k : Nat} {w : World} {p : Nat} {L : List PE} {sv lv : Value} {s : List Int} {l : List Nat} (hF : ∀ k, w.heap.size <= k -> F k) (h : TabAt F w p L) (hs : RdI G w sv s) (hl : RdE H w lv l) (hlw : ∀ x ∈ l, x < 4294967296) (hb : badA s l = false) (hp : place L s = some k) :
  Calls Tryz.prog 177 #[.pointer (some ⟨p, 0, none⟩), sv, lv] w fun r w' => (∃ q, r = .returned (.tuple #[.pointer (some ⟨q, 0, none⟩), .int .i64 0]) /\ TabAt F w' q (putP L (s, l))) /\ Below w.heap.size w w' := by
 obtain ⟨g1, g3, g8, gs⟩ := ygh hb; obtain ⟨A, c, rfl⟩ := hs.form; obtain ⟨A', c', rfl⟩ := hl.form; have hgood := h.good
 have HGP : Hid (GoodT (putP L (s, l))) := hgood.put g1 g3 gs g8 hlw (.inl (by rw [hp]; rfl))
 have hI : I64 s := sg_i64 gs
 have HT := zH h; have HS := zH hs; have HLE := zH hl; have HF := zH hF; have HP := zH hp; have HI := zH hI; have CS := zH (ybv gs hs (by omega))
 obtain ⟨A1, c1, bo, b2, b3, d0, -, -, -, hrt, -, -, -⟩ := h.cells; obtain ⟨M, hML, hM⟩ := hrt; have HML := zH hML; have HM := zH hM; have HD := zH d0
 have hMl : M.length = L.length := by rw [<- yap, hML]
 have HMl := zH hMl; have HSRT := zH hgood.srt
 have HSQ : Hid (∀ m ∈ M, 1 <= m.s.length /\ m.s.length <= 3) := fun m hm => by
  have := hgood.seq m.pl (by rw [<- hML]; exact List.mem_map.2 ⟨m, hm, rfl⟩)
  exact ⟨this.1, this.2.1⟩
 obtain ⟨n, hn⟩ : ∃ n, L.length = n := ⟨_, rfl⟩; have HN := zH hn
 have hkn : k < n := by rw [<- hn]; exact yke hp
 have hlen := hgood.len; rw [hn] at d0 HD HM hlen
 have hnI : (n : Int) <= 500 := by omega
 have hkI : (k : Int) < (n : Int) := by omega
 obtain ⟨q, hq⟩ : ∃ q, cnt L s = q := ⟨_, rfl⟩; have HQ := zH hq
 have hqn : q <= n := by rw [<- hq, <- hn]; exact List.countP_le_length
 have k1 : ¬ (s.length : Int) < 1 := by omega
 have k3 : ¬ (3 : Int) < (s.length : Int) := by omega
 have k8 : ¬ (8 : Int) < (l.length : Int) := by omega
 have HQN : Hid (cnt (pls M) s = q) := by show _ = _; rw [hML]; exact hq
 clear h hs hl hF hp hI hM hML d0 hgood hlw hb hn hq gs hMl
 go_enter Tryz.func177, Tryz.ntmps177
 go_wp2_with (first
  | (go_at_call 210; refine (CS.out).mono ?_; rintro e w1 ⟨rfl, hb1⟩; have HB1 := zH hb1; clear hb1)
  | (go_at_call 211; refine (yfn (HS.out.below HB1.out (zN _)) (by omega)).mono ?_; rintro e w2 ⟨⟨va, rfl, ho⟩, hb2⟩; have hri := ybi (F := F) ho (fun g hg => HF.out g (Nat.le_trans HB1.out.size hg)); obtain ⟨Aa, ca, rfl⟩ := hri.form; have HRI := zH hri; have HB2 := zH (HB1.out.trans (hb2.mono HB1.out.size)); clear hb2 ho hri HB1)
  | (go_at_call 212; refine (yed (HLE.out.below HB2.out (zN _)) (by omega)).mono ?_; rintro e w3 ⟨⟨vb, rfl, ho⟩, hb3⟩; have hre := ho.rd (F := F) (fun g hg => HF.out g (Nat.le_trans HB2.out.size hg)); obtain ⟨Ab, cb, rfl⟩ := hre.form; have HX3 : Hid (EntOk (fun g => F g /\ g < w3.heap.size) (w3.alloc (.cells #[.slice Aa s.length ca, .slice Ab l.length cb] 88)) ⟨.slice Aa s.length ca, .slice Ab l.length cb, s, l⟩) := EntOk.below (EntOk.lt ⟨HRI.out.below hb3 (zN _), hre⟩) (yaa w3 _) (zN _); have HB3 := zH (HB2.out.trans (hb3.mono HB2.out.size)); have HB4 : Hid (Below w.heap.size w (w3.alloc (.cells #[.slice Aa s.length ca, .slice Ab l.length cb] 88))) := HB3.out.trans ((yaa w3 _).mono HB3.out.size); have HBX := zH (heap_alloc_new w3 (.cells #[.slice Aa s.length ca, .slice Ab l.length cb] 88)); have c04 := (HB4.out.cell (p := ⟨p, 0, none⟩) (yaj HD.out)).trans HD.out; clear hb3 ho hre HRI HB2)
  | (go_at_call 127; refine (yec (by have := HM.out.below HB4.out (zN _); exact this) (by have := HMl.out; have := HN.out; omega)).mono ?_; rintro e w5 ⟨⟨vm, rfl, ho⟩, hb5⟩; obtain ⟨Am, cm, em⟩ := (OwnM.rd (F := anyB) ho (fun m hm => (HM.out.2 m hm).mono (fun _ _ => trivial) |>.below (HB4.out.trans (hb5.mono HB4.out.size)) (zN _))).form; rw [show M.length = n from HMl.out.trans HN.out] at em; subst em; have HO5 := zH ho; have HB5 := zH (HB4.out.trans (hb5.mono HB4.out.size)); have HX5 := zH (HX3.out.below hb5 (zN _)); have HBX5 := zH ((hb5.block _ (R4.yad HBX.out)).trans HBX.out); clear hb5 ho c04 HX3 HBX)
  | (go_at_call 181; refine (ykt HP.out (HT.out.below HB5.out (zN _)) (HS.out.below HB5.out (zN _))).mono ?_; rintro e w6 ⟨rfl, hb6⟩; have HO6 := zH (own_rep (HMl.out.trans HN.out) hkn (R4.yan HO5.out hb6 (zN _))); obtain ⟨g, rfl, hgB, hgw, hoo, ⟨u0, f0⟩, ⟨u1, f1⟩, fz0, fz1⟩ := HO6.out; have HOO := zH hoo; have HB6 := zH (HB5.out.trans (hb6.mono HB5.out.size)); have HX6 := zH (HX5.out.below hb6 (zN _)); have HBX6 := zH ((hb6.block _ (R4.yad HBX5.out)).trans HBX5.out); have c60 : w6.cell? ⟨w3.heap.size, 0, none⟩ = some (.slice Aa s.length ca) := (by rw [cell_of_row _ _ 0 _ _ _ HBX6.out]; rfl); have c61 : w6.cell? ⟨w3.heap.size, 1, none⟩ = some (.slice Ab l.length cb) := (by rw [cell_of_row _ _ 1 _ _ _ HBX6.out]; rfl); clear hb6 HO5 HO6 HX5 HBX5 hoo)
  | (go_at_call 129; refine (of_any (F := F) (L := L) (L' := putP L (s, l)) (REP6 HB6.out HB3.out hgB) HT.out (REP7 HML.out (HMl.out.trans HN.out) hkn HM.out HX6.out HB6.out HB3.out hgB HP.out HOO.out) HGP.out (REP8 HP.out)).mono ?_; rintro e w8 ⟨⟨q8, rfl, ht8⟩, hb8⟩; have HT8 := zH ht8; have HB8 := zH hb8; clear ht8 hb8))
 go_ret2
 have hB7 := REP6 (k := k) (va := .slice Aa s.length ca) (vb := .slice Ab l.length cb) HB6.out HB3.out hgB; exact ⟨⟨_, rfl, HT8.out⟩, hB7.trans (HB8.out.mono hB7.size)⟩
theorem yxj {F G H : Nat -> Prop} {w : World} {p : Nat} {L : List PE} {sv lv : Value} {s : List Int} {l : List Nat} (hF : ∀ k, w.heap.size <= k -> F k) (h : TabAt F w p L) (hs : RdI G w sv s) (hl : RdE H w lv l) (hlw : ∀ x ∈ l, x < 4294967296) (hsl : s.length <= 1000000000000000) (hll : l.length <= 1000000000000000) :
  Calls Tryz.prog 177 #[.pointer (some ⟨p, 0, none⟩), sv, lv] w (WithIs F L s l w) := by
 unfold WithIs withE
 cases hb : badA s l with
 | true =>
  refine (yxi hs hl hsl hll hb).mono fun r w' hh => ⟨fun e => by simp at e, fun _ => ?_, hh.2⟩
  rw [if_pos rfl]; exact hh.1
 | false =>
  simp only [Bool.false_eq_true, if_false]
  cases hp : place L s with
  | some k =>
   refine (yxf hF h hs hl hlw hb hp).mono fun r w' hh => ⟨fun _ => hh.1, fun e => ?_, hh.2⟩
   simp at e
  | none =>
   by_cases h5 : 500 <= L.length
   ·refine (ysf hF h hs hl hlw hb hp h5).mono fun r w' hh => ⟨fun e => ?_, fun _ => ?_, hh.2⟩
    ·simp [h5] at e
    ·simp only [h5, and_self, if_true]; exact hh.1
   ·refine (yxg hF h hs hl hlw hb hp (by omega)).mono fun r w' hh => ⟨fun _ => hh.1, fun e => ?_, hh.2⟩
    simp [h5] at e
end Go.Proofs.YteibnfeokgibmaaGreat
