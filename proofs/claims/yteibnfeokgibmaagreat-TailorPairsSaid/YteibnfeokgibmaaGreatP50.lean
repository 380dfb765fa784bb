/-
  PACKED for a claim.
-/
import Derived.Test.YteibnfeokgibmaaGreatP47
set_option linter.unusedVariables false
set_option linter.unusedSimpArgs false
set_option maxRecDepth 100000
namespace Go.Proofs.YteibnfeokgibmaaGreat.S6
open Go.RowKit
open T2 (gb dec one isSg isPt sgs)
abbrev TZ : TypeId := 103
structure RSD (w : World) (g : Nat) (s : ByteArray) (w1 : World) (k : Nat) (a b c : Value) (os : List (Value × List Int)) : Prop where
 lt : g < w.heap.size
 rd : RD TD w1 g s k
 x : R3 150 w1 w.heap.size a b c
 mv : Mv g w w1
 sz : w.heap.size + 1 <= w1.heap.size
 own : ∀ p ∈ os, T2.OwnI (w.heap.size + 1) w1 p.1 p.2
theorem RSD.start {w : World} {g : Nat} {s : ByteArray} {k : Nat} (h : RD TD w g s k) (r : Int) : RSD w g s (w.alloc (.cells #[.int .i64 r, .slice none 0 0, .slice none 0 0] 150)) k (.int .i64 r) (.slice none 0 0) (.slice none 0 0) [] :=
 ⟨h.lt, h.low (yaa w _) h.lt, R3.new _ _ _ _ _, Mv.of_below (yaa w _), by simp, fun p hp => by cases hp⟩
theorem RSD.call {w : World} {g : Nat} {s : ByteArray} {w1 w2 : World} {k k' : Nat} {a b c : Value} {os : List (Value × List Int)} (h : RSD w g s w1 k a b c os) (hr : RD TD w2 g s k') (hm : Mv g w1 w2) : RSD w g s w2 k' a b c os :=
 ⟨h.lt, hr, h.x.mv hm (Nat.ne_of_gt h.lt), h.mv.trans hm, Nat.le_trans h.sz hm.size, fun p hp => yce (h.own p hp) hm (by have := h.lt; omega)⟩
theorem RSD.add {w : World} {g : Nat} {s : ByteArray} {w1 : World} {k : Nat} {a b c : Value} {os : List (Value × List Int)} {B : Nat} {v : Value} {l : List Int} (h : RSD w g s w1 k a b c os) (ho : T2.OwnI B w1 v l) (hB : w.heap.size + 1 <= B) : RSD w g s w1 k a b c ((v, l) :: os) :=
 ⟨h.lt, h.rd, h.x, h.mv, h.sz, fun p hp => by
  rcases List.mem_cons.1 hp with rfl | hp
  ·exact R4.yau ho hB
  ·exact h.own p hp⟩
theorem RSD.own_set {w : World} {g : Nat} {s : ByteArray} {w1 : World} {k : Nat} {a b c : Value} {os : List (Value × List Int)} (h : RSD w g s w1 k a b c os) (o : Nat) (u : Value) : ∀ p ∈ os, T2.OwnI (w.heap.size + 1) (w1.setCell ⟨w.heap.size, o, none⟩ u) p.1 p.2 := fun p hp =>
 yce (h.own p hp) (R4.yae w1 ⟨w.heap.size, o, none⟩ u) (Nat.lt_succ_self _)
theorem RSD.set0 {w : World} {g : Nat} {s : ByteArray} {w1 : World} {k : Nat} {a b c : Value} {os : List (Value × List Int)} (h : RSD w g s w1 k a b c os) (u : Value) : RSD w g s (w1.setCell ⟨w.heap.size, 0, none⟩ u) k u b c os :=
 ⟨h.lt, h.rd.other (Nat.ne_of_lt h.lt), h.x.set0 u, h.mv.beyond (zN _) u, by simpa [World.setCell] using h.sz, h.own_set 0 u⟩
theorem RSD.set1 {w : World} {g : Nat} {s : ByteArray} {w1 : World} {k : Nat} {a b c : Value} {os : List (Value × List Int)} (h : RSD w g s w1 k a b c os) (u : Value) : RSD w g s (w1.setCell ⟨w.heap.size, 1, none⟩ u) k a u c os :=
 ⟨h.lt, h.rd.other (Nat.ne_of_lt h.lt), h.x.set1 u, h.mv.beyond (zN _) u, by simpa [World.setCell] using h.sz, h.own_set 1 u⟩
theorem RSD.set2 {w : World} {g : Nat} {s : ByteArray} {w1 : World} {k : Nat} {a b c : Value} {os : List (Value × List Int)} (h : RSD w g s w1 k a b c os) (u : Value) : RSD w g s (w1.setCell ⟨w.heap.size, 2, none⟩ u) k a b u os :=
 ⟨h.lt, h.rd.other (Nat.ne_of_lt h.lt), h.x.set2 u, h.mv.beyond (zN _) u, by simpa [World.setCell] using h.sz, h.own_set 2 u⟩
theorem RSD.full {w : World} {g : Nat} {s : ByteArray} {w1 : World} {k : Nat} {a b c : Value} {os : List (Value × List Int)} (h : RSD w g s w1 k a b c os) : RSD w g s (((w1.setCell ⟨w.heap.size, 0, none⟩ a).setCell ⟨w.heap.size, 1, none⟩ b).setCell ⟨w.heap.size, 2, none⟩ c) k a b c os :=
 ((h.set0 a).set1 b).set2 c
theorem RSD.quiet {w : World} {g : Nat} {s : ByteArray} {w1 w2 : World} {k : Nat} {a b c : Value} {os : List (Value × List Int)} (h : RSD w g s w1 k a b c os) (hb : Below w1.heap.size w1 w2) : RSD w g s w2 k a b c os := h.call (h.rd.below hb (zN _)) (Mv.of_below hb)
theorem RSD.step {w : World} {g : Nat} {s : ByteArray} {w1 : World} {k k' : Nat} {a b c : Value} {os : List (Value × List Int)} {i : Int} (h : RSD w g s w1 k a b c os) (e : i = (k' : Int)) : RSD w g s (w1.setCell ⟨g, 1, none⟩ (.int .i64 i)) k' a b c os := h.call (h.rd.set' e) (Mv.set _ _)
structure DS (w : World) (s : ByteArray) (wr : World) (k : Nat) (lv : Value) (M : List MR) : Prop where
 rd : RD TD wr (w.heap.size + 1) s k
 res : R3 TZ wr w.heap.size (.slice none 0 0) (.int .i64 0) (.int .i64 0)
 own : OwnR 150 (w.heap.size + 2) wr lv M
 bel : Below w.heap.size w wr
 sz : w.heap.size + 2 <= wr.heap.size
theorem DS.call {w wr w' : World} {s : ByteArray} {k k' : Nat} {lv : Value} {M : List MR} (h : DS w s wr k lv M) (hr : RD TD w' (w.heap.size + 1) s k') (hm : Mv (w.heap.size + 1) wr w') : DS w s w' k' lv M :=
 ⟨hr, h.res.mv hm (by omega), h.own.mv hm (by omega), Mv.below h.bel hm h.bel.size (Nat.le_succ _), Nat.le_trans h.sz hm.size⟩
theorem DS.quiet {w wr w' : World} {s : ByteArray} {k : Nat} {lv : Value} {M : List MR} (h : DS w s wr k lv M) (hb : Below wr.heap.size wr w') : DS w s w' k lv M := h.call (h.rd.below hb (zN _)) (Mv.of_below hb)
theorem DS.push {w wr w' : World} {s : ByteArray} {k : Nat} {lv lv' : Value} {M M' : List MR} (h : DS w s wr k lv M) (hb : Below (w.heap.size + 2) wr w') (ho : OwnR 150 (w.heap.size + 2) w' lv' M') : DS w s w' k lv' M' :=
 ⟨h.rd.low hb (by omega), h.res.low hb (by omega), ho, h.bel.trans (hb.mono (by omega)), Nat.le_trans h.sz hb.size⟩
theorem DS.start {w : World} {s : ByteArray} : DS w s ((w.alloc (.cells #[.slice none 0 0, .int .i64 0, .int .i64 0] TZ)).alloc (.cells #[.string s, .int .i64 0] TD)) 0 (.slice none 0 0) [] := by
 have h1 := R3.new TZ w (.slice none 0 0) (.int .i64 0) (.int .i64 0); have h2 := heap_alloc_new (w.alloc (.cells #[.slice none 0 0, .int .i64 0, .int .i64 0] TZ)) (.cells #[.string s, .int .i64 0] TD)
 have hs : (w.alloc (.cells #[.slice none 0 0, .int .i64 0, .int .i64 0] TZ)).heap.size = w.heap.size + 1 := by simp
 rw [hs] at h2; exact ⟨h2, h1.low (yaa _ _) (by rw [hs]; omega), OwnR.nil _ _ _, (yaa w _).trans ((yaa _ _).mono (by rw [hs]; omega)), by simp⟩
theorem DS.of_rs {w w3 wc : World} {s : ByteArray} {k3 k : Nat} {lv : Value} {M : List MR} {a b c : Value} {os : List (Value × List Int)} (h : DS w s w3 k3 lv M) (r : RSD w3 (w.heap.size + 1) s wc k a b c os) : DS w s wc k lv M := h.call r.rd r.mv
theorem DS.set {w wr : World} {s : ByteArray} {k : Nat} {lv : Value} {M : List MR} (h : DS w s wr k lv M) (a b c : Value) :
  Below w.heap.size w (((wr.setCell ⟨w.heap.size, 0, none⟩ a).setCell ⟨w.heap.size, 1, none⟩ b).setCell ⟨w.heap.size, 2, none⟩ c) /\ R3 TZ (((wr.setCell ⟨w.heap.size, 0, none⟩ a).setCell ⟨w.heap.size, 1, none⟩ b).setCell ⟨w.heap.size, 2, none⟩ c) w.heap.size a b c :=
 ⟨((h.bel.setCell (p := ⟨w.heap.size, 0, none⟩) (zN _) _).setCell (p := ⟨w.heap.size, 1, none⟩) (zN _) _).setCell (p := ⟨w.heap.size, 2, none⟩) (zN _) _, ((h.res.set0 a).set1 b).set2 c⟩
theorem DS.rules {w wr : World} {s : ByteArray} {k : Nat} {lv : Value} {M : List MR} (h : DS w s wr k lv M) (a b c : Value) :
  RdRs (((wr.setCell ⟨w.heap.size, 0, none⟩ a).setCell ⟨w.heap.size, 1, none⟩ b).setCell ⟨w.heap.size, 2, none⟩ c) lv (pls M) := by
 have hm : Mv w.heap.size wr (((wr.setCell ⟨w.heap.size, 0, none⟩ a).setCell ⟨w.heap.size, 1, none⟩ b).setCell ⟨w.heap.size, 2, none⟩ c) :=
  (R4.yae wr ⟨w.heap.size, 0, none⟩ a).trans ((R4.yae _ ⟨w.heap.size, 1, none⟩ b).trans (R4.yae _ ⟨w.heap.size, 2, none⟩ c))
 exact (h.own.mv hm (by omega)).rd
theorem ylp {L : List UInt8} {f : Nat} {out : List RV} {k : Nat} {r c : Nat} (hk : k < L.length) (hr : relD (L.drop k) = (r, c)) (hok : ¬ (r = 0 \/ (out.length = 0 /\ r ≠ 1))) :
  parD L (f + 1) out k = (if (seqD L (k + c)).1 = false then ([], (seqD L (k + c)).2.2, 10)
  else if (expD L r (seqD L (k + c)).2.2).1 = false then ([], (expD L r (seqD L (k + c)).2.2).2.2, 10)
  else parD L f (out ++ [⟨r, (seqD L (k + c)).2.1, (expD L r (seqD L (k + c)).2.2).2.1⟩]) (af L (expD L r (seqD L (k + c)).2.2).2.2)) := by
 rw [parD, if_neg (by omega), hr, if_neg hok]
set_option maxHeartbeats 4000000 in
theorem yyf {s : ByteArray} (w : World) (hs : s.size <= 1000000) {l : List RV} {at' E : Nat} (hR : parse s.data.toList = (l, at', E)) :
  Calls Tryz.prog 52 #[.string s] w fun e w' => (∃ v, e = .returned (.agg #[v, .int .i64 (at' : Nat), .int .i64 (E : Nat)]) /\ RdRs w' v l) /\ Below w.heap.size w w' := by
 have HF : Hid (parD s.data.toList (s.size + 2) [] (af s.data.toList 0) = (l, at', E)) := hR
 have HS := zH (DS.start (w := w) (s := s)); clear hR
 go_enter Tryz.func52, Tryz.ntmps52
 go_wp2
 generalize (w.alloc (.cells #[.slice none 0 0, .int .i64 0, .int .i64 0] TZ)).alloc (.cells #[.string s, .int .i64 0] TD) = w0 at HS |-
 go_loopg [4] (s.size + 2) (fun f lv wr => ∃ (M : List MR) (k : Nat), M.length <= k /\ k <= s.size /\ s.size < k + f /\ Hid (parD s.data.toList f (pls M) (af s.data.toList k) = (l, at', E)) /\ Hid (DS w s wr k lv M))
 case atStart => exact ⟨[], 0, Nat.zero_le _, Nat.zero_le _, by omega, HF.out, HS.out⟩
 case round =>
  obtain ⟨M, k0, hMk, hk0, hf, HJ, HP⟩ := hrel; clear HS HF; obtain ⟨f, rfl⟩ : ∃ f, gk = f + 1 := ⟨gk - 1, by omega⟩
  obtain ⟨A, c, rfl⟩ := HP.out.own.form; obtain ⟨ln, hln⟩ : ∃ q, M.length = q := ⟨_, rfl⟩; have HLN := zH hln; rw [hln] at HP hMk |-; clear hln; have haf := af_le (L := s.data.toList) hk0; rw [T2.ba_len] at haf; have HB := zH (fun w' (hr : RD TD w' (w.heap.size + 1) s k0) => yir hr hk0 hs)
  obtain ⟨k, hk⟩ : ∃ q, af s.data.toList k0 = q := ⟨_, rfl⟩; rw [hk] at haf HJ HB; clear hk; have hks := haf.2
  go_wp2_with (go_at_call 87; refine (HB.out _ HP.out.rd).mono ?_; rintro e w1 ⟨rfl, hr, hm⟩; have HP1 := zH (HP.out.call hr hm); have a0 := HP1.out.rd.c0; have a1 := HP1.out.rd.c1; clear hr hm)
  have hlnI : (ln : Int) <= 1000000 := by omega
  by_cases hend : s.size <= k
  ·have h9 := HJ.out; rw [parD, if_pos (show s.data.toList.length <= k from hend), yap, HLN.out] at h9
   have heq : ((k : Int) == (s.size : Int)) = true := by simp; omega
   have heqN : k = s.size := by omega
   go_quiet (fail)
   have HW := zH (yac w1 nq); generalize w1.drewN nq = w2 at HW |-; have HP2 := zH (HP1.out.quiet HW.out); clear HW; have a0 := HP2.out.rd.c0; have a1 := HP2.out.rd.c1; have a2 := HP2.out.rd.fz
   have p0 := (HP2.out).res.c0; have p1 := (HP2.out).res.c1; have p2 := (HP2.out).res.c2; have z0 := (HP2.out).res.f0; have z1 := (HP2.out).res.f1; have z2 := (HP2.out).res.f2
   by_cases h40 : 40 < ln
   ·skip
    rw [if_pos h40] at h9; have HJ2 := zH h9
    have h40I : (40 : Int) < (ln : Int) := by omega
    clear h9 HJ
    go_wp2
    have h9 := HJ2.out
    injection h9 with h1 h2
    injection h2 with h2 h3
    subst h1 h2 h3; have HZ := zH ((HP2.out).set (.slice none 0 0) (.int .i64 0) (.int .i64 65))
    revert HZ
    generalize ((w2.setCell ⟨w.heap.size, 0, none⟩ (.slice none 0 0)).setCell ⟨w.heap.size, 1, none⟩ (.int .i64 0)).setCell ⟨w.heap.size, 2, none⟩ (.int .i64 65) = wf; intro HZ; have d0 := HZ.out.2.c0; have d1 := HZ.out.2.c1; have d2 := HZ.out.2.c2
    exact bodyPost_ret (v := .agg #[.slice none 0 0, .int .i64 0, .int .i64 65]) (by simp [results, Tryz.results52, go_sem, d0, d1, d2]) rfl ⟨⟨_, rfl, RdRs.nil _⟩, HZ.out.1⟩
   ·skip
    rw [if_neg h40] at h9; have HJ2 := zH h9
    have h40I : ¬ (40 : Int) < (ln : Int) := by omega
    clear h9 HJ
    go_wp2
    have h9 := HJ2.out
    injection h9 with h1 h2
    injection h2 with h2 h3
    subst h1 h2 h3; have HZ := zH ((HP2.out).set (.slice A ln c) (.int .i64 0) (.int .i64 0)); have HRU := zH ((HP2.out).rules (.slice A ln c) (.int .i64 0) (.int .i64 0))
    revert HZ HRU
    generalize ((w2.setCell ⟨w.heap.size, 0, none⟩ (.slice A ln c)).setCell ⟨w.heap.size, 1, none⟩ (.int .i64 0)).setCell ⟨w.heap.size, 2, none⟩ (.int .i64 0) = wf; intro HZ HRU; have d0 := HZ.out.2.c0; have d1 := HZ.out.2.c1; have d2 := HZ.out.2.c2
    exact bodyPost_ret (v := .agg #[.slice A ln c, .int .i64 0, .int .i64 0]) (by simp [results, Tryz.results52, go_sem, d0, d1, d2]) rfl ⟨⟨_, rfl, HRU.out⟩, HZ.out.1⟩
  ·have hkl : k < s.data.toList.length := by rw [T2.ba_len]; omega
   have hks2 : k < s.size := by omega
   have heq : ((k : Int) == (s.size : Int)) = false := by simp; omega
   have heqN : ¬ k = s.size := by omega
   go_quiet (fail)
   have HW := zH (yac w1 nq); generalize w1.drewN nq = w2 at HW |-; have HP2 := zH (HP1.out.quiet HW.out); clear HW; have a0 := HP2.out.rd.c0; have a1 := HP2.out.rd.c1; have a2 := HP2.out.rd.fz
   obtain ⟨⟨r, c2⟩, hrel⟩ : ∃ z, relD (s.data.toList.drop k) = z := ⟨_, rfl⟩; have HL := zH (fun w' (hr : RD TD w' (w.heap.size + 1) s k) => yyd hr hks2 hs hrel)
   have hways := yby (s.data.toList.drop k); rw [hrel, List.length_drop, T2.ba_len] at hways
   by_cases hr0 : r = 0
   ·subst hr0; have h9 := HJ.out; rw [parD, if_neg (by omega), hrel, yap, HLN.out, if_pos (Or.inl rfl)] at h9
    have HJ2 := zH h9; clear h9 HJ hrel hways
    go_wp2_with (first
     | (go_at_call 88; refine (HL.out _ HP2.out.rd).mono ?_; rintro e w3 ⟨rfl, hr, hm⟩; have HP3 := zH (HP2.out.call hr hm); have a0 := HP3.out.rd.c0; have a1 := HP3.out.rd.c1; have a2 := HP3.out.rd.fz; have p0 := (HP3.out).res.c0; have p1 := (HP3.out).res.c1; have p2 := (HP3.out).res.c2; have z0 := (HP3.out).res.f0; have z1 := (HP3.out).res.f1; have z2 := (HP3.out).res.f2; clear hr hm))
    have h9 := HJ2.out
    injection h9 with h1 h2
    injection h2 with h2 h3
    subst h1 h2 h3; have HZ := zH ((HP3.out).set (.slice none 0 0) (.int .i64 (k : Int)) (.int .i64 10))
    revert HZ
    generalize ((w3.setCell ⟨w.heap.size, 0, none⟩ (.slice none 0 0)).setCell ⟨w.heap.size, 1, none⟩ (.int .i64 (k : Int))).setCell ⟨w.heap.size, 2, none⟩ (.int .i64 10) = wf; intro HZ; have d0 := HZ.out.2.c0; have d1 := HZ.out.2.c1; have d2 := HZ.out.2.c2
    exact bodyPost_ret (v := .agg #[.slice none 0 0, .int .i64 (k : Int), .int .i64 10]) (by simp [results, Tryz.results52, go_sem, d0, d1, d2]) rfl ⟨⟨_, rfl, RdRs.nil _⟩, HZ.out.1⟩
   ·have hw : 1 <= r /\ r <= 5 /\ 1 <= c2 /\ c2 <= s.size - k := by
     rcases hways with h5 | h5
     ·cases h5; exact absurd rfl hr0
     ·exact ⟨h5.1, h5.2.1, h5.2.2.1, h5.2.2.2.1⟩
    clear hways
    have hr0I : ((r : Int) == 0) = false := by simp; omega
    have hkc : k + c2 <= s.size := by omega
    obtain ⟨⟨q, l1, k5⟩, hq⟩ : ∃ z, seqD s.data.toList (k + c2) = z := ⟨_, rfl⟩; have hqle := yeq (L := s.data.toList) hkc; rw [hq, T2.ba_len] at hqle
    have hk5 : k5 <= s.size := hqle.2
    have hk5' : k + 1 <= k5 := by have := hqle.1; simp only at this; omega
    clear hqle; have HQ := zH (fun w' (hr : RD TD w' (w.heap.size + 1) s (k + c2)) => yon hr hkc hs hq)
    have haf5 := af_le (L := s.data.toList) hk5; rw [T2.ba_len] at haf5; have HB5 := zH (fun w' (hr : RD TD w' (w.heap.size + 1) s k5) => yir hr hk5 hs)
    obtain ⟨k6, hk6⟩ : ∃ q, af s.data.toList k5 = q := ⟨_, rfl⟩; rw [hk6] at haf5 HB5; have HK6 := zH hk6; clear hk6; have hk6s := haf5.2
    by_cases hz : ln = 0
    ·subst hz
     by_cases hr1 : r = 1
     ·subst hr1
      have hok : ¬ (1 = 0 \/ ((pls M).length = 0 /\ 1 ≠ 1)) := by rw [yap, HLN.out]; omega
      have h9 := HJ.out; rw [ylp hkl hrel hok, hq] at h9
      simp only at h9
      cases q with
      | false =>
       rw [if_pos rfl] at h9; have HJ2 := zH h9; clear h9 HJ hrel hq hok
       go_wp2_with (first
        | (go_at_call 88; refine (HL.out _ HP2.out.rd).mono ?_; rintro e w3 ⟨rfl, hr, hm⟩; have HP3 := zH (HP2.out.call hr hm); have a0 := HP3.out.rd.c0; have a1 := HP3.out.rd.c1; have a2 := HP3.out.rd.fz; have p0 := (HP3.out).res.c0; have p1 := (HP3.out).res.c1; have p2 := (HP3.out).res.c2; have z0 := (HP3.out).res.f0; have z1 := (HP3.out).res.f1; have z2 := (HP3.out).res.f2; clear hr hm)
        | (go_at_call 89; refine (HQ.out _ (RSD.start HP3.out.rd ((1 : Nat) : Int)).rd).mono ?_; rintro e w5 ⟨⟨A1, n1, q1, rfl, ho⟩, hr, hm⟩; have HR5 := zH ((RSD.start HP3.out.rd ((1 : Nat) : Int)).call hr hm); have a0 := HR5.out.rd.c0; have a1 := HR5.out.rd.c1; have a2 := HR5.out.rd.fz; have x0 := HR5.out.x.c0; have x1 := HR5.out.x.c1; have x2 := HR5.out.x.c2; have y0 := HR5.out.x.f0; have y1 := HR5.out.x.f1; have y2 := HR5.out.x.f2; have p0 := ((HP3.out.of_rs HR5.out)).res.c0; have p1 := ((HP3.out.of_rs HR5.out)).res.c1; have p2 := ((HP3.out.of_rs HR5.out)).res.c2; have z0 := ((HP3.out.of_rs HR5.out)).res.f0; have z1 := ((HP3.out.of_rs HR5.out)).res.f1; have z2 := ((HP3.out.of_rs HR5.out)).res.f2; clear ho hr hm))
       have h9 := HJ2.out
       injection h9 with h1 h2
       injection h2 with h2 h3
       subst h1 h2 h3; have HZ := zH ((HP3.out.of_rs HR5.out).set (.slice none 0 0) (.int .i64 (k5 : Int)) (.int .i64 10))
       revert HZ
       generalize ((w5.setCell ⟨w.heap.size, 0, none⟩ (.slice none 0 0)).setCell ⟨w.heap.size, 1, none⟩ (.int .i64 (k5 : Int))).setCell ⟨w.heap.size, 2, none⟩ (.int .i64 10) = wf; intro HZ; have d0 := HZ.out.2.c0; have d1 := HZ.out.2.c1; have d2 := HZ.out.2.c2
       exact bodyPost_ret (v := .agg #[.slice none 0 0, .int .i64 (k5 : Int), .int .i64 10]) (by simp [results, Tryz.results52, go_sem, d0, d1, d2]) rfl ⟨⟨_, rfl, RdRs.nil _⟩, HZ.out.1⟩
      | true =>
       rw [if_neg (by simp)] at h9
       have hfI := yiy; obtain ⟨i0, hi0, hz0, hz1, hz2⟩ := info_parts hfI
       have HL40 : Hid (M.length + 1 <= 1000000) := by show _ <= _; rw [HLN.out]; omega
       clear hfI
       have h1I : (((1 : Nat) : Int) == 1) = true := rfl
       have hx : expD s.data.toList 1 k5 = (true, [], k6) := by unfold expD; rw [HK6.out, if_neg (by rintro ⟨h, -⟩; exact h rfl)]
       rw [hx, if_neg (by simp)] at h9
       have HJ2 := zH h9; clear h9 HJ hrel hq hok hx
       go_wp2_with (first
        | (go_at_call 88; refine (HL.out _ HP2.out.rd).mono ?_; rintro e w3 ⟨rfl, hr, hm⟩; have HP3 := zH (HP2.out.call hr hm); have a0 := HP3.out.rd.c0; have a1 := HP3.out.rd.c1; have a2 := HP3.out.rd.fz; have p0 := (HP3.out).res.c0; have p1 := (HP3.out).res.c1; have p2 := (HP3.out).res.c2; have z0 := (HP3.out).res.f0; have z1 := (HP3.out).res.f1; have z2 := (HP3.out).res.f2; clear hr hm)
        | (go_at_call 89; refine (HQ.out _ (RSD.start HP3.out.rd ((1 : Nat) : Int)).rd).mono ?_; rintro e w5 ⟨⟨A1, n1, q1, rfl, ho⟩, hr, hm⟩; have HR5 := zH (((RSD.start HP3.out.rd ((1 : Nat) : Int)).call hr hm).add (ho (by trivial)) (RSD.start HP3.out.rd ((1 : Nat) : Int)).sz); have a0 := HR5.out.rd.c0; have a1 := HR5.out.rd.c1; have a2 := HR5.out.rd.fz; have x0 := HR5.out.x.c0; have x1 := HR5.out.x.c1; have x2 := HR5.out.x.c2; have y0 := HR5.out.x.f0; have y1 := HR5.out.x.f1; have y2 := HR5.out.x.f2; have p0 := ((HP3.out.of_rs HR5.out)).res.c0; have p1 := ((HP3.out.of_rs HR5.out)).res.c1; have p2 := ((HP3.out.of_rs HR5.out)).res.c2; have z0 := ((HP3.out.of_rs HR5.out)).res.f0; have z1 := ((HP3.out.of_rs HR5.out)).res.f1; have z2 := ((HP3.out.of_rs HR5.out)).res.f2; clear ho hr hm)
        | (go_at_call 87; refine (HB5.out _ (HR5.out.set1 (.slice A1 n1 q1)).rd).mono ?_; rintro e w6 ⟨rfl, hr, hm⟩; have HR6 := zH ((HR5.out.set1 (.slice A1 n1 q1)).call hr hm); have a0 := HR6.out.rd.c0; have a1 := HR6.out.rd.c1; have a2 := HR6.out.rd.fz; have x0 := HR6.out.x.c0; have x1 := HR6.out.x.c1; have x2 := HR6.out.x.c2; have y0 := HR6.out.x.f0; have y1 := HR6.out.x.f1; have y2 := HR6.out.x.f2; clear hr hm))
       go_quiet (fail)
       have HW := zH (yac w6 nq); generalize w6.drewN nq = w7 at HW |-; have HR7 := zH (HR6.out.quiet HW.out); clear HW; have a0 := HR7.out.rd.c0; have a1 := HR7.out.rd.c1; have a2 := HR7.out.rd.fz; have x0 := HR7.out.x.c0; have x1 := HR7.out.x.c1; have x2 := HR7.out.x.c2; have y0 := HR7.out.x.f0; have y1 := HR7.out.x.f1; have y2 := HR7.out.x.f2
       have HP7 := zH (HP3.out.of_rs HR7.out)
       go_wp2_with (first
        | (at_builtin; refine pushR Tryz.underlying101 hi0 hz0 hz1 hz2 (by decide) rfl (.tmp 109) (.tmp 111) rfl _ (w.heap.size + 2) _ M ⟨((1 : Nat) : Int), .slice A1 n1 q1, .slice none 0 0, l1, []⟩ 1 rfl (HP7.out).own ⟨R4.yau (HR7.out.own (.slice A1 n1 q1, l1) (by simp)) (Nat.le_succ_of_le HP3.out.sz), T2.OwnI.nil _ _⟩ (by simp [World.setCell]) rfl (zN _) (HP7.out).sz HL40.out ?_; intro v9 w9 ho9 hb9; have HP9 := zH ((HP7.out).push hb9 ho9); clear ho9 hb9))
       go_roundg f
       case measure => omega
       case rel => exact ⟨_, k6, by rw [List.length_append, HLN.out, List.length_singleton]; omega, by omega, by omega, by show _ = _; rw [yay]; exact HJ2.out, HP9.out⟩
     ·have hr1I : ((r : Int) == 1) = false := by simp; omega
      clear HQ HB5 hq; have h9 := HJ.out; rw [parD, if_neg (by omega), hrel, yap, HLN.out, if_pos (Or.inr ⟨rfl, hr1⟩)] at h9
      have HJ2 := zH h9; clear h9 HJ hrel
      go_wp2_with (first
       | (go_at_call 88; refine (HL.out _ HP2.out.rd).mono ?_; rintro e w3 ⟨rfl, hr, hm⟩; have HP3 := zH (HP2.out.call hr hm); have a0 := HP3.out.rd.c0; have a1 := HP3.out.rd.c1; have a2 := HP3.out.rd.fz; have p0 := (HP3.out).res.c0; have p1 := (HP3.out).res.c1; have p2 := (HP3.out).res.c2; have z0 := (HP3.out).res.f0; have z1 := (HP3.out).res.f1; have z2 := (HP3.out).res.f2; clear hr hm))
      have h9 := HJ2.out
      injection h9 with h1 h2
      injection h2 with h2 h3
      subst h1 h2 h3; have HZ := zH ((HP3.out).set (.slice none 0 0) (.int .i64 (k : Int)) (.int .i64 10))
      revert HZ
      generalize ((w3.setCell ⟨w.heap.size, 0, none⟩ (.slice none 0 0)).setCell ⟨w.heap.size, 1, none⟩ (.int .i64 (k : Int))).setCell ⟨w.heap.size, 2, none⟩ (.int .i64 10) = wf; intro HZ; have d0 := HZ.out.2.c0; have d1 := HZ.out.2.c1; have d2 := HZ.out.2.c2
      exact bodyPost_ret (v := .agg #[.slice none 0 0, .int .i64 (k : Int), .int .i64 10]) (by simp [results, Tryz.results52, go_sem, d0, d1, d2]) rfl ⟨⟨_, rfl, RdRs.nil _⟩, HZ.out.1⟩
    ·have hzI : ((ln : Int) == 0) = false := by simp; omega
     have hok : ¬ (r = 0 \/ ((pls M).length = 0 /\ r ≠ 1)) := by rw [yap, HLN.out]; omega
     have h9 := HJ.out; rw [ylp hkl hrel hok, hq] at h9
     simp only at h9
     cases q with
     | false =>
      rw [if_pos rfl] at h9; have HJ2 := zH h9; clear h9 HJ hrel hq hok
      go_wp2_with (first
       | (go_at_call 88; refine (HL.out _ HP2.out.rd).mono ?_; rintro e w3 ⟨rfl, hr, hm⟩; have HP3 := zH (HP2.out.call hr hm); have a0 := HP3.out.rd.c0; have a1 := HP3.out.rd.c1; have a2 := HP3.out.rd.fz; have p0 := (HP3.out).res.c0; have p1 := (HP3.out).res.c1; have p2 := (HP3.out).res.c2; have z0 := (HP3.out).res.f0; have z1 := (HP3.out).res.f1; have z2 := (HP3.out).res.f2; clear hr hm)
       | (go_at_call 89; refine (HQ.out _ (RSD.start HP3.out.rd (r : Int)).rd).mono ?_; rintro e w5 ⟨⟨A1, n1, q1, rfl, ho⟩, hr, hm⟩; have HR5 := zH ((RSD.start HP3.out.rd (r : Int)).call hr hm); have a0 := HR5.out.rd.c0; have a1 := HR5.out.rd.c1; have a2 := HR5.out.rd.fz; have x0 := HR5.out.x.c0; have x1 := HR5.out.x.c1; have x2 := HR5.out.x.c2; have y0 := HR5.out.x.f0; have y1 := HR5.out.x.f1; have y2 := HR5.out.x.f2; have p0 := ((HP3.out.of_rs HR5.out)).res.c0; have p1 := ((HP3.out.of_rs HR5.out)).res.c1; have p2 := ((HP3.out.of_rs HR5.out)).res.c2; have z0 := ((HP3.out.of_rs HR5.out)).res.f0; have z1 := ((HP3.out.of_rs HR5.out)).res.f1; have z2 := ((HP3.out.of_rs HR5.out)).res.f2; clear ho hr hm))
      have h9 := HJ2.out
      injection h9 with h1 h2
      injection h2 with h2 h3
      subst h1 h2 h3; have HZ := zH ((HP3.out.of_rs HR5.out).set (.slice none 0 0) (.int .i64 (k5 : Int)) (.int .i64 10))
      revert HZ
      generalize ((w5.setCell ⟨w.heap.size, 0, none⟩ (.slice none 0 0)).setCell ⟨w.heap.size, 1, none⟩ (.int .i64 (k5 : Int))).setCell ⟨w.heap.size, 2, none⟩ (.int .i64 10) = wf; intro HZ; have d0 := HZ.out.2.c0; have d1 := HZ.out.2.c1; have d2 := HZ.out.2.c2
      exact bodyPost_ret (v := .agg #[.slice none 0 0, .int .i64 (k5 : Int), .int .i64 10]) (by simp [results, Tryz.results52, go_sem, d0, d1, d2]) rfl ⟨⟨_, rfl, RdRs.nil _⟩, HZ.out.1⟩
     | true =>
      rw [if_neg (by simp)] at h9
      have hfI := yiy; obtain ⟨i0, hi0, hz0, hz1, hz2⟩ := info_parts hfI
      have HL40 : Hid (M.length + 1 <= 1000000) := by show _ <= _; rw [HLN.out]; omega
      clear hfI
      by_cases h1 : r = 1
      ·subst h1
       have h1I : (((1 : Nat) : Int) == 1) = true := rfl
       have hx : expD s.data.toList 1 k5 = (true, [], k6) := by unfold expD; rw [HK6.out, if_neg (by rintro ⟨h, -⟩; exact h rfl)]
       rw [hx, if_neg (by simp)] at h9
       have HJ2 := zH h9; clear h9 HJ hrel hq hok hx
       go_wp2_with (first
        | (go_at_call 88; refine (HL.out _ HP2.out.rd).mono ?_; rintro e w3 ⟨rfl, hr, hm⟩; have HP3 := zH (HP2.out.call hr hm); have a0 := HP3.out.rd.c0; have a1 := HP3.out.rd.c1; have a2 := HP3.out.rd.fz; have p0 := (HP3.out).res.c0; have p1 := (HP3.out).res.c1; have p2 := (HP3.out).res.c2; have z0 := (HP3.out).res.f0; have z1 := (HP3.out).res.f1; have z2 := (HP3.out).res.f2; clear hr hm)
        | (go_at_call 89; refine (HQ.out _ (RSD.start HP3.out.rd ((1 : Nat) : Int)).rd).mono ?_; rintro e w5 ⟨⟨A1, n1, q1, rfl, ho⟩, hr, hm⟩; have HR5 := zH (((RSD.start HP3.out.rd ((1 : Nat) : Int)).call hr hm).add (ho (by trivial)) (RSD.start HP3.out.rd ((1 : Nat) : Int)).sz); have a0 := HR5.out.rd.c0; have a1 := HR5.out.rd.c1; have a2 := HR5.out.rd.fz; have x0 := HR5.out.x.c0; have x1 := HR5.out.x.c1; have x2 := HR5.out.x.c2; have y0 := HR5.out.x.f0; have y1 := HR5.out.x.f1; have y2 := HR5.out.x.f2; have p0 := ((HP3.out.of_rs HR5.out)).res.c0; have p1 := ((HP3.out.of_rs HR5.out)).res.c1; have p2 := ((HP3.out.of_rs HR5.out)).res.c2; have z0 := ((HP3.out.of_rs HR5.out)).res.f0; have z1 := ((HP3.out.of_rs HR5.out)).res.f1; have z2 := ((HP3.out.of_rs HR5.out)).res.f2; clear ho hr hm)
        | (go_at_call 87; refine (HB5.out _ (HR5.out.set1 (.slice A1 n1 q1)).rd).mono ?_; rintro e w6 ⟨rfl, hr, hm⟩; have HR6 := zH ((HR5.out.set1 (.slice A1 n1 q1)).call hr hm); have a0 := HR6.out.rd.c0; have a1 := HR6.out.rd.c1; have a2 := HR6.out.rd.fz; have x0 := HR6.out.x.c0; have x1 := HR6.out.x.c1; have x2 := HR6.out.x.c2; have y0 := HR6.out.x.f0; have y1 := HR6.out.x.f1; have y2 := HR6.out.x.f2; clear hr hm))
       go_quiet (fail)
       have HW := zH (yac w6 nq); generalize w6.drewN nq = w7 at HW |-; have HR7 := zH (HR6.out.quiet HW.out); clear HW; have a0 := HR7.out.rd.c0; have a1 := HR7.out.rd.c1; have a2 := HR7.out.rd.fz; have x0 := HR7.out.x.c0; have x1 := HR7.out.x.c1; have x2 := HR7.out.x.c2; have y0 := HR7.out.x.f0; have y1 := HR7.out.x.f1; have y2 := HR7.out.x.f2
       have HP7 := zH (HP3.out.of_rs HR7.out)
       go_wp2_with (first
        | (at_builtin; refine pushR Tryz.underlying101 hi0 hz0 hz1 hz2 (by decide) rfl (.tmp 109) (.tmp 111) rfl _ (w.heap.size + 2) _ M ⟨((1 : Nat) : Int), .slice A1 n1 q1, .slice none 0 0, l1, []⟩ 1 rfl (HP7.out).own ⟨R4.yau (HR7.out.own (.slice A1 n1 q1, l1) (by simp)) (Nat.le_succ_of_le HP3.out.sz), T2.OwnI.nil _ _⟩ (by simp [World.setCell]) rfl (zN _) (HP7.out).sz HL40.out ?_; intro v9 w9 ho9 hb9; have HP9 := zH ((HP7.out).push hb9 ho9); clear ho9 hb9))
       go_roundg f
       case measure => omega
       case rel => exact ⟨_, k6, by rw [List.length_append, HLN.out, List.length_singleton]; omega, by omega, by omega, by show _ = _; rw [yay]; exact HJ2.out, HP9.out⟩
      ·have h1I : ((r : Int) == 1) = false := by simp; omega
       have h1N : ¬ r = 1 := h1
       have h1J : ¬ (r : Int) = 1 := by omega
       have h1K : ((r : Int) != 1) = true := by simp; omega
       have h1M : decide ((r : Int) = 1) = false := decide_eq_false h1J
       by_cases hlt : k6 < s.size
       ·have hltI : (k6 : Int) < (s.size : Int) := by omega
        have hbx := T2.gb_lt s.data.toList k6; obtain ⟨x, hxx⟩ : ∃ x, gb s.data.toList k6 = x := ⟨_, rfl⟩
        have hx2 : s[k6].toNat = x := by rw [gb_s hlt, hxx]
        by_cases h47 : x = 47
        ·subst h47
         have hk61 : k6 + 1 <= s.size := hlt
         obtain ⟨⟨q2, l2, k8⟩, hq2⟩ : ∃ z, seqD s.data.toList (k6 + 1) = z := ⟨_, rfl⟩; have hqle2 := yeq (L := s.data.toList) (k := k6 + 1) hk61; rw [hq2, T2.ba_len] at hqle2
         have hk8 : k8 <= s.size := hqle2.2
         have hk8' : k6 + 1 <= k8 := hqle2.1
         clear hqle2
         have hx : expD s.data.toList r k5 = (q2, l2, k8) := by unfold expD; rw [HK6.out, if_pos ⟨h1, hxx⟩, hq2]
         have HQ2 := zH (fun w' (hr : RD TD w' (w.heap.size + 1) s (k6 + 1)) => yon hr hk61 hs hq2)
         have hstep : ((k6 : Int) + 1) = ((k6 + 1 : Nat) : Int) := by omega
         have HST := zH hstep; rw [hx] at h9
         simp only at h9
         have tok : True := trivial
         clear hstep hxx hx hq2
         cases q2 with
         | false =>
          rw [if_pos rfl] at h9; have HJ2 := zH h9; clear h9 HJ hrel hq hok
          go_wp2_with (first
           | (go_at_call 88; refine (HL.out _ HP2.out.rd).mono ?_; rintro e w3 ⟨rfl, hr, hm⟩; have HP3 := zH (HP2.out.call hr hm); have a0 := HP3.out.rd.c0; have a1 := HP3.out.rd.c1; have a2 := HP3.out.rd.fz; have p0 := (HP3.out).res.c0; have p1 := (HP3.out).res.c1; have p2 := (HP3.out).res.c2; have z0 := (HP3.out).res.f0; have z1 := (HP3.out).res.f1; have z2 := (HP3.out).res.f2; clear hr hm)
           | (go_at_call 89; have _t := tok; refine (HQ.out _ (RSD.start HP3.out.rd (r : Int)).rd).mono ?_; rintro e w5 ⟨⟨A1, n1, q1, rfl, ho⟩, hr, hm⟩; have HR5 := zH (((RSD.start HP3.out.rd (r : Int)).call hr hm).add (ho (by trivial)) (RSD.start HP3.out.rd (r : Int)).sz); have a0 := HR5.out.rd.c0; have a1 := HR5.out.rd.c1; have a2 := HR5.out.rd.fz; have x0 := HR5.out.x.c0; have x1 := HR5.out.x.c1; have x2 := HR5.out.x.c2; have y0 := HR5.out.x.f0; have y1 := HR5.out.x.f1; have y2 := HR5.out.x.f2; have p0 := ((HP3.out.of_rs HR5.out)).res.c0; have p1 := ((HP3.out.of_rs HR5.out)).res.c1; have p2 := ((HP3.out.of_rs HR5.out)).res.c2; have z0 := ((HP3.out.of_rs HR5.out)).res.f0; have z1 := ((HP3.out.of_rs HR5.out)).res.f1; have z2 := ((HP3.out.of_rs HR5.out)).res.f2; clear ho hr hm; clear _t tok)
           | (go_at_call 87; refine (HB5.out _ (HR5.out.set1 (.slice A1 n1 q1)).rd).mono ?_; rintro e w6 ⟨rfl, hr, hm⟩; have HR6 := zH ((HR5.out.set1 (.slice A1 n1 q1)).call hr hm); have a0 := HR6.out.rd.c0; have a1 := HR6.out.rd.c1; have a2 := HR6.out.rd.fz; have x0 := HR6.out.x.c0; have x1 := HR6.out.x.c1; have x2 := HR6.out.x.c2; have y0 := HR6.out.x.f0; have y1 := HR6.out.x.f1; have y2 := HR6.out.x.f2; clear hr hm))
          go_quiet (fail)
          have HW := zH (yac w6 nq); generalize w6.drewN nq = w7 at HW |-; have HR7 := zH (HR6.out.quiet HW.out); clear HW; have a0 := HR7.out.rd.c0; have a1 := HR7.out.rd.c1; have a2 := HR7.out.rd.fz; have x0 := HR7.out.x.c0; have x1 := HR7.out.x.c1; have x2 := HR7.out.x.c2; have y0 := HR7.out.x.f0; have y1 := HR7.out.x.f1; have y2 := HR7.out.x.f2
          go_wp2_with (first
           | (go_at_call 89; refine (HQ2.out _ (HR7.out.step HST.out).rd).mono ?_; rintro e w8 ⟨⟨A2, n2, q3, rfl, ho2⟩, hr, hm⟩; have HR8 := zH ((HR7.out.step HST.out).call hr hm); have a0 := HR8.out.rd.c0; have a1 := HR8.out.rd.c1; have a2 := HR8.out.rd.fz; have x0 := HR8.out.x.c0; have x1 := HR8.out.x.c1; have x2 := HR8.out.x.c2; have y0 := HR8.out.x.f0; have y1 := HR8.out.x.f1; have y2 := HR8.out.x.f2; have p0 := ((HP3.out.of_rs HR8.out)).res.c0; have p1 := ((HP3.out.of_rs HR8.out)).res.c1; have p2 := ((HP3.out.of_rs HR8.out)).res.c2; have z0 := ((HP3.out.of_rs HR8.out)).res.f0; have z1 := ((HP3.out.of_rs HR8.out)).res.f1; have z2 := ((HP3.out.of_rs HR8.out)).res.f2; clear ho2 hr hm))
          have h9 := HJ2.out
          injection h9 with h1 h2
          injection h2 with h2 h3
          subst h1 h2 h3; have HZ := zH ((HP3.out.of_rs HR8.out).set (.slice none 0 0) (.int .i64 (k8 : Int)) (.int .i64 10))
          revert HZ
          generalize ((w8.setCell ⟨w.heap.size, 0, none⟩ (.slice none 0 0)).setCell ⟨w.heap.size, 1, none⟩ (.int .i64 (k8 : Int))).setCell ⟨w.heap.size, 2, none⟩ (.int .i64 10) = wf; intro HZ; have d0 := HZ.out.2.c0; have d1 := HZ.out.2.c1; have d2 := HZ.out.2.c2
          exact bodyPost_ret (v := .agg #[.slice none 0 0, .int .i64 (k8 : Int), .int .i64 10]) (by simp [results, Tryz.results52, go_sem, d0, d1, d2]) rfl ⟨⟨_, rfl, RdRs.nil _⟩, HZ.out.1⟩
         | true =>
          rw [if_neg (by simp)] at h9
          have HJ2 := zH h9; clear h9 HJ hrel hq hok
          go_wp2_with (first
           | (go_at_call 88; refine (HL.out _ HP2.out.rd).mono ?_; rintro e w3 ⟨rfl, hr, hm⟩; have HP3 := zH (HP2.out.call hr hm); have a0 := HP3.out.rd.c0; have a1 := HP3.out.rd.c1; have a2 := HP3.out.rd.fz; have p0 := (HP3.out).res.c0; have p1 := (HP3.out).res.c1; have p2 := (HP3.out).res.c2; have z0 := (HP3.out).res.f0; have z1 := (HP3.out).res.f1; have z2 := (HP3.out).res.f2; clear hr hm)
           | (go_at_call 89; have _t := tok; refine (HQ.out _ (RSD.start HP3.out.rd (r : Int)).rd).mono ?_; rintro e w5 ⟨⟨A1, n1, q1, rfl, ho⟩, hr, hm⟩; have HR5 := zH (((RSD.start HP3.out.rd (r : Int)).call hr hm).add (ho (by trivial)) (RSD.start HP3.out.rd (r : Int)).sz); have a0 := HR5.out.rd.c0; have a1 := HR5.out.rd.c1; have a2 := HR5.out.rd.fz; have x0 := HR5.out.x.c0; have x1 := HR5.out.x.c1; have x2 := HR5.out.x.c2; have y0 := HR5.out.x.f0; have y1 := HR5.out.x.f1; have y2 := HR5.out.x.f2; have p0 := ((HP3.out.of_rs HR5.out)).res.c0; have p1 := ((HP3.out.of_rs HR5.out)).res.c1; have p2 := ((HP3.out.of_rs HR5.out)).res.c2; have z0 := ((HP3.out.of_rs HR5.out)).res.f0; have z1 := ((HP3.out.of_rs HR5.out)).res.f1; have z2 := ((HP3.out.of_rs HR5.out)).res.f2; clear ho hr hm; clear _t tok)
           | (go_at_call 87; refine (HB5.out _ (HR5.out.set1 (.slice A1 n1 q1)).rd).mono ?_; rintro e w6 ⟨rfl, hr, hm⟩; have HR6 := zH ((HR5.out.set1 (.slice A1 n1 q1)).call hr hm); have a0 := HR6.out.rd.c0; have a1 := HR6.out.rd.c1; have a2 := HR6.out.rd.fz; have x0 := HR6.out.x.c0; have x1 := HR6.out.x.c1; have x2 := HR6.out.x.c2; have y0 := HR6.out.x.f0; have y1 := HR6.out.x.f1; have y2 := HR6.out.x.f2; clear hr hm))
          go_quiet (fail)
          have HW := zH (yac w6 nq); generalize w6.drewN nq = w7 at HW |-; have HR7 := zH (HR6.out.quiet HW.out); clear HW; have a0 := HR7.out.rd.c0; have a1 := HR7.out.rd.c1; have a2 := HR7.out.rd.fz; have x0 := HR7.out.x.c0; have x1 := HR7.out.x.c1; have x2 := HR7.out.x.c2; have y0 := HR7.out.x.f0; have y1 := HR7.out.x.f1; have y2 := HR7.out.x.f2
          go_wp2_with (first
           | (go_at_call 89; refine (HQ2.out _ (HR7.out.step HST.out).rd).mono ?_; rintro e w8 ⟨⟨A2, n2, q3, rfl, ho2⟩, hr, hm⟩; have HR8 := zH (((HR7.out.step HST.out).call hr hm).add (ho2 (by trivial)) (HR7.out.step HST.out).sz); have a0 := HR8.out.rd.c0; have a1 := HR8.out.rd.c1; have a2 := HR8.out.rd.fz; have x0 := HR8.out.x.c0; have x1 := HR8.out.x.c1; have x2 := HR8.out.x.c2; have y0 := HR8.out.x.f0; have y1 := HR8.out.x.f1; have y2 := HR8.out.x.f2; have p0 := ((HP3.out.of_rs HR8.out)).res.c0; have p1 := ((HP3.out.of_rs HR8.out)).res.c1; have p2 := ((HP3.out.of_rs HR8.out)).res.c2; have z0 := ((HP3.out.of_rs HR8.out)).res.f0; have z1 := ((HP3.out.of_rs HR8.out)).res.f1; have z2 := ((HP3.out.of_rs HR8.out)).res.f2; clear ho2 hr hm)
           | (at_builtin; refine pushR Tryz.underlying101 hi0 hz0 hz1 hz2 (by decide) rfl (.tmp 109) (.tmp 111) rfl _ (w.heap.size + 2) _ M ⟨(r : Int), .slice A1 n1 q1, .slice A2 n2 q3, l1, l2⟩ 1 rfl (HP3.out.of_rs (HR8.out.set2 (.slice A2 n2 q3))).own ⟨R4.yau ((HR8.out.set2 (.slice A2 n2 q3)).own (.slice A1 n1 q1, l1) (by simp)) (Nat.le_succ_of_le HP3.out.sz), R4.yau ((HR8.out.set2 (.slice A2 n2 q3)).own (.slice A2 n2 q3, l2) (by simp)) (Nat.le_succ_of_le HP3.out.sz)⟩ (by simp [World.setCell]) rfl (zN _) (HP3.out.of_rs (HR8.out.set2 (.slice A2 n2 q3))).sz HL40.out ?_; intro v9 w9 ho9 hb9; have HP9 := zH ((HP3.out.of_rs (HR8.out.set2 (.slice A2 n2 q3))).push hb9 ho9); clear ho9 hb9))
          go_roundg f
          case measure => omega
          case rel => exact ⟨_, k8, by rw [List.length_append, HLN.out, List.length_singleton]; omega, by omega, by omega, by show _ = _; rw [yay]; exact HJ2.out, HP9.out⟩
        ·have h47I : ((x : Int) == 47) = false := by simp; omega
         have hx : expD s.data.toList r k5 = (true, [], k6) := by unfold expD; rw [HK6.out, if_neg (by rintro ⟨-, h⟩; exact h47 (hxx.symm.trans h))]
         rw [hx, if_neg (by simp)] at h9
         have HJ2 := zH h9; clear h9 HJ hrel hq hok hx
         go_wp2_with (first
          | (go_at_call 88; refine (HL.out _ HP2.out.rd).mono ?_; rintro e w3 ⟨rfl, hr, hm⟩; have HP3 := zH (HP2.out.call hr hm); have a0 := HP3.out.rd.c0; have a1 := HP3.out.rd.c1; have a2 := HP3.out.rd.fz; have p0 := (HP3.out).res.c0; have p1 := (HP3.out).res.c1; have p2 := (HP3.out).res.c2; have z0 := (HP3.out).res.f0; have z1 := (HP3.out).res.f1; have z2 := (HP3.out).res.f2; clear hr hm)
          | (go_at_call 89; refine (HQ.out _ (RSD.start HP3.out.rd (r : Int)).rd).mono ?_; rintro e w5 ⟨⟨A1, n1, q1, rfl, ho⟩, hr, hm⟩; have HR5 := zH (((RSD.start HP3.out.rd (r : Int)).call hr hm).add (ho (by trivial)) (RSD.start HP3.out.rd (r : Int)).sz); have a0 := HR5.out.rd.c0; have a1 := HR5.out.rd.c1; have a2 := HR5.out.rd.fz; have x0 := HR5.out.x.c0; have x1 := HR5.out.x.c1; have x2 := HR5.out.x.c2; have y0 := HR5.out.x.f0; have y1 := HR5.out.x.f1; have y2 := HR5.out.x.f2; have p0 := ((HP3.out.of_rs HR5.out)).res.c0; have p1 := ((HP3.out.of_rs HR5.out)).res.c1; have p2 := ((HP3.out.of_rs HR5.out)).res.c2; have z0 := ((HP3.out.of_rs HR5.out)).res.f0; have z1 := ((HP3.out.of_rs HR5.out)).res.f1; have z2 := ((HP3.out.of_rs HR5.out)).res.f2; clear ho hr hm)
          | (go_at_call 87; refine (HB5.out _ (HR5.out.set1 (.slice A1 n1 q1)).rd).mono ?_; rintro e w6 ⟨rfl, hr, hm⟩; have HR6 := zH ((HR5.out.set1 (.slice A1 n1 q1)).call hr hm); have a0 := HR6.out.rd.c0; have a1 := HR6.out.rd.c1; have a2 := HR6.out.rd.fz; have x0 := HR6.out.x.c0; have x1 := HR6.out.x.c1; have x2 := HR6.out.x.c2; have y0 := HR6.out.x.f0; have y1 := HR6.out.x.f1; have y2 := HR6.out.x.f2; clear hr hm))
         go_quiet (fail)
         have HW := zH (yac w6 nq); generalize w6.drewN nq = w7 at HW |-; have HR7 := zH (HR6.out.quiet HW.out); clear HW; have a0 := HR7.out.rd.c0; have a1 := HR7.out.rd.c1; have a2 := HR7.out.rd.fz; have x0 := HR7.out.x.c0; have x1 := HR7.out.x.c1; have x2 := HR7.out.x.c2; have y0 := HR7.out.x.f0; have y1 := HR7.out.x.f1; have y2 := HR7.out.x.f2
         have HP7 := zH (HP3.out.of_rs HR7.out)
         go_wp2_with (first
          | (at_builtin; refine pushR Tryz.underlying101 hi0 hz0 hz1 hz2 (by decide) rfl (.tmp 109) (.tmp 111) rfl _ (w.heap.size + 2) _ M ⟨(r : Int), .slice A1 n1 q1, .slice none 0 0, l1, []⟩ 1 rfl (HP7.out).own ⟨R4.yau (HR7.out.own (.slice A1 n1 q1, l1) (by simp)) (Nat.le_succ_of_le HP3.out.sz), T2.OwnI.nil _ _⟩ (by simp [World.setCell]) rfl (zN _) (HP7.out).sz HL40.out ?_; intro v9 w9 ho9 hb9; have HP9 := zH ((HP7.out).push hb9 ho9); clear ho9 hb9))
         go_roundg f
         case measure => omega
         case rel => exact ⟨_, k6, by rw [List.length_append, HLN.out, List.length_singleton]; omega, by omega, by omega, by show _ = _; rw [yay]; exact HJ2.out, HP9.out⟩
       ·have hltI : ¬ (k6 : Int) < (s.size : Int) := by omega
        have hltB : decide ((k6 : Int) < (s.size : Int)) = false := decide_eq_false hltI
        have hx : expD s.data.toList r k5 = (true, [], k6) := by unfold expD; rw [HK6.out, if_neg (by rintro ⟨-, h⟩; rw [gb_out (show s.data.toList.length <= k6 by rw [T2.ba_len]; omega)] at h; cases h)]
        rw [hx, if_neg (by simp)] at h9
        have HJ2 := zH h9; clear h9 HJ hrel hq hok hx
        go_wp2_with (first
         | (go_at_call 88; refine (HL.out _ HP2.out.rd).mono ?_; rintro e w3 ⟨rfl, hr, hm⟩; have HP3 := zH (HP2.out.call hr hm); have a0 := HP3.out.rd.c0; have a1 := HP3.out.rd.c1; have a2 := HP3.out.rd.fz; have p0 := (HP3.out).res.c0; have p1 := (HP3.out).res.c1; have p2 := (HP3.out).res.c2; have z0 := (HP3.out).res.f0; have z1 := (HP3.out).res.f1; have z2 := (HP3.out).res.f2; clear hr hm)
         | (go_at_call 89; refine (HQ.out _ (RSD.start HP3.out.rd (r : Int)).rd).mono ?_; rintro e w5 ⟨⟨A1, n1, q1, rfl, ho⟩, hr, hm⟩; have HR5 := zH (((RSD.start HP3.out.rd (r : Int)).call hr hm).add (ho (by trivial)) (RSD.start HP3.out.rd (r : Int)).sz); have a0 := HR5.out.rd.c0; have a1 := HR5.out.rd.c1; have a2 := HR5.out.rd.fz; have x0 := HR5.out.x.c0; have x1 := HR5.out.x.c1; have x2 := HR5.out.x.c2; have y0 := HR5.out.x.f0; have y1 := HR5.out.x.f1; have y2 := HR5.out.x.f2; have p0 := ((HP3.out.of_rs HR5.out)).res.c0; have p1 := ((HP3.out.of_rs HR5.out)).res.c1; have p2 := ((HP3.out.of_rs HR5.out)).res.c2; have z0 := ((HP3.out.of_rs HR5.out)).res.f0; have z1 := ((HP3.out.of_rs HR5.out)).res.f1; have z2 := ((HP3.out.of_rs HR5.out)).res.f2; clear ho hr hm)
         | (go_at_call 87; refine (HB5.out _ (HR5.out.set1 (.slice A1 n1 q1)).rd).mono ?_; rintro e w6 ⟨rfl, hr, hm⟩; have HR6 := zH ((HR5.out.set1 (.slice A1 n1 q1)).call hr hm); have a0 := HR6.out.rd.c0; have a1 := HR6.out.rd.c1; have a2 := HR6.out.rd.fz; have x0 := HR6.out.x.c0; have x1 := HR6.out.x.c1; have x2 := HR6.out.x.c2; have y0 := HR6.out.x.f0; have y1 := HR6.out.x.f1; have y2 := HR6.out.x.f2; clear hr hm))
        go_quiet (fail)
        have HW := zH (yac w6 nq); generalize w6.drewN nq = w7 at HW |-; have HR7 := zH (HR6.out.quiet HW.out); clear HW; have a0 := HR7.out.rd.c0; have a1 := HR7.out.rd.c1; have a2 := HR7.out.rd.fz; have x0 := HR7.out.x.c0; have x1 := HR7.out.x.c1; have x2 := HR7.out.x.c2; have y0 := HR7.out.x.f0; have y1 := HR7.out.x.f1; have y2 := HR7.out.x.f2
        have HP7 := zH (HP3.out.of_rs HR7.out)
        go_wp2_with (first
         | (at_builtin; refine pushR Tryz.underlying101 hi0 hz0 hz1 hz2 (by decide) rfl (.tmp 109) (.tmp 111) rfl _ (w.heap.size + 2) _ M ⟨(r : Int), .slice A1 n1 q1, .slice none 0 0, l1, []⟩ 1 rfl (HP7.out).own ⟨R4.yau (HR7.out.own (.slice A1 n1 q1, l1) (by simp)) (Nat.le_succ_of_le HP3.out.sz), T2.OwnI.nil _ _⟩ (by simp [World.setCell]) rfl (zN _) (HP7.out).sz HL40.out ?_; intro v9 w9 ho9 hb9; have HP9 := zH ((HP7.out).push hb9 ho9); clear ho9 hb9))
        go_roundg f
        case measure => omega
        case rel => exact ⟨_, k6, by rw [List.length_append, HLN.out, List.length_singleton]; omega, by omega, by omega, by show _ = _; rw [yay]; exact HJ2.out, HP9.out⟩
end Go.Proofs.YteibnfeokgibmaaGreat.S6
