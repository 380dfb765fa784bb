/-
  PACKED for a claim.
-/
import Derived.Test.YteibnfeokgibmaaGreatP45
set_option linter.unusedVariables false
set_option linter.unusedSimpArgs false
set_option maxRecDepth 100000
namespace Go.Proofs.YteibnfeokgibmaaGreat.S6
open Go.RowKit
structure MR where
 r : Int
 vs : Value
 ve : Value
 s : List Int
 e : List Int
instance : Inhabited MR := ⟨⟨0, .slice none 0 0, .slice none 0 0, [], []⟩⟩
def MR.pl (m : MR) : RV := ⟨m.r, m.s, m.e⟩
def pls (M : List MR) : List RV := M.map MR.pl
def rcells (M : List MR) : List Value := M.flatMap fun m => [.int .i64 m.r, m.vs, m.ve]
theorem yay (a b : List MR) : pls (a ++ b) = pls a ++ pls b := by simp [pls]
theorem yap (M : List MR) : (pls M).length = M.length := by simp [pls]
theorem yqm (a b : List MR) : rcells (a ++ b) = rcells a ++ rcells b := by simp [rcells]
theorem yne (m : MR) (t : List MR) : rcells (m :: t) = [.int .i64 m.r, m.vs, m.ve] ++ rcells t := rfl
theorem yql (l : List MR) : (rcells l).length = l.length * 3 := by
 induction l with
 | nil => rfl
 | cons p t ih => rw [yne, List.length_append, ih]; simp; omega
theorem ytu {l : List MR} {k : Nat} {p : MR} (h : l[k]? = some p) : (rcells l)[k * 3]? = some (.int .i64 p.r) /\ (rcells l)[k * 3 + 1]? = some p.vs /\ (rcells l)[k * 3 + 2]? = some p.ve := by
 induction l generalizing k with
 | nil => simp at h
 | cons q t ih =>
  rw [show rcells (q :: t) = .int .i64 q.r :: q.vs :: q.ve :: rcells t from rfl]
  cases k with
  | zero => simp at h; subst h; exact ⟨rfl, rfl, rfl⟩
  | succ k =>
   simp only [List.getElem?_cons_succ] at h; obtain ⟨h1, h2, h3⟩ := ih h; refine ⟨?_, ?_, ?_⟩
   ·rw [show (k + 1) * 3 = k * 3 + 1 + 1 + 1 by omega]; simpa using h1
   ·rw [show (k + 1) * 3 + 1 = k * 3 + 1 + 1 + 1 + 1 by omega]; simpa using h2
   ·rw [show (k + 1) * 3 + 2 = k * 3 + 2 + 1 + 1 + 1 by omega]; simpa using h3
def RdM (w : World) (v : Value) (M : List MR) : Prop := RdF anyB w v M.length (rcells M) /\ ∀ m ∈ M, RdI anyB w m.vs m.s /\ RdI anyB w m.ve m.e
def RdRs (w : World) (v : Value) (L : List RV) : Prop := ∃ M, pls M = L /\ RdM w v M
theorem RdM.below {B : Nat} {w w' : World} {v : Value} {M : List MR} (h : RdM w v M) (hb : Below B w w') (hB : w.heap.size <= B) : RdM w' v M :=
 ⟨h.1.below hb hB, fun m hm => ⟨(h.2 m hm).1.below hb hB, (h.2 m hm).2.below hb hB⟩⟩
theorem RdRs.below {B : Nat} {w w' : World} {v : Value} {L : List RV} (h : RdRs w v L) (hb : Below B w w') (hB : w.heap.size <= B) : RdRs w' v L := by
 obtain ⟨M, e, h⟩ := h; exact ⟨M, e, h.below hb hB⟩
theorem RdRs.nil (w : World) : RdRs w (.slice none 0 0) [] := ⟨[], rfl, RdF.nil _ _, fun m hm => by cases hm⟩
theorem RdRs.form {w : World} {v : Value} {L : List RV} (h : RdRs w v L) : ∃ A c, v = .slice A L.length c := by
 obtain ⟨M, rfl, h⟩ := h; rw [yap]; exact h.1.form
theorem RdRs.at {w : World} {A : Option Addr} {n c : Nat} {L : List RV} (h : RdRs w (.slice A n c) L) {k : Nat} {x : RV} (hk : L[k]? = some x) :
  ∃ (g o : Nat) (vs ve : Value), A = some ⟨g, o, none⟩ /\ w.cell? ⟨g, o + k * 3, none⟩ = some (.int .i64 x.rel) /\ w.cell? ⟨g, o + k * 3 + 1, none⟩ = some vs /\ w.cell? ⟨g, o + k * 3 + 2, none⟩ = some ve /\ RdI anyB w vs x.seq /\ RdI anyB w ve x.exp := by
 obtain ⟨M, rfl, h⟩ := h; unfold pls at hk; rw [List.getElem?_map] at hk
 cases hm : M[k]? with
 | none => rw [hm] at hk; cases hk
 | some m =>
  rw [hm] at hk
  simp at hk
  subst hk; have hl := (List.getElem?_eq_some_iff.1 hm).1; obtain ⟨g, o, e, _, hx⟩ := RdF.base h.1 (by omega)
  obtain ⟨h1, h2, h3⟩ := ytu hm; have h4 := h.2 m (List.mem_of_getElem? hm); exact ⟨g, o, m.vs, m.ve, e, hx _ _ h1, by rw [Nat.add_assoc]; exact hx _ _ h2, by rw [Nat.add_assoc]; exact hx _ _ h3, h4.1, h4.2⟩
structure OwnR (E : TypeId) (B : Nat) (w : World) (v : Value) (M : List MR) : Prop where
 row : w.ownsRow B E 3 v M.length (rcells M)
 els : ∀ m ∈ M, T2.OwnI B w m.vs m.s /\ T2.OwnI B w m.ve m.e
theorem OwnR.nil (E : TypeId) (B : Nat) (w : World) : OwnR E B w (.slice none 0 0) [] := ⟨World.ownsRow_nil w B _ 3, fun m hm => by cases hm⟩
theorem OwnR.below {E : TypeId} {B B' : Nat} {w w' : World} {v : Value} {M : List MR} (h : OwnR E B w v M) (hb : Below B' w w') (hB : w.heap.size <= B') : OwnR E B w' v M :=
 ⟨R4.yan h.row hb hB, fun m hm => ⟨(h.els m hm).1.below hb hB, (h.els m hm).2.below hb hB⟩⟩
theorem OwnR.mv {E : TypeId} {B g : Nat} {w w' : World} {v : Value} {M : List MR} (h : OwnR E B w v M) (hm : Mv g w w') (hg : g < B) : OwnR E B w' v M :=
 ⟨yce h.row hm hg, fun m hx => ⟨yce (h.els m hx).1 hm hg, yce (h.els m hx).2 hm hg⟩⟩
theorem OwnR.rd {E : TypeId} {B : Nat} {w : World} {v : Value} {M : List MR} (h : OwnR E B w v M) : RdRs w v (pls M) :=
 ⟨M, rfl, RdF.of_own h.row fun _ _ => trivial, fun m hm => ⟨ybi (h.els m hm).1 fun _ _ => trivial, ybi (h.els m hm).2 fun _ _ => trivial⟩⟩
theorem OwnR.form {E : TypeId} {B : Nat} {w : World} {v : Value} {M : List MR} (h : OwnR E B w v M) : ∃ A c, v = .slice A M.length c := by
 obtain ⟨A, c, e, _⟩ := R4.yai h.row; exact ⟨A, c, e⟩
theorem yug {B : Nat} {w : World} {v : Value} {l : List Int} (h : T2.OwnI B w v l) : v.oneCell' = true := by
 obtain ⟨A, c, e, _⟩ := R4.yai h; rw [e]; rfl
theorem ygv {B B' : Nat} {E : TypeId} {w w' : World} {v u : Value} {n m : Nat} {l : List Int} {xs : List Value} (h : T2.OwnI B w u l) (ho : w.ownsRow B' E 3 v n xs) (hne : 3 ≠ E) (hg : w.grownBy w' v.ownBlock) : T2.OwnI B w' u l :=
 World.ownsRow.kept h hg (R4.ydj ho h hne)
theorem ybe {B : Nat} {w : World} {u : Value} {l : List Int} (h : T2.OwnI B w u l) (o : Obj) : T2.OwnI B (w.alloc o) u l := World.ownsRow.alloc h o
theorem pushR {T E : TypeId} {i : TypeInfo} (hT : Tryz.prog.underlying T = some (.slice E)) (hi : Tryz.prog.info? E = some i) (hz0 : i.zero = some (.agg #[.int .i64 0, .slice none 0 0, .slice none 0 0])) (hz1 : i.size = 3) (hz2 : i.bytes = 56) (hne : 3 ≠ E)
  {ops : Array Oper} {rest : List Oper} {o : Oper} {a : Act} {Q : Exit -> Act -> World -> Prop} (hgd : o.guard = none) (s x : Operand)
  (ho : o.op = .call { callee := .builtin .append, args := #[s, x], argTypes := #[T, T] })
  (w0 : World) (B : Nat) (v : Value) (M : List MR) (m : MR) (C : Nat) (hs : a.eval s = v) (hown : OwnR E B w0 v M) (hm : T2.OwnI B w0 m.vs m.s /\ T2.OwnI B w0 m.ve m.e) {N : Nat} (hN : w0.heap.size = N) (hx : a.eval x = .slice (some ⟨N, 0, none⟩) 1 C) (hC : 1 <= C)
  (hB : B <= w0.heap.size) (hl : M.length + 1 <= 1000000)
  (h : ∀ v' w', OwnR E B w' v' (M ++ [m]) -> Below B w0 w' -> wpList Tryz.prog ops Q rest (a.put o.dst v') w') : wpList Tryz.prog ops Q (o :: rest) a (w0.alloc (.cells #[.int .i64 m.r, m.vs, m.ve] E)) := by
 subst hN
 have hb1 : Below B w0 (w0.alloc (.cells #[.int .i64 m.r, m.vs, m.ve] E)) := (zR B w0).alloc hB _
 have hb2 : B <= (w0.alloc (.cells #[.int .i64 m.r, m.vs, m.ve] E)).heap.size := Nat.le_trans hB hb1.size
 have hrow := World.ownsRow.alloc hown.row (.cells #[.int .i64 m.r, m.vs, m.ve] E); refine appendG hT hi hz0 hz1 hz2 rfl (by omega) (by omega) hgd s x ho _ B v M.length (rcells M) hs hrow hx (RdF.new (n := 1) w0 (rcells [m]) E hC) (by rw [yql]; rfl) ?_ hb2 hl ?_
 ·intro u hu; rw [show rcells [m] = [.int .i64 m.r, m.vs, m.ve] from rfl] at hu
  simp only [List.mem_cons, List.not_mem_nil, or_false] at hu
  rcases hu with rfl | rfl | rfl
  ·rfl
  ·exact yug hm.1
  ·exact yug hm.2
 ·intro v' w' h1 h2 h3; refine h v' w' ⟨?_, fun p hp => ?_⟩ (hb1.trans h3)
  ·rw [yqm, List.length_append]; exact h1
  ·rcases List.mem_append.1 hp with hp | hp
   ·exact ⟨ygv (m := 0) (ybe (hown.els p hp).1 _) hrow hne h2, ygv (m := 0) (ybe (hown.els p hp).2 _) hrow hne h2⟩
   ·simp only [List.mem_cons, List.not_mem_nil, or_false] at hp; subst hp; exact ⟨ygv (m := 0) (ybe hm.1 _) hrow hne h2, ygv (m := 0) (ybe hm.2 _) hrow hne h2⟩
theorem yho : (Tryz.prog.info? 136).map (fun i => (i.zero, i.size, i.bytes)) = some (some (.agg #[.int .i64 0, .slice none 0 0, .slice none 0 0]), 3, 56) := by kernel_rfl
theorem yiy : (Tryz.prog.info? 150).map (fun i => (i.zero, i.size, i.bytes)) = some (some (.agg #[.int .i64 0, .slice none 0 0, .slice none 0 0]), 3, 56) := by kernel_rfl
end Go.Proofs.YteibnfeokgibmaaGreat.S6
namespace Go.Proofs.YteibnfeokgibmaaGreat.S6
open Go.RowKit
open T2 (gb dec one isSg isPt sgs)
theorem yym {L : List UInt8} {k last : Nat} (hk : k < L.length) (hll : last = 1 \/ last = 5) (h : (relL (L.drop k) last).1 ≠ 0) : 1 <= (relL (L.drop k) last).2 /\ k + (relL (L.drop k) last).2 <= L.length := by
 have h5 := yby (L.drop k); rw [List.length_drop] at h5
 rcases hll with rfl | rfl
 ·rw [rel1] at h |-
  split
  ·exact ⟨zN _, by simp only; omega⟩
  ·rename_i h38; rw [if_neg h38] at h; exact absurd rfl h
 ·rw [rel5] at h |-
  rcases h5 with h5 | h5
  ·rw [h5] at h; exact absurd rfl h
  ·exact ⟨h5.2.2.1, by omega⟩
theorem ytd {L : List UInt8} {k last : Nat} (hk : k < L.length) (hll : last = 1 \/ last = 5) : (ruleP L last k).2.2 <= L.length /\ ((ruleP L last k).1 = true -> k + 1 <= (ruleP L last k).2.2) := by
 unfold ruleP
 split
 ·exact ⟨Nat.le_of_lt hk, fun h => by cases h⟩
 ·rename_i h0
  have ha := yym hk hll h0; have hq := yfu (L := L) ha.2
  split
  ·exact ⟨hq.2, fun h => by cases h⟩
  ·have hb := af_le (L := L) hq.2
   split
   ·rename_i h47
    have h3 : af L (seqP L (k + (relL (L.drop k) last).2)).2.2 < L.length := by
     rcases Nat.lt_or_ge (af L (seqP L (k + (relL (L.drop k) last).2)).2.2) L.length with h4 | h4
     ·exact h4
     ·have := gb_out h4; omega
    have hc := yfu (L := L) (k := af L (seqP L (k + (relL (L.drop k) last).2)).2.2 + 1) h3; exact ⟨hc.2, fun _ => by simp only; omega⟩
   ·exact ⟨hb.2, fun _ => by simp only; omega⟩
structure PS (w : World) (s : ByteArray) (wr : World) (k : Nat) (lv : Value) (M : List MR) : Prop where
 rd : RD TP wr w.heap.size s k
 own : OwnR 136 (w.heap.size + 1) wr lv M
 bel : Below w.heap.size w wr
 sz : w.heap.size + 1 <= wr.heap.size
theorem PS.call {w wr w' : World} {s : ByteArray} {k k' : Nat} {lv : Value} {M : List MR} (h : PS w s wr k lv M) (hr : RD TP w' w.heap.size s k') (hm : Mv w.heap.size wr w') : PS w s w' k' lv M :=
 ⟨hr, h.own.mv hm (Nat.lt_succ_self _), Mv.below h.bel hm h.bel.size (zN _), Nat.le_trans h.sz hm.size⟩
theorem PS.quiet {w wr w' : World} {s : ByteArray} {k : Nat} {lv : Value} {M : List MR} (h : PS w s wr k lv M) (hb : Below wr.heap.size wr w') : PS w s w' k lv M :=
 ⟨h.rd.below hb (zN _), h.own.below hb (zN _), h.bel.trans (hb.mono h.bel.size), Nat.le_trans h.sz hb.size⟩
theorem PS.push {w wr w' : World} {s : ByteArray} {k : Nat} {lv lv' : Value} {M M' : List MR} (h : PS w s wr k lv M) (hb : Below (w.heap.size + 1) wr w') (ho : OwnR 136 (w.heap.size + 1) w' lv' M') : PS w s w' k lv' M' :=
 ⟨h.rd.low hb (Nat.lt_succ_self _), ho, h.bel.trans (hb.mono (Nat.le_succ _)), Nat.le_trans h.sz hb.size⟩
theorem ykx {w2 : World} {B B' : Nat} {r : Int} {x : RV} {a b : Value} (h : r = x.rel /\ T2.OwnI B w2 a x.seq /\ T2.OwnI B w2 b x.exp) (hB : B' <= B) (o : Obj) : r = x.rel /\ T2.OwnI B' (w2.alloc o) a x.seq /\ T2.OwnI B' (w2.alloc o) b x.exp :=
 ⟨h.1, ybe (R4.yau h.2.1 hB) o, ybe (R4.yau h.2.2 hB) o⟩
theorem PS.start {w : World} {s : ByteArray} : PS w s (w.alloc (.cells #[.string s, .int .i64 0] TP)) 0 (.slice none 0 0) [] :=
 ⟨heap_alloc_new w _, OwnR.nil _ _ _, yaa w _, by simp⟩
set_option maxHeartbeats 2000000 in
theorem par_any {s : ByteArray} (w : World) (hs : s.size <= 1000000) {l : List RV} {at' E : Nat} (hR : parse s.data.toList = (l, at', E)) :
  Calls Tryz.prog 50 #[.string s] w fun e w' => (∃ v, e = .returned (.tuple #[v, .int .i64 (at' : Nat), .int .i64 (E : Nat)]) /\ RdRs w' v l) /\ Below w.heap.size w w' := by
 have HF : Hid (parP s.data.toList (s.size + 2) 0 [] (af s.data.toList 0) = (l, at', E)) := (yyy s.data.toList).trans hR
 have HS := zH (PS.start (w := w) (s := s)); have h0 := (af_le (L := s.data.toList) (k := 0) (Nat.zero_le _)).2; rw [T2.ba_len] at h0; have HB := zH (fun w' (hr : RD TP w' w.heap.size s 0) => ycq hr (Nat.zero_le _) hs)
 clear hR
 go_enter Tryz.func50, Tryz.ntmps50
 go_wp2_with (go_at_call 80; refine (HB.out _ HS.out.rd).mono ?_; rintro e w1 ⟨rfl, hr, hm⟩; have HS1 := zH (HS.out.call hr hm); clear hr hm)
 go_loopg [2, 6] (s.size + 2) (fun f lv nv wr => ∃ (M : List MR) (n k : Nat), nv = .int .i64 (n : Nat) /\ n <= k /\ k <= s.size /\ s.size + 1 < k + f /\ M.length <= 40 /\ (n <= 40 -> M.length = n) /\ Hid (parP s.data.toList f n (pls M) k = (l, at', E)) /\ Hid (PS w s wr k lv M))
 case atStart => exact ⟨[], 0, af s.data.toList 0, rfl, Nat.zero_le _, h0, by omega, by simp, fun _ => rfl, HF.out, HS1.out⟩
 case round =>
  obtain ⟨M, n, k, rfl, hnk, hk, hf, hM, hMn, HJ, HP⟩ := hrel; clear HS HS1 HB HF h0; obtain ⟨f, rfl⟩ : ∃ f, gk = f + 1 := ⟨gk - 1, by omega⟩
  obtain ⟨A, c, rfl⟩ := HP.out.own.form; obtain ⟨ln, hln⟩ : ∃ q, M.length = q := ⟨_, rfl⟩; have HLN := zH hln; rw [hln] at HP hM hMn |-; clear hln; have h9 := HJ.out; rw [parP] at h9
  by_cases hend : s.size <= k
  ·rw [if_pos (show s.data.toList.length <= k from hend)] at h9
   have HD := zH (ycv HP.out.rd (b := true) (decide_eq_true hend) hk)
   by_cases h40 : 40 < n
   ·rw [if_pos h40] at h9
    cases h9
    have h40I : (40 : Int) < (n : Int) := by omega
    clear HJ hMn hM
    go_wp2_with (go_at_call 81; refine HD.out.mono ?_; rintro e w1 ⟨rfl, m, rfl⟩)
    go_ret3
    exact ⟨⟨_, rfl, RdRs.nil _⟩, (HP.out.quiet (yac wr m)).bel⟩
   ·rw [if_neg h40] at h9
    cases h9
    have h40I : ¬ (40 : Int) < (n : Int) := by omega
    clear HJ hMn hM
    go_wp2_with (go_at_call 81; refine HD.out.mono ?_; rintro e w1 ⟨rfl, m, rfl⟩)
    go_ret3
    exact ⟨⟨_, rfl, (HP.out.quiet (yac wr m)).own.rd⟩, (HP.out.quiet (yac wr m)).bel⟩
  ·rw [if_neg (show ¬ s.data.toList.length <= k from hend)] at h9
   have HD := zH (ycv HP.out.rd (b := false) (decide_eq_false hend) hk); obtain ⟨last, hlast⟩ : ∃ q, (if n = 0 then 1 else 5) = q := ⟨_, rfl⟩
   rw [hlast] at h9
   have hll : last = 1 \/ last = 5 := by rw [<- hlast]; split <;> simp
   have hadv := ytd (L := s.data.toList) (k := k) (show k < s.data.toList.length by rw [T2.ba_len]; omega) hll
   obtain ⟨⟨ok, x, k2⟩, hx⟩ : ∃ z, ruleP s.data.toList last k = z := ⟨_, rfl⟩; rw [hx] at h9 hadv; simp only [T2.ba_len] at h9 hadv; have HU := zH (fun w' (hr : RD TP w' w.heap.size s k) => yxx hr hk hs (show last <= 5 by omega) hll hx)
   have hk2 := hadv.1; clear hx hll
   by_cases hnz : n = 0
   ·skip
    obtain rfl : last = 1 := by rw [<- hlast, if_pos hnz]
    subst hnz; clear hlast
    cases ok with
    | false =>
     rw [if_pos rfl] at h9
     cases h9
     clear HJ hMn hM hadv
     go_wp2_with (first
      | (go_at_call 81; refine HD.out.mono ?_; rintro e w1 ⟨rfl, m, rfl⟩)
      | (go_at_call 82; refine (HU.out _ (HP.out.quiet (yac wr m)).rd).mono ?_; rintro e w2 ⟨⟨r3, A3, n3, c3, A4, n4, c4, rfl, ho⟩, hr, hm⟩; have HP2 := zH ((HP.out.quiet (yac wr m)).call hr hm); clear ho; clear hr hm))
     have HP3 := zH (HP2.out.quiet (yaa w2 (.cells #[.int .i64 r3, .slice A3 n3 c3, .slice A4 n4 c4] 136))); have HX3 := zH (R3.new 136 w2 (.int .i64 r3) (.slice A3 n3 c3) (.slice A4 n4 c4)); generalize w2.alloc (.cells #[.int .i64 r3, .slice A3 n3 c3, .slice A4 n4 c4] 136) = w3 at HP3 HX3 |-; have c1 := HP3.out.rd.c1
     go_quiet (fail)
     go_wp2
     go_ret3
     exact ⟨⟨_, rfl, RdRs.nil _⟩, (HP3.out.quiet (yac w3 nq)).bel⟩
    | true =>
     rw [if_neg (by simp)] at h9
     have hadv2 := hadv.2 rfl; have haf := af_le (L := s.data.toList) (k := k2) hk2; rw [T2.ba_len] at haf; have HB := zH (fun w' (hr : RD TP w' w.heap.size s k2) => ycq hr hk2 hs)
     have HJ2 := zH (h9); clear hadv
     have HL : Hid (M.length + 1 <= 1000000) := by show _ <= _; rw [HLN.out]; omega
     rw [if_pos (by omega)] at HJ2
     have HML : Hid (ln = 0) := hMn (by omega)
     have HM40 := zH hM; have hfI := yho; obtain ⟨i0, hi0, hz0, hz1, hz2⟩ := info_parts hfI; clear hMn hM HJ h9 hfI
     go_wp2_with (first
      | (go_at_call 81; refine HD.out.mono ?_; rintro e w1 ⟨rfl, m, rfl⟩)
      | (go_at_call 82; refine (HU.out _ (HP.out.quiet (yac wr m)).rd).mono ?_; rintro e w2 ⟨⟨r3, A3, n3, c3, A4, n4, c4, rfl, ho⟩, hr, hm⟩; have HP2 := zH ((HP.out.quiet (yac wr m)).call hr hm); have HP3 := zH (HP2.out.quiet (yaa w2 (.cells #[.int .i64 r3, .slice A3 n3 c3, .slice A4 n4 c4] 136))); have HO : Hid (r3 = x.rel /\ T2.OwnI (w.heap.size + 1) (w2.alloc (.cells #[.int .i64 r3, .slice A3 n3 c3, .slice A4 n4 c4] 136)) (.slice A3 n3 c3) x.seq /\ T2.OwnI (w.heap.size + 1) (w2.alloc (.cells #[.int .i64 r3, .slice A3 n3 c3, .slice A4 n4 c4] 136)) (.slice A4 n4 c4) x.exp) := ykx (ho (by trivial)) (HP.out.quiet (yac wr m)).sz _; clear ho; clear hr hm)
      | (at_builtin; (refine pushR Tryz.underlying96 hi0 hz0 hz1 hz2 (by decide) rfl (.tmp 38) (.tmp 40) rfl _ (w.heap.size + 1) _ M ⟨r3, .slice A3 n3 c3, .slice A4 n4 c4, x.seq, x.exp⟩ 1 rfl HP3.out.own HO.out.2 (World.size_alloc _ _) rfl (zN _) HP3.out.sz HL.out ?_); intro v4 w4 ho4 hb4; have HP4 := zH (HP3.out.push hb4 ho4); clear ho4 hb4)
      | (go_at_call 80; refine (HB.out _ HP4.out.rd).mono ?_; rintro e w5 ⟨rfl, hr, hm⟩; have HP5 := zH (HP4.out.call hr hm); clear hr hm))
     go_roundg f
     case measure => omega
     case rel => exact ⟨_, 0 + 1, af s.data.toList k2, by first | rfl | (congr 1), by omega, haf.2, by omega, by have := HML.out; have := HLN.out; have := HM40.out; rw [List.length_append, List.length_singleton]; omega, fun _ => by have := HML.out; have := HLN.out; rw [List.length_append, List.length_singleton]; omega, by show _ = _; rw [yay, show pls [_] = [x] from by simp only [pls, List.map_cons, List.map_nil, MR.pl, HO.out.1]]; exact HJ2.out, HP5.out⟩
   ·skip
    obtain rfl : last = 5 := by rw [<- hlast, if_neg hnz]
    have hnI : ((n : Int) == 0) = false := by simp; omega
    clear hlast
    cases ok with
    | false =>
     rw [if_pos rfl] at h9
     cases h9
     clear HJ hMn hM hadv
     go_wp2_with (first
      | (go_at_call 81; refine HD.out.mono ?_; rintro e w1 ⟨rfl, m, rfl⟩)
      | (go_at_call 82; refine (HU.out _ (HP.out.quiet (yac wr m)).rd).mono ?_; rintro e w2 ⟨⟨r3, A3, n3, c3, A4, n4, c4, rfl, ho⟩, hr, hm⟩; have HP2 := zH ((HP.out.quiet (yac wr m)).call hr hm); clear ho; clear hr hm))
     have HP3 := zH (HP2.out.quiet (yaa w2 (.cells #[.int .i64 r3, .slice A3 n3 c3, .slice A4 n4 c4] 136))); have HX3 := zH (R3.new 136 w2 (.int .i64 r3) (.slice A3 n3 c3) (.slice A4 n4 c4)); generalize w2.alloc (.cells #[.int .i64 r3, .slice A3 n3 c3, .slice A4 n4 c4] 136) = w3 at HP3 HX3 |-; have c1 := HP3.out.rd.c1
     go_quiet (fail)
     go_wp2
     go_ret3
     exact ⟨⟨_, rfl, RdRs.nil _⟩, (HP3.out.quiet (yac w3 nq)).bel⟩
    | true =>
     rw [if_neg (by simp)] at h9
     have hadv2 := hadv.2 rfl; have haf := af_le (L := s.data.toList) (k := k2) hk2; rw [T2.ba_len] at haf; have HB := zH (fun w' (hr : RD TP w' w.heap.size s k2) => ycq hr hk2 hs)
     by_cases h40 : n + 1 <= 40
     ·skip
      have HJ2 := zH (h9); clear hadv
      have HL : Hid (M.length + 1 <= 1000000) := by show _ <= _; rw [HLN.out]; omega
      rw [if_pos (by omega)] at HJ2
      have HML : Hid (ln = n) := hMn (by omega)
      have HM40 := zH hM
      have h40I : ((n : Int) + 1 <= 40) := by omega
      have hni : (n : Int) <= 1000000 := by omega
      have hfI := yho; obtain ⟨i0, hi0, hz0, hz1, hz2⟩ := info_parts hfI; clear hMn hM HJ h9 hfI
      go_wp2_with (first
       | (go_at_call 81; refine HD.out.mono ?_; rintro e w1 ⟨rfl, m, rfl⟩)
       | (go_at_call 82; refine (HU.out _ (HP.out.quiet (yac wr m)).rd).mono ?_; rintro e w2 ⟨⟨r3, A3, n3, c3, A4, n4, c4, rfl, ho⟩, hr, hm⟩; have HP2 := zH ((HP.out.quiet (yac wr m)).call hr hm); have HP3 := zH (HP2.out.quiet (yaa w2 (.cells #[.int .i64 r3, .slice A3 n3 c3, .slice A4 n4 c4] 136))); have HO : Hid (r3 = x.rel /\ T2.OwnI (w.heap.size + 1) (w2.alloc (.cells #[.int .i64 r3, .slice A3 n3 c3, .slice A4 n4 c4] 136)) (.slice A3 n3 c3) x.seq /\ T2.OwnI (w.heap.size + 1) (w2.alloc (.cells #[.int .i64 r3, .slice A3 n3 c3, .slice A4 n4 c4] 136)) (.slice A4 n4 c4) x.exp) := ykx (ho (by trivial)) (HP.out.quiet (yac wr m)).sz _; clear ho; clear hr hm)
       | (at_builtin; (refine pushR Tryz.underlying96 hi0 hz0 hz1 hz2 (by decide) rfl (.tmp 38) (.tmp 40) rfl _ (w.heap.size + 1) _ M ⟨r3, .slice A3 n3 c3, .slice A4 n4 c4, x.seq, x.exp⟩ 1 rfl HP3.out.own HO.out.2 (World.size_alloc _ _) rfl (zN _) HP3.out.sz HL.out ?_); intro v4 w4 ho4 hb4; have HP4 := zH (HP3.out.push hb4 ho4); clear ho4 hb4)
       | (go_at_call 80; refine (HB.out _ HP4.out.rd).mono ?_; rintro e w5 ⟨rfl, hr, hm⟩; have HP5 := zH (HP4.out.call hr hm); clear hr hm))
      go_roundg f
      case measure => omega
      case rel => exact ⟨_, n + 1, af s.data.toList k2, by first | rfl | (congr 1), by omega, haf.2, by omega, by have := HML.out; have := HLN.out; have := HM40.out; rw [List.length_append, List.length_singleton]; omega, fun _ => by have := HML.out; have := HLN.out; rw [List.length_append, List.length_singleton]; omega, by show _ = _; rw [yay, show pls [_] = [x] from by simp only [pls, List.map_cons, List.map_nil, MR.pl, HO.out.1]]; exact HJ2.out, HP5.out⟩
     ·skip
      have HJ2 := zH (h9); clear hadv; rw [if_neg h40] at HJ2; have HM40 := zH hM
      have h40I : ¬ ((n : Int) + 1 <= 40) := by omega
      have hni : (n : Int) <= 1000000 := by omega
      have hfI := yho; obtain ⟨i0, hi0, hz0, hz1, hz2⟩ := info_parts hfI; clear hMn hM HJ h9 hfI
      go_wp2_with (first
       | (go_at_call 81; refine HD.out.mono ?_; rintro e w1 ⟨rfl, m, rfl⟩)
       | (go_at_call 82; refine (HU.out _ (HP.out.quiet (yac wr m)).rd).mono ?_; rintro e w2 ⟨⟨r3, A3, n3, c3, A4, n4, c4, rfl, ho⟩, hr, hm⟩; have HP2 := zH ((HP.out.quiet (yac wr m)).call hr hm); have HP3 := zH (HP2.out.quiet (yaa w2 (.cells #[.int .i64 r3, .slice A3 n3 c3, .slice A4 n4 c4] 136))); have HO : Hid (r3 = x.rel /\ T2.OwnI (w.heap.size + 1) (w2.alloc (.cells #[.int .i64 r3, .slice A3 n3 c3, .slice A4 n4 c4] 136)) (.slice A3 n3 c3) x.seq /\ T2.OwnI (w.heap.size + 1) (w2.alloc (.cells #[.int .i64 r3, .slice A3 n3 c3, .slice A4 n4 c4] 136)) (.slice A4 n4 c4) x.exp) := ykx (ho (by trivial)) (HP.out.quiet (yac wr m)).sz _; clear ho; clear hr hm)
       | (go_at_call 80; refine (HB.out _ HP3.out.rd).mono ?_; rintro e w5 ⟨rfl, hr, hm⟩; have HP5 := zH (HP3.out.call hr hm); clear hr hm))
      go_roundg f
      case measure => omega
      case rel => exact ⟨M, n + 1, af s.data.toList k2, by first | rfl | (congr 1), by omega, haf.2, by omega, by have := HLN.out; have := HM40.out; omega, fun h => absurd h h40, HJ2.out, HP5.out⟩
end Go.Proofs.YteibnfeokgibmaaGreat.S6
