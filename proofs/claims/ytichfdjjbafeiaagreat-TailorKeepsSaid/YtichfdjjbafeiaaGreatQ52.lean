/-
  PACKED for a claim.
-/
import Derived.SizedLaws
import Derived.Test.YtichfdjjbafeiaaGreatQ38
import Derived.Test.YtichfdjjbafeiaaGreatQ47
set_option linter.unusedVariables false
set_option linter.unusedSimpArgs false
set_option maxRecDepth 100000
namespace Go.Proofs.YtichfdjjbafeiaaGreat.S6
open Go.RowKit
open Go.ChangeShapes Go.WideShapes Go.ChangeAt
theorem yde {H : Type} {P : Program} {e : TypeId} {z : Nat} : ∀ {L : List (DataW H)} {d : DataW H}, d ∈ L -> z ∈ d.weights P e -> z ∈ DataW.weightsAll P e L
 | [], _, hd, _ => by cases hd
 | y :: t, d, hd, hz => by
  simp only [DataW.weightsAll, List.mem_append]
  rcases List.mem_cons.1 hd with rfl | hd
  ·exact .inl hz
  ·exact .inr (yde hd hz)
theorem ylv {H : Type} {enc : TypeId × Value -> H} {W : World} {v : Value} {fuel : Nat} {x : DataW H × List MemPlace} {l : List Int} (h : DataW.trod enc Tryz.prog W 0 (fun _ => true) true fuel 22 [v] = some x) (hr : RdI anyB W v l)
  (hz : ∀ z ∈ x.1.weights Tryz.prog 22, z <= reachBytes) : l.length <= reachBytes := by
 rcases Deep.open_slice Tryz.underlying22 h with ⟨h0, _⟩ | ⟨a, len, cap, m, n, D, Pl, e, _, hl, hm, hmm, rfl, _⟩
 ·simp at h0
  subst h0
  have := (RdF.cap hr).2
  omega
 ·simp at e
  subst e; have h2 := (RdF.cap hr).2
  have h8 : Tryz.prog.bytesOf 3 = 8 := by kernel_rfl
  have := hz ((((List.range len).map D).length + ((List.range (m - len)).map fun j => D (len + j)).length) * Tryz.prog.bytesOf 3) (by simp only [DataW.weights, Tryz.underlying22]; exact List.mem_cons_self)
  rw [h8] at this; simp only [List.length_map, List.length_range] at this
  omega
theorem ynn {H : Type} {enc : TypeId × Value -> H} {W : World} {t e : TypeId} {f0 f1 f2 : Field} {fuel : Nat} {cs : List Value} {x : DataW H × List MemPlace} (ht : Tryz.prog.underlying t = some (.slice e)) (he : Tryz.prog.underlying e = some (.struct #[f0, f1, f2]))
  (ce : Tryz.prog.cellsOf e = 3) (o0 : f0.offset = 0) (o1 : f1.offset = 1) (o2 : f2.offset = 2) (c0 : Tryz.prog.cellsOf f0.type = 1) (c1 : Tryz.prog.cellsOf f1.type = 1) (c2 : Tryz.prog.cellsOf f2.type = 1)
  (h : DataW.trod enc Tryz.prog W 0 (fun _ => true) true fuel t cs = some x) :
  cs = [.slice none 0 0] \/ ∃ (a : Addr) (len cap : Nat) (D : Nat -> DataW H) (sp : List (DataW H)), cs = [.slice (some a) len cap] /\ len <= cap /\ cap <= maxLen /\ x.1 = .slice ((List.range len).map D) sp ∧
   ∀ i, i < len -> ∃ (n : Nat) (v0 v1 v2 : Value) (y0 y1 y2 : DataW H × List MemPlace), W.cell? ((a.add (i * 3)).add 0) = some v0 /\ W.cell? ((a.add (i * 3)).add 1) = some v1 /\ W.cell? ((a.add (i * 3)).add 2) = some v2 ∧
    DataW.trod enc Tryz.prog W 0 (fun _ => true) true n f0.type [v0] = some y0 /\ DataW.trod enc Tryz.prog W 0 (fun _ => true) true n f1.type [v1] = some y1 /\ DataW.trod enc Tryz.prog W 0 (fun _ => true) true n f2.type [v2] = some y2 /\ D i = .agg [y0.1, y1.1, y2.1] := by
 rcases Deep.open_slice ht h with ⟨h0, _⟩ | ⟨a, len, cap, m, n, D, Pl, rfl, _, hl, hm, hmm, rfl, hx⟩
 ·exact .inl h0
 ·refine .inr ⟨a, len, cap, D, _, rfl, hl, hm, rfl, fun i hi => ?_⟩
  obtain ⟨cs', h1, h2⟩ := hx i (by rw [if_pos rfl] at hmm; omega)
  rw [ce] at h1; obtain ⟨_, hlen, hcell⟩ := World.cells?_some h1; obtain ⟨xs, k, hk, hxy, _, hxl, hf⟩ := DataW.trod_struct he h2
  match xs, hxl, cs', hlen with
  | [y0, y1, y2], _, [v0, v1, v2], _ =>
   have g0 := hf 0 f0 rfl; have g1 := hf 1 f1 rfl; have g2 := hf 2 f2 rfl
   simp [o0, o1, o2, c0, c1, c2] at g0 g1 g2
   have e0 := hcell 0 (by omega)
   have e1 := hcell 1 (by omega)
   have e2 := hcell 2 (by omega)
   exact ⟨k, v0, v1, v2, y0, y1, y2, by simpa using e0, by simpa using e1, by simpa using e2, g0, g1, g2, by simp only [Prod.mk.injEq] at hxy; simpa using hxy.1⟩
theorem yno {H : Type} {enc : TypeId × Value -> H} {W : World} {v : Value} {base : Nat} {d : DataW H} {ps : List MemPlace} (hval : Value.okWide Tryz.prog W .any base 40 v)
  (h : DataW.Trod enc Tryz.prog W 0 (fun _ => true) true 40 v d ps) (hz : ∀ z ∈ d.weights Tryz.prog 40, z <= reachBytes) : ∃ L : List RV, RdRs W v L /\ (∀ x ∈ L, x.seq.length <= reachBytes /\ x.exp.length <= reachBytes /\ I64 x.seq /\ I64 x.exp) /\ L.length <= maxLen := by
 obtain ⟨a, len, cap, rfl⟩ := okWide_slice Tryz.underlying40 hval; obtain ⟨fuel, hf⟩ := h
 rcases ynn Tryz.underlying40 Tryz.underlying39 (by kernel_rfl) rfl rfl rfl (by kernel_rfl) (by kernel_rfl) (by kernel_rfl) hf with e | ⟨ad, n, c, D, sp, e, hl, hm, hd, hi⟩
 ·simp [Value.cells] at e
  obtain ⟨rfl, rfl, rfl⟩ := e; exact ⟨[], RdRs.nil W, fun x hx => absurd hx (by simp), Nat.zero_le _⟩
 ·simp [Value.cells] at e
  obtain ⟨rfl, rfl, rfl⟩ := e
  have hex : ∀ i, i < len -> ∃ q : MR, W.cell? ((ad.add (i * 3)).add 0) = some (.int .i64 q.r) /\ W.cell? ((ad.add (i * 3)).add 1) = some q.vs /\ W.cell? ((ad.add (i * 3)).add 2) = some q.ve /\ RdI anyB W q.vs q.s /\ RdI anyB W q.ve q.e /\ q.s.length <= reachBytes /\ q.e.length <= reachBytes /\ I64 q.s /\ I64 q.e := by
   intro i hil; obtain ⟨n, v0, v1, v2, y0, y1, y2, d0, d1, d2, t0, t1, t2, eD⟩ := hi i hil; obtain ⟨n0, e0, _, w0⟩ := DataW.trod_int Tryz.underlying3 t0
   simp at e0
   obtain ⟨l1, r1, _, i1⟩ := ylp t1; obtain ⟨l2, r2, _, i2⟩ := ylp t2
   have hwt : ∀ z ∈ (D i).weights Tryz.prog 39, z <= reachBytes := fun z hq => hz z (by
    have hd' : d = .slice ((List.range len).map D) sp := hd
    rw [hd']; simp only [DataW.weights, Tryz.underlying40]; exact List.mem_cons_of_mem _ (List.mem_append_left _ (yde (List.mem_map.2 ⟨i, List.mem_range.2 hil, rfl⟩) hq)))
   rw [eD] at hwt; simp only [DataW.weights, Tryz.underlying39] at hwt; have m1 := ylv t1 r1 fun z hq => hwt z (DataW.weights_mem_each (j := 1) rfl rfl z hq)
   have m2 := ylv t2 r2 fun z hq => hwt z (DataW.weights_mem_each (j := 2) rfl rfl z hq)
   exact ⟨⟨n0, v1, v2, l1, l2⟩, by rw [d0, e0], d1, d2, r1, r2, m1, m2, i1, i2⟩
  obtain ⟨f, hfz⟩ := Deep.choose_lt hex; obtain ⟨M, hM⟩ : ∃ M : List MR, M = (List.range len).map f := ⟨_, rfl⟩
  have hMl : M.length = len := by rw [hM]; simp
  have hget : ∀ i, i < len -> M[i]? = some (f i) := fun i h => by rw [hM, List.getElem?_map, List.getElem?_range h]; rfl
  have hmem : ∀ q ∈ M, RdI anyB W q.vs q.s /\ RdI anyB W q.ve q.e /\ q.s.length <= reachBytes /\ q.e.length <= reachBytes /\ I64 q.s /\ I64 q.e := fun q hq => by
   rw [hM] at hq; obtain ⟨i, hi', rfl⟩ := List.mem_map.1 hq; exact (hfz i (by simpa using hi')).2.2.2
  refine ⟨pls M, ⟨M, rfl, ⟨some ad, cap, by rw [hMl], by rw [hMl]; exact hl, fun hn => ?_⟩, fun q hq => ⟨(hmem q hq).1, (hmem q hq).2.1⟩⟩, fun x hx => ?_, by rw [yao, hMl]; omega⟩
  ·rw [hMl] at hn; obtain ⟨c0, _, _, _⟩ := hfz 0 (by omega)
   rw [Nat.zero_mul, show (ad.add 0).add 0 = ad by simp [Addr.add]] at c0
   obtain ⟨g, o, sp⟩ := ad; have hs := yuz c0; simp only [Addr.mk.injEq, true_and] at hs; subst hs; refine ⟨g, o, rfl, trivial, fun j u hu => ?_⟩
   have hj2 := (List.getElem?_eq_some_iff.1 hu).1; rw [yen, hMl] at hj2
   have hj : j / 3 < len := by omega
   obtain ⟨c0, c1, c2, _⟩ := hfz (j / 3) hj; rw [Addr.add_lit, Addr.add_lit] at c0 c1 c2; obtain ⟨q0, q1, q2⟩ := yiw (hget _ hj)
   have hmod : j % 3 = 0 \/ j % 3 = 1 \/ j % 3 = 2 := by omega
   rcases hmod with e | e | e
   ·rw [show j / 3 * 3 = j by omega] at c0 q0
    rw [q0] at hu; rw [Nat.add_zero] at c0; rw [c0]; exact hu
   ·rw [show j / 3 * 3 + 1 = j by omega] at q1
    rw [show o + j / 3 * 3 + 1 = o + j by omega] at c1
    rw [q1] at hu; rw [c1]; exact hu
   ·rw [show j / 3 * 3 + 2 = j by omega] at q2
    rw [show o + j / 3 * 3 + 2 = o + j by omega] at c2
    rw [q2] at hu; rw [c2]; exact hu
  ·obtain ⟨q, hq, rfl⟩ := List.mem_map.1 hx; exact (hmem q hq).2.2
end Go.Proofs.YtichfdjjbafeiaaGreat.S6
