/-
  THE CONTRACT of slices.SortFunc at entries.
-/
import Derived.Test.YtaabdpfhpolcgaaBCmp
import Derived.Test.YtaabdpfhpolcgaaShelf
namespace Go.Proofs.Ytaabdpfhpolcgaa
open Go.RowKit Go.Shelf Go.Sort
set_option linter.unusedVariables false
set_option linter.unusedSimpArgs false
/-- An entry that is read below block B of world w, of one sign to three. -/
abbrev SE (B : Nat) (w : World) : Type := { m : ME // EntOk (fun g => g < B) w m ∧ 1 ≤ m.s.length ∧ m.s.length ≤ 3 }
def encM (m : ME) : List Value := [m.vs, m.vl]
def encS {B : Nat} {w : World} (x : SE B w) : List Value := encM x.1
def cfS {B : Nat} {w : World} (x y : SE B w) : Int := ord x.1.s y.1.s
theorem lt_cfS {B : Nat} {w : World} (x y : SE B w) : ltOf cfS x y = decide (ord x.1.s y.1.s < 0) := by
  unfold ltOf cfS; rfl
theorem swoS {B : Nat} {w : World} : SWO (ltOf (cfS (B := B) (w := w))) where
  irrefl x := by rw [lt_cfS, ord_self]; rfl
  trans x y z h1 h2 := by
    rw [lt_cfS] at *
    simp at *
    exact to_ord.trans _ _ _ h1 h2
  ntrans x y z h1 h2 := by
    rw [lt_cfS] at *
    simp at *
    have a1 := to_ord.anti x.1.s y.1.s
    have a2 := to_ord.anti y.1.s z.1.s
    have a3 := to_ord.anti x.1.s z.1.s
    by_cases e1 : ord y.1.s x.1.s = 0
    · have := to_ord.zero y.1.s x.1.s z.1.s e1
      omega
    · by_cases e2 : ord z.1.s y.1.s = 0
      · have := to_ord.zero z.1.s y.1.s x.1.s e2
        omega
      · have := to_ord.trans y.1.s x.1.s z.1.s
        have b := to_ord.trans z.1.s y.1.s x.1.s
        omega
theorem flat_mcells {B : Nat} {w : World} [Inhabited (SE B w)] (d : Array (SE B w)) (t : Nat) (h : t < d.size * 2) : (mcells (d.toList.map (·.1)))[t]? = some ((flatK encS 2 d)[t]!) := by
  rw [get_flatK encS 2 d t h]
  have hk : t / 2 < d.size := by omega
  have hp : (d.toList.map (·.1))[t / 2]? = some d[t / 2]!.1 := by simp [hk]
  obtain ⟨h1, h2⟩ := mcells_at hp
  rcases Nat.mod_two_eq_zero_or_one t with e | e
  · rw [e]
    have : t = t / 2 * 2 := by omega
    rw [← this] at h1
    rw [h1]; rfl
  · rw [e]
    have : t = t / 2 * 2 + 1 := by omega
    rw [← this] at h2
    rw [h2]; rfl
theorem sortK_block {B : Nat} {w : World} [Inhabited (SE B w)] (g : Nat) (hg : B ≤ g) (hgs : g < w.heap.size) (n : Nat) (d : Array (SE B w)) (os : Array Obj) {k : Nat} (hk : k < B) : (sortWorldK encS 2 w g 0 n d os).heap[k]? = w.heap[k]? := by
  have hkg : k ≠ g := by omega
  show ((w.heap.modify g _) ++ os)[k]? = w.heap[k]?
  rw [Array.getElem?_append_left (by simp; omega), Array.getElem?_modify, if_neg (fun e => hkg e.symm)]
/-- No one stands ahead of one that is ahead of it. -/
def SortedM (M : List ME) : Prop := M.Pairwise fun p q => ¬ ord q.s p.s < 0
theorem sort_any {B : Nat} {w : World} {v : Value} {M : List ME} (h : OwnM B w v M) (h0 : 0 < M.length) (hl : M.length ≤ 1000000) (hB : B ≤ w.heap.size) (hM : ∀ m ∈ M, EntOk (fun g => g < B) w m ∧ 1 ≤ m.s.length ∧ m.s.length ≤ 3) :
    Calls Try.prog 10 #[v, .func (.func 11) #[] #[]] w fun e w' => e = .returned (.tuple #[]) ∧ ∃ M', M.Perm M' ∧ SortedM M' ∧ RdF anyB w' v M'.length (mcells M') ∧ Below B w w' := by
  obtain ⟨m0, hm0⟩ : ∃ m, m ∈ M := by
    cases M with
    | nil => simp at h0
    | cons m t => exact ⟨m, by simp⟩
  haveI : Inhabited (SE B w) := ⟨⟨m0, hM m0 hm0⟩⟩
  obtain ⟨A, hA⟩ : ∃ A : List (SE B w), A.map (·.1) = M := ⟨M.pmap (fun m hm => ⟨m, hm⟩) hM, by rw [List.map_pmap]; simp⟩
  have hAl : A.length = M.length := by rw [← hA]; simp
  rcases h.2 with ⟨_, hn⟩ | ⟨g, cap, cur, rfl, hg, hgg, hlc, _⟩
  · omega
  · have hH : HoldsK encS 2 w g 0 A.toArray := by
      intro j hj
      have hj' : j < A.toArray.size * 2 := by simpa using hj
      rw [Nat.zero_add]
      refine ⟨?_, frozen_of_row w g j _ _ hgg⟩
      have := World.ownsRow.cells h (g := g) rfl j _ (by rw [← hA]; exact flat_mcells A.toArray j hj')
      rw [Addr.add_lit, Nat.zero_add] at this
      exact this
    have hgs : g < w.heap.size := R4.heap_lt hgg
    have eg : ∀ args w, (callFunc 11 args).run Try.prog w = .ok (.enter 11 args) w := enters_of Try.func11 (by kernel_rfl) rfl
    have hcl : CmpLays Try.prog 11 #[] encS 2 cfS g 0 A.toArray.size w := fun n os dk _ x y => by
      have f : ∀ k, k < B → k < w.heap.size → (sortWorldK encS 2 w g 0 n dk os).heap[k]? = w.heap[k]? := fun k hk _ => sortK_block g hg hgs n dk os hk
      exact order_any (x.2.1.frame f) (y.2.1.frame f) x.2.2.1 y.2.2.1 (by have := x.2.2.2; omega) (by have := y.2.2.2; omega)
    have hcon := AnyQ.slices_SortFunc Try.sortE 2 Try.isAgg40 Try.sizeOf40 encS (fun _ => rfl) (fun x v hv => by
      have := x.2.1.one
      simp [encS, encM] at hv
      rcases hv with rfl | rfl
      · exact this.1
      · exact this.2) cfS swoS 11 #[] g 0 cap A.toArray w eg hcl hH hgs (by simp; omega)
    rw [show A.toArray.size = M.length by simpa using hAl] at hcon
    refine Calls.mono hcon fun e w' => ?_
    rintro ⟨he, d', n, os, hp, hs, rfl⟩
    have hsz : d'.size = M.length := by have := hp.1; simpa [hAl] using this
    have hH' := holdsK_sortWorldK encS 2 w g 0 n A.toArray d' os hgs hH (by rw [hsz]; simp [hAl])
    refine ⟨he, d'.toList.map (·.1), ?_, ?_, ?_, ?_⟩
    · have h2 := hp.2.2
      have e1 : d'.extract 0 M.length = d' := by rw [← hsz]; exact Array.extract_size
      have e2 : A.toArray.extract 0 M.length = A.toArray := by rw [show M.length = A.toArray.size by simpa using hAl.symm]; exact Array.extract_size
      rw [e1, e2] at h2
      have h3 : d'.toList.Perm A := by simpa using h2
      rw [← hA]
      exact (h3.map (·.1)).symm
    · refine List.pairwise_iff_getElem.2 fun i j hi hj hij => ?_
      have hj' : j < d'.size := by simpa using hj
      have h3 := hs i j (Nat.zero_le _) hij (by simpa [← hsz] using hj')
      rw [lt_cfS] at h3
      have ei : d'[i]! = d'.toList[i]'(by simp; omega) := by simp [show i < d'.size by omega]
      have ej : d'[j]! = d'.toList[j]'(by simpa using hj') := by simp [hj']
      rw [ei, ej] at h3
      simpa using h3
    · refine ⟨_, cap, by rw [show (d'.toList.map (·.1)).length = M.length by simpa using hsz], by rw [show (d'.toList.map (·.1)).length = M.length by simpa using hsz]; exact hlc, fun _ => ⟨g, 0, rfl, trivial, fun j u hu => ?_⟩⟩
      have hj : j < d'.size * 2 := by
        have := (List.getElem?_eq_some_iff.1 hu).1
        rw [mcells_len] at this
        simpa using this
      rw [flat_mcells d' j hj] at hu
      rw [← Option.some.inj hu]
      exact (hH' j (by simpa using hj)).1
    · exact ⟨rfl, rfl, rfl, size_sortWorldK_c encS 2 w g 0 n d' os, fun k hk => sortK_block g hg hgs n d' os hk⟩
end Go.Proofs.Ytaabdpfhpolcgaa
