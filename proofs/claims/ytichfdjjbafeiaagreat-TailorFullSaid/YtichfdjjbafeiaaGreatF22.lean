/-
  PACKED for a claim.
-/
import Derived.Test.YtichfdjjbafeiaaGreatF20
import Derived.Test.YtichfdjjbafeiaaGreatF21
set_option linter.unusedVariables false
set_option linter.unusedSimpArgs false
set_option maxRecDepth 100000
namespace Go.Proofs.YtichfdjjbafeiaaGreat.R4
open Go.RowKit Go.Shelf Go.Sort
def cmpI (x y : Int) : Int := if x < y then -1 else if y < x then 1 else 0
theorem yjx (x : Int) (w : World) : Calls Tryz.prog 114 #[.int .i64 x] w fun e w' => e = .returned (.bool false) /\ w = w' := by
 go_enter Tryz.func114, Tryz.ntmps114
 go_wp2
 go_ret
 exact ⟨rfl, rfl⟩
theorem yib (x y : Int) (w : World) : Calls Tryz.prog 67 #[.int .i64 x, .int .i64 y] w fun e w' => e = .returned (.int .i64 (cmpI x y)) /\ w = w' := by
 unfold cmpI
 by_cases h1 : x < y
 ·rw [if_pos h1]
  go_enter Tryz.func67, Tryz.ntmps67
  go_wp2_with (go_at_call 114; refine (yjx _ _).mono ?_; rintro e w' ⟨rfl, rfl⟩)
  go_ret
  exact ⟨rfl, rfl⟩
 ·rw [if_neg h1]
  by_cases h2 : y < x
  ·rw [if_pos h2]
   go_enter Tryz.func67, Tryz.ntmps67
   go_wp2_with (go_at_call 114; refine (yjx _ _).mono ?_; rintro e w' ⟨rfl, rfl⟩)
   go_ret
   exact ⟨rfl, rfl⟩
  ·rw [if_neg h2]
   have e : x = y := by omega
   subst e; clear h1 h2
   go_enter Tryz.func67, Tryz.ntmps67
   go_wp2_with (go_at_call 114; refine (yjx _ _).mono ?_; rintro e w' ⟨rfl, rfl⟩)
   go_ret
   exact ⟨rfl, rfl⟩
def encP (x : Int × Int) : List Value := [.int .i64 x.1, .int .i64 x.2]
def cfP (x y : Int × Int) : Int := cmpI x.1 y.1
theorem lt_cfP (x y : Int × Int) : ltOf cfP x y = decide (x.1 < y.1) := by
 unfold ltOf cfP cmpI
 by_cases h1 : x.1 < y.1
 ·simp [h1]
 ·by_cases h2 : y.1 < x.1 <;> simp [h1, h2]
theorem swoP : SWO (ltOf cfP) where
 irrefl x := by rw [lt_cfP]; simp
 trans x y z h1 h2 := by rw [lt_cfP] at *; simp at *; omega
 ntrans x y z h1 h2 := by rw [lt_cfP] at *; simp at *; omega
theorem closureP (x y : Int × Int) (W : World) : Calls Tryz.prog 118 #[.agg #[.int .i64 x.1, .int .i64 x.2], .agg #[.int .i64 y.1, .int .i64 y.2]] W fun e w' => e = .returned (.int .i64 (cfP x y)) /\ ∃ q os', w' = grow (W.drewN q) os' := by
 have hcon := fun W' => yib x.1 y.1 W'
 unfold cfP; generalize cmpI x.1 y.1 = r at hcon |-
 go_enter Tryz.func118, Tryz.ntmps118
 go_wp2_with (go_at_call 67; refine (hcon _).mono ?_; rintro e w' ⟨rfl, rfl⟩)
 go_ret
 exact ⟨rfl, 0, _, by rw [alloc_eq_grow, alloc_eq_grow, grow_grow]; rfl⟩
theorem yfs (d : Array (Int × Int)) (t : Nat) (h : t < d.size * 2) : (pcells d.toList)[t]? = some ((flatK encP 2 d)[t]!) := by
 rw [get_flatK encP 2 d t h]
 have hk : t / 2 < d.size := by omega
 have hp : d.toList[t / 2]? = some d[t / 2]! := by simp [hk]
 obtain ⟨h1, h2⟩ := yil hp
 rcases Nat.mod_two_eq_zero_or_one t with e | e
 ·rw [e]
  have : t = t / 2 * 2 := by omega
  rw [<- this] at h1; rw [h1]; rfl
 ·rw [e]
  have : t = t / 2 * 2 + 1 := by omega
  rw [<- this] at h2; rw [h2]; rfl
def SortedP (l : List (Int × Int)) : Prop := l.Pairwise fun p q => p.1 <= q.1
theorem yoa (A : Option Addr) (c : Nat) (f : Value) (w : World) : Calls Tryz.prog 117 #[.slice A 0 c, f] w fun e w' => e = .returned (.tuple #[]) /\ w' = w :=
 AnyF.slices_SortFunc_none { Tryz.sortP with } A c f w
theorem yhf {B : Nat} {w : World} {v : Value} {l : List (Int × Int)} (h : OwnP B w v l) (hl : l.length <= 1000000) (hB : B <= w.heap.size) :
  Calls Tryz.prog 117 #[v, .func (.func 118) #[] #[]] w fun e w' => e = .returned (.tuple #[]) /\ ∃ l', l.Perm l' /\ SortedP l' /\ RdP w'.heap.size w' v l' /\ Below B w w' := by
 rcases Nat.eq_zero_or_pos l.length with h0 | h0
 ·have hl0 : l = [] := List.eq_nil_of_length_eq_zero h0
  subst hl0; obtain ⟨A, c, rfl, -, -⟩ := yaf h; exact (yoa A c _ w).mono fun e w' ⟨he, hw⟩ => ⟨he, [], List.Perm.refl _, List.Pairwise.nil, by subst hw; exact h.rd, by subst hw; exact zR _ _⟩
 ·rcases h.2 with ⟨_, hn⟩ | ⟨g, cap, cur, rfl, hg, hgg, hlc, _⟩
  ·omega
  ·have hH : HoldsK encP 2 w g 0 l.toArray := by
    intro j hj
    have hj' : j < l.toArray.size * 2 := by simpa using hj
    rw [Nat.zero_add]; refine ⟨?_, frozen_of_row w g j _ _ hgg⟩
    have := World.ownsRow.cells h (g := g) rfl j _ (yfs l.toArray j hj')
    rw [Addr.add_lit, Nat.zero_add] at this; exact this
   have hgs : g < w.heap.size := yac hgg
   have eg : ∀ args w, (callFunc 118 args).run Tryz.prog w = .ok (.enter 118 args) w := enters_of Tryz.func118 (by kernel_rfl) rfl
   have hcl : CmpLays Tryz.prog 118 #[] encP 2 cfP g 0 l.toArray.size w := fun _ _ _ _ x y => closureP x y _
   have hcon := AnyQ.slices_SortFunc Tryz.sortP 2 Tryz.isAgg127 Tryz.sizeOf127 encP (fun _ => rfl) (fun x v hv => by simp [encP] at hv; rcases hv with rfl | rfl <;> rfl) cfP swoP 118 #[] g 0 cap l.toArray w eg hcl hH hgs (by simp; omega)
   refine Calls.mono hcon fun e w' => ?_
   rintro ⟨he, d', n, os, hp, hs, rfl⟩
   have hsz : d'.size = l.length := by have := hp.1; simpa using this
   have hH' := holdsK_sortWorldK encP 2 w g 0 n l.toArray d' os hgs hH (by rw [hsz]; simp)
   have hlt := lt_sortWorldK encP 2 w g 0 n d' os hgs; refine ⟨he, d'.toList, ?_, ?_, ?_, ?_⟩
   ·have h2 := hp.2.2
    have e1 : d'.extract 0 l.toArray.size = d' := by rw [show l.toArray.size = d'.size by rw [hsz]; simp]; exact Array.extract_size
    rw [e1, Array.extract_size] at h2
    simpa using h2.symm
   ·refine List.pairwise_iff_getElem.2 fun i j hi hj hij => ?_
    have hj' : j < d'.size := by simpa using hj
    have h3 := hs i j (Nat.zero_le _) hij (by simpa [<- hsz] using hj')
    rw [lt_cfP] at h3
    have ei : d'[i]! = d'.toList[i] := by simp [show i < d'.size by omega]
    have ej : d'[j]! = d'.toList[j] := by simp [hj']
    rw [ei, ej] at h3
    simp at h3 |-
    omega
   ·refine ⟨_, cap, by rw [show d'.toList.length = l.length by simpa using hsz], by rw [show d'.toList.length = l.length by simpa using hsz]; exact hlc, fun _ => ⟨g, 0, rfl, hlt, fun j u hu => ?_⟩⟩
    have hj : j < d'.size * 2 := by
     have := (List.getElem?_eq_some_iff.1 hu).1
     rw [yej] at this
     simpa using this
    rw [yfs d' j hj] at hu; rw [<- Option.some.inj hu]; exact (hH' j (by simpa using hj)).1
   ·refine ⟨rfl, rfl, rfl, size_sortWorldK_c encP 2 w g 0 n d' os, fun k hk => ?_⟩
    have hkg : k ≠ g := by omega
    show ((w.heap.modify g _) ++ os)[k]? = w.heap[k]?
    rw [Array.getElem?_append_left (by simp; omega), Array.getElem?_modify, if_neg (fun e => hkg e.symm)]
end Go.Proofs.YtichfdjjbafeiaaGreat.R4
