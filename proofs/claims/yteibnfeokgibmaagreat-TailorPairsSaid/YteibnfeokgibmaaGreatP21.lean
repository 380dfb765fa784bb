/-
  PACKED for a claim.
-/
import Derived.Test.YteibnfeokgibmaaGreatP12
import Derived.Test.YteibnfeokgibmaaGreatP20
set_option linter.unusedVariables false
set_option linter.unusedSimpArgs false
set_option maxRecDepth 100000
namespace Go.Proofs.YteibnfeokgibmaaGreat.R4
open Go.RowKit Go.Shelf Go.Sort
def cmpI (x y : Int) : Int := if x < y then -1 else if y < x then 1 else 0
theorem ynm (x : Int) (w : World) : Calls Tryz.prog 116 #[.int .i64 x] w fun e w' => e = .returned (.bool false) /\ w = w' := by
 go_enter Tryz.func116, Tryz.ntmps116
 go_wp2
 go_ret
 exact ⟨rfl, rfl⟩
theorem ykz (x y : Int) (w : World) : Calls Tryz.prog 76 #[.int .i64 x, .int .i64 y] w fun e w' => e = .returned (.int .i64 (cmpI x y)) /\ w = w' := by
 unfold cmpI
 by_cases h1 : x < y
 ·rw [if_pos h1]
  go_enter Tryz.func76, Tryz.ntmps76
  go_wp2_with (go_at_call 116; refine (ynm _ _).mono ?_; rintro e w' ⟨rfl, rfl⟩)
  go_ret
  exact ⟨rfl, rfl⟩
 ·rw [if_neg h1]
  by_cases h2 : y < x
  ·rw [if_pos h2]
   go_enter Tryz.func76, Tryz.ntmps76
   go_wp2_with (go_at_call 116; refine (ynm _ _).mono ?_; rintro e w' ⟨rfl, rfl⟩)
   go_ret
   exact ⟨rfl, rfl⟩
  ·rw [if_neg h2]
   have e : x = y := by omega
   subst e; clear h1 h2
   go_enter Tryz.func76, Tryz.ntmps76
   go_wp2_with (go_at_call 116; refine (ynm _ _).mono ?_; rintro e w' ⟨rfl, rfl⟩)
   go_ret
   exact ⟨rfl, rfl⟩
def encP (x : Int × Int) : List Value := [.int .i64 x.1, .int .i64 x.2]
def cfP (x y : Int × Int) : Int := cmpI x.1 y.1
theorem lt_cfP (x y : Int × Int) : ltOf cfP x y = decide (x.1 < y.1) := by
 unfold ltOf cfP cmpI
 by_cases h1 : x.1 < y.1
 ·simp [h1]
 ·by_cases h2 : y.1 < x.1 <;> simp [h1, h2]
theorem swoP : SWO (ltOf cfP) where
 irrefl x := by rw [lt_cfP]; simp
 trans x y z h1 h2 := by rw [lt_cfP] at *; simp at *; omega
 ntrans x y z h1 h2 := by rw [lt_cfP] at *; simp at *; omega
theorem closureP (x y : Int × Int) (W : World) : Calls Tryz.prog 120 #[.agg #[.int .i64 x.1, .int .i64 x.2], .agg #[.int .i64 y.1, .int .i64 y.2]] W fun e w' => e = .returned (.int .i64 (cfP x y)) /\ ∃ q os', w' = grow (W.drewN q) os' := by
 have hcon := fun W' => ykz x.1 y.1 W'
 unfold cfP; generalize cmpI x.1 y.1 = r at hcon |-
 go_enter Tryz.func120, Tryz.ntmps120
 go_wp2_with (go_at_call 76; refine (hcon _).mono ?_; rintro e w' ⟨rfl, rfl⟩)
 go_ret
 exact ⟨rfl, 0, _, by rw [alloc_eq_grow, alloc_eq_grow, grow_grow]; rfl⟩
theorem yih (d : Array (Int × Int)) (t : Nat) (h : t < d.size * 2) : (pcells d.toList)[t]? = some ((flatK encP 2 d)[t]!) := by
 rw [get_flatK encP 2 d t h]
 have hk : t / 2 < d.size := by omega
 have hp : d.toList[t / 2]? = some d[t / 2]! := by simp [hk]
 obtain ⟨h1, h2⟩ := ylo hp
 rcases Nat.mod_two_eq_zero_or_one t with e | e
 ·rw [e]
  have : t = t / 2 * 2 := by omega
  rw [<- this] at h1; rw [h1]; rfl
 ·rw [e]
  have : t = t / 2 * 2 + 1 := by omega
  rw [<- this] at h2; rw [h2]; rfl
def SortedP (l : List (Int × Int)) : Prop := l.Pairwise fun p q => p.1 <= q.1
theorem ysu (A : Option Addr) (c : Nat) (f : Value) (w : World) : Calls Tryz.prog 119 #[.slice A 0 c, f] w fun e w' => e = .returned (.tuple #[]) /\ w' = w :=
 AnyF.slices_SortFunc_none { Tryz.sortP with } A c f w
theorem yjw {B : Nat} {w : World} {v : Value} {l : List (Int × Int)} (h : OwnP B w v l) (hl : l.length <= 1000000) (hB : B <= w.heap.size) :
  Calls Tryz.prog 119 #[v, .func (.func 120) #[] #[]] w fun e w' => e = .returned (.tuple #[]) /\ ∃ l', l.Perm l' /\ SortedP l' /\ RdP w'.heap.size w' v l' /\ Below B w w' := by
 rcases Nat.eq_zero_or_pos l.length with h0 | h0
 ·have hl0 : l = [] := List.eq_nil_of_length_eq_zero h0
  subst hl0; obtain ⟨A, c, rfl, -, -⟩ := yai h; exact (ysu A c _ w).mono fun e w' ⟨he, hw⟩ => ⟨he, [], List.Perm.refl _, List.Pairwise.nil, by subst hw; exact h.rd, by subst hw; exact zR _ _⟩
 ·rcases h.2 with ⟨_, hn⟩ | ⟨g, cap, cur, rfl, hg, hgg, hlc, _⟩
  ·omega
  ·have hH : HoldsK encP 2 w g 0 l.toArray := by
    intro j hj
    have hj' : j < l.toArray.size * 2 := by simpa using hj
    rw [Nat.zero_add]; refine ⟨?_, frozen_of_row w g j _ _ hgg⟩
    have := World.ownsRow.cells h (g := g) rfl j _ (yih l.toArray j hj')
    rw [Addr.add_lit, Nat.zero_add] at this; exact this
   have hgs : g < w.heap.size := yad hgg
   have eg : ∀ args w, (callFunc 120 args).run Tryz.prog w = .ok (.enter 120 args) w := enters_of Tryz.func120 (by kernel_rfl) rfl
   have hcl : CmpLays Tryz.prog 120 #[] encP 2 cfP g 0 l.toArray.size w := fun _ _ _ _ x y => closureP x y _
   have hcon := AnyQ.slices_SortFunc Tryz.sortP 2 Tryz.isAgg125 Tryz.sizeOf125 encP (fun _ => rfl) (fun x v hv => by simp [encP] at hv; rcases hv with rfl | rfl <;> rfl) cfP swoP 120 #[] g 0 cap l.toArray w eg hcl hH hgs (by simp; omega)
   refine Calls.mono hcon fun e w' => ?_
   rintro ⟨he, d', n, os, hp, hs, rfl⟩
   have hsz : d'.size = l.length := by have := hp.1; simpa using this
   have hH' := holdsK_sortWorldK encP 2 w g 0 n l.toArray d' os hgs hH (by rw [hsz]; simp)
   have hlt := lt_sortWorldK encP 2 w g 0 n d' os hgs; refine ⟨he, d'.toList, ?_, ?_, ?_, ?_⟩
   ·have h2 := hp.2.2
    have e1 : d'.extract 0 l.toArray.size = d' := by rw [show l.toArray.size = d'.size by rw [hsz]; simp]; exact Array.extract_size
    rw [e1, Array.extract_size] at h2
    simpa using h2.symm
   ·refine List.pairwise_iff_getElem.2 fun i j hi hj hij => ?_
    have hj' : j < d'.size := by simpa using hj
    have h3 := hs i j (Nat.zero_le _) hij (by simpa [<- hsz] using hj')
    rw [lt_cfP] at h3
    have ei : d'[i]! = d'.toList[i] := by simp [show i < d'.size by omega]
    have ej : d'[j]! = d'.toList[j] := by simp [hj']
    rw [ei, ej] at h3
    simp at h3 |-
    omega
   ·refine ⟨_, cap, by rw [show d'.toList.length = l.length by simpa using hsz], by rw [show d'.toList.length = l.length by simpa using hsz]; exact hlc, fun _ => ⟨g, 0, rfl, hlt, fun j u hu => ?_⟩⟩
    have hj : j < d'.size * 2 := by
     have := (List.getElem?_eq_some_iff.1 hu).1
     rw [ygc] at this
     simpa using this
    rw [yih d' j hj] at hu; rw [<- Option.some.inj hu]; exact (hH' j (by simpa using hj)).1
   ·refine ⟨rfl, rfl, rfl, size_sortWorldK_c encP 2 w g 0 n d' os, fun k hk => ?_⟩
    have hkg : k ≠ g := by omega
    show ((w.heap.modify g _) ++ os)[k]? = w.heap[k]?
    rw [Array.getElem?_append_left (by simp; omega), Array.getElem?_modify, if_neg (fun e => hkg e.symm)]
end Go.Proofs.YteibnfeokgibmaaGreat.R4
section
namespace Go.Proofs.YteibnfeokgibmaaGreat.R4
def Strict (l : List (Int × Int)) : Prop := l.Pairwise fun p q => p.1 < q.1
theorem Strict.uniq {l : List (Int × Int)} (h : Strict l) : Uniq l := h.imp fun h => by omega
structure FromSt (l pre rest : List (Int × Int)) (k : Nat) : Prop where
 app : l = pre ++ rest
 lo : ∀ p ∈ pre, p.1 < 64 * (k : Int)
 hi : ∀ p ∈ rest, 64 * (k : Int) <= p.1
 le : k <= 17412
structure InSt (l pre rest : List (Int × Int)) (a : Nat) : Prop where
 app : l = pre ++ rest
 lo : ∀ p ∈ pre, p.1 < 64 * ((a : Int) + 1)
 hi : ∀ p ∈ rest, 64 * (a : Int) <= p.1
 lt : a < 17412
theorem FromSt.start (l : List (Int × Int)) (hm : ∀ p ∈ l, MayP p) : FromSt l [] l 0 := ⟨rfl, (fun p hp => absurd hp (by simp)), (fun p hp => by have := (hm p hp).1; omega), by omega⟩
theorem ytn {l pre t : List (Int × Int)} {p : Int × Int} (hs : Strict l) (h : l = pre ++ p :: t) : ∀ q ∈ p :: t, p.1 <= q.1 := by
 intro q hq; rw [h] at hs; have h2 := (List.pairwise_append.1 hs).2.1
 rcases List.mem_cons.1 hq with rfl | hq
 ·omega
 ·have := (List.pairwise_cons.1 h2).1 q hq; omega
theorem pre_lt {l pre t : List (Int × Int)} {p : Int × Int} (hs : Strict l) (h : l = pre ++ p :: t) : ∀ q ∈ pre, q.1 < p.1 := by
 intro q hq; rw [h] at hs; exact (List.pairwise_append.1 hs).2.2 q hq p (by simp)
theorem FromSt.head {l pre t : List (Int × Int)} {p : Int × Int} {k : Nat} (h : FromSt l pre (p :: t) k) (hs : Strict l) (hm : ∀ p ∈ l, MayP p) :
  ∃ a j : Nat, p.1 = ((64 * a + j : Nat) : Int) /\ j < 64 /\ k <= a /\ a < 17412 /\ InSt l pre (p :: t) a := by
 have hp := hm p (by rw [h.app]; simp)
 have h1 := h.hi p (by simp)
 obtain ⟨m0, m1, _⟩ := hp; refine ⟨p.1.toNat / 64, p.1.toNat % 64, by omega, by omega, by omega, by omega, h.app, ?_, ?_, by omega⟩
 ·intro q hq; have := h.lo q hq; omega
 ·intro q hq; have := ytn hs h.app q hq; omega
theorem InSt.take {l pre t : List (Int × Int)} {p : Int × Int} {a : Nat} (h : InSt l pre (p :: t) a) (ha : p.1 < 64 * ((a : Int) + 1)) : InSt l (pre ++ [p]) t a :=
 ⟨by rw [h.app]; simp, (fun q hq => by
  rcases List.mem_append.1 hq with hq | hq
  ·exact h.lo q hq
  ·simp at hq; subst hq; exact ha), (fun q hq => h.hi q (by simp [hq])), h.lt⟩
theorem InSt.leave {l pre rest : List (Int × Int)} {a : Nat} (h : InSt l pre rest a) (hs : Strict l) (he : ∀ p t, rest = p :: t -> 64 * ((a : Int) + 1) <= p.1) : FromSt l pre rest (a + 1) := by
 refine ⟨h.app, fun p hp => by have := h.lo p hp; omega, ?_, by have := h.lt; omega⟩
 intro q hq
 cases rest with
 | nil => cases hq
 | cons p t =>
  have h1 := he p t rfl; have h2 := ytn hs h.app q hq
  omega
theorem ylz {l : List (Int × Int)} {k : Nat} (h : ∀ p ∈ l, p.1 < 64 * (k : Int)) : ∀ c : Nat, 64 * k <= c -> findP l (c : Int) = 0 := fun c hc => yfk fun p hp e => by
 have := h p hp; omega
theorem ylh {l pre rest : List (Int × Int)} {k a : Nat} (h : FromSt l pre rest k) (hk : k <= a) : rowsF k (findP pre) ++ List.replicate (a - k) zrow = rowsF a (findP pre) := by
 rw [yqh _ _ _ (ylz h.lo), show k + (a - k) = a by omega]
theorem ytl {l pre rest : List (Int × Int)} {k a : Nat} (h : FromSt l pre rest k) (hk : k <= a) : rowF (findP pre) a = zrow :=
 yli fun j hj => ylz h.lo _ (by omega)
theorem row_set {l pre t : List (Int × Int)} {p : Int × Int} {a j : Nat} (h : InSt l pre (p :: t) a) (hs : Strict l) (hp : p.1 = ((64 * a + j : Nat) : Int)) (hj : j < 64) :
  (rowF (findP pre) a).set j p.2 = rowF (findP (pre ++ [p])) a := by
 have hne : ∀ q ∈ pre, q.1 ≠ p.1 := fun q hq => by have := pre_lt hs h.app q hq; omega
 apply List.ext_getElem?
 intro i; rw [List.getElem?_set, ydi]
 by_cases hi : i < 64
 ·rw [yka _ _ _ hi, yka _ _ _ hi, yjk _ _ hne]
  by_cases e : j = i
  ·subst e; rw [if_pos rfl, if_pos hj, if_pos hp]
  ·rw [if_neg e, if_neg (by rw [hp]; omega)]
 ·rw [if_neg (by omega), List.getElem?_eq_none (by rw [ydi]; omega), List.getElem?_eq_none (by rw [ydi]; omega)]
theorem ytj {l pre t : List (Int × Int)} {p : Int × Int} {a : Nat} (h : InSt l pre (p :: t) a) (hs : Strict l) : rowsF a (findP (pre ++ [p])) = rowsF a (findP pre) := by
 have hne : ∀ q ∈ pre, q.1 ≠ p.1 := fun q hq => by have := pre_lt hs h.app q hq; omega
 have hp := h.hi p (by simp)
 unfold rowsF; refine List.map_congr_left fun i hi => ?_
 have hi' : i < a := by simpa using hi
 refine yiz fun j hj => ?_
 rw [yjk _ _ hne, if_neg (by omega)]
theorem FromSt.all {l pre : List (Int × Int)} {k : Nat} (h : FromSt l pre [] k) : pre = l := by rw [h.app]; simp
end Go.Proofs.YteibnfeokgibmaaGreat.R4
namespace Go.Proofs.YteibnfeokgibmaaGreat.R4
open Go.RowKit
theorem yvm {B : Nat} {w : World} {bp : Nat} {r : List (List Int)} {k : Nat} (h : Bld B w bp r) (hk : r.length = k) :
  Calls Tryz.prog 167 #[.pointer (some ⟨bp, 0, none⟩)] w fun e w' => e = .returned (.int .i64 (k : Nat)) /\ w = w' := by
 rw [<- hk]; exact yzv h
theorem lay_is {B : Nat} {w : World} {bp : Nat} {r r' : List (List Int)} {x : List Int} {cs : List Value} {z : Int} (n : Nat) (h : Bld B w bp r) (hx : GoodR x) (hcs : cellsB x = cs) (hz : (n : Int) = z) (hl : r.length + n <= 20000) (hr : r ++ List.replicate n x = r') :
  Calls Tryz.prog 166 #[.pointer (some ⟨bp, 0, none⟩), .agg cs.toArray, .int .i64 z] w fun e w' => e = .returned (.tuple #[]) /\ Bld B w' bp r' /\ Below B w w' := by
 rw [<- hcs, <- hz, <- hr]; exact lay_any h hx n hl
theorem bld_of {B : Nat} {w : World} {bp bt bm : Nat} {vi vb : Value} {r : List (List Int)} (h : BldAt B w bp bt bm vi vb (ixs r) (firsts r)) : Bld B w bp r := ⟨bt, bm, vi, vb, h⟩
def BldOff (bp bt bm : Nat) (vi vb : Value) (xb : Nat) : Prop := bp ≠ xb /\ bt ≠ xb /\ bm ≠ xb /\ vi.ownBlock ≠ some xb /\ vb.ownBlock ≠ some xb
theorem BldAt.off {B : Nat} {w : World} {bp bt bm : Nat} {vi vb : Value} {ix : List Nat} {bs : List (List Int)} (h : BldAt B w bp bt bm vi vb ix bs) {xb : Nat} (hx : w.heap.size <= xb) : BldOff bp bt bm vi vb xb :=
 ⟨by have := yad h.hp; omega, by have := yad h.ht; omega, by have := h.hm.lt; omega, fun e => by have := (own_lt h.hi _ e).2; omega, fun e => by have := (own_lt h.hk _ e).2; omega⟩
theorem BldAt.kept_off {B : Nat} {w w' : World} {bp bt bm : Nat} {vi vb : Value} {ix : List Nat} {bs : List (List Int)} (h : BldAt B w bp bt bm vi vb ix bs) {xb : Nat} (ho : BldOff bp bt bm vi vb xb) (hg : w.grownBy w' (some xb)) : BldAt B w' bp bt bm vi vb ix bs :=
 ⟨h.hbp, h.hbt, h.hbm, (hg.block _ (yad h.hp) (by simp; exact ho.1)).trans h.hp, (hg.block _ (yad h.ht) (by simp; exact ho.2.1)).trans h.ht,
  World.ownsRow.kept h.hi hg (.inr ho.2.2.2.1), World.ownsRow.kept h.hk hg (.inr ho.2.2.2.2), h.hm.kept hg (by simp; exact ho.2.2.1)⟩
theorem zad {w : World} {xb j : Nat} {cs : List Value} {t : TypeId} (h : w.heap[xb]? = some (.cells cs.toArray t (0, 0))) (u : Value) : (w.setCell ⟨xb, j, none⟩ u).heap[xb]? = some (.cells (cs.set j u).toArray t (0, 0)) := by
 rw [heap_setCell_same w xb j _ _ u h, zS]
theorem yrt (x : List Int) (j : Nat) (v : Int) : (cellsB x).set j (.int .i32 v) = cellsB (x.set j v) := by simp [cellsB, List.map_set]
theorem RdP.tail {B : Nat} {w : World} {g o n c : Nat} {p : Int × Int} {t : List (Int × Int)} (h : RdP B w (.slice (some ⟨g, o, none⟩) n c) (p :: t)) {A2 : Option Addr} (hA : (if c = 1 then some (⟨g, o, none⟩ : Addr) else some ⟨g, o + 2, none⟩) = A2) (hc : t.length < c) :
  RdP B w (.slice A2 t.length (c - 1)) t := by
 refine ⟨A2, c - 1, rfl, by omega, fun ht => ?_⟩
 rw [if_neg (by omega)] at hA
 obtain ⟨A', c', e, _, h⟩ := h
 cases e
 obtain ⟨g', o', e, hlt, hcell⟩ := h (by simp)
 cases e
 refine ⟨g, o + 2, hA.symm, hlt, fun j u hu => ?_⟩
 rw [Nat.add_assoc]; refine hcell (2 + j) u ?_; rw [show pcells (p :: t) = [Value.int .i64 p.1, Value.int .i64 p.2] ++ pcells t from rfl, List.getElem?_append_right (by simp), show 2 + j - [Value.int .i64 p.1, Value.int .i64 p.2].length = j by simp]
 exact hu
theorem ysb : bval zrow = .agg #[.int .i32 0, .int .i32 0, .int .i32 0, .int .i32 0, .int .i32 0, .int .i32 0, .int .i32 0, .int .i32 0, .int .i32 0, .int .i32 0, .int .i32 0, .int .i32 0, .int .i32 0, .int .i32 0, .int .i32 0, .int .i32 0, .int .i32 0, .int .i32 0, .int .i32 0, .int .i32 0, .int .i32 0, .int .i32 0, .int .i32 0, .int .i32 0, .int .i32 0, .int .i32 0, .int .i32 0, .int .i32 0, .int .i32 0, .int .i32 0, .int .i32 0, .int .i32 0, .int .i32 0, .int .i32 0, .int .i32 0, .int .i32 0, .int .i32 0, .int .i32 0, .int .i32 0, .int .i32 0, .int .i32 0, .int .i32 0, .int .i32 0, .int .i32 0, .int .i32 0, .int .i32 0, .int .i32 0, .int .i32 0, .int .i32 0, .int .i32 0, .int .i32 0, .int .i32 0, .int .i32 0, .int .i32 0, .int .i32 0, .int .i32 0, .int .i32 0, .int .i32 0, .int .i32 0, .int .i32 0, .int .i32 0, .int .i32 0, .int .i32 0, .int .i32 0] := by kernel_rfl
theorem ypc {B : Nat} {w : World} {bp : Nat} {r r' : List (List Int)} {z : Int} (n : Nat) (h : Bld B w bp r) (hz : (n : Int) = z) (hl : r.length + n <= 20000) (hr : r ++ List.replicate n zrow = r') :
  Calls Tryz.prog 166 #[.pointer (some ⟨bp, 0, none⟩), .agg #[.int .i32 0, .int .i32 0, .int .i32 0, .int .i32 0, .int .i32 0, .int .i32 0, .int .i32 0, .int .i32 0, .int .i32 0, .int .i32 0, .int .i32 0, .int .i32 0, .int .i32 0, .int .i32 0, .int .i32 0, .int .i32 0, .int .i32 0, .int .i32 0, .int .i32 0, .int .i32 0, .int .i32 0, .int .i32 0, .int .i32 0, .int .i32 0, .int .i32 0, .int .i32 0, .int .i32 0, .int .i32 0, .int .i32 0, .int .i32 0, .int .i32 0, .int .i32 0, .int .i32 0, .int .i32 0, .int .i32 0, .int .i32 0, .int .i32 0, .int .i32 0, .int .i32 0, .int .i32 0, .int .i32 0, .int .i32 0, .int .i32 0, .int .i32 0, .int .i32 0, .int .i32 0, .int .i32 0, .int .i32 0, .int .i32 0, .int .i32 0, .int .i32 0, .int .i32 0, .int .i32 0, .int .i32 0, .int .i32 0, .int .i32 0, .int .i32 0, .int .i32 0, .int .i32 0, .int .i32 0, .int .i32 0, .int .i32 0, .int .i32 0, .int .i32 0], .int .i64 z] w fun e w' => e = .returned (.tuple #[]) /\ Bld B w' bp r' /\ Below B w w' := by
 rw [<- ysb]; exact lay_is n h ysa rfl hz hl hr
set_option maxHeartbeats 1000000 in
theorem zai {w : World} {v : Value} {l : List (Int × Int)} (h : RdP w.heap.size w v l) (hl : l.length <= 1000000) (hs : Strict l) (hm : ∀ p ∈ l, MayP p) :
  Calls Tryz.prog 121 #[v] w fun e w' => ∃ p, e = .returned (.pointer (some ⟨p, 0, none⟩)) /\ TrieAt w' p (rowsF 17412 (findP l)) /\ Below w.heap.size w w' := by
 obtain ⟨A, c, rfl⟩ := h.form; have HR := zH h; have HS := zH hs; have HM := zH hm; clear h hs hm
 go_enter Tryz.func121, Tryz.ntmps121
 go_wp2_with (go_at_call 165; refine (new_any _).mono ?_; rintro e w1 ⟨bp, rfl, hb1, hw1⟩)
 have HB1 := zH hb1; have HW1 := zH hw1; clear hb1 hw1
 go_loopw [0] (fun v wr => ∃ (pre rest : List (Int × Int)) (k : Nat) (A : Option Addr) (c : Nat), v = .slice A rest.length c /\ Hid (FromSt l pre rest k) /\ Hid (RdP w.heap.size wr (.slice A rest.length c) rest) /\ Hid (Bld w.heap.size wr bp (rowsF k (findP pre))) /\ Hid (Below w.heap.size w wr)) (fun v _ => match v with | .slice _ n _ => n | _ => 0)
 case atStart => exact ⟨[], l, 0, A, c, rfl, FromSt.start l HM.out, HR.out.below HW1.out, HB1.out, HW1.out⟩
 case round =>
  obtain ⟨pre, rest, k, A, c, rfl, HF, HP, HB, HW⟩ := hrel
  cases rest with
  | nil =>
   have hpl := HF.out.all; have hle := HF.out.le; have hfill := ylh HF.out hle
   have hgood : ∀ x ∈ rowsF 17412 (findP pre), GoodR x := yqi (fun c => yeu (fun q hq => HM.out q (by rw [<- hpl]; exact hq)) c) 17412
   have HFI := zH hfill; have HGO := zH hgood; have HPL := zH hpl
   have hle' : (k : Int) <= 17412 := by omega
   clear hpl hfill hgood
   go_wp2_with (first
    | (go_at_call 167; refine (yvm HB.out (ycj _ _)).mono ?_; rintro e w' ⟨rfl, rfl⟩)
    | (go_at_call 166; (with_reducible refine (ypc (17412 - k) HB.out (by omega) (by rw [ycj]; omega) HFI.out).mono ?_); rintro e w5 ⟨rfl, hb5, hw5⟩; obtain ⟨bt, hcell, htr⟩ := hb5.trie HGO.out (ycj _ _)))
   go_ret
   refine ⟨bt, rfl, ?_, HW.out.trans hw5⟩; rw [HPL.out] at htr; exact htr
  | cons p t =>
   obtain ⟨a, j, hpa, hj, hka, ha, hin⟩ := HF.out.head HS.out HM.out; obtain ⟨g, o, rfl, c0, c1⟩ := HP.out.at (k := 0) rfl; simp only [Nat.zero_mul, Nat.add_zero] at c0 c1; rw [hpa] at c0
   have q1 : (((64 * a + j : Nat) : Int)) / 64 = (a : Int) := by omega
   obtain ⟨x, hx⟩ : ∃ x : Int, ((64 * a + j : Nat) : Int) = x := ⟨_, rfl⟩; rw [hx] at c0 q1
   have q2 : (0 : Int) <= x := by omega
   have q3 : x <= 1114367 := by omega
   have h0 : (0 : Int) < ((p :: t).length : Int) := by simp
   have HIN := zH hin; have HX := zH hx; have HPA := zH hpa; clear hin hx hpa c1
   go_wp2_with (first
    | (go_at_call 167; refine (yvm HB.out (ycj _ _)).mono ?_; rintro e w' ⟨rfl, rfl⟩)
    | (go_at_call 166; (with_reducible refine (ypc (a - k) HB.out (by omega) (by rw [ycj]; omega) (ylh HF.out hka)).mono ?_); rintro e w2 ⟨rfl, hb2, hw2⟩))
   obtain ⟨xb, hxb⟩ : ∃ xb, w2.heap.size = xb := ⟨_, rfl⟩
   have hB2 : w.heap.size <= w2.heap.size := Nat.le_trans HW.out.size hw2.size
   have hst := ytl HF.out hka; obtain ⟨R, hR⟩ : ∃ R, rowsF a (findP pre) = R := ⟨_, rfl⟩; rw [hR] at hb2
   have hwt : Below w.heap.size w w2 := HW.out.trans hw2
   have HP2 := zH ((HP.out.below hw2).below ((zR _ _).alloc hB2 (.cells #[.int .i32 0, .int .i32 0, .int .i32 0, .int .i32 0, .int .i32 0, .int .i32 0, .int .i32 0, .int .i32 0, .int .i32 0, .int .i32 0, .int .i32 0, .int .i32 0, .int .i32 0, .int .i32 0, .int .i32 0, .int .i32 0, .int .i32 0, .int .i32 0, .int .i32 0, .int .i32 0, .int .i32 0, .int .i32 0, .int .i32 0, .int .i32 0, .int .i32 0, .int .i32 0, .int .i32 0, .int .i32 0, .int .i32 0, .int .i32 0, .int .i32 0, .int .i32 0, .int .i32 0, .int .i32 0, .int .i32 0, .int .i32 0, .int .i32 0, .int .i32 0, .int .i32 0, .int .i32 0, .int .i32 0, .int .i32 0, .int .i32 0, .int .i32 0, .int .i32 0, .int .i32 0, .int .i32 0, .int .i32 0, .int .i32 0, .int .i32 0, .int .i32 0, .int .i32 0, .int .i32 0, .int .i32 0, .int .i32 0, .int .i32 0, .int .i32 0, .int .i32 0, .int .i32 0, .int .i32 0, .int .i32 0, .int .i32 0, .int .i32 0, .int .i32 0] 225))); obtain ⟨bt, bm, vi, vb, hba⟩ := hb2; have HOFF := zH (hba.off (Nat.le_of_eq hxb)); have HB2 := zH (hba.kept (World.grownBy_alloc w2 (.cells #[.int .i32 0, .int .i32 0, .int .i32 0, .int .i32 0, .int .i32 0, .int .i32 0, .int .i32 0, .int .i32 0, .int .i32 0, .int .i32 0, .int .i32 0, .int .i32 0, .int .i32 0, .int .i32 0, .int .i32 0, .int .i32 0, .int .i32 0, .int .i32 0, .int .i32 0, .int .i32 0, .int .i32 0, .int .i32 0, .int .i32 0, .int .i32 0, .int .i32 0, .int .i32 0, .int .i32 0, .int .i32 0, .int .i32 0, .int .i32 0, .int .i32 0, .int .i32 0, .int .i32 0, .int .i32 0, .int .i32 0, .int .i32 0, .int .i32 0, .int .i32 0, .int .i32 0, .int .i32 0, .int .i32 0, .int .i32 0, .int .i32 0, .int .i32 0, .int .i32 0, .int .i32 0, .int .i32 0, .int .i32 0, .int .i32 0, .int .i32 0, .int .i32 0, .int .i32 0, .int .i32 0, .int .i32 0, .int .i32 0, .int .i32 0, .int .i32 0, .int .i32 0, .int .i32 0, .int .i32 0, .int .i32 0, .int .i32 0, .int .i32 0, .int .i32 0] 225) none)); have HW2 := zH (hwt.alloc hB2 (.cells #[.int .i32 0, .int .i32 0, .int .i32 0, .int .i32 0, .int .i32 0, .int .i32 0, .int .i32 0, .int .i32 0, .int .i32 0, .int .i32 0, .int .i32 0, .int .i32 0, .int .i32 0, .int .i32 0, .int .i32 0, .int .i32 0, .int .i32 0, .int .i32 0, .int .i32 0, .int .i32 0, .int .i32 0, .int .i32 0, .int .i32 0, .int .i32 0, .int .i32 0, .int .i32 0, .int .i32 0, .int .i32 0, .int .i32 0, .int .i32 0, .int .i32 0, .int .i32 0, .int .i32 0, .int .i32 0, .int .i32 0, .int .i32 0, .int .i32 0, .int .i32 0, .int .i32 0, .int .i32 0, .int .i32 0, .int .i32 0, .int .i32 0, .int .i32 0, .int .i32 0, .int .i32 0, .int .i32 0, .int .i32 0, .int .i32 0, .int .i32 0, .int .i32 0, .int .i32 0, .int .i32 0, .int .i32 0, .int .i32 0, .int .i32 0, .int .i32 0, .int .i32 0, .int .i32 0, .int .i32 0, .int .i32 0, .int .i32 0, .int .i32 0, .int .i32 0] 225))
   have HX2 : Hid ((w2.alloc (.cells #[.int .i32 0, .int .i32 0, .int .i32 0, .int .i32 0, .int .i32 0, .int .i32 0, .int .i32 0, .int .i32 0, .int .i32 0, .int .i32 0, .int .i32 0, .int .i32 0, .int .i32 0, .int .i32 0, .int .i32 0, .int .i32 0, .int .i32 0, .int .i32 0, .int .i32 0, .int .i32 0, .int .i32 0, .int .i32 0, .int .i32 0, .int .i32 0, .int .i32 0, .int .i32 0, .int .i32 0, .int .i32 0, .int .i32 0, .int .i32 0, .int .i32 0, .int .i32 0, .int .i32 0, .int .i32 0, .int .i32 0, .int .i32 0, .int .i32 0, .int .i32 0, .int .i32 0, .int .i32 0, .int .i32 0, .int .i32 0, .int .i32 0, .int .i32 0, .int .i32 0, .int .i32 0, .int .i32 0, .int .i32 0, .int .i32 0, .int .i32 0, .int .i32 0, .int .i32 0, .int .i32 0, .int .i32 0, .int .i32 0, .int .i32 0, .int .i32 0, .int .i32 0, .int .i32 0, .int .i32 0, .int .i32 0, .int .i32 0, .int .i32 0, .int .i32 0] 225)).heap[xb]? = some (.cells (cellsB (rowF (findP pre) a)).toArray 225 (0, 0))) := by
    rw [hst, <- hxb]; have e := ysb; unfold bval at e
    injection e with e
    rw [e]; exact heap_alloc_new w2 _
   generalize w2.alloc (.cells #[.int .i32 0, .int .i32 0, .int .i32 0, .int .i32 0, .int .i32 0, .int .i32 0, .int .i32 0, .int .i32 0, .int .i32 0, .int .i32 0, .int .i32 0, .int .i32 0, .int .i32 0, .int .i32 0, .int .i32 0, .int .i32 0, .int .i32 0, .int .i32 0, .int .i32 0, .int .i32 0, .int .i32 0, .int .i32 0, .int .i32 0, .int .i32 0, .int .i32 0, .int .i32 0, .int .i32 0, .int .i32 0, .int .i32 0, .int .i32 0, .int .i32 0, .int .i32 0, .int .i32 0, .int .i32 0, .int .i32 0, .int .i32 0, .int .i32 0, .int .i32 0, .int .i32 0, .int .i32 0, .int .i32 0, .int .i32 0, .int .i32 0, .int .i32 0, .int .i32 0, .int .i32 0, .int .i32 0, .int .i32 0, .int .i32 0, .int .i32 0, .int .i32 0, .int .i32 0, .int .i32 0, .int .i32 0, .int .i32 0, .int .i32 0, .int .i32 0, .int .i32 0, .int .i32 0, .int .i32 0, .int .i32 0, .int .i32 0, .int .i32 0, .int .i32 0] 225) = w3 at HP2 HB2 HW2 HX2 |-
   have HXB : Hid (w.heap.size <= xb) := by show _ <= _; omega
   have HRR := zH hR; rw [hxb]; clear hxb hB2 hst hR hba hwt hw2 c0 q1 q2 q3 HB HW HP h0
   go_loopw [0] (fun v wr => ∃ (pre' rest' : List (Int × Int)) (A : Option Addr) (c : Nat), v = .slice A rest'.length c /\ Hid (InSt l pre' rest' a) /\ Hid (RdP w.heap.size wr (.slice A rest'.length c) rest') /\ Hid (wr.heap[xb]? = some (.cells (cellsB (rowF (findP pre') a)).toArray 225 (0, 0))) /\ Hid (rowsF a (findP pre') = R) /\ Hid (BldAt w.heap.size wr bp bt bm vi vb (ixs R) (firsts R)) /\ Hid (Below w.heap.size w wr) /\ Hid (rest' = p :: t \/ rest'.length <= t.length)) (fun v _ => match v with | .slice _ n _ => n | _ => 0)
   case atStart => exact ⟨pre, p :: t, _, c, rfl, HIN.out, HP2.out, HX2.out, HRR.out, HB2.out, HW2.out, .inl rfl⟩
   case round =>
    obtain ⟨pre', rest', A, c', rfl, HIN, HP, HX2, HRR, HB, HW, HLE⟩ := hrel
    cases rest' with
    | nil =>
     have hgood : GoodR (rowF (findP pre') a) := yhp (fun c => yeu (fun q hq => HM.out q (by rw [HIN.out.app]; simp [hq])) c) a
     have hfs : FromSt l pre' [] (a + 1) := HIN.out.leave HS.out (fun p t e => by cases e)
     obtain ⟨cs, hcs⟩ : ∃ cs, cellsB (rowF (findP pre') a) = cs := ⟨_, rfl⟩
     have hrg : wr.rangeAt xb 0 cs := fun j u hu => by
      rw [cell_of_row wr xb (0 + j) _ _ _ HX2.out, hcs, Nat.zero_add, List.getElem?_toArray]; exact hu
     have hinf : (Tryz.prog.info? 225).map (·.size) = some cs.length := by rw [<- hcs, ybh, ydi]; exact infoBlk
     have hrn : R ++ List.replicate 1 (rowF (findP pre') a) = rowsF (a + 1) (findP pre') := by rw [yfx, HRR.out]; rfl
     have HRL : Hid (R.length + 1 <= 20000) := by show _ <= _; rw [<- HRR.out, ycj]; omega
     have HGO := zH hgood; have HCS := zH hcs; have HRG := zH hrg; have HIF := zH hinf; have HRN := zH hrn; have HFS := zH hfs; clear hgood hcs hrg hinf hrn hfs
     go_wp2_with (first
      | (with_reducible refine wpList_load_mid rfl _ _ rfl xb 0 rfl cs _ HRG.out underBlk rfl HIF.out ?_)
      | (go_at_call 166; (with_reducible refine (lay_is (z := 1) 1 (bld_of HB.out) HGO.out HCS.out (by omega) HRL.out HRN.out).mono ?_); rintro e w5 ⟨rfl, hb5, hw5⟩))
     go_roundw
     case rel => exact ⟨pre', [], a + 1, A, c', rfl, HFS.out, HP.out.below hw5, hb5, HW.out.trans hw5⟩
     case measure => simp
    | cons q t' =>
     obtain ⟨g, o, rfl, c0, c1⟩ := HP.out.at (k := 0) rfl; simp only [Nat.zero_mul, Nat.add_zero] at c0 c1; have hql := HIN.out.hi q (by simp)
     by_cases hqa : q.1 < 64 * ((a : Int) + 1)
     ·obtain ⟨j, hqj, hj⟩ : ∃ j : Nat, q.1 = ((64 * a + j : Nat) : Int) /\ j < 64 := ⟨(q.1 - 64 * (a : Int)).toNat, by omega, by omega⟩
      obtain ⟨x, hx⟩ : ∃ x : Int, q.1 = x := ⟨_, rfl⟩; obtain ⟨y, hy⟩ : ∃ y : Int, q.2 = y := ⟨_, rfl⟩; have hmq := HM.out q (by rw [HIN.out.app]; simp)
      have y1 : -2147483648 <= y := by have := hmq.2.2.1; omega
      have y2 : y <= 2147483647 := by have := hmq.2.2.2; omega
      have q1 : ((x / 64) == (a : Int)) = true := by rw [beq_iff_eq]; omega
      have q2 : (0 : Int) <= x := by omega
      have q3 : x <= 1114367 := by have := hmq.2.1; omega
      have q4 : x % 64 = (j : Int) := by omega
      have q5 : (j : Int) < 64 := by omega
      rw [hx] at c0; rw [hy] at c1; have hin := HIN.out.take hqa; have hset := row_set HIN.out HS.out hqj hj; have hrt := ytj HIN.out HS.out; rw [hy] at hset
      have d1 : ∃ u, wr.cell? ⟨xb, j, none⟩ = some u := by
       rw [cell_of_row wr xb j _ _ _ HX2.out, List.getElem?_toArray]; exact ⟨_, List.getElem?_eq_getElem (by rw [ybh, ydi]; exact hj)⟩
      obtain ⟨u, d1⟩ := d1
      have d2 : wr.frozen? ⟨xb, j, none⟩ = false := frozen_of_row wr xb j _ _ HX2.out
      obtain ⟨A2, hA2⟩ : ∃ A2, (if c' = 1 then some (⟨g, o, none⟩ : Addr) else some ⟨g, o + 2, none⟩) = A2 := ⟨_, rfl⟩
      have HT : Hid (RdP w.heap.size wr (.slice A2 t'.length (c' - 1)) t') := HP.out.tail hA2 (by have := HP.out.cap; simp at this; omega)
      have HI2 := zH hin; have HSET := zH hset; have HRT := zH hrt
      have hq0 : (0 : Int) < (((q :: t').length : Nat) : Int) := by simp
      clear hin hset hrt hx hy hqj hmq hqa hql
      go_wp2
      go_region
      go_wp2
      go_roundw
      case rel =>
       refine ⟨pre' ++ [q], t', A2, c' - 1, rfl, HI2.out, HT.out.below (((zR _ _).drew).setCell HXB.out _), ?_, ?_, ?_, (HW.out.drew).setCell HXB.out _, ?_⟩
       ·show Hid _
        have := zad (w := wr.drew) (j := j) HX2.out (.int .i32 y)
        rw [yrt, HSET.out] at this; exact this
       ·show _ = _; rw [HRT.out]; exact HRR.out
       ·exact (HB.out.kept (ybb _)).kept_off HOFF.out (yae _ _ _)
       ·rcases HLE.out with e | e
        ·right; cases e; exact zN _
        ·right; simp at e; omega
      case measure => simp
     ·have hx2 : ¬ q.1 < 64 * ((a : Int) + 1) := hqa
      obtain ⟨x, hx⟩ : ∃ x : Int, q.1 = x := ⟨_, rfl⟩
      have q1 : ((x / 64) == (a : Int)) = false := by rw [beq_eq_false_iff_ne]; omega
      have q2 : (0 : Int) <= x := by omega
      have q3 : x <= 1114367 := by have := (HM.out q (by rw [HIN.out.app]; simp)).2.1; omega
      rw [hx] at c0; have HQ := zH hqa
      have HMS : Hid ((q :: t').length <= t.length) := by
       rcases HLE.out with e | e
       ·exfalso
        cases e
        have h1 := HPA.out
        omega
       ·exact e
      have HXX := zH hx
      have hq0 : (0 : Int) < (((q :: t').length : Nat) : Int) := by simp
      clear c1 hql hqa hx2 hx
      have hgood : GoodR (rowF (findP pre') a) := yhp (fun c => yeu (fun q hq => HM.out q (by rw [HIN.out.app]; simp [hq])) c) a
      have hfs : FromSt l pre' (q :: t') (a + 1) := HIN.out.leave HS.out (fun p t e => by cases e; have := HQ.out; omega)
      obtain ⟨cs, hcs⟩ : ∃ cs, cellsB (rowF (findP pre') a) = cs := ⟨_, rfl⟩
      have hrg : wr.rangeAt xb 0 cs := fun j u hu => by
       rw [cell_of_row wr xb (0 + j) _ _ _ HX2.out, hcs, Nat.zero_add, List.getElem?_toArray]; exact hu
      have hinf : (Tryz.prog.info? 225).map (·.size) = some cs.length := by rw [<- hcs, ybh, ydi]; exact infoBlk
      have hrn : R ++ List.replicate 1 (rowF (findP pre') a) = rowsF (a + 1) (findP pre') := by rw [yfx, HRR.out]; rfl
      have HRL : Hid (R.length + 1 <= 20000) := by show _ <= _; rw [<- HRR.out, ycj]; omega
      have HGO := zH hgood; have HCS := zH hcs; have HRG := zH hrg; have HIF := zH hinf; have HRN := zH hrn; have HFS := zH hfs; clear hgood hcs hrg hinf hrn hfs
      go_wp2_with (first
       | (with_reducible refine wpList_load_mid rfl _ _ rfl xb 0 rfl cs _ HRG.out underBlk rfl HIF.out ?_)
       | (go_at_call 166; (with_reducible refine (lay_is (z := 1) 1 (bld_of HB.out) HGO.out HCS.out (by omega) HRL.out HRN.out).mono ?_); rintro e w5 ⟨rfl, hb5, hw5⟩))
      go_roundw
      case rel => exact ⟨pre', (q :: t'), a + 1, _, c', rfl, HFS.out, HP.out.below hw5, hb5, HW.out.trans hw5⟩
      case measure => have := HMS.out; simp at this |-; omega
end Go.Proofs.YteibnfeokgibmaaGreat.R4
end
