/-
  PACKED for a claim.
-/
import Derived.Lib.Hide
import Derived.Test.YteibnfeokgibmaaGreatProg
import Derived.DeepKeys4
import Derived.Maps.Own
import Derived.Maps.OwnOps
import Derived.Maps.OwnSet
import Derived.Maps.Views
set_option linter.unusedVariables false
set_option linter.unusedSimpArgs false
set_option maxRecDepth 100000
namespace Go.Proofs.YteibnfeokgibmaaGreat.R4
def zrow : List Int := List.replicate 64 0
def GoodR (x : List Int) : Prop := x.length = 64 /\ ∀ v ∈ x, -2147483648 <= v /\ v <= 2147483647
theorem ysa : GoodR zrow := ⟨by simp [zrow], fun v hv => by simp [zrow] at hv; omega⟩
def addF (bs : List (List Int)) (x : List Int) : List (List Int) := if x ∈ bs then bs else bs ++ [x]
def firsts (r : List (List Int)) : List (List Int) := r.foldl addF []
def ixs (r : List (List Int)) : List Nat := r.map fun x => (firsts r).idxOf x
theorem ydo (r : List (List Int)) (x : List Int) : firsts (r ++ [x]) = addF (firsts r) x := by simp [firsts, List.foldl_append]
theorem yrz (bs : List (List Int)) (x : List Int) : addF (addF bs x) x = addF bs x := by
 have h : x ∈ addF bs x := by
  unfold addF
  by_cases h : x ∈ bs
  ·rw [if_pos h]; exact h
  ·rw [if_neg h]; simp
 rw [addF, if_pos h]
theorem yzq {bs : List (List Int)} {x y : List Int} : y ∈ addF bs x ↔ y ∈ bs \/ y = x := by
 unfold addF
 by_cases h : x ∈ bs
 ·rw [if_pos h]; exact ⟨.inl, fun h' => h'.elim id fun e => e ▸ h⟩
 ·rw [if_neg h]; simp
theorem ygp {p : List (List Int) -> Prop} (h0 : p []) (h1 : ∀ r x, p r -> p (r ++ [x])) : ∀ r, p r := by
 intro r
 have : ∀ n (r : List (List Int)), r.length = n -> p r := by
  intro n
  induction n with
  | zero => intro r hr; rw [List.eq_nil_of_length_eq_zero hr]; exact h0
  | succ n ih =>
   intro r hr
   have hne : r ≠ [] := by intro e; rw [e] at hr; simp at hr
   rw [<- List.dropLast_concat_getLast hne]; exact h1 _ _ (ih _ (by rw [List.length_dropLast]; omega))
 exact this _ r rfl
theorem ybg (r : List (List Int)) : ∀ y, y ∈ firsts r ↔ y ∈ r := by
 refine ygp (p := fun r => ∀ y, y ∈ firsts r ↔ y ∈ r) (by simp [firsts]) ?_ r
 intro r x ih y; rw [ydo, yzq, ih]
 simp
theorem yib (r : List (List Int)) (x : List Int) : (firsts (r ++ [x])).length = (firsts r).length + if x ∈ r then 0 else 1 := by
 rw [ydo]; unfold addF
 by_cases h : x ∈ r
 ·rw [if_pos ((ybg r x).2 h), if_pos h]; rfl
 ·rw [if_neg (fun h' => h ((ybg r x).1 h')), if_neg h]; simp
theorem yjj (r : List (List Int)) : (firsts r).length <= r.length := by
 refine ygp (p := fun r => (firsts r).length <= r.length) (by simp [firsts]) ?_ r
 intro r x ih; rw [yib, List.length_append]
 split <;> simp <;> omega
theorem ygj (r : List (List Int)) (x : List Int) (n : Nat) : firsts (r ++ List.replicate (n + 1) x) = addF (firsts r) x := by
 induction n with
 | zero => exact ydo r x
 | succ n ih => rw [List.replicate_succ', <- List.append_assoc, ydo, ih, yrz]
theorem ypd {bs : List (List Int)} {x y : List Int} (hy : y ∈ bs) : (addF bs x).idxOf y = bs.idxOf y := by
 unfold addF
 by_cases h : x ∈ bs
 ·rw [if_pos h]
 ·rw [if_neg h, List.idxOf_append, if_pos hy]
theorem yks {bs : List (List Int)} {x : List Int} : (addF bs x).idxOf x = if x ∈ bs then bs.idxOf x else bs.length := by
 by_cases h : x ∈ bs
 ·rw [if_pos h, ypd h]
 ·rw [if_neg h, addF, if_neg h, List.idxOf_append, if_neg h]
  simp
theorem yvn (r : List (List Int)) (x : List Int) (n : Nat) : ixs (r ++ List.replicate (n + 1) x) = ixs r ++ List.replicate (n + 1) (if x ∈ r then (firsts r).idxOf x else (firsts r).length) := by
 unfold ixs; rw [ygj, List.map_append, List.map_replicate, yks]
 congr 1
 ·refine List.map_congr_left fun y hy => ?_
  exact ypd ((ybg r y).2 hy)
 ·congr 1
  by_cases h : x ∈ r
  ·rw [if_pos h, if_pos ((ybg r x).2 h)]
  ·rw [if_neg h, if_neg fun h' => h ((ybg r x).1 h')]
theorem yie (r : List (List Int)) : (ixs r).length = r.length := by simp [ixs]
theorem ixs_at {r : List (List Int)} {i : Nat} {x : List Int} (h : r[i]? = some x) : ∃ k, (ixs r)[i]? = some k /\ (firsts r)[k]? = some x /\ k < (firsts r).length := by
 have hx : x ∈ firsts r := (ybg r x).2 (List.mem_of_getElem? h)
 refine ⟨(firsts r).idxOf x, by simp [ixs, List.getElem?_map, h], ?_, List.idxOf_lt_length_of_mem hx⟩
 rw [List.getElem?_eq_getElem (List.idxOf_lt_length_of_mem hx), List.getElem_idxOf]
def rowF (f : Int -> Int) (i : Nat) : List Int := (List.range 64).map fun j => f ((64 * i + j : Nat) : Int)
def rowsF (n : Nat) (f : Int -> Int) : List (List Int) := (List.range n).map (rowF f)
def atR (r : List (List Int)) (c : Nat) : Int := (r.getD (c / 64) []).getD (c % 64) 0
theorem ycj (n : Nat) (f : Int -> Int) : (rowsF n f).length = n := by simp [rowsF]
theorem yfx (n : Nat) (f : Int -> Int) : rowsF (n + 1) f = rowsF n f ++ [rowF f n] := by simp [rowsF, List.range_succ]
theorem ytk (n : Nat) (f : Int -> Int) (i : Nat) (h : i < n) : (rowsF n f)[i]? = some (rowF f i) := by
 simp [rowsF, List.getElem?_map, List.getElem?_range h]
theorem ydi (f : Int -> Int) (i : Nat) : (rowF f i).length = 64 := by simp [rowF]
theorem yka (f : Int -> Int) (i j : Nat) (h : j < 64) : (rowF f i)[j]? = some (f ((64 * i + j : Nat) : Int)) := by
 simp [rowF, List.getElem?_map, List.getElem?_range h]
theorem ywy (n : Nat) (f : Int -> Int) (c : Nat) (h : c < 64 * n) : atR (rowsF n f) c = f (c : Int) := by
 unfold atR; rw [List.getD_eq_getElem?_getD, List.getD_eq_getElem?_getD, ytk n f (c / 64) (by omega), Option.getD_some, yka f _ _ (by omega), Option.getD_some]
 congr 2
 omega
theorem yhp {f : Int -> Int} (hf : ∀ c, -2147483648 <= f c /\ f c <= 2147483647) (i : Nat) : GoodR (rowF f i) := by
 refine ⟨ydi f i, fun v hv => ?_⟩
 unfold rowF at hv; obtain ⟨j, _, rfl⟩ := List.mem_map.1 hv; exact hf _
theorem yqi {f : Int -> Int} (hf : ∀ c, -2147483648 <= f c /\ f c <= 2147483647) (n : Nat) : ∀ x ∈ rowsF n f, GoodR x := by
 intro x hx; obtain ⟨i, _, rfl⟩ := List.mem_map.1 hx; exact yhp hf i
theorem yiz {f g : Int -> Int} {i k : Nat} (h : ∀ j : Nat, j < 64 -> f ((64 * i + j : Nat) : Int) = g ((64 * k + j : Nat) : Int)) : rowF f i = rowF g k := by
 unfold rowF; refine List.map_congr_left fun j hj => h j ?_
 simpa using hj
theorem yli {f : Int -> Int} {i : Nat} (h : ∀ j : Nat, j < 64 -> f ((64 * i + j : Nat) : Int) = 0) : rowF f i = zrow := by
 have : rowF f i = rowF (fun _ => 0) 0 := yiz h
 rw [this]; rfl
theorem yqh (f : Int -> Int) (n m : Nat) (h : ∀ c : Nat, 64 * n <= c -> f (c : Int) = 0) : rowsF n f ++ List.replicate m zrow = rowsF (n + m) f := by
 induction m with
 | zero => simp
 | succ m ih =>
  rw [List.replicate_succ', <- List.append_assoc, ih, <- Nat.add_assoc, yfx, yli (i := n + m)]; intro j hj; exact h _ (by omega)
def findP : List (Int × Int) -> Int -> Int
 | [], _ => 0
 | p :: t, c => if p.1 = c then p.2 else findP t c
theorem yfk {l : List (Int × Int)} {c : Int} (h : ∀ p ∈ l, p.1 ≠ c) : findP l c = 0 := by
 induction l with
 | nil => rfl
 | cons p t ih => rw [findP, if_neg (h p (by simp))]; exact ih fun q hq => h q (by simp [hq])
theorem yvy (a b : List (Int × Int)) (c : Int) : findP (a ++ b) c = if (∃ p ∈ a, p.1 = c) then findP a c else findP b c := by
 induction a with
 | nil => simp
 | cons p t ih =>
  rw [List.cons_append, findP]
  by_cases h : p.1 = c
  ·rw [if_pos h, if_pos ⟨p, by simp, h⟩, findP, if_pos h]
  ·rw [if_neg h, ih, findP, if_neg h]
   by_cases h2 : ∃ q ∈ t, q.1 = c
   ·obtain ⟨q, hq, e⟩ := h2; rw [if_pos ⟨q, hq, e⟩, if_pos ⟨q, by simp [hq], e⟩]
   ·rw [if_neg h2, if_neg]; rintro ⟨q, hq, e⟩
    rcases List.mem_cons.1 hq with rfl | hq
    ·exact h e
    ·exact h2 ⟨q, hq, e⟩
theorem yjk (a : List (Int × Int)) (p : Int × Int) (h : ∀ q ∈ a, q.1 ≠ p.1) (c : Int) : findP (a ++ [p]) c = if p.1 = c then p.2 else findP a c := by
 rw [yvy]
 by_cases h1 : p.1 = c
 ·rw [if_pos h1, if_neg, findP, if_pos h1]; rintro ⟨q, hq, e⟩; exact h q hq (e.trans h1.symm)
 ·rw [if_neg h1]
  by_cases h2 : ∃ q ∈ a, q.1 = c
  ·rw [if_pos h2]
  ·rw [if_neg h2, findP, if_neg h1, yfk fun q hq e => h2 ⟨q, hq, e⟩]; rfl
def Uniq (l : List (Int × Int)) : Prop := l.Pairwise fun p q => p.1 ≠ q.1
theorem ykv {l : List (Int × Int)} (hu : Uniq l) {p : Int × Int} (hp : p ∈ l) : findP l p.1 = p.2 := by
 induction l with
 | nil => cases hp
 | cons q t ih =>
  have h := List.pairwise_cons.1 hu; rw [findP]
  rcases List.mem_cons.1 hp with rfl | hp
  ·rw [if_pos rfl]
  ·rw [if_neg (h.1 p hp)]; exact ih h.2 hp
theorem yvx {l : List (Int × Int)} {c : Int} (h : findP l c ≠ 0) : (c, findP l c) ∈ l := by
 induction l with
 | nil => exact absurd rfl h
 | cons p t ih =>
  rw [findP] at h |-
  by_cases e : p.1 = c
  ·rw [if_pos e] at h |-; rw [<- e]; simp
  ·rw [if_neg e] at h |-; exact List.mem_cons_of_mem _ (ih h)
theorem yrg {a b : List (Int × Int)} (hp : a.Perm b) (hu : Uniq a) (c : Int) : findP a c = findP b c := by
 have hub : Uniq b := (List.Perm.pairwise_iff (R := fun p q : Int × Int => p.1 ≠ q.1) (fun {x y} h => h.symm) hp).1 hu
 by_cases h : ∃ p ∈ a, p.1 = c
 ·obtain ⟨p, hpa, rfl⟩ := h; rw [ykv hu hpa, ykv hub (hp.mem_iff.1 hpa)]
 ·rw [yfk fun p hpa e => h ⟨p, hpa, e⟩, yfk fun p hpb e => h ⟨p, hp.mem_iff.2 hpb, e⟩]
def MayP (p : Int × Int) : Prop := 0 <= p.1 /\ p.1 <= 1114367 /\ -2147483648 <= p.2 /\ p.2 <= 2147483647
instance (p : Int × Int) : Decidable (MayP p) := by unfold MayP; exact inferInstance
theorem yeu {l : List (Int × Int)} (h : ∀ p ∈ l, MayP p) (c : Int) : -2147483648 <= findP l c /\ findP l c <= 2147483647 := by
 by_cases e : findP l c = 0
 ·rw [e]; omega
 ·exact (h _ (yvx e)).2.2
end Go.Proofs.YteibnfeokgibmaaGreat.R4
namespace Go.Proofs.YteibnfeokgibmaaGreat.R4
open Go.Maps
theorem laidOut : laidOutB Tryz.prog = true := by kernel_rfl
theorem rowBlk : (225 : TypeId) < Tryz.prog.types.size := of_decide_eq_true (by kernel_rfl)
theorem wideBlk : (match Tryz.prog.underlying 225 with | some (.array _ _) | some (.struct _) => true | _ => false) = true := by kernel_rfl
theorem lawBlk : Keyed Tryz.prog 225 := Keyed.of_law (deep_law_laid laidOut (m := 2) (by omega) rowBlk (by kernel_rfl) wideBlk)
def cellsB (x : List Int) : List Value := x.map (Value.int .i32)
def bval (x : List Int) : Value := .agg (cellsB x).toArray
theorem ybh (x : List Int) : (cellsB x).length = x.length := by simp [cellsB]
theorem yrv {x y : List Int} (h : cellsB x = cellsB y) : x = y := by
 unfold cellsB at h; exact List.map_inj_right (fun a b h => by cases h; rfl) |>.1 h
theorem zaw {x y : List Int} (h : bval x = bval y) : x = y := by
 unfold bval at h
 injection h with h
 exact yrv (by simpa using h)
theorem underBlk : Tryz.prog.underlying 225 = some (.array 64 21) := Tryz.underlying225
theorem cellsOfBlk : Tryz.prog.cellsOf 225 = 64 := by kernel_rfl
theorem cellsOfI32 : Tryz.prog.cellsOf 21 = 1 := by kernel_rfl
theorem keyBlk : Tryz.prog.keyType 225 = true := by kernel_rfl
theorem infoBlk : (Tryz.prog.info? 225).map (·.size) = some 64 := by kernel_rfl
theorem ydw {α β : Type} (f : α -> Option β) : ∀ l : List α, (∀ a ∈ l, ∃ b, f a = some b) -> ∃ bs, l.mapM f = some bs
 | [], _ => ⟨[], rfl⟩
 | a :: l, h => by
  obtain ⟨b, hb⟩ := h a (by simp)
  obtain ⟨bs, hbs⟩ := ydw f l fun a ha => h a (by simp [ha])
  exact ⟨b :: bs, by simp [List.mapM_cons, hb, hbs]⟩
theorem typesSucc : ∃ n, Tryz.prog.types.size + 1 = n + 2 := ⟨Tryz.prog.types.size - 1, by
 have h : (0 : Nat) < Tryz.prog.types.size := Nat.lt_of_le_of_lt (Nat.zero_le _) rowBlk
 omega⟩
theorem wf_i32 {v : Int} (h : -2147483648 <= v /\ v <= 2147483647) : (Lit.int .i32 v).wf = true := by
 unfold Lit.wf
 simp [show IntKind.i32.min = -2147483648 from rfl, show IntKind.i32.max = 2147483647 from rfl]; omega
theorem key_of {x : List Int} (h : GoodR x) : ∃ kl, keyOf Tryz.prog 225 (bval x) = some kl := by
 obtain ⟨n, hn⟩ := typesSucc
 have hf : (bval x).formed Tryz.prog 225 = true := by
  simp [bval, Value.formed, underBlk, cellsOfBlk, ybh, h.1]
 have hl : ∃ L, Tryz.prog.keyLits (Tryz.prog.types.size + 1) 225 (bval x).cells.toList = some L := by
  rw [hn]
  have hcs : (bval x).cells.toList = cellsB x := by simp [bval, Value.cells]
  rw [hcs]
  have hm : ∃ bs, (List.range 64).mapM (fun i => Tryz.prog.keyLits (n + 1) 21 (((cellsB x).drop (i * 1)).take 1)) = some bs := by
   refine ydw _ _ fun i hi => ?_
   have hi' : i < 64 := by simpa using hi
   have hx : i < x.length := by rw [h.1]; exact hi'
   have he : ((cellsB x).drop (i * 1)).take 1 = [.int .i32 x[i]] := by
    rw [Nat.mul_one]; unfold cellsB; rw [<- List.map_drop, List.drop_eq_getElem_cons hx, List.map_cons]
    rfl
   rw [he]; refine ⟨[.int .i32 x[i]], ?_⟩
   simp [Program.keyLits, Tryz.underlying21, wf_i32 (h.2 _ (List.getElem_mem hx))]
  obtain ⟨bs, hbs⟩ := hm; refine ⟨bs.flatten, ?_⟩; unfold Program.keyLits; simp only [underBlk, ybh, h.1, cellsOfBlk, cellsOfI32, if_true, hbs, Option.map_some]
 obtain ⟨L, hL⟩ := hl; refine ⟨.string (keyBytes L), ?_⟩; unfold keyOf; simp only [underBlk, keyBlk, hf, Bool.and_self, if_true, hL, Option.map_some]
theorem zeroU16 (w : World) : (zeroValue 253).run Tryz.prog w = .ok (.int .u16 0) w := by kernel_rfl
def Found (w : World) (b : Nat) (bs : List (List Int)) : Prop :=
 ∃ D : DataW Unit, w.ownsMap Tryz.prog 225 (plainElem Tryz.prog 253) b bs.length D ∧
  ∀ x kl, keyOf Tryz.prog 225 (bval x) = some kl →
   (x ∈ bs -> Maps.has D kl = true /\ D.atKey kl (.lit (.int .u16 0)) = .lit (.int .u16 ((bs.idxOf x : Nat) : Int))) /\ (x ∉ bs -> Maps.has D kl = false)
theorem Found.new (w : World) : Found (w.alloc (.map #[] 0)) w.heap.size [] :=
 ⟨.map [], World.ownsMap_made w _ _ _, fun x kl _ => ⟨fun h => by simp at h, fun _ => rfl⟩⟩
theorem Found.kept {w w' : World} {b : Nat} {bs : List (List Int)} {row : Option Nat} (h : Found w b bs) (hg : w.grownBy w' row) (hne : some b ≠ row) : Found w' b bs := by
 obtain ⟨D, h1, h2⟩ := h; exact ⟨D, h1.kept hg hne, h2⟩
theorem Found.lt {w : World} {b : Nat} {bs : List (List Int)} (h : Found w b bs) : b < w.heap.size := by
 obtain ⟨D, h1, h2⟩ := h; exact h1.lt
theorem Found.isMap {w : World} {b : Nat} {bs : List (List Int)} (h : Found w b bs) : ∃ es c, w.heap[b]? = some (.map es c) := by
 obtain ⟨D, ⟨es, c, h1, _⟩, h2⟩ := h; exact ⟨es, c, h1⟩
theorem Found.drew {w : World} {b : Nat} {bs : List (List Int)} (h : Found w b bs) : Found w.drew b bs := h
theorem Found.look_old {w : World} {b : Nat} {bs : List (List Int)} (h : Found w b bs) {x : List Int} (hx : GoodR x) (hm : x ∈ bs) :
  (Instr.lookup 226 (.map (some b)) (bval x) true).run Tryz.prog w = .ok (.tuple #[.int .u16 ((bs.idxOf x : Nat) : Int), .bool true]) w := by
 obtain ⟨D, h1, h2⟩ := h; obtain ⟨kl, hkl⟩ := key_of hx; obtain ⟨ha, hb⟩ := (h2 x kl hkl).1 hm; obtain ⟨v, ps, hrun, hv⟩ := h1.look_ok lawBlk Tryz.underlying226 (zeroU16 w) (plainElem_int Tryz.underlying253 (by decide)) hkl
 obtain ⟨c, rfl, hc, hwc⟩ := plainElem_int_inv Tryz.underlying253 hv; have hc' := congrArg Prod.fst hc; simp only [hb] at hc'
 injection hc' with e
 injection e with e1 e2
 rw [hrun, ha, <- e2]
theorem Found.look_new {w : World} {b : Nat} {bs : List (List Int)} (h : Found w b bs) {x : List Int} (hx : GoodR x) (hm : x ∉ bs) :
  (Instr.lookup 226 (.map (some b)) (bval x) true).run Tryz.prog w = .ok (.tuple #[.int .u16 0, .bool false]) w := by
 obtain ⟨D, h1, h2⟩ := h; obtain ⟨kl, hkl⟩ := key_of hx; have ha := (h2 x kl hkl).2 hm; obtain ⟨v, ps, hrun, hv⟩ := h1.look_ok lawBlk Tryz.underlying226 (zeroU16 w) (plainElem_int Tryz.underlying253 (by decide)) hkl
 obtain ⟨c, rfl, hc, hwc⟩ := plainElem_int_inv Tryz.underlying253 hv; have hc' := congrArg Prod.fst hc; simp only [Maps.atKey_of_not_has ha] at hc'
 injection hc' with e
 injection e with e1 e2
 rw [hrun, ha, <- e2]
theorem wf_u16 {v : Nat} (h : v < 65536) : (Lit.int .u16 (v : Int)).wf = true := by
 unfold Lit.wf
 simp [show IntKind.u16.min = 0 from rfl, show IntKind.u16.max = 65535 from rfl]; omega
theorem Found.store {w : World} {b : Nat} {bs : List (List Int)} (h : Found w b bs) {x : List Int} (hx : GoodR x) (hm : x ∉ bs) (hn : bs.length < 65536) :
  ∃ w', (Instr.mapUpdate 226 (.map (some b)) (bval x) (.int .u16 ((bs.length : Nat) : Int))).run Tryz.prog w = .ok () w' /\ Found w' b (bs ++ [x]) /\ w.grownBy w' (some b) := by
 obtain ⟨D, h1, h2⟩ := h; obtain ⟨kl, hkl⟩ := key_of hx; obtain ⟨w', hrun, h3, h4⟩ := h1.update lawBlk Tryz.underlying226 (by simp only [maxLen]; omega) hkl (plainElem_int Tryz.underlying253 (wf_u16 hn))
 have hkk := lawBlk.key hkl; refine ⟨w', hrun, ⟨_, by rw [List.length_append]; exact h3, fun y ky hky => ?_⟩, h4⟩
 by_cases e : y = x
 ·subst e
  have : ky = kl := by rw [hkl] at hky; exact (Option.some.inj hky).symm
  subst this; refine ⟨fun _ => ⟨Maps.has_put_same h1.isMap hkk _, ?_⟩, fun h => by simp at h⟩
  rw [Maps.atKey_put_same h1.isMap hkk, List.idxOf_append, if_neg hm]
  simp
 ·have hne : ky ≠ kl := fun e' => e (zaw (lawBlk.inj hky (e' ▸ hkl)))
  rw [Maps.has_put_other hne, Maps.atKey_put_other hne]; obtain ⟨q1, q2⟩ := h2 y ky hky; refine ⟨fun hy => ?_, fun hy => q2 fun hy' => hy (by simp [hy'])⟩
  have hy' : y ∈ bs := by
   rcases List.mem_append.1 hy with h | h
   ·exact h
   ·simp at h; exact absurd h e
  rw [List.idxOf_append, if_pos hy']; exact q1 hy'
end Go.Proofs.YteibnfeokgibmaaGreat.R4
