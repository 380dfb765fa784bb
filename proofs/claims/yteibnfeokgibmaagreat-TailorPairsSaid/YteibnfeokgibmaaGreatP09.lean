/-
  PACKED for a claim.
-/
import Derived.Maps.AppendAt
import Derived.Deep.AppendLies
import Derived.Deep.DeepAppendRoom
import Derived.OwnWalk
import Derived.Laws.OwnMore
import Derived.Laws.Rows
import Derived.Deep.QuietTactic
import Derived.BigQuiet
import Derived.BigRegion
import Derived.LoopTactic
import Derived.Deep.RegionHeld3
import Derived.Carry
import Derived.Test.YteibnfeokgibmaaGreatP01
import Derived.Test.YteibnfeokgibmaaGreatP06
set_option linter.unusedVariables false
set_option linter.unusedSimpArgs false
set_option maxRecDepth 100000
namespace Go.Proofs.YteibnfeokgibmaaGreat.R4
open Go.RowKit
def uvals (ix : List Nat) : List Value := ix.map fun k : Nat => Value.int .u16 (k : Int)
def bcells (bs : List (List Int)) : List Value := bs.flatMap cellsB
def pcells (l : List (Int × Int)) : List Value := l.flatMap fun p => [Value.int .i64 p.1, Value.int .i64 p.2]
def OwnU (B : Nat) (w : World) (v : Value) (ix : List Nat) : Prop := w.ownsRow B 253 1 v ix.length (uvals ix)
def OwnK (B : Nat) (w : World) (v : Value) (bs : List (List Int)) : Prop := w.ownsRow B 225 64 v bs.length (bcells bs)
def OwnP (B : Nat) (w : World) (v : Value) (l : List (Int × Int)) : Prop := w.ownsRow B 125 2 v l.length (pcells l)
theorem ysl (a b : List Nat) : uvals (a ++ b) = uvals a ++ uvals b := by simp [uvals]
theorem yru (x : List Int) : ∀ u ∈ cellsB x, u.oneCell' = true := by
 intro u hu; obtain ⟨k, _, rfl⟩ := List.mem_map.1 hu
 rfl
theorem yqv (a b : List (Int × Int)) : pcells (a ++ b) = pcells a ++ pcells b := by simp [pcells]
theorem yrx (a b : List (List Int)) : bcells (a ++ b) = bcells a ++ bcells b := by simp [bcells]
theorem ygc (l : List (Int × Int)) : (pcells l).length = l.length * 2 := by
 induction l with
 | nil => rfl
 | cons p t ih => rw [show pcells (p :: t) = [Value.int .i64 p.1, Value.int .i64 p.2] ++ pcells t from rfl, List.length_append, ih]; simp; omega
theorem ylo {l : List (Int × Int)} {k : Nat} {p : Int × Int} (h : l[k]? = some p) : (pcells l)[k * 2]? = some (.int .i64 p.1) /\ (pcells l)[k * 2 + 1]? = some (.int .i64 p.2) := by
 induction l generalizing k with
 | nil => simp at h
 | cons q t ih =>
  rw [show pcells (q :: t) = Value.int .i64 q.1 :: Value.int .i64 q.2 :: pcells t from rfl]
  cases k with
  | zero => simp at h; subst h; exact ⟨rfl, rfl⟩
  | succ k =>
   simp only [List.getElem?_cons_succ] at h; obtain ⟨h1, h2⟩ := ih h; refine ⟨?_, ?_⟩
   ·rw [show (k + 1) * 2 = k * 2 + 1 + 1 by omega]; simpa using h1
   ·rw [show (k + 1) * 2 + 1 = k * 2 + 1 + 1 + 1 by omega]; simpa using h2
theorem yqu (l : List (Int × Int)) : ∀ u ∈ pcells l, u.oneCell' = true := by
 intro u hu; obtain ⟨p, _, hp⟩ := List.mem_flatMap.1 hu
 simp at hp
 rcases hp with rfl | rfl <;> rfl
theorem yww {bs : List (List Int)} (hg : ∀ x ∈ bs, x.length = 64) {k j : Nat} {x : List Int} (h : bs[k]? = some x) (hj : j < 64) : (bcells bs)[k * 64 + j]? = (cellsB x)[j]? := by
 induction bs generalizing k with
 | nil => simp at h
 | cons y t ih =>
  rw [show bcells (y :: t) = cellsB y ++ bcells t from rfl]
  have hy : (cellsB y).length = 64 := by rw [ybh]; exact hg y (by simp)
  cases k with
  | zero =>
   simp at h
   subst h; rw [List.getElem?_append_left (by rw [hy]; omega)]
   congr 1; omega
  | succ k =>
   simp only [List.getElem?_cons_succ] at h; rw [List.getElem?_append_right (by rw [hy]; omega), hy, show (k + 1) * 64 + j - 64 = k * 64 + j by omega]
   exact ih (fun z hz => hg z (by simp [hz])) h
theorem yca {w : World} {B : Nat} {e : TypeId} {s : Nat} {v : Value} {n : Nat} {xs : List Value} (h : w.ownsRow B e s v n xs) {g : Nat} (hg : v.ownBlock = some g) : ∃ cur, w.heap[g]? = some (.cells cur e (0, 0)) := by
 rcases h.2 with ⟨rfl, _⟩ | ⟨g', cap, cur, rfl, _, hgg, _⟩
 ·cases hg
 ·simp [Value.ownBlock] at hg
  subst hg; exact ⟨cur, hgg⟩
theorem own_lt {w : World} {B : Nat} {e : TypeId} {s : Nat} {v : Value} {n : Nat} {xs : List Value} (h : w.ownsRow B e s v n xs) : ∀ k, v.ownBlock = some k -> B <= k /\ k < w.heap.size := World.ownsRow.lt h
theorem yau {w : World} {B B' : Nat} {e : TypeId} {s : Nat} {v : Value} {n : Nat} {xs : List Value} (h : w.ownsRow B e s v n xs) (hB : B' <= B) : w.ownsRow B' e s v n xs := by
 refine ⟨h.1, ?_⟩
 rcases h.2 with hn | ⟨g, cap, cur, e1, hg, rest⟩
 ·exact .inl hn
 ·exact .inr ⟨g, cap, cur, e1, by omega, rest⟩
theorem yan {w w' : World} {B B' : Nat} {e : TypeId} {s : Nat} {v : Value} {n : Nat} {xs : List Value} (h : w.ownsRow B e s v n xs) (hb : Below B' w w') (hB : w.heap.size <= B') : w'.ownsRow B e s v n xs := by
 refine ⟨h.1, ?_⟩
 rcases h.2 with hn | ⟨g, cap, cur, rfl, hg, hgg, rest⟩
 ·exact .inl hn
 ·exact .inr ⟨g, cap, cur, rfl, hg, by rw [hb.block g (Nat.lt_of_lt_of_le (Array.getElem?_eq_some_iff.1 hgg).1 hB)]; exact hgg, rest⟩
theorem yao {w : World} {B : Nat} {e e' : TypeId} {s : Nat} {v : Value} {n : Nat} {xs : List Value} (h : w.ownsRow B e s v n xs) {k : Nat} {cs : Array Value} {fr : Nat × Nat} (hk : w.heap[k]? = some (.cells cs e' fr)) (hne : e' ≠ e) : some k ≠ v.ownBlock := by
 intro e0; obtain ⟨cur, hc⟩ := yca h e0.symm; rw [hk] at hc
 injection hc with hc
 injection hc with h1 h2 h3
 exact hne h2
theorem ybf {w : World} {B : Nat} {e : TypeId} {s : Nat} {v : Value} {n : Nat} {xs : List Value} (h : w.ownsRow B e s v n xs) {k : Nat} {es : Array MapEntry} {c : Nat} (hk : w.heap[k]? = some (.map es c)) : some k ≠ v.ownBlock := by
 intro e0; obtain ⟨cur, hc⟩ := yca h e0.symm; rw [hk] at hc
 injection hc with hc
 cases hc
theorem ydj {w : World} {B B' : Nat} {e e' : TypeId} {s s' : Nat} {v v' : Value} {n n' : Nat} {xs xs' : List Value} (h : w.ownsRow B e s v n xs) (h' : w.ownsRow B' e' s' v' n' xs') (hne : e' ≠ e) : v'.ownBlock = none \/ v'.ownBlock ≠ v.ownBlock := by
 cases hv : v'.ownBlock with
 | none => exact .inl rfl
 | some g =>
  obtain ⟨cur, hc⟩ := yca h' hv; exact .inr (yao h hc hne)
theorem yae (w : World) (a : Addr) (v : Value) : w.grownBy (w.setCell a v) (some a.block) :=
 ⟨rfl, rfl, rfl, by simp [World.setCell], fun k _ hk => Below.heap_setCell _ _ _ _ (fun e => hk (by rw [e]))⟩
theorem ybb (w : World) : w.grownBy w.drew none := ⟨rfl, rfl, rfl, zN _, fun _ _ _ => rfl⟩
structure BldAt (B : Nat) (w : World) (bp bt bm : Nat) (vi vb : Value) (ix : List Nat) (bs : List (List Int)) : Prop where
 hbp : B <= bp
 hbt : B <= bt
 hbm : B <= bm
 hp : w.heap[bp]? = some (.cells #[.pointer (some ⟨bt, 0, none⟩), .map (some bm)] 228 (0, 0))
 ht : w.heap[bt]? = some (.cells #[vi, vb] 252 (0, 0))
 hi : OwnU B w vi ix
 hk : OwnK B w vb bs
 hm : Found w bm bs
theorem yad {w : World} {k : Nat} {o : Obj} (h : w.heap[k]? = some o) : k < w.heap.size := (Array.getElem?_eq_some_iff.1 h).1
theorem ygg {w : World} {i k : Nat} {o o' : Obj} (h : w.heap[i]? = some o) (h' : w.heap[k]? = some o') (hne : o ≠ o') : i ≠ k := by
 rintro rfl; rw [h] at h'; exact hne (Option.some.inj h')
theorem BldAt.bp_ne {B : Nat} {w : World} {bp bt bm : Nat} {vi vb : Value} {ix : List Nat} {bs : List (List Int)} (h : BldAt B w bp bt bm vi vb ix bs) : bp ≠ bt :=
 ygg h.hp h.ht (by intro e; injection e with e1 e2; exact absurd e2 (by decide))
theorem BldAt.kept {B : Nat} {w w' : World} {bp bt bm : Nat} {vi vb : Value} {ix : List Nat} {bs : List (List Int)} (h : BldAt B w bp bt bm vi vb ix bs) (hg : w.grownBy w' none) : BldAt B w' bp bt bm vi vb ix bs :=
 ⟨h.hbp, h.hbt, h.hbm, (hg.block _ (yad h.hp) (by simp)).trans h.hp, (hg.block _ (yad h.ht) (by simp)).trans h.ht,
  World.ownsRow.kept h.hi hg (by cases vi.ownBlock <;> simp), World.ownsRow.kept h.hk hg (by cases vb.ownBlock <;> simp), h.hm.kept hg (by simp)⟩
theorem BldAt.pushed {B : Nat} {w w' : World} {bp bt bm : Nat} {vi vb vi' : Value} {ix ix' : List Nat} {bs : List (List Int)} (h : BldAt B w bp bt bm vi vb ix bs) (hg : w.grownBy w' vi.ownBlock) (ho : OwnU B w' vi' ix') :
  BldAt B (w'.setCell ⟨bt, 0, none⟩ vi') bp bt bm vi' vb ix' bs := by
 have hp' := (hg.block _ (yad h.hp) (yao h.hi h.hp (by decide))).trans h.hp
 have ht' := (hg.block _ (yad h.ht) (yao h.hi h.ht (by decide))).trans h.ht
 have hk' : OwnK B w' vb bs := World.ownsRow.kept h.hk hg (ydj h.hi h.hk (by decide))
 obtain ⟨es, c, hmm⟩ := h.hm.isMap; have hm' := h.hm.kept hg (ybf h.hi hmm); obtain ⟨es', c', hmm'⟩ := hm'.isMap; have g2 := yae w' ⟨bt, 0, none⟩ vi'
 have nbp : bp ≠ bt := h.bp_ne
 refine ⟨h.hbp, h.hbt, h.hbm, (g2.block _ (yad hp') (by simp; exact nbp)).trans hp', ?_, ?_, ?_, ?_⟩
 ·exact heap_setCell_same w' bt 0 _ _ vi' ht'
 ·refine World.ownsRow.kept ho g2 ?_
  cases e : vi'.ownBlock with
  | none => exact .inl rfl
  | some g => exact .inr (e ▸ (yao ho ht' (by decide)).symm)
 ·refine World.ownsRow.kept hk' g2 ?_
  cases e : vb.ownBlock with
  | none => exact .inl rfl
  | some g => exact .inr (e ▸ (yao hk' ht' (by decide)).symm)
 ·exact hm'.kept g2 (by simp; exact ygg hmm' ht' (by intro e; cases e))
theorem BldAt.blocked {B : Nat} {w w1 w2 w' : World} {bp bt bm : Nat} {vi vb vb' : Value} {ix : List Nat} {bs bs' : List (List Int)} (h : BldAt B w bp bt bm vi vb ix bs) (hg : w.grownBy w1 (some bm)) (hm1 : Found w1 bm bs')
  (hg1 : w1.grownBy w2 none) (hg2 : w2.grownBy w' vb.ownBlock) (ho : OwnK B w' vb' bs') :
  BldAt B (w'.setCell ⟨bt, 1, none⟩ vb') bp bt bm vi vb' ix bs' := by
 obtain ⟨es, c, hmm⟩ := h.hm.isMap
 have ha : ∀ {k : Nat} {cs : Array Value} {e : TypeId} {fr : Nat × Nat}, w.heap[k]? = some (Obj.cells cs e fr) -> w2.heap[k]? = some (Obj.cells cs e fr) := fun {k cs e fr} hk =>
  (hg1.block _ (Nat.lt_of_lt_of_le (yad hk) hg.size) (by simp)).trans ((hg.block _ (yad hk) (by simp; exact ygg hk hmm (by intro e; cases e))).trans hk)
 have nown : ∀ {e : TypeId} {s : Nat} {v : Value} {n : Nat} {xs : List Value}, w.ownsRow B e s v n xs -> w2.ownsRow B e s v n xs := fun {e s v n xs} hv => by
  refine World.ownsRow.kept (World.ownsRow.kept hv hg ?_) hg1 (by cases v.ownBlock <;> simp)
  cases q : v.ownBlock with
  | none => exact .inl rfl
  | some g => exact .inr (q ▸ (ybf hv hmm).symm)
 have hk2 : OwnK B w2 vb bs := nown h.hk
 have hi2 : OwnU B w2 vi ix := nown h.hi
 have hp2 := ha h.hp; have ht2 := ha h.ht; have hm2 := hm1.kept hg1 (by simp)
 obtain ⟨es2, c2, hmm2⟩ := hm2.isMap; have hp' := (hg2.block _ (yad hp2) (yao hk2 hp2 (by decide))).trans hp2
 have ht' := (hg2.block _ (yad ht2) (yao hk2 ht2 (by decide))).trans ht2
 have hi' : OwnU B w' vi ix := World.ownsRow.kept hi2 hg2 (ydj hk2 hi2 (by decide))
 have hm' := hm2.kept hg2 (ybf hk2 hmm2); obtain ⟨es', c', hmm'⟩ := hm'.isMap; have g2 := yae w' ⟨bt, 1, none⟩ vb'
 have nbp : bp ≠ bt := h.bp_ne
 refine ⟨h.hbp, h.hbt, h.hbm, (g2.block _ (yad hp') (by simp; exact nbp)).trans hp', ?_, ?_, ?_, ?_⟩
 ·exact heap_setCell_same w' bt 1 _ _ vb' ht'
 ·refine World.ownsRow.kept hi' g2 ?_
  cases e : vi.ownBlock with
  | none => exact .inl rfl
  | some g => exact .inr (e ▸ (yao hi' ht' (by decide)).symm)
 ·refine World.ownsRow.kept ho g2 ?_
  cases e : vb'.ownBlock with
  | none => exact .inl rfl
  | some g => exact .inr (e ▸ (yao ho ht' (by decide)).symm)
 ·exact hm'.kept g2 (by simp; exact ygg hmm' ht' (by intro e; cases e))
def Bld (B : Nat) (w : World) (bp : Nat) (r : List (List Int)) : Prop := ∃ bt bm vi vb, BldAt B w bp bt bm vi vb (ixs r) (firsts r)
theorem Bld.kept {B : Nat} {w w' : World} {bp : Nat} {r : List (List Int)} (h : Bld B w bp r) (hg : w.grownBy w' none) : Bld B w' bp r := by
 obtain ⟨bt, bm, vi, vb, h⟩ := h; exact ⟨bt, bm, vi, vb, h.kept hg⟩
structure TrieAt (w : World) (p : Nat) (r : List (List Int)) : Prop where
 at_ : ∃ vi vb, w.heap[p]? = some (.cells #[vi, vb] 252 (0, 0)) /\ OwnU 0 w vi (ixs r) /\ OwnK 0 w vb (firsts r)
 good : ∀ x ∈ r, GoodR x
 len : r.length = 17412
theorem TrieAt.below {w w' : World} {p : Nat} {r : List (List Int)} {B : Nat} (h : TrieAt w p r) (hb : Below B w w') (hB : w.heap.size <= B) : TrieAt w' p r := by
 obtain ⟨⟨vi, vb, h1, h2, h3⟩, g, l⟩ := h; exact ⟨⟨vi, vb, (hb.block _ (Nat.lt_of_lt_of_le (yad h1) hB)).trans h1, yan h2 hb hB, yan h3 hb hB⟩, g, l⟩
theorem yai {w : World} {B : Nat} {e : TypeId} {s : Nat} {v : Value} {n : Nat} {xs : List Value} (h : w.ownsRow B e s v n xs) :
  ∃ A c, v = .slice A n c /\ n <= c /\ (0 < n -> ∃ g, A = some ⟨g, 0, none⟩ /\ B <= g /\ g < w.heap.size /\ ∀ j u, xs[j]? = some u -> w.cell? ⟨g, j, none⟩ = some u) := by
 rcases h.2 with ⟨rfl, rfl⟩ | ⟨g, cap, cur, rfl, hg, hgg, hc, _⟩
 ·exact ⟨none, 0, rfl, zN _, fun h => absurd h (by omega)⟩
 ·refine ⟨_, cap, rfl, hc, fun _ => ⟨g, rfl, hg, yad hgg, fun j u hu => ?_⟩⟩
  have := World.ownsRow.cells h (g := g) rfl j u hu
  rw [Addr.add_lit, Nat.zero_add] at this; exact this
end Go.Proofs.YteibnfeokgibmaaGreat.R4
namespace Go.Proofs.YteibnfeokgibmaaGreat.R4
open Go.RowKit
def signB (c : Int) : Bool := decide (0 <= c) && decide (c <= 1114367)
def fitB (c v : Int) : Bool := signB c && (decide (-2147483648 <= v) && decide (v <= 2147483647))
theorem ydt (c : Int) : signB c = true ↔ 0 <= c /\ c <= 1114367 := by simp [signB]
theorem ypf (c v : Int) : fitB c v = true ↔ MayP (c, v) := by simp [fitB, signB, MayP, and_assoc]
theorem yfa (c : Int) (w : World) : Calls Tryz.prog 163 #[.int .i64 c] w fun e w' => e = .returned (.bool (signB c)) /\ w = w' := by
 by_cases h1 : 0 <= c
 ·by_cases h2 : c <= 1114367
  ·have hb : signB c = true := (ydt c).2 ⟨h1, h2⟩
   rw [hb]; clear hb
   go_enter Tryz.func163, Tryz.ntmps163
   go_wp2
   go_ret
   exact ⟨rfl, rfl⟩
  ·have hb : signB c = false := by simp [signB, h1, h2]
   rw [hb]; clear hb
   have h2' : 1114367 < c := by omega
   go_enter Tryz.func163, Tryz.ntmps163
   go_wp2
   go_ret
   exact ⟨rfl, rfl⟩
 ·have hb : signB c = false := by simp [signB, h1]
  rw [hb]; clear hb
  have h1' : c < 0 := by omega
  go_enter Tryz.func163, Tryz.ntmps163
  go_wp2
  go_ret
  exact ⟨rfl, rfl⟩
theorem yen {c : Int} {b : Bool} (h : signB c = b) (w : World) : Calls Tryz.prog 163 #[.int .i64 c] w fun e w' => e = .returned (.bool b) /\ w = w' := by
 rw [<- h]; exact yfa c w
theorem zal (c v : Int) (hv : -9223372036854775808 <= v /\ v <= 9223372036854775807) (w : World) : Calls Tryz.prog 117 #[.int .i64 c, .int .i64 v] w fun e w' => e = .returned (.bool (fitB c v)) /\ w = w' := by
 obtain ⟨v1, v2⟩ := hv
 cases hc : signB c with
 | true =>
  have CS := zH (fun w => yen hc w)
  by_cases h2 : -2147483648 <= v /\ v <= 2147483647
  ·have hb : fitB c v = true := by simp [fitB, hc, h2]
   rw [hb]; obtain ⟨h3, h4⟩ := h2; clear hb hc
   go_enter Tryz.func117, Tryz.ntmps117
   go_wp2_with (go_at_call 163; refine (CS.out _).mono ?_; rintro e w' ⟨rfl, rfl⟩)
   go_ret
   exact ⟨rfl, rfl⟩
  ·have hb : fitB c v = false := by simp [fitB, hc]; omega
   rw [hb]
   have hw : (wrap32 v == v) = false := by
    rw [beq_eq_false_iff_ne]; unfold wrap32; omega
   have hw2 : wrap64 (wrap32 v) = wrap32 v := IntWalk.wrap64_in _ (by unfold wrap32; omega)
   clear hb hc h2
   go_enter Tryz.func117, Tryz.ntmps117
   go_wp2_with (go_at_call 163; refine (CS.out _).mono ?_; rintro e w' ⟨rfl, rfl⟩)
   go_ret
   exact ⟨rfl, rfl⟩
 | false =>
  have CS := zH (fun w => yen hc w)
  have hb : fitB c v = false := by simp [fitB, hc]
  rw [hb]; clear hb hc
  go_enter Tryz.func117, Tryz.ntmps117
  go_wp2_with (go_at_call 163; refine (CS.out _).mono ?_; rintro e w' ⟨rfl, rfl⟩)
  go_ret
  exact ⟨rfl, rfl⟩
theorem yvv {c v : Int} {b : Bool} (h : fitB c v = b) (hv : -9223372036854775808 <= v /\ v <= 9223372036854775807) (w : World) : Calls Tryz.prog 117 #[.int .i64 c, .int .i64 v] w fun e w' => e = .returned (.bool b) /\ w = w' := by
 rw [<- h]; exact zal c v hv w
theorem laid_at {B : Nat} {w : World} {bp bt bm : Nat} {vi vb : Value} {ix : List Nat} {bs : List (List Int)} (h : BldAt B w bp bt bm vi vb ix bs) :
  Calls Tryz.prog 167 #[.pointer (some ⟨bp, 0, none⟩)] w fun e w' => e = .returned (.int .i64 (ix.length : Nat)) /\ w = w' := by
 obtain ⟨A, c, rfl, -⟩ := yai h.hi
 have c0 : w.cell? ⟨bp, 0, none⟩ = some (.pointer (some ⟨bt, 0, none⟩)) := cell_of_row w bp 0 _ _ _ h.hp
 have c1 : w.cell? ⟨bt, 0, none⟩ = some (.slice A ix.length c) := cell_of_row w bt 0 _ _ _ h.ht
 clear h
 go_enter Tryz.func167, Tryz.ntmps167
 go_wp2
 go_ret
 exact ⟨rfl, rfl⟩
theorem yzv {B : Nat} {w : World} {bp : Nat} {r : List (List Int)} (h : Bld B w bp r) :
  Calls Tryz.prog 167 #[.pointer (some ⟨bp, 0, none⟩)] w fun e w' => e = .returned (.int .i64 (r.length : Nat)) /\ w = w' := by
 obtain ⟨bt, bm, vi, vb, h⟩ := h
 have := laid_at h
 rw [yie] at this; exact this
end Go.Proofs.YteibnfeokgibmaaGreat.R4
namespace Go.Proofs.YteibnfeokgibmaaGreat.R4
open Go.RowKit
theorem yog : (Tryz.prog.info? 253).map (fun i => (i.zero, i.size, i.bytes)) = some (some (.int .u16 0), 1, 2) := by kernel_rfl
theorem yps : (Tryz.prog.info? 225).map (fun i => (i.zero, i.size, i.bytes)) = some (some (bval zrow), 64, 256) := by kernel_rfl
theorem makeU {ops : Array Oper} {rest : List Oper} {o : Oper} {a : Act} {Q : Exit -> Act -> World -> Prop} (hg : o.guard = none) (s c : Operand) (hop : o.op = Op.makeSlice 249 s c)
  (w : World) (B N : Nat) (hl : a.eval s = .int .i64 0) (hc : a.eval c = .int .i64 (N : Int)) (hN : N <= 10000000) (hB : B <= w.heap.size)
  (hK : ∀ A C w', OwnU B w' (.slice A 0 C) [] -> Below B w w' -> wpList Tryz.prog ops Q rest (a.put o.dst (.slice A 0 C)) w') : wpList Tryz.prog ops Q (o :: rest) a w := by
 obtain ⟨i0, hi0, hz0, hz1, hz2⟩ := info_parts yog; refine wpList_make_own w hg s c _ hop B 253 i0 _ 1 Tryz.underlying249 hi0 hz0 hz1 .i64 .i64 N N hl hc rfl (by rw [hz2]; omega) (by simp only [maxLen]; omega) hB ?_
 intro w' h1 h2; obtain ⟨A, C, e, -, -⟩ := yai h1; have h1' := h1; rw [e] at h1' |-; exact hK _ _ w' h1' ((zR B w).grown h2 hB (by simp))
theorem new_any (w : World) : Calls Tryz.prog 165 #[] w fun e w' => ∃ bp, e = .returned (.pointer (some ⟨bp, 0, none⟩)) /\ Bld w.heap.size w' bp [] /\ Below w.heap.size w w' := by
 have hmm := @run_makeMap Tryz.prog
 have HB : Hid (w.heap.size <= w.heap.size) := zN _
 go_enter Tryz.func165, Tryz.ntmps165
 go_wp2_with (refine makeU rfl _ _ rfl _ w.heap.size 17412 rfl rfl (by omega) HB.out ?_; intro A C w1 ho hb)
 go_ret
 refine ⟨_, rfl, ⟨w1.heap.size, w1.heap.size + 1, .slice A 0 C, .slice none 0 0, ?_⟩, ?_⟩
 ·have hs := hb.size
  have e1 : (w1.alloc (.cells #[.slice A 0 C, .slice none 0 0] 252)).heap.size = w1.heap.size + 1 := by simp
  have hF : Found ((w1.alloc (.cells #[.slice A 0 C, .slice none 0 0] 252)).alloc (.map #[] 0)) (w1.heap.size + 1) [] := by
   have := Found.new (w1.alloc (.cells #[.slice A 0 C, .slice none 0 0] 252))
   rwa [e1] at this
  have ho2 : OwnU w.heap.size ((w1.alloc (.cells #[.slice A 0 C, .slice none 0 0] 252)).alloc (.map #[] 0)) (.slice A 0 C) [] := World.ownsRow.alloc (World.ownsRow.alloc ho _) _
  have e2 : ((w1.alloc (.cells #[.slice A 0 C, .slice none 0 0] 252)).alloc (.map #[] 0)).heap.size = w1.heap.size + 2 := by simp
  refine ⟨by omega, hs, by omega, ?_, ?_, World.ownsRow.alloc ho2 _, World.ownsRow_nil _ _ _ _, hF.kept (World.grownBy_alloc _ _ none) (by simp)⟩
  ·have := heap_alloc_new ((w1.alloc (.cells #[.slice A 0 C, .slice none 0 0] 252)).alloc (.map #[] 0)) (.cells #[.pointer (some ⟨w1.heap.size, 0, none⟩), .map (some (w1.heap.size + 1))] 228)
   rw [e2] at this; exact this
  ·rw [Below.heap_alloc _ _ _ (by rw [e2]; omega), Below.heap_alloc _ _ _ (by rw [e1]; omega)]
   exact heap_alloc_new _ _
 ·exact ((hb.alloc hb.size _).alloc (by simp; have := hb.size; omega) _).alloc (by simp; have := hb.size; omega) _
theorem TrieAt.cells {w : World} {p : Nat} {r : List (List Int)} (h : TrieAt w p r) {i j : Nat} {x : List Int} {v : Int} (hi : r[i]? = some x) (hj : x[j]? = some v) :
  ∃ gi ci gk ck k m, w.cell? ⟨p, 0, none⟩ = some (.slice (some ⟨gi, 0, none⟩) 17412 ci) /\ w.cell? ⟨p, 1, none⟩ = some (.slice (some ⟨gk, 0, none⟩) m ck) /\ i < 17412 /\ k < m /\ j < 64 ∧
   w.cell? ⟨gi, i, none⟩ = some (.int .u16 (k : Nat)) /\ w.cell? ⟨gk, k * 64 + j, none⟩ = some (.int .i32 v) /\ -2147483648 <= v /\ v <= 2147483647 /\ m <= 17412 := by
 obtain ⟨⟨vi, vb, h1, h2, h3⟩, hg, hl⟩ := h; obtain ⟨k, hk1, hk2, hk3⟩ := ixs_at hi
 have hi' : i < r.length := (List.getElem?_eq_some_iff.1 hi).1
 obtain ⟨Ai, ci, rfl, -, hA⟩ := yai h2; obtain ⟨Ak, ck, rfl, -, hB⟩ := yai h3; obtain ⟨gi, rfl, -, -, hci⟩ := hA (by rw [yie]; omega)
 obtain ⟨gk, rfl, -, -, hck⟩ := hB (by omega)
 have hx := hg x (List.mem_of_getElem? hi)
 have hj' : j < 64 := by rw [<- hx.1]; exact (List.getElem?_eq_some_iff.1 hj).1
 have hv := hx.2 v (List.mem_of_getElem? hj); have hlf := yjj r; refine ⟨gi, ci, gk, ck, k, (firsts r).length, ?_, cell_of_row w p 1 _ _ _ h1, by omega, hk3, hj', hci i _ ?_, hck _ _ ?_, hv.1, hv.2, by omega⟩
 ·rw [cell_of_row w p 0 _ _ _ h1, yie, hl]; rfl
 ·simp [uvals, List.getElem?_map, hk1]
 ·rw [yww (fun y hy => (hg y ((ybg r y).1 hy)).1) hk2 hj']
  simp [cellsB, List.getElem?_map, hj]
theorem get_in {w : World} {p : Nat} {r : List (List Int)} (h : TrieAt w p r) (c : Nat) (hc : c <= 1114367) :
  Calls Tryz.prog 216 #[.pointer (some ⟨p, 0, none⟩), .int .i64 (c : Nat)] w fun e w' => e = .returned (.int .i64 (atR r c)) /\ ∃ n, w' = w.drewN n := by
 obtain ⟨i, hi⟩ : ∃ i, c / 64 = i := ⟨_, rfl⟩; obtain ⟨j, hj⟩ : ∃ j, c % 64 = j := ⟨_, rfl⟩
 have hil : i < r.length := by rw [h.len]; omega
 have hix : r[i]? = some r[i] := List.getElem?_eq_getElem hil
 have hxl : (r[i]).length = 64 := (h.good _ (List.getElem_mem hil)).1
 have hjx : (r[i])[j]? = some ((r[i])[j]'(by rw [hxl]; omega)) := List.getElem?_eq_getElem _
 obtain ⟨v, hv⟩ : ∃ v, v = (r[i])[j]'(by rw [hxl]; omega) := ⟨_, rfl⟩
 rw [<- hv] at hjx
 have hat : atR r c = v := by
  unfold atR; rw [hi, hj, List.getD_eq_getElem?_getD, List.getD_eq_getElem?_getD, hix, Option.getD_some, hjx, Option.getD_some]
 obtain ⟨gi, ci, gk, ck, k, m, c0, c1, b1, b2, b3, c2, c3, v1, v2, hm⟩ := h.cells hix hjx; rw [hat]
 have q1 : ((c : Nat) : Int) / 64 = (i : Int) := by omega
 have q2 : ((c : Nat) : Int) % 64 = (j : Int) := by omega
 have q3 : (0 : Int) <= (c : Int) := by omega
 have q4 : (0 : Int) <= (i : Int) := by omega
 have q5 : (i : Int) < 17412 := by omega
 have q6 : (0 : Int) <= (j : Int) := by omega
 have q7 : (j : Int) < 64 := by omega
 have q8 : (k : Int) < (m : Int) := by omega
 have q9 : (0 : Int) <= (k : Int) := by omega
 have q10 : (c : Int) <= 1114367 := by omega
 have CS := zH (fun w => yen ((ydt (c : Int)).2 ⟨by omega, by omega⟩) w)
 clear h hi hj hil hix hxl hjx hv hat
 go_enter Tryz.func216, Tryz.ntmps216
 go_wp2_with (go_at_call 163; refine (CS.out _).mono ?_; rintro e w' ⟨rfl, rfl⟩)
 go_quiet (fail)
 go_wp2
 go_ret
 exact ⟨rfl, _, rfl⟩
theorem get_out {c : Int} (hc : signB c = false) (w : World) (v : Value) :
  Calls Tryz.prog 216 #[v, .int .i64 c] w fun e w' => e = .returned (.int .i64 0) /\ ∃ n, w' = w.drewN n := by
 have CS := zH (fun w => yen hc w)
 clear hc
 go_enter Tryz.func216, Tryz.ntmps216
 go_wp2_with (go_at_call 163; refine (CS.out _).mono ?_; rintro e w' ⟨rfl, rfl⟩)
 go_ret
 exact ⟨rfl, 0, rfl⟩
end Go.Proofs.YteibnfeokgibmaaGreat.R4
