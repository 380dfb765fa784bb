/-
  THE MAP of a builder: a block's place by the block itself.
-/
import Derived.Test.YtpckmdmfhglmbaaRPure
import Derived.Test.YtpckmdmfhglmbaaProg
import Derived.DeepKeys4
import Derived.Maps.Own
import Derived.Maps.OwnOps
import Derived.Maps.OwnSet
import Derived.Maps.Views
namespace Go.Proofs.Ytpckmdmfhglmbaa
open Go.Maps
set_option linter.unusedVariables false
set_option linter.unusedSimpArgs false
theorem laidOut : laidOutB Try.prog = true := by kernel_rfl
theorem rowBlk : (48 : TypeId) < Try.prog.types.size := of_decide_eq_true (by kernel_rfl)
theorem wideBlk : (match Try.prog.underlying 48 with | some (.array _ _) | some (.struct _) => true | _ => false) = true := by kernel_rfl
theorem lawBlk : Keyed Try.prog 48 := Keyed.of_law (deep_law_laid laidOut (m := 2) (by omega) rowBlk (by kernel_rfl) wideBlk)
def cellsB (x : List Int) : List Value := x.map (Value.int .i32)
def bval (x : List Int) : Value := .agg (cellsB x).toArray
theorem cellsB_len (x : List Int) : (cellsB x).length = x.length := by simp [cellsB]
theorem cellsB_inj {x y : List Int} (h : cellsB x = cellsB y) : x = y := by
  unfold cellsB at h
  exact List.map_inj_right (fun a b h => by cases h; rfl) |>.1 h
theorem bval_inj {x y : List Int} (h : bval x = bval y) : x = y := by
  unfold bval at h
  injection h with h
  exact cellsB_inj (by simpa using h)
theorem underBlk : Try.prog.underlying 48 = some (.array 64 21) := Try.underlying48
theorem cellsOfBlk : Try.prog.cellsOf 48 = 64 := by kernel_rfl
theorem cellsOfI32 : Try.prog.cellsOf 21 = 1 := by kernel_rfl
theorem keyBlk : Try.prog.keyType 48 = true := by kernel_rfl
theorem infoBlk : (Try.prog.info? 48).map (·.size) = some 64 := by kernel_rfl
theorem mapM_some {α β : Type} (f : α → Option β) : ∀ l : List α, (∀ a ∈ l, ∃ b, f a = some b) → ∃ bs, l.mapM f = some bs
  | [], _ => ⟨[], rfl⟩
  | a :: l, h => by
    obtain ⟨b, hb⟩ := h a (by simp)
    obtain ⟨bs, hbs⟩ := mapM_some f l fun a ha => h a (by simp [ha])
    exact ⟨b :: bs, by simp [List.mapM_cons, hb, hbs]⟩
theorem typesSucc : ∃ n, Try.prog.types.size + 1 = n + 2 := ⟨Try.prog.types.size - 1, by
  have h : (0 : Nat) < Try.prog.types.size := Nat.lt_of_le_of_lt (Nat.zero_le _) rowBlk
  omega⟩
theorem wf_i32 {v : Int} (h : -2147483648 ≤ v ∧ v ≤ 2147483647) : (Lit.int .i32 v).wf = true := by
  unfold Lit.wf
  simp [show IntKind.i32.min = -2147483648 from rfl, show IntKind.i32.max = 2147483647 from rfl]; omega
theorem key_of {x : List Int} (h : GoodR x) : ∃ kl, keyOf Try.prog 48 (bval x) = some kl := by
  obtain ⟨n, hn⟩ := typesSucc
  have hf : (bval x).formed Try.prog 48 = true := by
    simp [bval, Value.formed, underBlk, cellsOfBlk, cellsB_len, h.1]
  have hl : ∃ L, Try.prog.keyLits (Try.prog.types.size + 1) 48 (bval x).cells.toList = some L := by
    rw [hn]
    have hcs : (bval x).cells.toList = cellsB x := by simp [bval, Value.cells]
    rw [hcs]
    have hm : ∃ bs, (List.range 64).mapM (fun i => Try.prog.keyLits (n + 1) 21 (((cellsB x).drop (i * 1)).take 1)) = some bs := by
      refine mapM_some _ _ fun i hi => ?_
      have hi' : i < 64 := by simpa using hi
      have hx : i < x.length := by rw [h.1]; exact hi'
      have he : ((cellsB x).drop (i * 1)).take 1 = [.int .i32 x[i]] := by
        rw [Nat.mul_one]
        unfold cellsB
        rw [← List.map_drop, List.drop_eq_getElem_cons hx, List.map_cons]
        rfl
      rw [he]
      refine ⟨[.int .i32 x[i]], ?_⟩
      simp [Program.keyLits, Try.underlying21, wf_i32 (h.2 _ (List.getElem_mem hx))]
    obtain ⟨bs, hbs⟩ := hm
    refine ⟨bs.flatten, ?_⟩
    unfold Program.keyLits
    simp only [underBlk, cellsB_len, h.1, cellsOfBlk, cellsOfI32, if_true, hbs, Option.map_some]
  obtain ⟨L, hL⟩ := hl
  refine ⟨.string (keyBytes L), ?_⟩
  unfold keyOf
  simp only [underBlk, keyBlk, hf, Bool.and_self, if_true, hL, Option.map_some]
theorem zeroU16 (w : World) : (zeroValue 53).run Try.prog w = .ok (.int .u16 0) w := by kernel_rfl
/-- Block b of the world is a map of the blocks bs, each to its place. -/
def Found (w : World) (b : Nat) (bs : List (List Int)) : Prop :=
  ∃ D : DataW Unit, w.ownsMap Try.prog 48 (plainElem Try.prog 53) b bs.length D ∧
    ∀ x kl, keyOf Try.prog 48 (bval x) = some kl →
      (x ∈ bs → Maps.has D kl = true ∧ D.atKey kl (.lit (.int .u16 0)) = .lit (.int .u16 ((bs.idxOf x : Nat) : Int))) ∧ (x ∉ bs → Maps.has D kl = false)
theorem Found.new (w : World) : Found (w.alloc (.map #[] 0)) w.heap.size [] :=
  ⟨.map [], World.ownsMap_made w _ _ _, fun x kl _ => ⟨fun h => by simp at h, fun _ => rfl⟩⟩
theorem Found.kept {w w' : World} {b : Nat} {bs : List (List Int)} {row : Option Nat} (h : Found w b bs) (hg : w.grownBy w' row) (hne : some b ≠ row) : Found w' b bs := by
  obtain ⟨D, h1, h2⟩ := h
  exact ⟨D, h1.kept hg hne, h2⟩
theorem Found.lt {w : World} {b : Nat} {bs : List (List Int)} (h : Found w b bs) : b < w.heap.size := by
  obtain ⟨D, h1, h2⟩ := h
  exact h1.lt
theorem Found.isMap {w : World} {b : Nat} {bs : List (List Int)} (h : Found w b bs) : ∃ es c, w.heap[b]? = some (.map es c) := by
  obtain ⟨D, ⟨es, c, h1, _⟩, h2⟩ := h
  exact ⟨es, c, h1⟩
theorem Found.drew {w : World} {b : Nat} {bs : List (List Int)} (h : Found w b bs) : Found w.drew b bs := h
theorem Found.look_old {w : World} {b : Nat} {bs : List (List Int)} (h : Found w b bs) {x : List Int} (hx : GoodR x) (hm : x ∈ bs) :
    (Instr.lookup 59 (.map (some b)) (bval x) true).run Try.prog w = .ok (.tuple #[.int .u16 ((bs.idxOf x : Nat) : Int), .bool true]) w := by
  obtain ⟨D, h1, h2⟩ := h
  obtain ⟨kl, hkl⟩ := key_of hx
  obtain ⟨ha, hb⟩ := (h2 x kl hkl).1 hm
  obtain ⟨v, ps, hrun, hv⟩ := h1.look_ok lawBlk Try.underlying59 (zeroU16 w) (plainElem_int Try.underlying53 (by decide)) hkl
  obtain ⟨c, rfl, hc, hwc⟩ := plainElem_int_inv Try.underlying53 hv
  have hc' := congrArg Prod.fst hc
  simp only [hb] at hc'
  injection hc' with e
  injection e with e1 e2
  rw [hrun, ha, ← e2]
theorem Found.look_new {w : World} {b : Nat} {bs : List (List Int)} (h : Found w b bs) {x : List Int} (hx : GoodR x) (hm : x ∉ bs) :
    (Instr.lookup 59 (.map (some b)) (bval x) true).run Try.prog w = .ok (.tuple #[.int .u16 0, .bool false]) w := by
  obtain ⟨D, h1, h2⟩ := h
  obtain ⟨kl, hkl⟩ := key_of hx
  have ha := (h2 x kl hkl).2 hm
  obtain ⟨v, ps, hrun, hv⟩ := h1.look_ok lawBlk Try.underlying59 (zeroU16 w) (plainElem_int Try.underlying53 (by decide)) hkl
  obtain ⟨c, rfl, hc, hwc⟩ := plainElem_int_inv Try.underlying53 hv
  have hc' := congrArg Prod.fst hc
  simp only [Maps.atKey_of_not_has ha] at hc'
  injection hc' with e
  injection e with e1 e2
  rw [hrun, ha, ← e2]
theorem wf_u16 {v : Nat} (h : v < 65536) : (Lit.int .u16 (v : Int)).wf = true := by
  unfold Lit.wf
  simp [show IntKind.u16.min = 0 from rfl, show IntKind.u16.max = 65535 from rfl]; omega
theorem Found.store {w : World} {b : Nat} {bs : List (List Int)} (h : Found w b bs) {x : List Int} (hx : GoodR x) (hm : x ∉ bs) (hn : bs.length < 65536) :
    ∃ w', (Instr.mapUpdate 59 (.map (some b)) (bval x) (.int .u16 ((bs.length : Nat) : Int))).run Try.prog w = .ok () w' ∧ Found w' b (bs ++ [x]) ∧ w.grownBy w' (some b) := by
  obtain ⟨D, h1, h2⟩ := h
  obtain ⟨kl, hkl⟩ := key_of hx
  obtain ⟨w', hrun, h3, h4⟩ := h1.update lawBlk Try.underlying59 (by simp only [maxLen]; omega) hkl (plainElem_int Try.underlying53 (wf_u16 hn))
  have hkk := lawBlk.key hkl
  refine ⟨w', hrun, ⟨_, by rw [List.length_append]; exact h3, fun y ky hky => ?_⟩, h4⟩
  by_cases e : y = x
  · subst e
    have : ky = kl := by rw [hkl] at hky; exact (Option.some.inj hky).symm
    subst this
    refine ⟨fun _ => ⟨Maps.has_put_same h1.isMap hkk _, ?_⟩, fun h => by simp at h⟩
    rw [Maps.atKey_put_same h1.isMap hkk, List.idxOf_append, if_neg hm]
    simp
  · have hne : ky ≠ kl := fun e' => e (bval_inj (lawBlk.inj hky (e' ▸ hkl)))
    rw [Maps.has_put_other hne, Maps.atKey_put_other hne]
    obtain ⟨q1, q2⟩ := h2 y ky hky
    refine ⟨fun hy => ?_, fun hy => q2 fun hy' => hy (by simp [hy'])⟩
    have hy' : y ∈ bs := by
      rcases List.mem_append.1 hy with h | h
      · exact h
      · simp at h; exact absurd h e
    rw [List.idxOf_append, if_pos hy']
    exact q1 hy'
end Go.Proofs.Ytpckmdmfhglmbaa
