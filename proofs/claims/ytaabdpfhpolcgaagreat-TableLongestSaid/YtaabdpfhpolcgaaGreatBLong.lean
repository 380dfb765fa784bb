/-
  PLAIN: what letters a weigh under entries of one, two and three of them; the contract of the law's make.
-/
import Derived.Test.YtaabdpfhpolcgaaGreatBWith
namespace Go.Proofs.YtaabdpfhpolcgaaGreat
open Go.RowKit
set_option linter.unusedVariables false
set_option linter.unusedSimpArgs false
def wd2 : Nat := E3.mk 28674 32 2 0
def wd3 : Nat := E3.mk 28675 32 2 0
def lT (two three : Bool) : List PE :=
  let L1 := if two then putP rootP ([97, 97], [wd2]) else rootP
  if three then putP L1 ([97, 97, 97], [wd3]) else L1
def xwF : Nat → Bool → Bool → Nat → List Nat
  | 0, _, _, _ => []
  | f + 1, two, three, n => if n = 0 then [] else if three = true ∧ 3 ≤ n then wd3 :: xwF f two three (n - 3) else if two = true ∧ 2 ≤ n then wd2 :: xwF f two three (n - 2) else letW 97 :: xwF f two three (n - 1)
def xw (two three : Bool) (n : Nat) : List Nat := xwF n two three n
theorem xw_enough (two three : Bool) : ∀ (f g n : Nat), n ≤ f → n ≤ g → xwF f two three n = xwF g two three n
  | 0, 0, _, _, _ => rfl
  | 0, g + 1, n, h, _ => by obtain rfl : n = 0 := by omega
                            simp [xwF]
  | f + 1, 0, n, _, h => by obtain rfl : n = 0 := by omega
                            simp [xwF]
  | f + 1, g + 1, n, h1, h2 => by
    unfold xwF
    by_cases h0 : n = 0
    · rw [if_pos h0, if_pos h0]
    · rw [if_neg h0, if_neg h0]
      rw [xw_enough two three f g (n - 3) (by omega) (by omega), xw_enough two three f g (n - 2) (by omega) (by omega), xw_enough two three f g (n - 1) (by omega) (by omega)]
theorem xw_zero (two three : Bool) : xw two three 0 = [] := rfl
theorem xw_step (two three : Bool) {n : Nat} (h : 0 < n) : xw two three n = if three = true ∧ 3 ≤ n then wd3 :: xw two three (n - 3) else if two = true ∧ 2 ≤ n then wd2 :: xw two three (n - 2) else letW 97 :: xw two three (n - 1) := by
  obtain ⟨m, rfl⟩ : ∃ m, n = m + 1 := ⟨n - 1, by omega⟩
  unfold xw
  rw [xwF, if_neg (by omega)]
  rw [xw_enough two three m (m + 1 - 3) (m + 1 - 3) (by omega) (by omega), xw_enough two three m (m + 1 - 2) (m + 1 - 2) (by omega) (by omega), xw_enough two three m (m + 1 - 1) (m + 1 - 1) (by omega) (by omega)]
set_option maxRecDepth 100000 in
theorem els_long : ∀ two three : Bool, ∀ n, n < 32 → elsP (lT two three) (List.replicate n 97) = xw two three n := by decide +kernel
theorem sgs_long : ∀ n, n < 32 → T2.sgs (List.replicate n (97 : UInt8)) = List.replicate n (97 : Int) := by decide +kernel
set_option maxRecDepth 100000 in
theorem check_long : ∀ two three : Bool, checkP (lT two three) = if two || !three then 0 else 3 := by decide +kernel
set_option maxRecDepth 100000 in
theorem with_long2 : withE rootP [97, 97] [wd2] = 0 := by decide +kernel
set_option maxRecDepth 100000 in
theorem with_long3 : ∀ two : Bool, withE (lT two false) [97, 97, 97] [wd3] = 0 := by decide +kernel
theorem lT_two : lT true false = putP rootP ([97, 97], [wd2]) := rfl
theorem lT_three (two : Bool) : lT two true = putP (lT two false) ([97, 97, 97], [wd3]) := rfl
theorem lT_none : lT false false = rootP := rfl
theorem and_31 (n : Int) : bits .and .i64 n 31 = n % 32 := T2.and_i64_k 5 (by omega) n
theorem long_make {x : Int} {p r : Nat} (hx : (p : Int) = x) (hp : p < 65536) (hr : E3.mk p 32 2 0 = r) (w : World) :
    Calls Tryz.prog 10 #[.int .i64 x] w fun e w' => (∃ A c, e = .returned (.slice A 1 c) ∧ RdE anyB w' (.slice A 1 c) [r]) ∧ Below w.heap.size w w' := by
  subst hx
  have HC := Lib.hid (fun w => E3.make_d p 32 2 false hp (by omega) (by omega) w)
  have HR : Hid (E3.mk p 32 2 (if false = true then 1 else 0) = r) := hr
  have HN : Hid (∀ w : World, RdE anyB (w.alloc (.cells #[.int .u32 (r : Nat)] 26)) (.slice (some ⟨w.heap.size, 0, none⟩) 1 1) [r]) := fun w => RdF.new w (ev [r]) _ (Nat.le_refl 1)
  clear hr
  go_enter Tryz.func10, Tryz.ntmps10
  go_wp2_with (go_at_call 11; refine (HC.out _).mono ?_; rw [HR.out]; rintro e w' ⟨rfl, rfl⟩)
  go_ret
  exact ⟨⟨_, _, rfl, HN.out _⟩, alloc_below _ _⟩
theorem ofs_new {w : World} (l : List Int) : RdI anyB (w.alloc (.cells (iv l).toArray 3)) (.slice (some ⟨w.heap.size, 0, none⟩) l.length l.length) l := RdF.new w (iv l) _ (Nat.le_refl _)
/-- What With answers where it does well. -/
theorem with_ok {F G H : Nat → Prop} {w : World} {p : Nat} {L L' : List PE} {sv lv : Value} {s : List Int} {l : List Nat} (hF : ∀ k, w.heap.size ≤ k → F k) (h : TabAt F w p L) (hs : RdI G w sv s) (hl : RdE H w lv l) (hlw : ∀ x ∈ l, x < 4294967296) (hsl : s.length ≤ 1000) (hll : l.length ≤ 1000) (h0 : withE L s l = 0) (hL : putP L (s, l) = L') :
    Calls Tryz.prog 12 #[.pointer (some ⟨p, 0, none⟩), sv, lv] w fun r w' => (∃ q, r = .returned (.tuple #[.pointer (some ⟨q, 0, none⟩), .int .i64 0]) ∧ TabAt F w' q L') ∧ Below w.heap.size w w' := by
  subst hL
  exact (with_any hF h hs hl hlw (by omega) (by omega)).mono fun r w' hh => ⟨hh.1 h0, hh.2.2⟩
theorem rep_snoc (b : ByteArray) {k : Nat} (h : b.data.toList = List.replicate k 97) : (b ++ ⟨#[97]⟩).data.toList = List.replicate (k + 1) 97 := by
  rw [ByteArray.data_append, Array.toList_append, h, List.replicate_succ']
theorem drop_head {E : List Nat} {a x : Nat} {t : List Nat} (h : E.drop a = x :: t) : E[a]? = some x ∧ E.drop (a + 1) = t ∧ a < E.length := by
  have h1 : E[a]? = some x := by
    have := congrArg (fun l => l[0]?) h
    simpa [List.getElem?_drop] using this
  have h2 := (List.getElem?_eq_some_iff.1 h1).1
  refine ⟨h1, ?_, h2⟩
  rw [List.drop_eq_getElem_cons h2] at h
  exact (List.cons.inj h).2
end Go.Proofs.YtaabdpfhpolcgaaGreat
