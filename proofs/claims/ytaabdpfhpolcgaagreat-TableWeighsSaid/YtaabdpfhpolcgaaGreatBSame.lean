/-
  THE DOCUMENT's ELEMENTS in memory; the contracts of the answer's Implicit and of Same.
-/
import Derived.Test.YtaabdpfhpolcgaaGreatBAwake
namespace Go.Proofs.YtaabdpfhpolcgaaGreat
open Go.RowKit
set_option linter.unusedVariables false
set_option linter.unusedSimpArgs false
/-- The four cells of an element whose word is x. -/
def q4 (x : Nat) : List Value := [.int .i64 ((x / 65536 : Nat) : Int), .int .i64 ((x / 256 % 256 : Nat) : Int), .int .i64 ((x / 2 % 128 : Nat) : Int), .bool (decide (x % 2 = 1))]
def qcells (l : List Nat) : List Value := l.flatMap q4
theorem qcells_app (a b : List Nat) : qcells (a ++ b) = qcells a ++ qcells b := by simp [qcells]
theorem qcells_cons (x : Nat) (t : List Nat) : qcells (x :: t) = q4 x ++ qcells t := rfl
theorem qcells_len (l : List Nat) : (qcells l).length = l.length * 4 := by
  induction l with
  | nil => rfl
  | cons p t ih => rw [qcells_cons, List.length_append, ih]; simp [q4]; omega
theorem qcells_one (l : List Nat) : ∀ u ∈ qcells l, u.oneCell' = true := by
  intro u hu
  obtain ⟨x, _, hx⟩ := List.mem_flatMap.1 hu
  simp [q4] at hx
  rcases hx with rfl | rfl | rfl | rfl <;> rfl
theorem qcells_at {l : List Nat} {k x : Nat} (h : l[k]? = some x) : (qcells l)[k * 4]? = some (.int .i64 ((x / 65536 : Nat) : Int)) ∧ (qcells l)[k * 4 + 1]? = some (.int .i64 ((x / 256 % 256 : Nat) : Int)) ∧ (qcells l)[k * 4 + 2]? = some (.int .i64 ((x / 2 % 128 : Nat) : Int)) ∧ (qcells l)[k * 4 + 3]? = some (.bool (decide (x % 2 = 1))) := by
  induction l generalizing k with
  | nil => simp at h
  | cons y t ih =>
    cases k with
    | zero => simp at h; subst h; exact ⟨rfl, rfl, rfl, rfl⟩
    | succ k =>
      obtain ⟨h1, h2, h3, h4⟩ := ih (k := k) (by simpa using h)
      rw [qcells_cons]
      have hl : (q4 y).length = 4 := rfl
      refine ⟨?_, ?_, ?_, ?_⟩
      all_goals rw [List.getElem?_append_right (by rw [hl]; omega), hl]
      · rw [show (k + 1) * 4 - 4 = k * 4 by omega]; exact h1
      · rw [show (k + 1) * 4 + 1 - 4 = k * 4 + 1 by omega]; exact h2
      · rw [show (k + 1) * 4 + 2 - 4 = k * 4 + 2 by omega]; exact h3
      · rw [show (k + 1) * 4 + 3 - 4 = k * 4 + 3 by omega]; exact h4
def RdQ (F : Nat → Prop) (w : World) (v : Value) (l : List Nat) : Prop := RdF F w v l.length (qcells l)
def OwnQ (B : Nat) (w : World) (v : Value) (l : List Nat) : Prop := w.ownsRow B 72 4 v l.length (qcells l)
theorem RdQ.below {F : Nat → Prop} {B : Nat} {w w' : World} {v : Value} {l : List Nat} (h : RdQ F w v l) (hb : Below B w w') (hB : w.heap.size ≤ B) : RdQ F w' v l := RdF.below h hb hB
theorem RdQ.form {F : Nat → Prop} {w : World} {v : Value} {l : List Nat} (h : RdQ F w v l) : ∃ A c, v = .slice A l.length c := RdF.form h
theorem OwnQ.rd {B : Nat} {F : Nat → Prop} {w : World} {v : Value} {l : List Nat} (h : OwnQ B w v l) (hF : ∀ g, B ≤ g → F g) : RdQ F w v l := RdF.of_own h hF
theorem OwnQ.form {B : Nat} {w : World} {v : Value} {l : List Nat} (h : OwnQ B w v l) : ∃ A c, v = .slice A l.length c := by
  obtain ⟨A, c, e, _⟩ := R4.own_parts h
  exact ⟨A, c, e⟩
theorem RdQ.at {F : Nat → Prop} {w : World} {A : Option Addr} {n c : Nat} {l : List Nat} (h : RdQ F w (.slice A n c) l) {k : Nat} {x : Nat} (hk : l[k]? = some x) : ∃ g o : Nat, A = some ⟨g, o, none⟩ ∧ w.cell? ⟨g, o + k * 4, none⟩ = some (.int .i64 ((x / 65536 : Nat) : Int)) ∧
    w.cell? ⟨g, o + k * 4 + 1, none⟩ = some (.int .i64 ((x / 256 % 256 : Nat) : Int)) ∧ w.cell? ⟨g, o + k * 4 + 2, none⟩ = some (.int .i64 ((x / 2 % 128 : Nat) : Int)) ∧ w.cell? ⟨g, o + k * 4 + 3, none⟩ = some (.bool (decide (x % 2 = 1))) := by
  have := (List.getElem?_eq_some_iff.1 hk).1
  obtain ⟨g, o, e, _, hx⟩ := RdF.base h (by omega)
  obtain ⟨h1, h2, h3, h4⟩ := qcells_at hk
  exact ⟨g, o, e, hx _ _ h1, by rw [Nat.add_assoc]; exact hx _ _ h2, by rw [Nat.add_assoc]; exact hx _ _ h3, by rw [Nat.add_assoc]; exact hx _ _ h4⟩
theorem ownQ_lit (w : World) (l : List Nat) (hl : l.length ≤ 1000) {B : Nat} (hB : B ≤ w.heap.size) : OwnQ B (w.alloc (.cells (qcells l).toArray 72)) (.slice (some ⟨w.heap.size, 0, none⟩) l.length l.length) l := by
  have := World.ownsRow_lit (base := B) (e := 72) (size := 4) w (qcells l).toArray l.length hB (by simp only [maxLen]; omega) (by simp [qcells_len])
  unfold OwnQ
  simpa using this
def GotQ (B : Nat) (w : World) (l : List Nat) (e : Ending) (w' : World) : Prop := ∃ v, e = .returned v ∧ OwnQ B w' v l ∧ Below B w w'
theorem q4_mk {p s t : Nat} (hp : p < 65536) (hs : s < 256) (ht : t < 128) : q4 (E3.mk p s t 0) = [.int .i64 (p : Int), .int .i64 (s : Int), .int .i64 (t : Int), .bool false] := by
  unfold q4 E3.mk
  rw [show (p * 65536 + s * 256 + t * 2 + 0) / 65536 = p by omega, show (p * 65536 + s * 256 + t * 2 + 0) / 256 % 256 = s by omega, show (p * 65536 + s * 256 + t * 2 + 0) / 2 % 128 = t by omega, show decide ((p * 65536 + s * 256 + t * 2 + 0) % 2 = 1) = false by simp; omega]
theorem rsign_is {c : Int} {b : Bool} (h : T2.isSg c = b) (w : World) : Calls Tryz.prog 35 #[.int .i64 c] w fun e w' => e = .returned (.bool b) ∧ w = w' := by
  rw [← h]; exact T2.rsign_any c w
theorem rimpl_any (c : Int) (w : World) : Calls Tryz.prog 34 #[.int .i64 c] w (GotQ w.heap.size w (impl c)) := by
  cases hs : T2.isSg c with
  | false =>
    have hi : impl c = [] := by unfold impl; rw [hs]; rfl
    have HC := Lib.hid (fun w => rsign_is hs w)
    rw [hi]
    clear hi hs
    go_enter Tryz.func34, Tryz.ntmps34
    go_wp2_with (go_at_call 35; refine (HC.out _).mono ?_; rintro e w' ⟨rfl, rfl⟩)
    go_ret
    exact ⟨_, rfl, World.ownsRow_nil _ _ _ _, Below.refl _ _⟩
  | true =>
    obtain ⟨h0, h1⟩ := sg_range hs
    obtain ⟨n, rfl⟩ : ∃ n : Nat, (n : Int) = c := ⟨c.toNat, by omega⟩
    have HC := Lib.hid (fun w => rsign_is hs w)
    have hi : impl (n : Int) = [E3.mk (64256 + n / 32768) 32 2 0, E3.mk (32768 + n % 32768) 32 2 0] := by unfold impl; rw [if_pos hs, Int.toNat_natCast]
    have hq : qcells (impl (n : Int)) = [.int .i64 (64256 + (n : Int) / 32768), .int .i64 32, .int .i64 2, .bool false, .int .i64 (32768 + (n : Int) % 32768), .int .i64 32, .int .i64 2, .bool false] := by
      rw [hi, qcells_cons, qcells_cons, q4_mk (by omega) (by omega) (by omega), q4_mk (by omega) (by omega) (by omega), show ((64256 + n / 32768 : Nat) : Int) = 64256 + (n : Int) / 32768 by omega, show ((32768 + n % 32768 : Nat) : Int) = 32768 + (n : Int) % 32768 by omega]
      rfl
    have hO := ownQ_lit w (impl (n : Int)) (by have := impl_len (n : Int); omega) (Nat.le_refl _)
    have hl2 : (impl (n : Int)).length = 2 := by rw [hi]; rfl
    rw [hq, hl2] at hO
    have HO := Lib.hid hO
    obtain ⟨R, hR⟩ : ∃ R, impl (n : Int) = R := ⟨_, rfl⟩
    rw [hR] at HO ⊢
    clear hs hi hq hO hl2 hR
    go_enter Tryz.func34, Tryz.ntmps34
    go_wp2_with (go_at_call 35; refine (HC.out _).mono ?_; rintro e w' ⟨rfl, rfl⟩)
    go_ret
    exact ⟨_, rfl, HO.out, (Below.refl _ _).alloc (Nat.le_refl _) _⟩
theorem word_is {x : Nat} (h : x < 4294967296) (w : World) :
    Calls Tryz.prog 32 #[.agg #[.int .i64 ((x / 65536 : Nat) : Int), .int .i64 ((x / 256 % 256 : Nat) : Int), .int .i64 ((x / 2 % 128 : Nat) : Int), .bool (decide (x % 2 = 1))]] w fun r w' => r = .returned (.int .u32 (x : Int)) ∧ Below w.heap.size w w' := by
  have h1 := E3.rword_any (x / 65536) (x / 256 % 256) (x / 2 % 128) (decide (x % 2 = 1)) (by omega) (by omega) (by omega) w
  have h2 : E3.mk (x / 65536) (x / 256 % 256) (x / 2 % 128) (if decide (x % 2 = 1) = true then 1 else 0) = x := by
    unfold E3.mk
    split
    · rename_i hh; simp at hh; omega
    · rename_i hh; simp at hh; omega
  rw [h2] at h1
  exact h1
end Go.Proofs.YtaabdpfhpolcgaaGreat
