/-
  THE CONTRACTS of find.
-/
import Derived.Test.YtaabdpfhpolcgaaBRootC
import Derived.Deep.QuietTactic
import Derived.BigQuiet
namespace Go.Proofs.Ytaabdpfhpolcgaa
open Go.RowKit
set_option linter.unusedVariables false
set_option linter.unusedSimpArgs false
open R4 (signB signB_iff rowsF findP TrieAt)
theorem below_drewN (w : World) (n : Nat) : Below w.heap.size w (w.drewN n) := ⟨rfl, rfl, rfl, Nat.le_refl _, fun _ _ => rfl⟩
theorem place_sg {L : List PE} (h : GoodT L) {c : Int} {k : Nat} (hp : place L [c] = some k) : 0 ≤ c ∧ c ≤ 1114367 := by
  obtain ⟨e, h1, h2⟩ := place_some hp
  have := (h.seq e (List.mem_of_getElem? h1)).2.2
  rw [h2] at this
  exact sg_range (by simpa using this)
theorem get_all {w : World} {p : Nat} {L : List PE} (hg : GoodT L) (h : TrieAt w p (rowsF 17412 (findP (ones 0 L)))) {c y : Int} (hy : findP (ones 0 L) c = y) :
    Calls Try.prog 68 #[.pointer (some ⟨p, 0, none⟩), .int .i64 c] w fun e w' => e = .returned (.int .i64 y) ∧ ∃ n, w' = w.drewN n := by
  cases hs : signB c with
  | true =>
    obtain ⟨h0, h1⟩ := (signB_iff c).1 hs
    obtain ⟨n, rfl⟩ : ∃ n : Nat, (n : Int) = c := ⟨c.toNat, by omega⟩
    have := R4.get_in h n (by omega)
    rw [R4.atR_rowsF _ _ _ (by omega), hy] at this
    exact this
  | false =>
    have hz : y = 0 := by
      rw [← hy, findP_ones]
      cases hp : place L [c] with
      | none => rfl
      | some k =>
        have h2 := (signB_iff c).2 (place_sg hg hp)
        rw [hs] at h2; cases h2
    rw [hz]
    exact R4.get_out hs w _
theorem get_q {w : World} {p : Nat} {L : List PE} (hg : GoodT L) (h : TrieAt w p (rowsF 17412 (findP (ones 0 L)))) {c y : Int} (hy : findP (ones 0 L) c = y) (n : Nat) :
    Calls Try.prog 68 #[.pointer (some ⟨p, 0, none⟩), .int .i64 c] (w.drewN n) fun e w' => e = .returned (.int .i64 y) ∧ ∃ m, w' = (w.drewN n).drewN m := get_all hg (h.below (below_drewN w n) (Nat.le_refl _)) hy
/-- What find answers: a place only with true. -/
def FindIs (L : List PE) (s : List Int) (w : World) (e : Ending) (w' : World) : Prop :=
  (∃ i : Int, ∃ b : Bool, e = .returned (.tuple #[.int .i64 i, .bool b]) ∧ (∀ k, place L s = some k → i = (k : Nat) ∧ b = true) ∧ (place L s = none → b = false)) ∧ ∃ n, w' = w.drewN n
set_option maxHeartbeats 1000000 in
set_option maxRecDepth 100000 in
theorem find_one {F G : Nat → Prop} {w : World} {p : Nat} {L : List PE} {A : Option Addr} {c : Nat} {x : Int} (h : TabAt F w p L) (hs : RdI G w (.slice A 1 c) [x]) :
    Calls Try.prog 34 #[.pointer (some ⟨p, 0, none⟩), .slice A 1 c] w (FindIs L [x] w) := by
  obtain ⟨A1, c1, bo, b2, b3, d0, d1, d2, d3, hr, ht, h2, h3⟩ := h.cells
  obtain ⟨y, hy⟩ : ∃ y, findP (ones 0 L) x = y := ⟨_, rfl⟩
  have HG := Lib.hid (fun n => get_q h.good ht hy n)
  have hyy := findP_ones (L := L) x 0
  rw [hy] at hyy
  obtain ⟨g, o, rfl, c2⟩ := hs.at (k := 0) rfl
  simp only [Nat.add_zero] at c2
  have hlen := h.good.len
  have hyb : 0 ≤ y ∧ y ≤ 501 := by
    cases hp : place L [x] with
    | none => rw [hp] at hyy; simp only at hyy; omega
    | some k => rw [hp] at hyy; have := place_lt hp; simp only at hyy; omega
  have hy0 : 0 ≤ y := hyb.1
  have hy1 : y ≤ 501 := hyb.2
  have r1 : IntKind.i64.wrap (y - 1) = y - 1 := IntWalk.i64_in _ (by omega)
  have HY := Lib.hid hyy
  clear hr ht h2 h3 h hs hy hyy hyb hlen d0 d2 d3
  go_enter Try.func34, Try.ntmps34
  go_wp2
  go_quiet ((go_at_call 68; with_reducible exact Calls.quiet_of (HG.out _)))
  go_wp2
  go_ret2
  refine ⟨⟨_, _, rfl, fun k hk => ?_, fun hk => ?_⟩, _, rfl⟩
  · have h1 := HY.out
    rw [hk] at h1
    simp only at h1
    exact ⟨by omega, by simp; omega⟩
  · have h1 := HY.out
    rw [hk] at h1
    simp only at h1
    simp; omega
set_option maxHeartbeats 1000000 in
set_option maxRecDepth 100000 in
theorem find_two {F G : Nat → Prop} {w : World} {p : Nat} {L : List PE} {A : Option Addr} {c : Nat} {x y : Int} (h : TabAt F w p L) (hs : RdI G w (.slice A 2 c) [x, y]) (hI : I64 [x, y]) :
    Calls Try.prog 34 #[.pointer (some ⟨p, 0, none⟩), .slice A 2 c] w (FindIs L [x, y] w) := by
  obtain ⟨A1, c1, bo, b2, b3, d0, d1, d2, d3, hr, ht, h2, h3⟩ := h.cells
  obtain ⟨g, o, rfl, c2⟩ := hs.at (k := 0) rfl
  obtain ⟨g1, o1, e1, c3⟩ := hs.at (k := 1) rfl
  cases e1
  simp only [Nat.add_zero] at c2
  have hat : ∀ W, (Instr.arrayAt 68 (.slice (some ⟨g, o, none⟩) 2 c)).run Try.prog W = .ok (.pointer (some ⟨g, o, none⟩)) W := fun W => run_arrayAt W 68 _ 2 _ 2 c Try.underlying68 (Nat.le_refl _)
  cases hp : place L [x, y] with
  | some k =>
    have hlk : ∀ n, (Instr.lookup 60 (.map (some b2)) (.agg #[.int .i64 x, .int .i64 y]) true).run Try.prog (w.drewN n) = .ok (.tuple #[.int .i64 (k : Nat), .bool true]) (w.drewN n) := fun n =>
      (h2.below (below_drewN w n) (Nat.le_refl _)).look_old kt2 (s := [x, y]) rfl hI hp
    clear d0 d1 d3 hr ht h2 h3 h hs
    go_enter Try.func34, Try.ntmps34
    go_wp2
    go_quiet (fail)
    go_wp2
    go_ret2
    exact ⟨⟨_, _, rfl, fun j hj => (by rw [hp] at hj; cases hj; exact ⟨rfl, rfl⟩), fun hj => (by rw [hp] at hj; cases hj)⟩, _, rfl⟩
  | none =>
    have hlk : ∀ n, (Instr.lookup 60 (.map (some b2)) (.agg #[.int .i64 x, .int .i64 y]) true).run Try.prog (w.drewN n) = .ok (.tuple #[.int .i64 0, .bool false]) (w.drewN n) := fun n =>
      (h2.below (below_drewN w n) (Nat.le_refl _)).look_new kt2 (s := [x, y]) rfl hI hp
    clear d0 d1 d3 hr ht h2 h3 h hs
    go_enter Try.func34, Try.ntmps34
    go_wp2
    go_quiet (fail)
    go_wp2
    go_ret2
    exact ⟨⟨_, _, rfl, fun j hj => (by rw [hp] at hj; cases hj), fun _ => rfl⟩, _, rfl⟩
set_option maxHeartbeats 1000000 in
set_option maxRecDepth 100000 in
theorem find_three {F G : Nat → Prop} {w : World} {p : Nat} {L : List PE} {A : Option Addr} {c : Nat} {x y z : Int} (h : TabAt F w p L) (hs : RdI G w (.slice A 3 c) [x, y, z]) (hI : I64 [x, y, z]) :
    Calls Try.prog 34 #[.pointer (some ⟨p, 0, none⟩), .slice A 3 c] w (FindIs L [x, y, z] w) := by
  obtain ⟨A1, c1, bo, b2, b3, d0, d1, d2, d3, hr, ht, h2, h3⟩ := h.cells
  obtain ⟨g, o, rfl, c2⟩ := hs.at (k := 0) rfl
  obtain ⟨g1, o1, e1, c3⟩ := hs.at (k := 1) rfl
  cases e1
  obtain ⟨g2, o2, e2, c4⟩ := hs.at (k := 2) rfl
  cases e2
  simp only [Nat.add_zero] at c2
  have hat : ∀ W, (Instr.arrayAt 69 (.slice (some ⟨g, o, none⟩) 3 c)).run Try.prog W = .ok (.pointer (some ⟨g, o, none⟩)) W := fun W => run_arrayAt W 69 _ 3 _ 3 c Try.underlying69 (Nat.le_refl _)
  cases hp : place L [x, y, z] with
  | some k =>
    have hlk : ∀ n, (Instr.lookup 61 (.map (some b3)) (.agg #[.int .i64 x, .int .i64 y, .int .i64 z]) true).run Try.prog (w.drewN n) = .ok (.tuple #[.int .i64 (k : Nat), .bool true]) (w.drewN n) := fun n =>
      (h3.below (below_drewN w n) (Nat.le_refl _)).look_old kt3 (s := [x, y, z]) rfl hI hp
    clear d0 d1 d2 hr ht h2 h3 h hs
    go_enter Try.func34, Try.ntmps34
    go_wp2
    go_quiet (fail)
    go_wp2
    go_ret2
    exact ⟨⟨_, _, rfl, fun j hj => (by rw [hp] at hj; cases hj; exact ⟨rfl, rfl⟩), fun hj => (by rw [hp] at hj; cases hj)⟩, _, rfl⟩
  | none =>
    have hlk : ∀ n, (Instr.lookup 61 (.map (some b3)) (.agg #[.int .i64 x, .int .i64 y, .int .i64 z]) true).run Try.prog (w.drewN n) = .ok (.tuple #[.int .i64 0, .bool false]) (w.drewN n) := fun n =>
      (h3.below (below_drewN w n) (Nat.le_refl _)).look_new kt3 (s := [x, y, z]) rfl hI hp
    clear d0 d1 d2 hr ht h2 h3 h hs
    go_enter Try.func34, Try.ntmps34
    go_wp2
    go_quiet (fail)
    go_wp2
    go_ret2
    exact ⟨⟨_, _, rfl, fun j hj => (by rw [hp] at hj; cases hj), fun _ => rfl⟩, _, rfl⟩
theorem find_else {w : World} {v : Value} {L : List PE} (hg : GoodT L) {A : Option Addr} {s : List Int} {c : Nat} (h : ¬ s.length = 1 ∧ ¬ s.length = 2 ∧ ¬ s.length = 3) (hl : s.length ≤ 1000000000000000) :
    Calls Try.prog 34 #[v, .slice A s.length c] w (FindIs L s w) := by
  have hp : place L s = none := place_none.2 fun e he hc => by
    have := hg.seq e he
    rw [hc] at this
    omega
  obtain ⟨n, hn⟩ : ∃ n, s.length = n := ⟨_, rfl⟩
  rw [hn] at h hl ⊢
  have h1 : ((n : Int) == 1) = false := by rw [beq_eq_false_iff_ne]; omega
  have h2 : ((n : Int) == 2) = false := by rw [beq_eq_false_iff_ne]; omega
  have h3 : ((n : Int) == 3) = false := by rw [beq_eq_false_iff_ne]; omega
  have hl' : (n : Int) ≤ 1000000000000000 := by omega
  have k1 : (n == 1) = false := by rw [beq_eq_false_iff_ne]; omega
  have k2 : (n == 2) = false := by rw [beq_eq_false_iff_ne]; omega
  have k3 : (n == 3) = false := by rw [beq_eq_false_iff_ne]; omega
  clear hn h
  go_enter Try.func34, Try.ntmps34
  go_wp2
  go_ret2
  exact ⟨⟨_, _, rfl, fun k hk => (by rw [hp] at hk; cases hk), fun _ => rfl⟩, 0, rfl⟩
theorem find_any {F G : Nat → Prop} {w : World} {p : Nat} {L : List PE} {v : Value} {s : List Int} (h : TabAt F w p L) (hs : RdI G w v s) (hI : I64 s) (hl : s.length ≤ 1000000000000000) :
    Calls Try.prog 34 #[.pointer (some ⟨p, 0, none⟩), v] w (FindIs L s w) := by
  obtain ⟨A, c, rfl⟩ := hs.form
  by_cases h1 : s.length = 1
  · obtain ⟨x, rfl⟩ : ∃ x, s = [x] := ⟨hd s, len_one h1⟩
    exact find_one h hs
  · by_cases h2 : s.length = 2
    · obtain ⟨x, y, rfl⟩ : ∃ x y, s = [x, y] := by
        match s, h2 with
        | [x, y], _ => exact ⟨x, y, rfl⟩
      exact find_two h hs hI
    · by_cases h3 : s.length = 3
      · obtain ⟨x, y, z, rfl⟩ : ∃ x y z, s = [x, y, z] := by
          match s, h3 with
          | [x, y, z], _ => exact ⟨x, y, z, rfl⟩
        exact find_three h hs hI
      · exact find_else h.good ⟨h1, h2, h3⟩ hl
/-- An entry that is there. -/
theorem find_yes {F G : Nat → Prop} {w : World} {p : Nat} {L : List PE} {v : Value} {s : List Int} {k : Nat} (hp : place L s = some k) (h : TabAt F w p L) (hs : RdI G w v s) :
    Calls Try.prog 34 #[.pointer (some ⟨p, 0, none⟩), v] w fun e w' => e = .returned (.tuple #[.int .i64 (k : Nat), .bool true]) ∧ Below w.heap.size w w' := by
  obtain ⟨e, h1, h2⟩ := place_some hp
  have hq := h.good.seq e (List.mem_of_getElem? h1)
  rw [h2] at hq
  refine (find_any h hs (sg_i64 hq.2.2) (by omega)).mono fun e w' hf => ?_
  obtain ⟨⟨i, b, rfl, hy, hn⟩, n, rfl⟩ := hf
  obtain ⟨rfl, rfl⟩ := hy k hp
  exact ⟨rfl, below_drewN w n⟩
/-- One that is not. -/
theorem find_no {F G : Nat → Prop} {w : World} {p : Nat} {L : List PE} {v : Value} {s : List Int} (hp : place L s = none) (h : TabAt F w p L) (hs : RdI G w v s) (hI : I64 s) (hl : s.length ≤ 1000000000000000) :
    Calls Try.prog 34 #[.pointer (some ⟨p, 0, none⟩), v] w fun e w' => (∃ i : Int, e = .returned (.tuple #[.int .i64 i, .bool false])) ∧ Below w.heap.size w w' := by
  refine (find_any h hs hI hl).mono fun e w' hf => ?_
  obtain ⟨⟨i, b, rfl, hy, hn⟩, n, rfl⟩ := hf
  rw [hn hp]
  exact ⟨⟨i, rfl⟩, below_drewN w n⟩
end Go.Proofs.Ytaabdpfhpolcgaa
