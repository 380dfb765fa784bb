/-
  PACKED for a claim.
-/
import Derived.Test.YtichfdjjbafeiaaGreatJ25
set_option linter.unusedVariables false
set_option linter.unusedSimpArgs false
set_option maxRecDepth 100000
namespace Go.Proofs.YtichfdjjbafeiaaGreat
open Go.RowKit
theorem yab {w w' : World} {p : Addr} {u : Value} (hb : Below w.heap.size w w') (h : w.cell? p = some u) : w'.cell? p = some u := (hb.cell (yah h)).trans h
theorem yef : (Tryz.prog.info? 3).map (fun i => (i.zero, i.size, i.bytes)) = some (some (.int .i64 0), 1, 8) := by kernel_rfl
theorem yrb (n c : Nat) (w : World) : Calls Tryz.prog 34 #[.slice none n c] w fun e w' => e = .returned (.slice none 0 0) /\ w = w' := by
 have q22 : ∀ (w : World) (a : Option Addr) (n c n' c' : Nat), (binOp .eql 22 (.slice a n c) (.slice none n' c')).run Tryz.prog w = .ok (.bool a.isNone) w := fun w a n c n' c' => Lib.run_eql_slice_nil w _ _ a n c n' c' Tryz.underlying22
 go_enter Tryz.func34, Tryz.ntmps34
 go_wp2
 go_ret
 exact ⟨rfl, rfl⟩
theorem ynp (ad : Addr) (n : Nat) (xs : List Value) (c : Nat) (w : World) (hn : n <= 1000000) (hl : xs.length = n * 1) (h1 : ∀ u ∈ xs, u.oneCell' = true) (hc : ∀ j u, xs[j]? = some u -> w.cell? (ad.add j) = some u) :
  Calls Tryz.prog 34 #[.slice (some ad) n c] w fun e w' => (∃ v, e = .returned v /\ w'.ownsRow w.heap.size 3 1 v n xs) /\ Below w.heap.size w w' := by
 have q22 : ∀ (w : World) (a : Option Addr) (n c n' c' : Nat), (binOp .eql 22 (.slice a n c) (.slice none n' c')).run Tryz.prog w = .ok (.bool a.isNone) w := fun w a n c n' c' => Lib.run_eql_slice_nil w _ _ a n c n' c' Tryz.underlying22
 obtain ⟨i0, hi0, hz0, hz1, hz2⟩ := info_parts yef
 have HC : Hid (∀ j u, xs[j]? = some u -> (w.alloc (.cells #[] 3)).cell? (ad.add j) = some u) := fun j u hu => (World.grownBy_alloc w (.cells #[] 3) none).cell (hc j u hu) (by simp)
 have HI := zH hi0; have HZ0 := zH hz0; have HZ1 := zH hz1; have HZ2 := zH hz2
 have HL : Hid (0 + n <= maxLen) := by show _ <= _; simp only [maxLen]; omega
 have HL2 : Hid ((0 + n) * 8 <= 140737488355328) := by show _ <= _; omega
 have HP := zH hl; have HP1 := zH h1; clear hc hi0 hz0 hz1 hz2 hl h1
 go_enter Tryz.func34, Tryz.ntmps34
 go_wp2_with (at_builtin; refine wpList_append_own_at _ rfl _ _ 22 rfl w.heap.size 3 i0 _ 1 8 Tryz.underlying22 HI.out HZ0.out HZ1.out HZ2.out rfl (by omega) _ _ _ rfl (World.ownsRow_made w #[] 0 (zN _) (Nat.zero_le _) (by simp)) ad n c xs rfl HP.out HC.out HP1.out HL.out HL2.out (by simp) ?_; intro v' w1 hown hgrow hnil hat)
 go_ret
 refine ⟨⟨v', rfl, ?_⟩, ?_⟩
 ·have := hown
  rw [Nat.zero_add, List.nil_append] at this; exact this
 ·exact ((zR _ w).alloc (zN _) _).grown hgrow (by simp) (by intro k hk; cases hk; exact zN _)
theorem yrc {F : Nat -> Prop} {w : World} {v : Value} {n : Nat} {xs : List Value} (h : RdF F w v n xs) (hn : n <= 1000000) (hl : xs.length = n * 1) (h1 : ∀ u ∈ xs, u.oneCell' = true) :
  Calls Tryz.prog 34 #[v] w fun e w' => (∃ v', e = .returned v' /\ w'.ownsRow w.heap.size 3 1 v' n xs) /\ Below w.heap.size w w' := by
 obtain ⟨A, c, rfl, hc, hr⟩ := h
 cases A with
 | none =>
  have h0 : n = 0 := by
   rcases Nat.eq_zero_or_pos n with h0 | h0
   ·exact h0
   ·obtain ⟨g, o, e, _⟩ := hr h0; cases e
  subst h0; obtain rfl : xs = [] := List.eq_nil_of_length_eq_zero (by omega)
  exact (yrb 0 c w).mono fun e w' ⟨he, hw⟩ => ⟨⟨_, he, by subst hw; exact World.ownsRow_nil w _ _ _⟩, by subst hw; exact zR _ _⟩
 | some ad =>
  refine ynp ad n xs c w hn hl h1 fun j u hu => ?_
  have h0 : 0 < n := by
   have := (List.getElem?_eq_some_iff.1 hu).1
   rcases Nat.eq_zero_or_pos n with h0 | h0
   ·subst h0; omega
   ·exact h0
  obtain ⟨g, o, e, -, hcell⟩ := hr h0
  cases e
  rw [Addr.add_lit]; exact hcell j u hu
theorem yrd (n c : Nat) (w : World) : Calls Tryz.prog 35 #[.slice none n c] w fun e w' => e = .returned (.slice none 0 0) /\ w = w' := by
 have q22 : ∀ (w : World) (a : Option Addr) (n c n' c' : Nat), (binOp .eql 43 (.slice a n c) (.slice none n' c')).run Tryz.prog w = .ok (.bool a.isNone) w := fun w a n c n' c' => Lib.run_eql_slice_nil w _ _ a n c n' c' Tryz.underlying43
 go_enter Tryz.func35, Tryz.ntmps35
 go_wp2
 go_ret
 exact ⟨rfl, rfl⟩
theorem ynq (ad : Addr) (n : Nat) (xs : List Value) (c : Nat) (w : World) (hn : n <= 1000000) (hl : xs.length = n * 1) (h1 : ∀ u ∈ xs, u.oneCell' = true) (hc : ∀ j u, xs[j]? = some u -> w.cell? (ad.add j) = some u) :
  Calls Tryz.prog 35 #[.slice (some ad) n c] w fun e w' => (∃ v, e = .returned v /\ w'.ownsRow w.heap.size 47 1 v n xs) /\ Below w.heap.size w w' := by
 have q22 : ∀ (w : World) (a : Option Addr) (n c n' c' : Nat), (binOp .eql 43 (.slice a n c) (.slice none n' c')).run Tryz.prog w = .ok (.bool a.isNone) w := fun w a n c n' c' => Lib.run_eql_slice_nil w _ _ a n c n' c' Tryz.underlying43
 obtain ⟨i0, hi0, hz0, hz1, hz2⟩ := info_parts yde
 have HC : Hid (∀ j u, xs[j]? = some u -> (w.alloc (.cells #[] 47)).cell? (ad.add j) = some u) := fun j u hu => (World.grownBy_alloc w (.cells #[] 47) none).cell (hc j u hu) (by simp)
 have HI := zH hi0; have HZ0 := zH hz0; have HZ1 := zH hz1; have HZ2 := zH hz2
 have HL : Hid (0 + n <= maxLen) := by show _ <= _; simp only [maxLen]; omega
 have HL2 : Hid ((0 + n) * 4 <= 140737488355328) := by show _ <= _; omega
 have HP := zH hl; have HP1 := zH h1; clear hc hi0 hz0 hz1 hz2 hl h1
 go_enter Tryz.func35, Tryz.ntmps35
 go_wp2_with (at_builtin; refine wpList_append_own_at _ rfl _ _ 43 rfl w.heap.size 47 i0 _ 1 4 Tryz.underlying43 HI.out HZ0.out HZ1.out HZ2.out rfl (by omega) _ _ _ rfl (World.ownsRow_made w #[] 0 (zN _) (Nat.zero_le _) (by simp)) ad n c xs rfl HP.out HC.out HP1.out HL.out HL2.out (by simp) ?_; intro v' w1 hown hgrow hnil hat)
 go_ret
 refine ⟨⟨v', rfl, ?_⟩, ?_⟩
 ·have := hown
  rw [Nat.zero_add, List.nil_append] at this; exact this
 ·exact ((zR _ w).alloc (zN _) _).grown hgrow (by simp) (by intro k hk; cases hk; exact zN _)
theorem yre {F : Nat -> Prop} {w : World} {v : Value} {n : Nat} {xs : List Value} (h : RdF F w v n xs) (hn : n <= 1000000) (hl : xs.length = n * 1) (h1 : ∀ u ∈ xs, u.oneCell' = true) :
  Calls Tryz.prog 35 #[v] w fun e w' => (∃ v', e = .returned v' /\ w'.ownsRow w.heap.size 47 1 v' n xs) /\ Below w.heap.size w w' := by
 obtain ⟨A, c, rfl, hc, hr⟩ := h
 cases A with
 | none =>
  have h0 : n = 0 := by
   rcases Nat.eq_zero_or_pos n with h0 | h0
   ·exact h0
   ·obtain ⟨g, o, e, _⟩ := hr h0; cases e
  subst h0; obtain rfl : xs = [] := List.eq_nil_of_length_eq_zero (by omega)
  exact (yrd 0 c w).mono fun e w' ⟨he, hw⟩ => ⟨⟨_, he, by subst hw; exact World.ownsRow_nil w _ _ _⟩, by subst hw; exact zR _ _⟩
 | some ad =>
  refine ynq ad n xs c w hn hl h1 fun j u hu => ?_
  have h0 : 0 < n := by
   have := (List.getElem?_eq_some_iff.1 hu).1
   rcases Nat.eq_zero_or_pos n with h0 | h0
   ·subst h0; omega
   ·exact h0
  obtain ⟨g, o, e, -, hcell⟩ := hr h0
  cases e
  rw [Addr.add_lit]; exact hcell j u hu
theorem yqz (n c : Nat) (w : World) : Calls Tryz.prog 70 #[.slice none n c] w fun e w' => e = .returned (.slice none 0 0) /\ w = w' := by
 have q22 : ∀ (w : World) (a : Option Addr) (n c n' c' : Nat), (binOp .eql 41 (.slice a n c) (.slice none n' c')).run Tryz.prog w = .ok (.bool a.isNone) w := fun w a n c n' c' => Lib.run_eql_slice_nil w _ _ a n c n' c' Tryz.underlying41
 go_enter Tryz.func70, Tryz.ntmps70
 go_wp2
 go_ret
 exact ⟨rfl, rfl⟩
theorem yno (ad : Addr) (n : Nat) (xs : List Value) (c : Nat) (w : World) (hn : n <= 1000000) (hl : xs.length = n * 2) (h1 : ∀ u ∈ xs, u.oneCell' = true) (hc : ∀ j u, xs[j]? = some u -> w.cell? (ad.add j) = some u) :
  Calls Tryz.prog 70 #[.slice (some ad) n c] w fun e w' => (∃ v, e = .returned v /\ w'.ownsRow w.heap.size 45 2 v n xs) /\ Below w.heap.size w w' := by
 have q22 : ∀ (w : World) (a : Option Addr) (n c n' c' : Nat), (binOp .eql 41 (.slice a n c) (.slice none n' c')).run Tryz.prog w = .ok (.bool a.isNone) w := fun w a n c n' c' => Lib.run_eql_slice_nil w _ _ a n c n' c' Tryz.underlying41
 obtain ⟨i0, hi0, hz0, hz1, hz2⟩ := info_parts ybo
 have HC : Hid (∀ j u, xs[j]? = some u -> (w.alloc (.cells #[] 45)).cell? (ad.add j) = some u) := fun j u hu => (World.grownBy_alloc w (.cells #[] 45) none).cell (hc j u hu) (by simp)
 have HI := zH hi0; have HZ0 := zH hz0; have HZ1 := zH hz1; have HZ2 := zH hz2
 have HL : Hid (0 + n <= maxLen) := by show _ <= _; simp only [maxLen]; omega
 have HL2 : Hid ((0 + n) * 48 <= 140737488355328) := by show _ <= _; omega
 have HP := zH hl; have HP1 := zH h1; clear hc hi0 hz0 hz1 hz2 hl h1
 go_enter Tryz.func70, Tryz.ntmps70
 go_wp2_with (at_builtin; refine wpList_append_own_at _ rfl _ _ 41 rfl w.heap.size 45 i0 _ 2 48 Tryz.underlying41 HI.out HZ0.out HZ1.out HZ2.out rfl (by omega) _ _ _ rfl (World.ownsRow_made w #[] 0 (zN _) (Nat.zero_le _) (by simp)) ad n c xs rfl HP.out HC.out HP1.out HL.out HL2.out (by simp) ?_; intro v' w1 hown hgrow hnil hat)
 go_ret
 refine ⟨⟨v', rfl, ?_⟩, ?_⟩
 ·have := hown
  rw [Nat.zero_add, List.nil_append] at this; exact this
 ·exact ((zR _ w).alloc (zN _) _).grown hgrow (by simp) (by intro k hk; cases hk; exact zN _)
theorem yra {F : Nat -> Prop} {w : World} {v : Value} {n : Nat} {xs : List Value} (h : RdF F w v n xs) (hn : n <= 1000000) (hl : xs.length = n * 2) (h1 : ∀ u ∈ xs, u.oneCell' = true) :
  Calls Tryz.prog 70 #[v] w fun e w' => (∃ v', e = .returned v' /\ w'.ownsRow w.heap.size 45 2 v' n xs) /\ Below w.heap.size w w' := by
 obtain ⟨A, c, rfl, hc, hr⟩ := h
 cases A with
 | none =>
  have h0 : n = 0 := by
   rcases Nat.eq_zero_or_pos n with h0 | h0
   ·exact h0
   ·obtain ⟨g, o, e, _⟩ := hr h0; cases e
  subst h0; obtain rfl : xs = [] := List.eq_nil_of_length_eq_zero (by omega)
  exact (yqz 0 c w).mono fun e w' ⟨he, hw⟩ => ⟨⟨_, he, by subst hw; exact World.ownsRow_nil w _ _ _⟩, by subst hw; exact zR _ _⟩
 | some ad =>
  refine yno ad n xs c w hn hl h1 fun j u hu => ?_
  have h0 : 0 < n := by
   have := (List.getElem?_eq_some_iff.1 hu).1
   rcases Nat.eq_zero_or_pos n with h0 | h0
   ·subst h0; omega
   ·exact h0
  obtain ⟨g, o, e, -, hcell⟩ := hr h0
  cases e
  rw [Addr.add_lit]; exact hcell j u hu
theorem yfo {F : Nat -> Prop} {w : World} {v : Value} {l : List Int} (h : RdI F w v l) (hn : l.length <= 1000000) :
  Calls Tryz.prog 34 #[v] w fun e w' => (∃ v', e = .returned v' /\ T2.OwnI w.heap.size w' v' l) /\ Below w.heap.size w w' :=
 yrc h hn (by rw [iv_len]; omega) fun u hu => by obtain ⟨k, _, rfl⟩ := List.mem_map.1 hu; rfl
theorem ydx {F : Nat -> Prop} {w : World} {v : Value} {l : List Nat} (h : RdE F w v l) (hn : l.length <= 1000000) :
  Calls Tryz.prog 35 #[v] w fun e w' => (∃ v', e = .returned v' /\ OwnE w.heap.size w' v' l) /\ Below w.heap.size w w' :=
 yre h hn (by rw [ev_len]; omega) (ev_one l)
theorem ydw {F : Nat -> Prop} {w : World} {v : Value} {M : List ME} (h : RdM F w v M) (hn : M.length <= 1000000) :
  Calls Tryz.prog 70 #[v] w fun e w' => (∃ v', e = .returned v' /\ OwnM w.heap.size w' v' M) /\ Below w.heap.size w w' :=
 yra h.1 hn (yao M) (ydc h.2)
def q4 (x : Nat) : List Value := [.int .i64 ((x / 65536 : Nat) : Int), .int .i64 ((x / 256 % 256 : Nat) : Int), .int .i64 ((x / 2 % 128 : Nat) : Int), .bool (decide (x % 2 = 1))]
def qcells (l : List Nat) : List Value := l.flatMap q4
theorem yeb (a b : List Nat) : qcells (a ++ b) = qcells a ++ qcells b := by simp [qcells]
theorem yal (x : Nat) (t : List Nat) : qcells (x :: t) = q4 x ++ qcells t := rfl
theorem ybf (l : List Nat) : (qcells l).length = l.length * 4 := by
 induction l with
 | nil => rfl
 | cons p t ih => rw [yal, List.length_append, ih]; simp [q4]; omega
theorem yge (l : List Nat) : ∀ u ∈ qcells l, u.oneCell' = true := by
 intro u hu; obtain ⟨x, _, hx⟩ := List.mem_flatMap.1 hu
 simp [q4] at hx
 rcases hx with rfl | rfl | rfl | rfl <;> rfl
theorem ysz {l : List Nat} {k x : Nat} (h : l[k]? = some x) : (qcells l)[k * 4]? = some (.int .i64 ((x / 65536 : Nat) : Int)) /\ (qcells l)[k * 4 + 1]? = some (.int .i64 ((x / 256 % 256 : Nat) : Int)) /\ (qcells l)[k * 4 + 2]? = some (.int .i64 ((x / 2 % 128 : Nat) : Int)) /\ (qcells l)[k * 4 + 3]? = some (.bool (decide (x % 2 = 1))) := by
 induction l generalizing k with
 | nil => simp at h
 | cons y t ih =>
  cases k with
  | zero => simp at h; subst h; exact ⟨rfl, rfl, rfl, rfl⟩
  | succ k =>
   obtain ⟨h1, h2, h3, h4⟩ := ih (k := k) (by simpa using h)
   rw [yal]
   have hl : (q4 y).length = 4 := rfl
   refine ⟨?_, ?_, ?_, ?_⟩
   all_goals rw [List.getElem?_append_right (by rw [hl]; omega), hl]
   ·rw [show (k + 1) * 4 - 4 = k * 4 by omega]; exact h1
   ·rw [show (k + 1) * 4 + 1 - 4 = k * 4 + 1 by omega]; exact h2
   ·rw [show (k + 1) * 4 + 2 - 4 = k * 4 + 2 by omega]; exact h3
   ·rw [show (k + 1) * 4 + 3 - 4 = k * 4 + 3 by omega]; exact h4
def RdQ (F : Nat -> Prop) (w : World) (v : Value) (l : List Nat) : Prop := RdF F w v l.length (qcells l)
def OwnQ (B : Nat) (w : World) (v : Value) (l : List Nat) : Prop := w.ownsRow B 91 4 v l.length (qcells l)
theorem RdQ.below {F : Nat -> Prop} {B : Nat} {w w' : World} {v : Value} {l : List Nat} (h : RdQ F w v l) (hb : Below B w w') (hB : w.heap.size <= B) : RdQ F w' v l := RdF.below h hb hB
theorem RdQ.form {F : Nat -> Prop} {w : World} {v : Value} {l : List Nat} (h : RdQ F w v l) : ∃ A c, v = .slice A l.length c := RdF.form h
theorem OwnQ.rd {B : Nat} {F : Nat -> Prop} {w : World} {v : Value} {l : List Nat} (h : OwnQ B w v l) (hF : ∀ g, B <= g -> F g) : RdQ F w v l := RdF.of_own h hF
theorem OwnQ.form {B : Nat} {w : World} {v : Value} {l : List Nat} (h : OwnQ B w v l) : ∃ A c, v = .slice A l.length c := by
 obtain ⟨A, c, e, _⟩ := R4.yaj h; exact ⟨A, c, e⟩
theorem RdQ.at {F : Nat -> Prop} {w : World} {A : Option Addr} {n c : Nat} {l : List Nat} (h : RdQ F w (.slice A n c) l) {k : Nat} {x : Nat} (hk : l[k]? = some x) : ∃ g o : Nat, A = some ⟨g, o, none⟩ /\ w.cell? ⟨g, o + k * 4, none⟩ = some (.int .i64 ((x / 65536 : Nat) : Int)) ∧
  w.cell? ⟨g, o + k * 4 + 1, none⟩ = some (.int .i64 ((x / 256 % 256 : Nat) : Int)) /\ w.cell? ⟨g, o + k * 4 + 2, none⟩ = some (.int .i64 ((x / 2 % 128 : Nat) : Int)) /\ w.cell? ⟨g, o + k * 4 + 3, none⟩ = some (.bool (decide (x % 2 = 1))) := by
 have := (List.getElem?_eq_some_iff.1 hk).1
 obtain ⟨g, o, e, _, hx⟩ := RdF.base h (by omega)
 obtain ⟨h1, h2, h3, h4⟩ := ysz hk; exact ⟨g, o, e, hx _ _ h1, by rw [Nat.add_assoc]; exact hx _ _ h2, by rw [Nat.add_assoc]; exact hx _ _ h3, by rw [Nat.add_assoc]; exact hx _ _ h4⟩
theorem yoo (w : World) (l : List Nat) (hl : l.length <= 1000) {B : Nat} (hB : B <= w.heap.size) : OwnQ B (w.alloc (.cells (qcells l).toArray 91)) (.slice (some ⟨w.heap.size, 0, none⟩) l.length l.length) l := by
 have := World.ownsRow_lit (base := B) (e := 91) (size := 4) w (qcells l).toArray l.length hB (by simp only [maxLen]; omega) (by simp [ybf])
 unfold OwnQ
 simpa using this
def GotQ (B : Nat) (w : World) (l : List Nat) (e : Ending) (w' : World) : Prop := ∃ v, e = .returned v /\ OwnQ B w' v l /\ Below B w w'
theorem q4_mk {p s t : Nat} (hp : p < 65536) (hs : s < 256) (ht : t < 128) : q4 (E3.mk p s t 0) = [.int .i64 (p : Int), .int .i64 (s : Int), .int .i64 (t : Int), .bool false] := by
 unfold q4 E3.mk; rw [show (p * 65536 + s * 256 + t * 2 + 0) / 65536 = p by omega, show (p * 65536 + s * 256 + t * 2 + 0) / 256 % 256 = s by omega, show (p * 65536 + s * 256 + t * 2 + 0) / 2 % 128 = t by omega, show decide ((p * 65536 + s * 256 + t * 2 + 0) % 2 = 1) = false by simp; omega]
theorem ygu {c : Int} {b : Bool} (h : T2.isSg c = b) (w : World) : Calls Tryz.prog 82 #[.int .i64 c] w fun e w' => e = .returned (.bool b) /\ w = w' := by
 rw [<- h]; exact T2.ylk c w
theorem yso (c : Int) (w : World) : Calls Tryz.prog 125 #[.int .i64 c] w (GotQ w.heap.size w (impl c)) := by
 cases hs : T2.isSg c with
 | false =>
  have hi : impl c = [] := by unfold impl; rw [hs]; rfl
  have HC := zH (fun w => ygu hs w)
  rw [hi]; clear hi hs
  go_enter Tryz.func125, Tryz.ntmps125
  go_wp2_with (go_at_call 82; refine (HC.out _).mono ?_; rintro e w' ⟨rfl, rfl⟩)
  go_ret
  exact ⟨_, rfl, World.ownsRow_nil _ _ _ _, zR _ _⟩
 | true =>
  obtain ⟨h0, h1⟩ := ydh hs; obtain ⟨n, rfl⟩ : ∃ n : Nat, (n : Int) = c := ⟨c.toNat, by omega⟩
  have HC := zH (fun w => ygu hs w)
  have hi : impl (n : Int) = [E3.mk (64256 + n / 32768) 32 2 0, E3.mk (32768 + n % 32768) 32 2 0] := by unfold impl; rw [if_pos hs, Int.toNat_natCast]
  have hq : qcells (impl (n : Int)) = [.int .i64 (64256 + (n : Int) / 32768), .int .i64 32, .int .i64 2, .bool false, .int .i64 (32768 + (n : Int) % 32768), .int .i64 32, .int .i64 2, .bool false] := by
   rw [hi, yal, yal, q4_mk (by omega) (by omega) (by omega), q4_mk (by omega) (by omega) (by omega), show ((64256 + n / 32768 : Nat) : Int) = 64256 + (n : Int) / 32768 by omega, show ((32768 + n % 32768 : Nat) : Int) = 32768 + (n : Int) % 32768 by omega]
   rfl
  have hO := yoo w (impl (n : Int)) (by have := yoz (n : Int); omega) (zN _)
  have hl2 : (impl (n : Int)).length = 2 := by rw [hi]; rfl
  rw [hq, hl2] at hO; have HO := zH hO; obtain ⟨R, hR⟩ : ∃ R, impl (n : Int) = R := ⟨_, rfl⟩; rw [hR] at HO |-; clear hs hi hq hO hl2 hR
  go_enter Tryz.func125, Tryz.ntmps125
  go_wp2_with (go_at_call 82; refine (HC.out _).mono ?_; rintro e w' ⟨rfl, rfl⟩)
  go_ret
  exact ⟨_, rfl, HO.out, (zR _ _).alloc (zN _) _⟩
theorem yze {x : Nat} (h : x < 4294967296) (w : World) :
  Calls Tryz.prog 85 #[.agg #[.int .i64 ((x / 65536 : Nat) : Int), .int .i64 ((x / 256 % 256 : Nat) : Int), .int .i64 ((x / 2 % 128 : Nat) : Int), .bool (decide (x % 2 = 1))]] w fun r w' => r = .returned (.int .u32 (x : Int)) /\ Below w.heap.size w w' := by
 have h1 := E3.ysf (x / 65536) (x / 256 % 256) (x / 2 % 128) (decide (x % 2 = 1)) (by omega) (by omega) (by omega) w
 have h2 : E3.mk (x / 65536) (x / 256 % 256) (x / 2 % 128) (if decide (x % 2 = 1) = true then 1 else 0) = x := by
  unfold E3.mk
  split
  iterate 2 (·rename_i hh; simp at hh; omega)
 rw [h2] at h1; exact h1
def SamS (g1 o1 g2 o2 : Nat) (x p s t : Int) (v : Bool) (wr w' : World) : Prop :=
 w'.cell? ⟨g1, o1, none⟩ = some (.int .u32 x) /\ w'.cell? ⟨g2, o2, none⟩ = some (.int .i64 p) /\ w'.cell? ⟨g2, o2 + 1, none⟩ = some (.int .i64 s) /\ w'.cell? ⟨g2, o2 + 2, none⟩ = some (.int .i64 t) /\ w'.cell? ⟨g2, o2 + 3, none⟩ = some (.bool v) /\ Below wr.heap.size wr w'
theorem SamS.call {g1 o1 g2 o2 : Nat} {x p s t : Int} {v : Bool} {wr w1 w2 : World} (hb : Below w1.heap.size w1 w2) (h : SamS g1 o1 g2 o2 x p s t v wr w1) : SamS g1 o1 g2 o2 x p s t v wr w2 :=
 ⟨yab hb h.1, yab hb h.2.1, yab hb h.2.2.1, yab hb h.2.2.2.1, yab hb h.2.2.2.2.1, h.2.2.2.2.2.trans (hb.mono h.2.2.2.2.2.size)⟩
theorem ylf {l m : List Nat} {k x : Nat} (hl : l[k]? = some x) (hm : m[k]? = some x) (h : l.take k = m.take k) : l.take (k + 1) = m.take (k + 1) := by
 rw [List.take_add_one, List.take_add_one, hl, hm, h]
attribute [local go_sem ↓] Go.wp_at_zero Go.wp_at_succ
set_option maxHeartbeats 1000000 in
theorem yjs {F G : Nat -> Prop} {w : World} {u v : Value} {l m : List Nat} (hu : RdE F w u l) (hv : RdQ G w v m) (hl : l.length <= 10000000) (hm : m.length <= 10000000) (hw : ∀ x ∈ m, x < 4294967296) {b : Bool} (hb : (l == m) = b) :
  Calls Tryz.prog 47 #[u, v] w fun e w' => e = .returned (.bool b) /\ Below w.heap.size w w' := by
 obtain ⟨A, c, rfl⟩ := hu.form; obtain ⟨A', c', rfl⟩ := hv.form
 by_cases hlen : l.length = m.length
 ·have HU := zH hu; have HV := zH hv; have HW := zH hw; have HB := zH hb; have HLN := zH hlen
  have hlI : (l.length : Int) <= 10000000 := by omega
  rw [<- hlen] at hv HV |-; clear hu hv hw hb
  go_enter Tryz.func47, Tryz.ntmps47
  clear hlen
  go_wp2
  go_loopw [5] (fun i wr => ∃ k : Nat, k <= l.length /\ i = .int .i64 (k : Nat) /\ Hid (l.take k = m.take k) /\ Hid (Below w.heap.size w wr)) (fun i _ => l.length - (intOf i).toNat)
  case atStart => exact ⟨0, Nat.zero_le _, rfl, rfl, zR _ _⟩
  case round =>
   obtain ⟨k, hk, rfl, HE, HBl⟩ := hrel
   by_cases hlt : k < l.length
   ·obtain ⟨x, hx⟩ : ∃ x, l[k]? = some x := ⟨_, List.getElem?_eq_getElem hlt⟩; obtain ⟨y, hy⟩ : ∃ y, m[k]? = some y := ⟨_, List.getElem?_eq_getElem (by have := HLN.out; omega)⟩
    obtain ⟨g1, o1, rfl, c0⟩ := (HU.out.below HBl.out (zN _)).at hx; obtain ⟨g2, o2, rfl, d0, d1, d2, d3⟩ := (HV.out.below HBl.out (zN _)).at hy; have HWd := zH (fun w => yze (HW.out y (List.mem_of_getElem? hy)) w)
    obtain ⟨P, hP⟩ : ∃ P : Int, ((y / 65536 : Nat) : Int) = P := ⟨_, rfl⟩; obtain ⟨S, hS⟩ : ∃ S : Int, ((y / 256 % 256 : Nat) : Int) = S := ⟨_, rfl⟩; obtain ⟨T, hT⟩ : ∃ T : Int, ((y / 2 % 128 : Nat) : Int) = T := ⟨_, rfl⟩; obtain ⟨V, hV⟩ : ∃ V : Bool, decide (y % 2 = 1) = V := ⟨_, rfl⟩; rw [hP, hS, hT, hV] at HWd; rw [hP] at d0; rw [hS] at d1; rw [hT] at d2; rw [hV] at d3
    have HK : Hid (SamS g1 (o1 + k) g2 (o2 + k * 4) (x : Int) P S T V wr wr.drew) := ⟨c0, d0, d1, d2, d3, (zR _ _).drew⟩
    have hkI : (k : Int) < (l.length : Int) := by omega
    have hk0 : (0 : Int) <= (k : Int) := by omega
    have hkN : k < l.length := hlt
    clear hP hS hT hV c0 d0 d1 d2 d3
    by_cases exy : x = y
    ·subst exy; have HN := zH (ylf hx hy HE.out); clear hx hy hlt
     go_wp2
     go_region_held3 (fun w' => w'.cell? ⟨g1, o1 + k, none⟩ = some (.int .u32 (x : Int)) /\ w'.cell? ⟨g2, o2 + k * 4, none⟩ = some (.int .i64 P) /\ w'.cell? ⟨g2, o2 + k * 4 + 1, none⟩ = some (.int .i64 S) /\ w'.cell? ⟨g2, o2 + k * 4 + 2, none⟩ = some (.int .i64 T) /\ w'.cell? ⟨g2, o2 + k * 4 + 3, none⟩ = some (.bool V) /\ Below wr.heap.size wr w')
      (first
       | exact HK.out
       | (refine SamS.call hb2 ?_; assumption)
       | assumption)
      (first
       | (go_at_call 85; refine (HWd.out _).mono ?_; rintro e w2 ⟨rfl, hb2⟩; have HX := zH (SamS.call hb2 HK.out)))
     go_wp2
     have HB2 : Hid (Below w.heap.size w w2) := HBl.out.trans (HX.out.2.2.2.2.2.mono HBl.out.size)
     go_roundw
     case rel => exact ⟨k + 1, by omega, by go_num, HN.out, HB2.out⟩
     case measure => simp [intOf]; omega
    ·have HN : Hid (b = false) := by
      show _ = _
      rw [<- HB.out, beq_eq_false_iff_ne]; intro e; subst e; rw [hx] at hy; exact exy (Option.some.inj hy)
     have ne : ((x : Int) == (y : Int)) = false := by rw [beq_eq_false_iff_ne]; omega
     have ne2 : (x == y) = false := by rw [beq_eq_false_iff_ne]; exact exy
     clear hx hy hlt exy
     go_wp2
     go_region_held3 (fun w' => w'.cell? ⟨g1, o1 + k, none⟩ = some (.int .u32 (x : Int)) /\ w'.cell? ⟨g2, o2 + k * 4, none⟩ = some (.int .i64 P) /\ w'.cell? ⟨g2, o2 + k * 4 + 1, none⟩ = some (.int .i64 S) /\ w'.cell? ⟨g2, o2 + k * 4 + 2, none⟩ = some (.int .i64 T) /\ w'.cell? ⟨g2, o2 + k * 4 + 3, none⟩ = some (.bool V) /\ Below wr.heap.size wr w')
      (first
       | exact HK.out
       | (refine SamS.call hb2 ?_; assumption)
       | assumption)
      (first
       | (go_at_call 85; refine (HWd.out _).mono ?_; rintro e w2 ⟨rfl, hb2⟩; have HX := zH (SamS.call hb2 HK.out)))
     go_wp2
     have HB2 : Hid (Below w.heap.size w w2) := HBl.out.trans (HX.out.2.2.2.2.2.mono HBl.out.size)
     go_ret
     exact ⟨by rw [HN.out]; rfl, HB2.out⟩
   ·have HN : Hid (b = true) := by
     show _ = _
     have h1 := HE.out; rw [List.take_of_length_le (by omega), List.take_of_length_le (by have := HLN.out; omega)] at h1
     rw [<- HB.out, h1]; simp
    have hkI : ¬ (k : Int) < (l.length : Int) := by omega
    clear hlt
    go_wp2
    go_ret
    exact ⟨by rw [HN.out]; rfl, HBl.out⟩
 ·have hbb : b = false := by
   rw [<- hb, beq_eq_false_iff_ne]; intro e; exact hlen (by rw [e])
  subst hbb
  have hne : ((l.length : Int) == (m.length : Int)) = false := by rw [beq_eq_false_iff_ne]; omega
  have hne2 : (l.length == m.length) = false := by rw [beq_eq_false_iff_ne]; exact hlen
  clear hu hv hw hb hlen
  go_enter Tryz.func47, Tryz.ntmps47
  go_wp2
  go_ret
  exact ⟨rfl, zR _ _⟩
end Go.Proofs.YtichfdjjbafeiaaGreat
