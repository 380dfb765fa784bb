/-
  PACKED for a claim.
-/
import Derived.Test.YteibnfeokgibmaaGreatP26
set_option linter.unusedVariables false
set_option linter.unusedSimpArgs false
set_option maxRecDepth 100000
namespace Go.Proofs.YteibnfeokgibmaaGreat
open Go.RowKit
def begTo (L : List PE) (s : List Int) (m : Nat) : Bool := (List.range m).all fun n => n == 0 || (place L (s.take n)).isSome
theorem ynz (L : List PE) (s : List Int) : begs L s = begTo L s s.length := rfl
theorem yjp (L : List PE) (s : List Int) (m : Nat) : begTo L s (m + 1) = (begTo L s m && (m == 0 || (place L (s.take m)).isSome)) := by
 unfold begTo; rw [List.range_succ, List.all_append]
 simp
theorem begTo_le {L : List PE} {s : List Int} {m n : Nat} (h : m <= n) (ht : begTo L s n = true) : begTo L s m = true := by
 unfold begTo at ht |-; rw [List.all_eq_true] at ht |-; exact fun x hx => ht x (by simp at hx |-; omega)
theorem ywt {L : List PE} {s : List Int} {m : Nat} (h1 : 1 <= m) (hm : m < s.length) (hp : place L (s.take m) = none) : begs L s = false := by
 rw [ynz]; unfold begTo; rw [List.all_eq_false]; refine ⟨m, by simpa using hm, ?_⟩
 rw [hp]
 simp; omega
theorem ynq {F G : Nat -> Prop} {w : World} {p : Nat} {L : List PE} {v : Value} {s : List Int} (h : TabAt F w p L) (hs : RdI G w v s) (hI : I64 s) (hl : s.length <= 1000) {b : Bool} (hb : begs L s = b) :
  Calls Tryz.prog 135 #[.pointer (some ⟨p, 0, none⟩), v] w fun e w' => e = .returned (.bool b) /\ Below w.heap.size w w' := by
 obtain ⟨A, c, rfl⟩ := hs.form; have hcap := (RdF.cap hs).1; have HT := zH h; have HS := zH hs; have HI := zH hI; have HB0 := zH hb
 have hlI : (s.length : Int) <= 1000 := by omega
 clear h hs hI hb
 go_enter Tryz.func135, Tryz.ntmps135
 go_wp2
 go_loopw [5] (fun i wr => ∃ m : Nat, 1 <= m /\ m <= s.length + 1 /\ i = .int .i64 (m : Nat) /\ Hid (begTo L s m = true) /\ Hid (Below w.heap.size w wr)) (fun i _ => s.length + 1 - (intOf i).toNat)
 case atStart => exact ⟨1, zN _, by omega, rfl, rfl, zR _ _⟩
 case round =>
  obtain ⟨m, hm1, hm, rfl, HB, HW⟩ := hrel
  by_cases hlt : m < s.length
  ·have hmI : (m : Int) < (s.length : Int) := by omega
   have hmJ : (m : Int) <= (c : Int) := by omega
   have hm0 : (0 : Int) <= (m : Int) := by omega
   have HTw := zH (HT.out.below HW.out (zN _)); have HSm := zH ((HS.out.below HW.out (zN _)).take (Nat.le_of_lt hlt))
   cases hp : place L (s.take m) with
   | none =>
    have HC := zH (yku hp HTw.out HSm.out (ype HI.out _) (by rw [List.length_take]; omega))
    have HN : Hid (false = b) := by show _ = _; rw [<- HB0.out]; exact (ywt hm1 hlt hp).symm
    clear hp hlt
    go_wp2_with (go_at_call 181; refine (HC.out).mono ?_; rintro e w1 ⟨⟨i, rfl⟩, hb⟩; have HB2 := zH (HW.out.trans (hb.mono HW.out.size)); clear hb)
    go_ret
    exact ⟨by rw [<- HN.out]; rfl, HB2.out⟩
   | some k =>
    have HC := zH (ykt hp HTw.out HSm.out)
    have HN : Hid (begTo L s (m + 1) = true) := by show _ = _; rw [yjp, HB.out, hp]; simp
    clear hp hlt
    go_wp2_with (go_at_call 181; refine (HC.out).mono ?_; rintro e w1 ⟨rfl, hb⟩; have HB2 := zH (HW.out.trans (hb.mono HW.out.size)); clear hb)
    go_roundw
    case rel => exact ⟨m + 1, by omega, by omega, by go_num, HN.out, HB2.out⟩
    case measure => simp [intOf]; omega
  ·have HN : Hid (true = b) := by show _ = _; rw [<- HB0.out, ynz]; exact (begTo_le (by omega) HB.out).symm
   have hmI : ¬ (m : Int) < (s.length : Int) := by omega
   clear hlt
   go_wp2
   go_ret
   exact ⟨by rw [<- HN.out]; rfl, HW.out⟩
theorem yfo {L : List PE} {e : PE} {k : Nat} (he : L[k]? = some e) (h : goodE L e = false) : checkP L = 3 := by
 unfold checkP; rw [if_neg]; rw [List.all_eq_true]; exact fun hh => by have := hh e (List.mem_of_getElem? he); rw [h] at this; cases this
set_option maxHeartbeats 1000000 in
theorem ymj {F : Nat -> Prop} {w : World} {p : Nat} {L : List PE} (h : TabAt F w p L) {r : Int} (hr : checkP L = r) :
  Calls Tryz.prog 86 #[.pointer (some ⟨p, 0, none⟩)] w fun e w' => e = .returned (.int .i64 r) /\ Below w.heap.size w w' := by
 obtain ⟨A1, c1, bo, b2, b3, d0, -, -, -, hrt, -, -, -⟩ := h.cells; have HT := zH h; have HE := zH hrt; have HR := zH hr
 have hlen : (L.length : Int) <= 500 := by have := h.good.len; omega
 clear h hrt hr
 go_enter Tryz.func86, Tryz.ntmps86
 go_wp2
 clear d0
 go_loopw [10] (fun i wr => ∃ k : Nat, k <= L.length /\ i = .int .i64 (k : Nat) /\ Hid ((L.take k).all (goodE L) = true) /\ Hid (Below w.heap.size w wr)) (fun i _ => L.length - (intOf i).toNat)
 case atStart => exact ⟨0, Nat.zero_le _, rfl, rfl, zR _ _⟩
 case round =>
  obtain ⟨k, hk, rfl, HA, HW⟩ := hrel
  by_cases hlt : k < L.length
  ·obtain ⟨e, he⟩ : ∃ e, L[k]? = some e := ⟨_, List.getElem?_eq_getElem hlt⟩; obtain ⟨g, o, vs, vl, rfl, c0, c2, hrs, hrl⟩ := (HE.out.below HW.out (zN _)).at he; obtain ⟨a1, n1, rfl⟩ := hrs.form; obtain ⟨a2, n2, rfl⟩ := hrl.form
   have hkI : (k : Int) < (L.length : Int) := by omega
   have hq := HT.out.good.seq e (List.mem_of_getElem? he); have hw := HT.out.good.els e (List.mem_of_getElem? he)
   have hA : Below wr.heap.size wr (wr.alloc (.cells #[.slice a1 e.1.length n1, .slice a2 e.2.length n2] 88)) := (zR _ wr).alloc (zN _) _
   have HWA := zH (HW.out.trans (hA.mono HW.out.size))
   have htk : (L.take (k + 1)).all (goodE L) = ((L.take k).all (goodE L) && goodE L e) := by rw [List.take_add_one, he, List.all_append]; simp
   obtain ⟨t1, ht1⟩ : ∃ t1, e.2.all okW = t1 := ⟨_, rfl⟩; obtain ⟨t2, ht2⟩ : ∃ t2, begs L e.1 = t2 := ⟨_, rfl⟩
   have hge : goodE L e = (t1 && t2) := by unfold goodE; rw [ht1, ht2]
   have HC := zH (ymc (hrl.below hA (zN _)) (by omega) hw.2)
   have HH := zH (ynq (HT.out.below HWA.out (zN _)) (hrs.below hA (zN _)) (sg_i64 hq.2.2) (by omega) ht2)
   rw [ht1] at HC; obtain ⟨x1, hx1⟩ : ∃ x1, e.1.length = x1 := ⟨_, rfl⟩; obtain ⟨x2, hx2⟩ : ∃ x2, e.2.length = x2 := ⟨_, rfl⟩; rw [hx1] at c0 HWA HC HH; rw [hx2] at c2 HWA HC HH
   cases t1 with
   | false =>
    have HN : Hid (3 = r) := by show _ = _; rw [<- HR.out]; exact (yfo he (by rw [hge]; rfl)).symm
    clear he hrs hrl hq hw hA htk ht1 ht2 hge hx1 hx2 hlt
    go_wp2_with (go_at_call 133; refine (HC.out).mono ?_; rintro e w' ⟨rfl, rfl⟩)
    go_ret
    exact ⟨by rw [<- HN.out]; rfl, HWA.out⟩
   | true =>
    cases t2 with
    | false =>
     have HN : Hid (3 = r) := by show _ = _; rw [<- HR.out]; exact (yfo he (by rw [hge]; rfl)).symm
     clear he hrs hrl hq hw hA htk ht1 ht2 hge hx1 hx2 hlt
     go_wp2_with (first
      | (go_at_call 133; refine (HC.out).mono ?_; rintro e w' ⟨rfl, rfl⟩)
      | (go_at_call 135; refine (HH.out).mono ?_; rintro e w1 ⟨rfl, hb⟩; have HB2 := zH (HWA.out.trans (hb.mono HWA.out.size)); clear hb))
     go_ret
     exact ⟨by rw [<- HN.out]; rfl, HB2.out⟩
    | true =>
     have HN : Hid ((L.take (k + 1)).all (goodE L) = true) := by show _ = _; rw [htk, HA.out, hge]; rfl
     clear he hrs hrl hq hw hA htk ht1 ht2 hge hx1 hx2 hlt
     go_wp2_with (first
      | (go_at_call 133; refine (HC.out).mono ?_; rintro e w' ⟨rfl, rfl⟩)
      | (go_at_call 135; refine (HH.out).mono ?_; rintro e w1 ⟨rfl, hb⟩; have HB2 := zH (HWA.out.trans (hb.mono HWA.out.size)); clear hb))
     go_roundw
     case rel => exact ⟨k + 1, by omega, by go_num, HN.out, HB2.out⟩
     case measure => simp [intOf]; omega
  ·obtain rfl : k = L.length := by omega
   have HN : Hid (0 = r) := by
    have := HA.out
    rw [List.take_length] at this
    show _ = _
    rw [<- HR.out]; unfold checkP; rw [if_pos this]
   clear hlt
   go_wp2
   go_ret
   exact ⟨by rw [<- HN.out]; rfl, HW.out⟩
theorem yab {w w' : World} {p : Addr} {u : Value} (hb : Below w.heap.size w w') (h : w.cell? p = some u) : w'.cell? p = some u := (hb.cell (yaj h)).trans h
theorem yfj : (Tryz.prog.info? 3).map (fun i => (i.zero, i.size, i.bytes)) = some (some (.int .i64 0), 1, 8) := by kernel_rfl
theorem yrn (n c : Nat) (w : World) : Calls Tryz.prog 211 #[.slice none n c] w fun e w' => e = .returned (.slice none 0 0) /\ w = w' := by
 have q22 : ∀ (w : World) (a : Option Addr) (n c n' c' : Nat), (binOp .eql 29 (.slice a n c) (.slice none n' c')).run Tryz.prog w = .ok (.bool a.isNone) w := fun w a n c n' c' => Lib.run_eql_slice_nil w _ _ a n c n' c' Tryz.underlying29
 go_enter Tryz.func211, Tryz.ntmps211
 go_wp2
 go_ret
 exact ⟨rfl, rfl⟩
theorem ynw (ad : Addr) (n : Nat) (xs : List Value) (c : Nat) (w : World) (hn : n <= 1000000) (hl : xs.length = n * 1) (h1 : ∀ u ∈ xs, u.oneCell' = true) (hc : ∀ j u, xs[j]? = some u -> w.cell? (ad.add j) = some u) :
  Calls Tryz.prog 211 #[.slice (some ad) n c] w fun e w' => (∃ v, e = .returned v /\ w'.ownsRow w.heap.size 3 1 v n xs) /\ Below w.heap.size w w' := by
 have q22 : ∀ (w : World) (a : Option Addr) (n c n' c' : Nat), (binOp .eql 29 (.slice a n c) (.slice none n' c')).run Tryz.prog w = .ok (.bool a.isNone) w := fun w a n c n' c' => Lib.run_eql_slice_nil w _ _ a n c n' c' Tryz.underlying29
 obtain ⟨i0, hi0, hz0, hz1, hz2⟩ := info_parts yfj
 have HC : Hid (∀ j u, xs[j]? = some u -> (w.alloc (.cells #[] 3)).cell? (ad.add j) = some u) := fun j u hu => (World.grownBy_alloc w (.cells #[] 3) none).cell (hc j u hu) (by simp)
 have HI := zH hi0; have HZ0 := zH hz0; have HZ1 := zH hz1; have HZ2 := zH hz2
 have HL : Hid (0 + n <= maxLen) := by show _ <= _; simp only [maxLen]; omega
 have HL2 : Hid ((0 + n) * 8 <= 140737488355328) := by show _ <= _; omega
 have HP := zH hl; have HP1 := zH h1; clear hc hi0 hz0 hz1 hz2 hl h1
 go_enter Tryz.func211, Tryz.ntmps211
 go_wp2_with (at_builtin; refine wpList_append_own_at _ rfl _ _ 29 rfl w.heap.size 3 i0 _ 1 8 Tryz.underlying29 HI.out HZ0.out HZ1.out HZ2.out rfl (by omega) _ _ _ rfl (World.ownsRow_made w #[] 0 (zN _) (Nat.zero_le _) (by simp)) ad n c xs rfl HP.out HC.out HP1.out HL.out HL2.out (by simp) ?_; intro v' w1 hown hgrow hnil hat)
 go_ret
 refine ⟨⟨v', rfl, ?_⟩, ?_⟩
 ·have := hown
  rw [Nat.zero_add, List.nil_append] at this; exact this
 ·exact ((zR _ w).alloc (zN _) _).grown hgrow (by simp) (by intro k hk; cases hk; exact zN _)
theorem yro {F : Nat -> Prop} {w : World} {v : Value} {n : Nat} {xs : List Value} (h : RdF F w v n xs) (hn : n <= 1000000) (hl : xs.length = n * 1) (h1 : ∀ u ∈ xs, u.oneCell' = true) :
  Calls Tryz.prog 211 #[v] w fun e w' => (∃ v', e = .returned v' /\ w'.ownsRow w.heap.size 3 1 v' n xs) /\ Below w.heap.size w w' := by
 obtain ⟨A, c, rfl, hc, hr⟩ := h
 cases A with
 | none =>
  have h0 : n = 0 := by
   rcases Nat.eq_zero_or_pos n with h0 | h0
   ·exact h0
   ·obtain ⟨g, o, e, _⟩ := hr h0; cases e
  subst h0; obtain rfl : xs = [] := List.eq_nil_of_length_eq_zero (by omega)
  exact (yrn 0 c w).mono fun e w' ⟨he, hw⟩ => ⟨⟨_, he, by subst hw; exact World.ownsRow_nil w _ _ _⟩, by subst hw; exact zR _ _⟩
 | some ad =>
  refine ynw ad n xs c w hn hl h1 fun j u hu => ?_
  have h0 : 0 < n := by
   have := (List.getElem?_eq_some_iff.1 hu).1
   rcases Nat.eq_zero_or_pos n with h0 | h0
   ·subst h0; omega
   ·exact h0
  obtain ⟨g, o, e, -, hcell⟩ := hr h0
  cases e
  rw [Addr.add_lit]; exact hcell j u hu
theorem yrp (n c : Nat) (w : World) : Calls Tryz.prog 212 #[.slice none n c] w fun e w' => e = .returned (.slice none 0 0) /\ w = w' := by
 have q22 : ∀ (w : World) (a : Option Addr) (n c n' c' : Nat), (binOp .eql 86 (.slice a n c) (.slice none n' c')).run Tryz.prog w = .ok (.bool a.isNone) w := fun w a n c n' c' => Lib.run_eql_slice_nil w _ _ a n c n' c' Tryz.underlying86
 go_enter Tryz.func212, Tryz.ntmps212
 go_wp2
 go_ret
 exact ⟨rfl, rfl⟩
theorem ynx (ad : Addr) (n : Nat) (xs : List Value) (c : Nat) (w : World) (hn : n <= 1000000) (hl : xs.length = n * 1) (h1 : ∀ u ∈ xs, u.oneCell' = true) (hc : ∀ j u, xs[j]? = some u -> w.cell? (ad.add j) = some u) :
  Calls Tryz.prog 212 #[.slice (some ad) n c] w fun e w' => (∃ v, e = .returned v /\ w'.ownsRow w.heap.size 168 1 v n xs) /\ Below w.heap.size w w' := by
 have q22 : ∀ (w : World) (a : Option Addr) (n c n' c' : Nat), (binOp .eql 86 (.slice a n c) (.slice none n' c')).run Tryz.prog w = .ok (.bool a.isNone) w := fun w a n c n' c' => Lib.run_eql_slice_nil w _ _ a n c n' c' Tryz.underlying86
 obtain ⟨i0, hi0, hz0, hz1, hz2⟩ := info_parts yde
 have HC : Hid (∀ j u, xs[j]? = some u -> (w.alloc (.cells #[] 168)).cell? (ad.add j) = some u) := fun j u hu => (World.grownBy_alloc w (.cells #[] 168) none).cell (hc j u hu) (by simp)
 have HI := zH hi0; have HZ0 := zH hz0; have HZ1 := zH hz1; have HZ2 := zH hz2
 have HL : Hid (0 + n <= maxLen) := by show _ <= _; simp only [maxLen]; omega
 have HL2 : Hid ((0 + n) * 4 <= 140737488355328) := by show _ <= _; omega
 have HP := zH hl; have HP1 := zH h1; clear hc hi0 hz0 hz1 hz2 hl h1
 go_enter Tryz.func212, Tryz.ntmps212
 go_wp2_with (at_builtin; refine wpList_append_own_at _ rfl _ _ 86 rfl w.heap.size 168 i0 _ 1 4 Tryz.underlying86 HI.out HZ0.out HZ1.out HZ2.out rfl (by omega) _ _ _ rfl (World.ownsRow_made w #[] 0 (zN _) (Nat.zero_le _) (by simp)) ad n c xs rfl HP.out HC.out HP1.out HL.out HL2.out (by simp) ?_; intro v' w1 hown hgrow hnil hat)
 go_ret
 refine ⟨⟨v', rfl, ?_⟩, ?_⟩
 ·have := hown
  rw [Nat.zero_add, List.nil_append] at this; exact this
 ·exact ((zR _ w).alloc (zN _) _).grown hgrow (by simp) (by intro k hk; cases hk; exact zN _)
theorem yrq {F : Nat -> Prop} {w : World} {v : Value} {n : Nat} {xs : List Value} (h : RdF F w v n xs) (hn : n <= 1000000) (hl : xs.length = n * 1) (h1 : ∀ u ∈ xs, u.oneCell' = true) :
  Calls Tryz.prog 212 #[v] w fun e w' => (∃ v', e = .returned v' /\ w'.ownsRow w.heap.size 168 1 v' n xs) /\ Below w.heap.size w w' := by
 obtain ⟨A, c, rfl, hc, hr⟩ := h
 cases A with
 | none =>
  have h0 : n = 0 := by
   rcases Nat.eq_zero_or_pos n with h0 | h0
   ·exact h0
   ·obtain ⟨g, o, e, _⟩ := hr h0; cases e
  subst h0; obtain rfl : xs = [] := List.eq_nil_of_length_eq_zero (by omega)
  exact (yrp 0 c w).mono fun e w' ⟨he, hw⟩ => ⟨⟨_, he, by subst hw; exact World.ownsRow_nil w _ _ _⟩, by subst hw; exact zR _ _⟩
 | some ad =>
  refine ynx ad n xs c w hn hl h1 fun j u hu => ?_
  have h0 : 0 < n := by
   have := (List.getElem?_eq_some_iff.1 hu).1
   rcases Nat.eq_zero_or_pos n with h0 | h0
   ·subst h0; omega
   ·exact h0
  obtain ⟨g, o, e, -, hcell⟩ := hr h0
  cases e
  rw [Addr.add_lit]; exact hcell j u hu
theorem yrl (n c : Nat) (w : World) : Calls Tryz.prog 127 #[.slice none n c] w fun e w' => e = .returned (.slice none 0 0) /\ w = w' := by
 have q22 : ∀ (w : World) (a : Option Addr) (n c n' c' : Nat), (binOp .eql 83 (.slice a n c) (.slice none n' c')).run Tryz.prog w = .ok (.bool a.isNone) w := fun w a n c n' c' => Lib.run_eql_slice_nil w _ _ a n c n' c' Tryz.underlying83
 go_enter Tryz.func127, Tryz.ntmps127
 go_wp2
 go_ret
 exact ⟨rfl, rfl⟩
theorem ynv (ad : Addr) (n : Nat) (xs : List Value) (c : Nat) (w : World) (hn : n <= 1000000) (hl : xs.length = n * 2) (h1 : ∀ u ∈ xs, u.oneCell' = true) (hc : ∀ j u, xs[j]? = some u -> w.cell? (ad.add j) = some u) :
  Calls Tryz.prog 127 #[.slice (some ad) n c] w fun e w' => (∃ v, e = .returned v /\ w'.ownsRow w.heap.size 88 2 v n xs) /\ Below w.heap.size w w' := by
 have q22 : ∀ (w : World) (a : Option Addr) (n c n' c' : Nat), (binOp .eql 83 (.slice a n c) (.slice none n' c')).run Tryz.prog w = .ok (.bool a.isNone) w := fun w a n c n' c' => Lib.run_eql_slice_nil w _ _ a n c n' c' Tryz.underlying83
 obtain ⟨i0, hi0, hz0, hz1, hz2⟩ := info_parts ybm
 have HC : Hid (∀ j u, xs[j]? = some u -> (w.alloc (.cells #[] 88)).cell? (ad.add j) = some u) := fun j u hu => (World.grownBy_alloc w (.cells #[] 88) none).cell (hc j u hu) (by simp)
 have HI := zH hi0; have HZ0 := zH hz0; have HZ1 := zH hz1; have HZ2 := zH hz2
 have HL : Hid (0 + n <= maxLen) := by show _ <= _; simp only [maxLen]; omega
 have HL2 : Hid ((0 + n) * 48 <= 140737488355328) := by show _ <= _; omega
 have HP := zH hl; have HP1 := zH h1; clear hc hi0 hz0 hz1 hz2 hl h1
 go_enter Tryz.func127, Tryz.ntmps127
 go_wp2_with (at_builtin; refine wpList_append_own_at _ rfl _ _ 83 rfl w.heap.size 88 i0 _ 2 48 Tryz.underlying83 HI.out HZ0.out HZ1.out HZ2.out rfl (by omega) _ _ _ rfl (World.ownsRow_made w #[] 0 (zN _) (Nat.zero_le _) (by simp)) ad n c xs rfl HP.out HC.out HP1.out HL.out HL2.out (by simp) ?_; intro v' w1 hown hgrow hnil hat)
 go_ret
 refine ⟨⟨v', rfl, ?_⟩, ?_⟩
 ·have := hown
  rw [Nat.zero_add, List.nil_append] at this; exact this
 ·exact ((zR _ w).alloc (zN _) _).grown hgrow (by simp) (by intro k hk; cases hk; exact zN _)
theorem yrm {F : Nat -> Prop} {w : World} {v : Value} {n : Nat} {xs : List Value} (h : RdF F w v n xs) (hn : n <= 1000000) (hl : xs.length = n * 2) (h1 : ∀ u ∈ xs, u.oneCell' = true) :
  Calls Tryz.prog 127 #[v] w fun e w' => (∃ v', e = .returned v' /\ w'.ownsRow w.heap.size 88 2 v' n xs) /\ Below w.heap.size w w' := by
 obtain ⟨A, c, rfl, hc, hr⟩ := h
 cases A with
 | none =>
  have h0 : n = 0 := by
   rcases Nat.eq_zero_or_pos n with h0 | h0
   ·exact h0
   ·obtain ⟨g, o, e, _⟩ := hr h0; cases e
  subst h0; obtain rfl : xs = [] := List.eq_nil_of_length_eq_zero (by omega)
  exact (yrl 0 c w).mono fun e w' ⟨he, hw⟩ => ⟨⟨_, he, by subst hw; exact World.ownsRow_nil w _ _ _⟩, by subst hw; exact zR _ _⟩
 | some ad =>
  refine ynv ad n xs c w hn hl h1 fun j u hu => ?_
  have h0 : 0 < n := by
   have := (List.getElem?_eq_some_iff.1 hu).1
   rcases Nat.eq_zero_or_pos n with h0 | h0
   ·subst h0; omega
   ·exact h0
  obtain ⟨g, o, e, -, hcell⟩ := hr h0
  cases e
  rw [Addr.add_lit]; exact hcell j u hu
theorem yfn {F : Nat -> Prop} {w : World} {v : Value} {l : List Int} (h : RdI F w v l) (hn : l.length <= 1000000) :
  Calls Tryz.prog 211 #[v] w fun e w' => (∃ v', e = .returned v' /\ T2.OwnI w.heap.size w' v' l) /\ Below w.heap.size w w' :=
 yro h hn (by rw [iv_len]; omega) fun u hu => by obtain ⟨k, _, rfl⟩ := List.mem_map.1 hu; rfl
theorem yed {F : Nat -> Prop} {w : World} {v : Value} {l : List Nat} (h : RdE F w v l) (hn : l.length <= 1000000) :
  Calls Tryz.prog 212 #[v] w fun e w' => (∃ v', e = .returned v' /\ OwnE w.heap.size w' v' l) /\ Below w.heap.size w w' :=
 yrq h hn (by rw [ev_len]; omega) (ev_one l)
theorem yec {F : Nat -> Prop} {w : World} {v : Value} {M : List ME} (h : RdM F w v M) (hn : M.length <= 1000000) :
  Calls Tryz.prog 127 #[v] w fun e w' => (∃ v', e = .returned v' /\ OwnM w.heap.size w' v' M) /\ Below w.heap.size w w' :=
 yrm h.1 hn (yaq M) (ydb h.2)
def q4 (x : Nat) : List Value := [.int .i64 ((x / 65536 : Nat) : Int), .int .i64 ((x / 256 % 256 : Nat) : Int), .int .i64 ((x / 2 % 128 : Nat) : Int), .bool (decide (x % 2 = 1))]
def qcells (l : List Nat) : List Value := l.flatMap q4
theorem yjb (a b : List Nat) : qcells (a ++ b) = qcells a ++ qcells b := by simp [qcells]
theorem yam (x : Nat) (t : List Nat) : qcells (x :: t) = q4 x ++ qcells t := rfl
theorem ycz (l : List Nat) : (qcells l).length = l.length * 4 := by
 induction l with
 | nil => rfl
 | cons p t ih => rw [yam, List.length_append, ih]; simp [q4]; omega
theorem yqq (l : List Nat) : ∀ u ∈ qcells l, u.oneCell' = true := by
 intro u hu; obtain ⟨x, _, hx⟩ := List.mem_flatMap.1 hu
 simp [q4] at hx
 rcases hx with rfl | rfl | rfl | rfl <;> rfl
theorem ytx {l : List Nat} {k x : Nat} (h : l[k]? = some x) : (qcells l)[k * 4]? = some (.int .i64 ((x / 65536 : Nat) : Int)) /\ (qcells l)[k * 4 + 1]? = some (.int .i64 ((x / 256 % 256 : Nat) : Int)) /\ (qcells l)[k * 4 + 2]? = some (.int .i64 ((x / 2 % 128 : Nat) : Int)) /\ (qcells l)[k * 4 + 3]? = some (.bool (decide (x % 2 = 1))) := by
 induction l generalizing k with
 | nil => simp at h
 | cons y t ih =>
  cases k with
  | zero => simp at h; subst h; exact ⟨rfl, rfl, rfl, rfl⟩
  | succ k =>
   obtain ⟨h1, h2, h3, h4⟩ := ih (k := k) (by simpa using h)
   rw [yam]
   have hl : (q4 y).length = 4 := rfl
   refine ⟨?_, ?_, ?_, ?_⟩
   all_goals rw [List.getElem?_append_right (by rw [hl]; omega), hl]
   ·rw [show (k + 1) * 4 - 4 = k * 4 by omega]; exact h1
   ·rw [show (k + 1) * 4 + 1 - 4 = k * 4 + 1 by omega]; exact h2
   ·rw [show (k + 1) * 4 + 2 - 4 = k * 4 + 2 by omega]; exact h3
   ·rw [show (k + 1) * 4 + 3 - 4 = k * 4 + 3 by omega]; exact h4
def RdQ (F : Nat -> Prop) (w : World) (v : Value) (l : List Nat) : Prop := RdF F w v l.length (qcells l)
def OwnQ (B : Nat) (w : World) (v : Value) (l : List Nat) : Prop := w.ownsRow B 77 4 v l.length (qcells l)
theorem RdQ.below {F : Nat -> Prop} {B : Nat} {w w' : World} {v : Value} {l : List Nat} (h : RdQ F w v l) (hb : Below B w w') (hB : w.heap.size <= B) : RdQ F w' v l := RdF.below h hb hB
theorem RdQ.form {F : Nat -> Prop} {w : World} {v : Value} {l : List Nat} (h : RdQ F w v l) : ∃ A c, v = .slice A l.length c := RdF.form h
theorem OwnQ.rd {B : Nat} {F : Nat -> Prop} {w : World} {v : Value} {l : List Nat} (h : OwnQ B w v l) (hF : ∀ g, B <= g -> F g) : RdQ F w v l := RdF.of_own h hF
theorem OwnQ.form {B : Nat} {w : World} {v : Value} {l : List Nat} (h : OwnQ B w v l) : ∃ A c, v = .slice A l.length c := by
 obtain ⟨A, c, e, _⟩ := R4.yai h; exact ⟨A, c, e⟩
theorem RdQ.at {F : Nat -> Prop} {w : World} {A : Option Addr} {n c : Nat} {l : List Nat} (h : RdQ F w (.slice A n c) l) {k : Nat} {x : Nat} (hk : l[k]? = some x) : ∃ g o : Nat, A = some ⟨g, o, none⟩ /\ w.cell? ⟨g, o + k * 4, none⟩ = some (.int .i64 ((x / 65536 : Nat) : Int)) ∧
  w.cell? ⟨g, o + k * 4 + 1, none⟩ = some (.int .i64 ((x / 256 % 256 : Nat) : Int)) /\ w.cell? ⟨g, o + k * 4 + 2, none⟩ = some (.int .i64 ((x / 2 % 128 : Nat) : Int)) /\ w.cell? ⟨g, o + k * 4 + 3, none⟩ = some (.bool (decide (x % 2 = 1))) := by
 have := (List.getElem?_eq_some_iff.1 hk).1
 obtain ⟨g, o, e, _, hx⟩ := RdF.base h (by omega)
 obtain ⟨h1, h2, h3, h4⟩ := ytx hk; exact ⟨g, o, e, hx _ _ h1, by rw [Nat.add_assoc]; exact hx _ _ h2, by rw [Nat.add_assoc]; exact hx _ _ h3, by rw [Nat.add_assoc]; exact hx _ _ h4⟩
theorem q4_mk {p s t : Nat} (hp : p < 65536) (hs : s < 256) (ht : t < 128) : q4 (E3.mk p s t 0) = [.int .i64 (p : Int), .int .i64 (s : Int), .int .i64 (t : Int), .bool false] := by
 unfold q4 E3.mk; rw [show (p * 65536 + s * 256 + t * 2 + 0) / 65536 = p by omega, show (p * 65536 + s * 256 + t * 2 + 0) / 256 % 256 = s by omega, show (p * 65536 + s * 256 + t * 2 + 0) / 2 % 128 = t by omega, show decide ((p * 65536 + s * 256 + t * 2 + 0) % 2 = 1) = false by simp; omega]
def SamS (g1 o1 g2 o2 : Nat) (x p s t : Int) (v : Bool) (wr w' : World) : Prop :=
 w'.cell? ⟨g1, o1, none⟩ = some (.int .u32 x) /\ w'.cell? ⟨g2, o2, none⟩ = some (.int .i64 p) /\ w'.cell? ⟨g2, o2 + 1, none⟩ = some (.int .i64 s) /\ w'.cell? ⟨g2, o2 + 2, none⟩ = some (.int .i64 t) /\ w'.cell? ⟨g2, o2 + 3, none⟩ = some (.bool v) /\ Below wr.heap.size wr w'
theorem SamS.call {g1 o1 g2 o2 : Nat} {x p s t : Int} {v : Bool} {wr w1 w2 : World} (hb : Below w1.heap.size w1 w2) (h : SamS g1 o1 g2 o2 x p s t v wr w1) : SamS g1 o1 g2 o2 x p s t v wr w2 :=
 ⟨yab hb h.1, yab hb h.2.1, yab hb h.2.2.1, yab hb h.2.2.2.1, yab hb h.2.2.2.2.1, h.2.2.2.2.2.trans (hb.mono h.2.2.2.2.2.size)⟩
attribute [local go_sem ↓] Go.wp_at_zero Go.wp_at_succ
end Go.Proofs.YteibnfeokgibmaaGreat
