/-
  THE DOCUMENT's TABLE in memory; the contracts of its before, letter and mark.
-/
import Derived.Test.YtaabdpfhpolcgaaGreatBAny
import Derived.Test.YtaabdpfhpolcgaaGreatBSameC
import Derived.Deep.QuietTactic
import Derived.BigQuiet
namespace Go.Proofs.YtaabdpfhpolcgaaGreat
open Go.RowKit
set_option linter.unusedVariables false
set_option linter.unusedSimpArgs false
/-- Block k holds what the document's tables are made of. -/
def KR (w : World) (k : Nat) : Prop := ∃ cs T fr, w.heap[k]? = some (.cells cs T fr) ∧ (T = 70 ∨ T = 72 ∨ T = 3)
/-- .. and is one of the kind U. -/
def KRU (U : Nat → Prop) (w : World) (k : Nat) : Prop := U k ∧ KR w k
theorem RdF.kstep {U : Nat → Prop} {w w' : World} {v : Value} {n : Nat} {xs : List Value} (hr : RdF (KRU U w) w v n xs) (hf : ∀ k, U k → KR w k → k < w.heap.size → w'.heap[k]? = w.heap[k]?) : RdF (KRU U w') w' v n xs := by
  obtain ⟨A, c, rfl, hc, hr⟩ := hr
  refine ⟨A, c, rfl, hc, fun h0 => ?_⟩
  obtain ⟨g, o, e, ⟨hU, hg⟩, hx⟩ := hr h0
  have hg0 := hg
  obtain ⟨cs, T, fr, h1, h2⟩ := hg
  have e2 := hf g hU hg0 (R4.heap_lt h1)
  refine ⟨g, o, e, ⟨hU, cs, T, fr, e2.trans h1, h2⟩, fun j u hu => ?_⟩
  rw [World.cell?_of_block (w := w) (a := ⟨g, o + j, none⟩) e2]
  exact hx j u hu
theorem RdF.kown {U : Nat → Prop} {B : Nat} {w : World} {e : TypeId} {s : Nat} {v : Value} {n : Nat} {xs : List Value} (h : w.ownsRow B e s v n xs) (he : e = 70 ∨ e = 72 ∨ e = 3) (hU : ∀ k, B ≤ k → U k) : RdF (KRU U w) w v n xs := by
  obtain ⟨A, c, rfl, hc, hr⟩ := R4.own_parts h
  refine ⟨A, c, rfl, hc, fun h0 => ?_⟩
  obtain ⟨g, e', hg, hl, hx⟩ := hr h0
  obtain ⟨cur, h1⟩ := R4.own_block h (g := g) (by rw [e']; rfl)
  exact ⟨g, 0, e', ⟨hU g hg, _, _, _, h1, he⟩, fun j u hu => by rw [Nat.zero_add]; exact hx j u hu⟩
/-- An entry of the document's table. -/
def EntU (U : Nat → Prop) (w : World) (m : ME) : Prop := RdF (KRU U w) w m.vs m.s.length (iv m.s) ∧ RdF (KRU U w) w m.vl m.l.length (qcells m.l)
theorem EntU.step {U : Nat → Prop} {w w' : World} {m : ME} (h : EntU U w m) (hf : ∀ k, U k → KR w k → k < w.heap.size → w'.heap[k]? = w.heap[k]?) : EntU U w' m := ⟨RdF.kstep h.1 hf, RdF.kstep h.2 hf⟩
theorem EntU.below {U : Nat → Prop} {B : Nat} {w w' : World} {m : ME} (h : EntU U w m) (hb : Below B w w') (hB : w.heap.size ≤ B) : EntU U w' m := h.step fun k _ _ hk => hb.block k (by omega)
theorem EntU.ints {U : Nat → Prop} {w : World} {m : ME} (h : EntU U w m) : RdI anyB w m.vs m.s := RdF.any h.1
theorem EntU.els {U : Nat → Prop} {w : World} {m : ME} (h : EntU U w m) : RdQ anyB w m.vl m.l := RdF.any h.2
theorem EntU.one {U : Nat → Prop} {w : World} {m : ME} (h : EntU U w m) : m.vs.oneCell' = true ∧ m.vl.oneCell' = true := by
  obtain ⟨A, c, e⟩ := h.1.form
  obtain ⟨A', c', e'⟩ := h.2.form
  rw [e, e']
  exact ⟨rfl, rfl⟩
theorem qentries_one {U : Nat → Prop} {w : World} {M : List ME} (h : ∀ m ∈ M, EntU U w m) : ∀ u ∈ mcells M, u.oneCell' = true := by
  intro u hu
  obtain ⟨p, hp, hq⟩ := List.mem_flatMap.1 hu
  have := (h p hp).one
  simp at hq
  rcases hq with rfl | rfl
  · exact this.1
  · exact this.2
def RdN (U : Nat → Prop) (w : World) (v : Value) (M : List ME) : Prop := RdF (KRU U w) w v M.length (mcells M) ∧ ∀ m ∈ M, EntU U w m
def RefU (U : Nat → Prop) (w : World) (v : Value) (L : List PE) : Prop := ∃ M, pls M = L ∧ RdN U w v M
abbrev RefT (w : World) (v : Value) (L : List PE) : Prop := RefU anyB w v L
theorem RdN.step {U : Nat → Prop} {w w' : World} {v : Value} {M : List ME} (h : RdN U w v M) (hf : ∀ k, U k → KR w k → k < w.heap.size → w'.heap[k]? = w.heap[k]?) : RdN U w' v M := ⟨RdF.kstep h.1 hf, fun m hm => (h.2 m hm).step hf⟩
theorem RdN.below {U : Nat → Prop} {B : Nat} {w w' : World} {v : Value} {M : List ME} (h : RdN U w v M) (hb : Below B w w') (hB : w.heap.size ≤ B) : RdN U w' v M := h.step fun k _ _ hk => hb.block k (by omega)
theorem RefU.step {U : Nat → Prop} {w w' : World} {v : Value} {L : List PE} (h : RefU U w v L) (hf : ∀ k, U k → KR w k → k < w.heap.size → w'.heap[k]? = w.heap[k]?) : RefU U w' v L := by
  obtain ⟨M, e, h⟩ := h
  exact ⟨M, e, h.step hf⟩
theorem RefU.below {U : Nat → Prop} {B : Nat} {w w' : World} {v : Value} {L : List PE} (h : RefU U w v L) (hb : Below B w w') (hB : w.heap.size ≤ B) : RefU U w' v L := h.step fun k _ _ hk => hb.block k (by omega)
/-- What is written in a block of another kind leaves it. -/
theorem RefU.off {U : Nat → Prop} {w w' : World} {v : Value} {L : List PE} {b : Nat} {cs : Array Value} {T : TypeId} {fr : Nat × Nat} (h : RefU U w v L) (hg : w.grownBy w' (some b)) (hb : w.heap[b]? = some (.cells cs T fr)) (h1 : T ≠ 70) (h2 : T ≠ 72) (h3 : T ≠ 3) : RefU U w' v L := h.step fun k _ hk hl => by
  refine hg.block k hl ?_
  intro e
  injection e with e
  subst e
  obtain ⟨cs', T', fr', e1, e2⟩ := hk
  rw [hb] at e1
  injection e1 with e1
  injection e1 with _ e4 _
  subst e4
  rcases e2 with e2 | e2 | e2
  · exact h1 e2
  · exact h2 e2
  · exact h3 e2
theorem RefU.form {U : Nat → Prop} {w : World} {v : Value} {L : List PE} (h : RefU U w v L) : ∃ A c, v = .slice A L.length c := by
  obtain ⟨M, rfl, h⟩ := h
  rw [pls_len]; exact h.1.form
theorem RefT.nil (w : World) : RefT w (.slice none 0 0) [] := ⟨[], rfl, RdF.nil _ _, fun m hm => by cases hm⟩
theorem RdN.at {U : Nat → Prop} {w : World} {A : Option Addr} {n c : Nat} {M : List ME} (h : RdN U w (.slice A n c) M) {k : Nat} {m : ME} (hk : M[k]? = some m) :
    ∃ g o : Nat, A = some ⟨g, o, none⟩ ∧ w.cell? ⟨g, o + k * 2, none⟩ = some m.vs ∧ w.cell? ⟨g, o + k * 2 + 1, none⟩ = some m.vl ∧ EntU U w m := by
  have hl := (List.getElem?_eq_some_iff.1 hk).1
  obtain ⟨g, o, e, _, hx⟩ := RdF.base h.1 (by omega)
  obtain ⟨h1, h2⟩ := mcells_at hk
  exact ⟨g, o, e, hx _ _ h1, by rw [Nat.add_assoc]; exact hx _ _ h2, h.2 m (List.mem_of_getElem? hk)⟩
theorem RefU.at {U : Nat → Prop} {w : World} {A : Option Addr} {n c : Nat} {L : List PE} (h : RefU U w (.slice A n c) L) {k : Nat} {e : PE} (hk : L[k]? = some e) :
    ∃ (g o : Nat) (vs vl : Value), A = some ⟨g, o, none⟩ ∧ w.cell? ⟨g, o + k * 2, none⟩ = some vs ∧ w.cell? ⟨g, o + k * 2 + 1, none⟩ = some vl ∧ RdI anyB w vs e.1 ∧ RdQ anyB w vl e.2 := by
  obtain ⟨M, rfl, h⟩ := h
  unfold pls at hk
  rw [List.getElem?_map] at hk
  cases hm : M[k]? with
  | none => rw [hm] at hk; cases hk
  | some m =>
    rw [hm] at hk
    simp at hk
    subst hk
    obtain ⟨g, o, e, h1, h2, h3⟩ := h.at hm
    exact ⟨g, o, m.vs, m.vl, e, h1, h2, h3.ints, h3.els⟩
def SV.qs (l : List Nat) : SV := ⟨fun v w => RdQ anyB w v l, fun _ _ _ h hb => h.below hb (Nat.le_refl _)⟩
def SV.els (l : List Nat) : SV := ⟨fun v w => RdE anyB w v l, fun _ _ _ h hb => h.below hb (Nat.le_refl _)⟩
def SV.ref (L : List PE) : SV := ⟨fun v w => ∃ u, v = .agg #[u] ∧ RefT w u L, fun _ _ _ ⟨u, e, h⟩ hb => ⟨u, e, h.below hb (Nat.le_refl _)⟩⟩
theorem drewN_ex {w wr : World} (h : ∃ n, wr = w.drewN n) (k : Nat) : ∃ n, wr.drewN k = w.drewN n := by
  obtain ⟨n, rfl⟩ := h
  exact ⟨n + k, by simp [World.drewN, Nat.add_assoc]⟩
/-- whether a stands ahead of s, by the parts that before looks at. -/
theorem bef_hd {a b : List Int} (h : hd a ≠ hd b) : befB a b = decide (hd a < hd b) := by
  unfold befB ord lexC
  rw [if_neg (fun e => h (cmpI_zero.1 e))]
  simp only [cmpI_lt]
theorem bef_len {a b : List Int} (h : hd a = hd b) (hl : a.length ≠ b.length) : befB a b = decide (a.length < b.length) := by
  unfold befB ord lexC
  rw [if_pos (cmpI_zero.2 h), if_neg (fun e => hl (by have := cmpI_zero.1 e; omega))]
  simp only [cmpI_lt, Int.ofNat_lt]
theorem bef_tail {a b : List Int} (h : hd a = hd b) (hl : a.length = b.length) : befB a b = decide (cmpL a b < 0) := by
  unfold befB ord lexC
  rw [if_pos (cmpI_zero.2 h), if_pos (cmpI_zero.2 (by omega))]
set_option maxHeartbeats 1000000 in
set_option maxRecDepth 100000 in
theorem before_any {F G : Nat → Prop} {w : World} {u v : Value} {a b : List Int} (ha : RdI F w u a) (hb : RdI G w v b) (h1 : 1 ≤ a.length) (h2 : 1 ≤ b.length) (hl : a.length ≤ 1000000) (hl2 : b.length ≤ 1000000) {r : Bool} (hr : befB a b = r) :
    Calls Tryz.prog 92 #[u, v] w fun e w' => e = .returned (.bool r) ∧ ∃ n, w' = w.drewN n := by
  obtain ⟨A, c, rfl⟩ := ha.form
  obtain ⟨A', c', rfl⟩ := hb.form
  obtain ⟨x, hx⟩ : ∃ x, hd a = x := ⟨_, rfl⟩
  obtain ⟨y, hy⟩ : ∃ y, hd b = y := ⟨_, rfl⟩
  obtain ⟨g1, o1, rfl, c0⟩ := ha.at (hd_at h1)
  obtain ⟨g2, o2, rfl, d0⟩ := hb.at (hd_at h2)
  rw [hx] at c0
  rw [hy] at d0
  simp only [Nat.add_zero] at c0 d0
  have HA := Lib.hid ha
  have HB := Lib.hid hb
  have h1I : (0 : Int) < (a.length : Int) := by omega
  have h2I : (0 : Int) < (b.length : Int) := by omega
  have hlI : (a.length : Int) ≤ 1000000 := by omega
  have hlI2 : (b.length : Int) ≤ 1000000 := by omega
  by_cases exy : x = y
  · subst exy
    by_cases elen : a.length = b.length
    · have hbt := bef_tail (hx.trans hy.symm) elen
      rw [hr] at hbt
      have hs0 : cmpL (a.drop 1) (b.drop 1) = cmpL a b := by
        have h3 := cmpL_drop (hd_at h1) (hd_at h2)
        rw [hx, hy, if_pos (cmpI_self _), List.drop_zero, List.drop_zero] at h3
        exact h3.symm
      obtain ⟨q, hq⟩ : ∃ q, cmpL a b = q := ⟨_, rfl⟩
      rw [hq] at hs0 hbt
      have HS0 := Lib.hid hs0
      have HR := Lib.hid hbt
      have HLN := Lib.hid elen
      have hne : ((a.length : Int) != (b.length : Int)) = false := by rw [bne_eq_false_iff_eq]; omega
      clear ha hb hr hbt hs0 hx hy elen hq
      go_enter Tryz.func92, Tryz.ntmps92
      go_wp2
      go_quiet (fail)
      go_wp2
      clear c0 d0
      generalize hw1 : w.drewN _ = w1
      have HW1 : Hid (∃ n, w1 = w.drewN n) := ⟨_, hw1.symm⟩
      clear hw1
      go_loopw [5] (fun i wr => ∃ k : Nat, 1 ≤ k ∧ k ≤ a.length ∧ i = .int .i64 (k : Nat) ∧ Hid (cmpL (a.drop k) (b.drop k) = q) ∧ Hid (∃ n, wr = w.drewN n)) (fun i _ => a.length - (intOf i).toNat)
      case atStart => exact ⟨1, Nat.le_refl _, by omega, rfl, HS0.out, HW1.out⟩
      case round =>
        obtain ⟨k, hk1, hk, rfl, HK, HN⟩ := hrel
        by_cases hlt : k < a.length
        · obtain ⟨x, hx⟩ : ∃ x, a[k]? = some x := ⟨_, List.getElem?_eq_getElem hlt⟩
          obtain ⟨y, hy⟩ : ∃ y, b[k]? = some y := ⟨_, List.getElem?_eq_getElem (by have := HLN.out; omega)⟩
          have hbl : Below w.heap.size w wr := by obtain ⟨n, e⟩ := HN.out; rw [e]; exact below_drewN w n
          obtain ⟨g3, o3, e3, c0⟩ := (HA.out.below hbl (Nat.le_refl _)).at hx
          obtain ⟨g4, o4, e4, d0⟩ := (HB.out.below hbl (Nat.le_refl _)).at hy
          cases e3
          cases e4
          have hkI : (k : Int) < (a.length : Int) := by omega
          have hkJ : (k : Int) < (b.length : Int) := by have := HLN.out; omega
          have hcd := cmpL_drop hx hy
          rw [HK.out] at hcd
          by_cases exy : x = y
          · subst exy
            rw [if_pos (cmpI_self _)] at hcd
            have HD := Lib.hid hcd.symm
            clear hcd hx hy hbl hlt
            go_wp2
            go_quiet (fail)
            go_wp2
            go_roundw
            case rel => exact ⟨k + 1, by omega, by omega, by go_num, HD.out, drewN_ex HN.out _⟩
            case measure => simp [intOf]; omega
          · rw [if_neg (fun e => exy (cmpI_zero.1 e))] at hcd
            have hne2 : (x != y) = true := by rw [bne_iff_ne]; exact exy
            have hrr : r = decide (x < y) := by rw [HR.out, hcd]; simp only [cmpI_lt]
            have HRR := Lib.hid hrr
            clear hcd hx hy hbl hlt hrr
            go_wp2
            go_quiet (fail)
            go_wp2
            go_quiet (fail)
            go_wp2
            go_ret
            exact ⟨by rw [HRR.out]; rfl, drewN_ex (drewN_ex HN.out _) _⟩
        · obtain rfl : k = a.length := by omega
          have hrr : r = false := by
            rw [HR.out, ← HK.out, List.drop_length, List.drop_eq_nil_of_le (by have := HLN.out; omega)]; rfl
          subst hrr
          clear hlt
          go_wp2
          go_ret
          exact ⟨rfl, HN.out⟩
    · have hbt := bef_len (hx.trans hy.symm) elen
      rw [hr] at hbt
      have HR := Lib.hid hbt
      have hne : ((a.length : Int) != (b.length : Int)) = true := by rw [bne_iff_ne]; omega
      clear ha hb hr hbt hx hy elen
      go_enter Tryz.func92, Tryz.ntmps92
      go_wp2
      go_quiet (fail)
      go_wp2
      go_ret
      exact ⟨by rw [HR.out]; rfl, _, rfl⟩
  · have hbt := bef_hd (a := a) (b := b) (by rw [hx, hy]; exact exy)
    rw [hr, hx, hy] at hbt
    have HR := Lib.hid hbt
    have hne : (x != y) = true := by rw [bne_iff_ne]; exact exy
    clear ha hb hr hbt hx hy
    go_enter Tryz.func92, Tryz.ntmps92
    go_wp2
    go_quiet (fail)
    go_wp2
    go_quiet (fail)
    go_wp2
    go_ret
    exact ⟨by rw [HR.out]; rfl, drewN_ex ⟨_, rfl⟩ _⟩
end Go.Proofs.YtaabdpfhpolcgaaGreat
