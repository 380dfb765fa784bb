/-
  PACKED for a claim.
-/
import Derived.Test.YteibnfeokgibmaaGreatP29
set_option linter.unusedVariables false
set_option linter.unusedSimpArgs false
set_option maxRecDepth 100000
namespace Go.Proofs.YteibnfeokgibmaaGreat
open Go.RowKit
def NotN (w : World) (k : Nat) : Prop := ∃ cs T fr, w.heap[k]? = some (.cells cs T fr) /\ (T = 77 \/ T = 3)
theorem NotN.kr {w : World} {k : Nat} (h : NotN w k) : KR w k := by
 obtain ⟨cs, T, fr, h1, h2⟩ := h; exact ⟨cs, T, fr, h1, .inr h2⟩
theorem RdF.nstep {B : Nat} {w w' : World} {v : Value} {n : Nat} {xs : List Value} (hr : RdF (fun k => B <= k /\ NotN w k) w v n xs) (hf : ∀ k, B <= k -> NotN w k -> k < w.heap.size -> w'.heap[k]? = w.heap[k]?) : RdF (fun k => B <= k /\ NotN w' k) w' v n xs := by
 obtain ⟨A, c, rfl, hc, hr⟩ := hr; refine ⟨A, c, rfl, hc, fun h0 => ?_⟩
 obtain ⟨g, o, e, ⟨hB, hg⟩, hx⟩ := hr h0; have hg0 := hg; obtain ⟨cs, T, fr, h1, h2⟩ := hg; have e2 := hf g hB hg0 (R4.yad h1); refine ⟨g, o, e, ⟨hB, cs, T, fr, e2.trans h1, h2⟩, fun j u hu => ?_⟩
 rw [World.cell?_of_block (w := w) (a := ⟨g, o + j, none⟩) e2]; exact hx j u hu
theorem RdF.nown {B B' : Nat} {w : World} {e : TypeId} {s : Nat} {v : Value} {n : Nat} {xs : List Value} (h : w.ownsRow B e s v n xs) (he : e = 77 \/ e = 3) (hB : B' <= B) : RdF (fun k => B' <= k /\ NotN w k) w v n xs := by
 obtain ⟨A, c, rfl, hc, hr⟩ := R4.yai h; refine ⟨A, c, rfl, hc, fun h0 => ?_⟩
 obtain ⟨g, e', hg, hl, hx⟩ := hr h0; obtain ⟨cur, h1⟩ := R4.yca h (g := g) (by rw [e']; rfl)
 exact ⟨g, 0, e', ⟨by omega, _, _, _, h1, he⟩, fun j u hu => by rw [Nat.zero_add]; exact hx j u hu⟩
def EntN (B : Nat) (w : World) (m : ME) : Prop := RdF (fun k => B <= k /\ NotN w k) w m.vs m.s.length (iv m.s) /\ RdF (fun k => B <= k /\ NotN w k) w m.vl m.l.length (qcells m.l)
theorem EntN.okU {U : Nat -> Prop} {B : Nat} {w : World} {m : ME} (h : EntN B w m) (hU : ∀ k, B <= k -> U k) : EntU U w m := ⟨RdF.mono h.1 fun k hk => ⟨hU k hk.1, hk.2.kr⟩, RdF.mono h.2 fun k hk => ⟨hU k hk.1, hk.2.kr⟩⟩
theorem EntN.ok {B : Nat} {w : World} {m : ME} (h : EntN B w m) : EntU anyB w m := h.okU fun _ _ => trivial
theorem EntN.step {B : Nat} {w w' : World} {m : ME} (h : EntN B w m) (hf : ∀ k, B <= k -> NotN w k -> k < w.heap.size -> w'.heap[k]? = w.heap[k]?) : EntN B w' m := ⟨RdF.nstep h.1 hf, RdF.nstep h.2 hf⟩
theorem EntN.below {B B' : Nat} {w w' : World} {m : ME} (h : EntN B w m) (hb : Below B' w w') (hB : w.heap.size <= B') : EntN B w' m := h.step fun k _ _ hk => hb.block k (by omega)
theorem EntN.grown {B B' : Nat} {w w' : World} {v : Value} {M : List ME} {m : ME} (h : EntN B w m) (ho : OwnN B' w v M) (hg : w.grownBy w' v.ownBlock) : EntN B w' m := h.step fun k _ hk hl => by
 obtain ⟨cs, T, fr, h1, h2⟩ := hk; exact hg.block k hl (R4.yao ho h1 (by rcases h2 with e | e <;> (rw [e]; decide)))
theorem EntN.off {B b : Nat} {w w' : World} {m : ME} (h : EntN B w m) (hg : w.grownBy w' (some b)) (hb : b < B) : EntN B w' m := h.step fun k hk _ hl => hg.block k hl (by intro e; injection e with e; omega)
theorem RdF.drop2 {F : Nat -> Prop} {w : World} {A A2 : Option Addr} {n c u : Nat} {xs : List Value} (h : RdF F w (.slice A n c) n xs) (hu : u <= n) (hA : ∀ ad : Addr, A = some ad -> (if c = u then some ad else some (ad.add (u * 2))) = A2) : RdF F w (.slice A2 (n - u) (c - u)) (n - u) (xs.drop (u * 2)) := by
 obtain ⟨A', c', e, hc, h⟩ := h
 cases e
 refine ⟨A2, c - u, rfl, by omega, fun h0 => ?_⟩
 obtain ⟨g, o, e, hg, hx⟩ := h (by omega)
 have h1 := hA _ e; rw [if_neg (by omega), Addr.add_lit] at h1
 refine ⟨g, o + u * 2, h1.symm, hg, fun j x hx' => ?_⟩
 rw [Nat.add_assoc]; refine hx _ _ ?_
 rwa [List.getElem?_drop] at hx'
theorem ybs (M : List ME) (u : Nat) : mcells (M.drop u) = (mcells M).drop (u * 2) := by
 induction u generalizing M with
 | zero => simp
 | succ u ih =>
  cases M with
  | nil => simp [mcells]
  | cons m t => rw [List.drop_succ_cons, ih, yes, show (u + 1) * 2 = u * 2 + 1 + 1 by omega]; rfl
theorem yop (w : World) (A : Option Addr) (c : Nat) : RdF anyB w (.slice A 0 c) 0 (mcells []) := ⟨A, c, rfl, Nat.zero_le _, fun h => absurd h (Nat.lt_irrefl _)⟩
theorem ygt {U : Nat -> Prop} {w w2 w9 : World} {M N : List ME} {k b1 : Nat} {x : ME} {v : Value} {R : List PE} {y : Value} (hU : ∀ k, w2.heap.size <= k -> U k) (hM : ∀ m ∈ M, EntU U w m) (hb : Below w.heap.size w w9) (hw : w.heap.size <= b1) (hb1 : b1 < w2.heap.size) (ho : OwnN w2.heap.size w9 v (M.take k ++ [x] ++ N)) (hx : EntN w2.heap.size w9 x) (hR : pls (M.take k ++ [x] ++ N) = R) (hN : ∀ m ∈ N, m ∈ M) :
  RefU U (w9.setCell ⟨b1, 0, none⟩ y) v R /\ Below w.heap.size w (w9.setCell ⟨b1, 0, none⟩ y) := by
 have hg := R4.yae w9 ⟨b1, 0, none⟩ y
 have hbl : Below w.heap.size w (w9.setCell ⟨b1, 0, none⟩ y) := hb.setCell hw _
 refine ⟨⟨_, hR, ?_, fun m hm => ?_⟩, hbl⟩
 ·exact RdF.kown (yce ho hg hb1) (.inl rfl) hU
 ·have hold : m ∈ M -> EntU U (w9.setCell ⟨b1, 0, none⟩ y) m := fun h => (hM m h).below hbl (zN _)
  rcases List.mem_append.1 hm with hm | hm
  ·rcases List.mem_append.1 hm with hm | hm
   ·exact hold (List.mem_of_mem_take hm)
   ·simp at hm
    subst hm; exact (hx.off hg hb1).okU hU
  ·exact hold (hN m hm)
theorem put_at {L : List PE} {s : List Int} {l : List Nat} : ∀ {k : Nat}, k <= L.length -> (∀ j e, j < k -> L[j]? = some e -> befB e.1 s = true) -> (∀ e, L[k]? = some e -> befB e.1 s = false) →
  putR L (s, l) = L.take k ++ (s, l) :: restR (L.drop k) s := by
 induction L with
 | nil =>
  intro k hk _ _; obtain rfl : k = 0 := by simpa using hk
  rfl
 | cons e t ih =>
  intro k hk ha hst
  cases k with
  | zero =>
   have h0 : befB e.1 s = false := hst e (by simp)
   rw [yhs (x := (s, l)) h0, List.take_zero, List.drop_zero, List.nil_append]
  | succ k =>
   have h0 : befB e.1 s = true := ha 0 e (Nat.succ_pos _) (by simp)
   rw [yhr (x := (s, l)) h0, ih (k := k) (by simpa using hk) (fun j f hj hf => ha (j + 1) f (by omega) (by simpa using hf)) (fun f hf => hst f (by simpa using hf)), List.take_succ_cons, List.drop_succ_cons, List.cons_append]
theorem rest_at {L : List PE} {k : Nat} {e : PE} (h : L[k]? = some e) (s : List Int) : restR (L.drop k) s = if e.1 = s then L.drop (k + 1) else L.drop k := by
 obtain ⟨h1, h2⟩ := List.getElem?_eq_some_iff.1 h; rw [List.drop_eq_getElem_cons h1, ycy, h2]
theorem yyi (s : List Int) : restR [] s = [] := rfl
theorem ygu (M : List ME) (k : Nat) : pls (M.take k) = (pls M).take k := by simp [pls, List.map_take]
theorem ykd (M : List ME) (k : Nat) : pls (M.drop k) = (pls M).drop k := by simp [pls, List.map_drop]
theorem pls_at {M : List ME} {k : Nat} {m : ME} (h : M[k]? = some m) : (pls M)[k]? = some m.pl := by simp [pls, h]
theorem pls_of {M : List ME} {k : Nat} {e : PE} (h : (pls M)[k]? = some e) : ∃ m, M[k]? = some m /\ m.pl = e := by
 unfold pls at h; rw [List.getElem?_map] at h
 cases hm : M[k]? with
 | none => rw [hm] at h; cases h
 | some m => rw [hm] at h; exact ⟨m, rfl, by simpa using h⟩
theorem ywv {F G : Nat -> Prop} {w : World} {u v : Value} {a b : List Int} (ha : RdI F w u a) (hb : RdI G w v b) (h1 : 1 <= a.length) (h2 : 1 <= b.length) (hl : a.length <= 1000000) (hl2 : b.length <= 1000000) {r : Bool} (hr : befB a b = r) :
  Calls Tryz.prog 78 #[u, v] w fun e w' => e = .returned (.bool r) /\ Below w.heap.size w w' :=
 (yrw ha hb h1 h2 hl hl2 hr).mono fun e w' ⟨he, n, hn⟩ => ⟨he, by rw [hn]; exact yac w n⟩
theorem yfc {F G : Nat -> Prop} {w : World} {u v : Value} {a b : List Int} (ha : RdI F w u a) (hb : RdI G w v b) (hm : a.length <= 10000000) {r : Bool} (hr : (a == b) = r) :
  Calls Tryz.prog 21 #[u, v] w fun e w' => e = .returned (.bool r) /\ Below w.heap.size w w' := by
 rw [<- hr]; exact T2.yxv u v a b w ha.rd hb.rd hm
theorem OwnI.below {B B' : Nat} {w w' : World} {v : Value} {l : List Int} (h : T2.OwnI B w v l) (hb : Below B' w w') (hB : w.heap.size <= B') : T2.OwnI B w' v l := R4.yan h hb hB
theorem OwnQ.below {B B' : Nat} {w w' : World} {v : Value} {l : List Nat} (h : OwnQ B w v l) (hb : Below B' w w') (hB : w.heap.size <= B') : OwnQ B w' v l := R4.yan h hb hB
theorem yaa (w : World) (o : Obj) : Below w.heap.size w (w.alloc o) := (zR _ w).alloc (zN _) o
theorem ybz {B : Nat} (w : World) (e : TypeId) (s : Nat) (hB : B <= w.heap.size) : (w.alloc (.cells #[] e)).ownsRow B e s (.slice (some ⟨w.heap.size, 0, none⟩) 0 0) 0 [] := World.ownsRow_made w #[] 0 hB (Nat.zero_le _) (by simp)
set_option maxHeartbeats 4000000 in
theorem yty {U : Nat -> Prop} {w : World} {v sv lv : Value} {L : List PE} {s : List Int} {l : List Nat} {G H : Nat -> Prop} (hU : ∀ k, w.heap.size <= k -> U k) (h : RefU U w v L) (hs : RdI G w sv s) (hl : RdQ H w lv l) (hseq : ∀ e ∈ L, 1 <= e.1.length /\ e.1.length <= 1000) (h1 : 1 <= s.length) (h3 : s.length <= 1000) (hll : l.length <= 1000) (hL : L.length <= 1000) (hz : L = [] -> v = .slice none 0 0) {R : List PE} (hR : putR L (s, l) = R) :
  Calls Tryz.prog 42 #[.agg #[v], sv, lv] w fun e w' => (∃ u, e = .returned (.agg #[u]) /\ RefU U w' u R) /\ Below w.heap.size w w' := by
 obtain ⟨M, rfl, hM⟩ := h; have HU := zH hU; clear hU; obtain ⟨A, c, rfl⟩ := hM.1.form; obtain ⟨As, cs, rfl⟩ := hs.form; obtain ⟨Al, cl, rfl⟩ := hl.form; have HM := zH hM; have HS := zH hs; have HLQ := zH hl; have HSEQ := zH hseq; have HR := zH hR; have HZ := zH hz; rw [yap] at hL
 have hLI : (M.length : Int) <= 1000 := by omega
 have hcap : (M.length : Int) <= (c : Int) := by have := (RdF.cap hM.1).1; omega
 clear hM hs hl hseq hR hz
 go_enter Tryz.func42, Tryz.ntmps42
 go_wp2
 have H02 : Hid (Below w.heap.size w ((w.alloc (.cells #[.slice A M.length c] 40)).alloc (.cells #[.slice none 0 0] 40))) := ((zR _ w).alloc (zN _) _).alloc (by simp) _
 have HC0 : Hid (((w.alloc (.cells #[.slice A M.length c] 40)).alloc (.cells #[.slice none 0 0] 40)).cell? ⟨w.heap.size, 0, none⟩ = some (.slice A M.length c)) := by
  refine yah ?_ _; rw [World.cell?_alloc_mark]; rfl
 have HT1 : Hid (((w.alloc (.cells #[.slice A M.length c] 40)).alloc (.cells #[.slice none 0 0] 40)).heap[w.heap.size + 1]? = some (.cells #[.slice none 0 0] 40)) := by
  have := heap_alloc_new (w.alloc (.cells #[.slice A M.length c] 40)) (.cells #[.slice none 0 0] 40)
  show _ = _
  simpa using this
 generalize ((w.alloc (.cells #[.slice A M.length c] 40)).alloc (.cells #[.slice none 0 0] 40)) = w2 at H02 HC0 HT1 |-; obtain ⟨b1, hb1⟩ : ∃ b, w.heap.size + 1 = b := ⟨_, rfl⟩; rw [hb1] at HT1 |-; have HB1 := zH hb1; clear hb1
 have HSZ : Hid (b1 < w2.heap.size) := R4.yad HT1.out
 obtain ⟨b0, hb0⟩ : ∃ b, w.heap.size = b := ⟨_, rfl⟩; have HB0 := zH hb0; rw [hb0] at HC0 HB1; rw [show (({ block := w.heap.size, off := 0 } : Addr)) = ⟨b0, 0, none⟩ by rw [hb0]]
 clear hb0
 go_loopw [7, 8] (fun u i wr => ∃ k : Nat, k <= M.length /\ i = .int .i64 (k : Nat) /\ Hid (OwnN w2.heap.size wr u (M.take k)) /\ Hid (Below w2.heap.size w2 wr) /\ Hid (∀ j e, j < k -> (pls M)[j]? = some e -> befB e.1 s = true)) (fun _ i _ => M.length - (intOf i).toNat)
 case atStart => exact ⟨0, Nat.zero_le _, rfl, World.ownsRow_nil _ _ _ _, zR _ _, fun j e hj => absurd hj (Nat.not_lt_zero _)⟩
 case round =>
  obtain ⟨k, hk, rfl, HO, HB, HA⟩ := hrel; have c00 := (HB.out.cell (p := ⟨b0, 0, none⟩) (yaj HC0.out)).trans HC0.out
  have HTL : Hid ((M.take k).length = k) := by show _ = _; rw [List.length_take]; omega
  obtain ⟨Ao, co, e0⟩ := HO.out.form; rw [HTL.out] at e0; subst e0
  by_cases hlt : k < M.length
  ·obtain ⟨m, hm⟩ : ∃ m, M[k]? = some m := ⟨_, List.getElem?_eq_getElem hlt⟩; have HW := zH (H02.out.trans (HB.out.mono H02.out.size)); obtain ⟨g, o, rfl, c0w, c1w, hmqw⟩ := HM.out.at hm; have c0 := yab HW.out c0w; have c1 := yab HW.out c1w; have hmq := hmqw.below HW.out (zN _); have HMQ := zH hmq; obtain ⟨A1, d1, e1⟩ := hmq.1.form; obtain ⟨A2, d2, e2⟩ := hmq.2.form; have HE1 := zH e1; have HE2 := zH e2; rw [e1] at c0 c0w; rw [e2] at c1
   have HMI : Hid (RdI anyB w (.slice A1 m.s.length d1) m.s) := e1 ▸ hmqw.ints
   have HCW := zH c0w; have hml := HSEQ.out m.pl (List.mem_of_getElem? (pls_at hm))
   have hkI : (k : Int) < (M.length : Int) := by omega
   have HMM := zH hm; obtain ⟨r, hr⟩ : ∃ r, befB m.s s = r := ⟨_, rfl⟩; have HRb := zH hr; have HSw := zH (HS.out.below HW.out (zN _)); have HBC := zH (ywv (F := anyB) (e1 ▸ hmq.ints) HSw.out hml.1 h1 (Nat.le_trans hml.2 (by omega)) (by omega) hr)
   clear hmq hmqw e1 e2 hm hr hlt c0w c1w
   cases r with
   | true =>
    have HTS : Hid (M.take (k + 1) = M.take k ++ [m]) := by show _ = _; rw [List.take_add_one, HMM.out]; rfl
    go_wp2_with (first
     | (go_at_call 78; refine (HBC.out).mono ?_; rintro e w5 ⟨rfl, hb5⟩; have c00' := yab hb5 c00; have c0' := yab hb5 c0; have c1' := yab hb5 c1; have HB5 := zH (HB.out.trans (hb5.mono HB.out.size)); have HO5 := zH ((HO.out.below hb5 (zN _)).below (yaa w5 (.cells #[.slice A1 m.s.length d1, .slice A2 m.l.length d2] 131)) (zN _)); have HN5 : Hid (RdF anyB (w5.alloc (.cells #[.slice A1 m.s.length d1, .slice A2 m.l.length d2] 131)) (.slice (some ⟨w5.heap.size, 0, none⟩) 1 1) 1 (mcells [m])) := (by rw [show mcells [m] = [m.vs, m.vl] from rfl, HE1.out, HE2.out]; exact RdF.new w5 _ _ (zN _)); clear c00 c0 c1 hb5)
     | (at_builtin; refine appendN rfl (.tmp 24) (.tmp 30) rfl _ w2.heap.size _ (M.take k) [m] rfl HO5.out rfl HN5.out (ybc (w := wr) (by intro x hx; simp at hx; subst hx; exact HMQ.out)) (Nat.le_trans HB5.out.size (yaa w5 _).size) (by rw [HTL.out]; simp; omega) ?_; intro v6 w6 h6 hg6 hb6; have HO6 := zH h6; have HB6 := zH ((HB5.out.trans ((yaa w5 _).mono HB5.out.size)).trans hb6); clear h6 hg6 hb6))
    go_roundw
    case rel => exact ⟨k + 1, by omega, by go_num, by rw [HTS.out]; exact HO6.out, HB6.out, fun j e hj he => by
     rcases Nat.lt_or_ge j k with hjk | hjk
     ·exact HA.out j e hjk he
     ·obtain rfl : j = k := by omega
      obtain ⟨m', hm', e'⟩ := pls_of he; rw [HMM.out] at hm'
      cases hm'
      rw [<- e']; exact HRb.out⟩
    case measure => simp [intOf]; omega
   | false =>
    obtain ⟨q, hq⟩ : ∃ q, (m.s == s) = q := ⟨_, rfl⟩
    have HPA := zH (put_at (l := l) (L := pls M) (s := s) (k := k) (by rw [yap]; exact hk) HA.out (fun e he => by
      obtain ⟨m', hm', e'⟩ := pls_of he; rw [HMM.out] at hm'
      cases hm'
      rw [<- e']; exact HRb.out))
    have HRA := zH (rest_at (pls_at HMM.out) s)
    have tk : True := trivial
    cases q with
    | true =>
     have HFIN : Hid (∀ vs vl, pls (M.take k ++ [⟨vs, vl, s, l⟩] ++ M.drop (k + 1)) = R) := fun vs vl => by
      rw [<- HR.out, HPA.out, HRA.out, if_pos (by show m.s = s; simpa using hq), yay, yay, ygu, ykd, List.append_assoc]; rfl
     obtain ⟨i, hi⟩ : ∃ i, k + 1 = i := ⟨_, rfl⟩
     have hiI : (k : Int) + 1 = (i : Int) := by omega
     rw [hi] at HFIN
     have hin : i <= M.length := by omega
     have hi1 : (i : Int) <= (M.length : Int) := by omega
     have hi0 : (0 : Int) <= (i : Int) := by omega
     obtain ⟨N, hN⟩ : ∃ N, M.drop i = N := ⟨_, rfl⟩
     have hNl : M.length - i = N.length := by simp [<- hN]
     obtain ⟨A2', hA2⟩ : ∃ A2', (if c = i then some (⟨g, o, none⟩ : Addr) else some ⟨g, o + i * 2, none⟩) = A2' := ⟨_, rfl⟩
     have HDR : Hid (∀ W, Below w.heap.size w W -> RdF anyB W (.slice A2' N.length (c - i)) N.length (mcells N)) := fun W hW => by
      have := RdF.drop2 (A2 := A2') (RdF.any (HM.out.below hW (zN _)).1) hin (fun ad e => by cases e; rw [Addr.add_lit]; exact hA2)
      rw [<- ybs, hN, hNl] at this; exact this
     have HDO : Hid (∀ W, Below w.heap.size w W -> ∀ u ∈ mcells N, u.oneCell' = true) := fun W hW => ybc (w := W) fun x hx => ((HM.out.below hW (zN _)).2 x (List.mem_of_mem_drop (hN ▸ hx)))
     rw [hN] at HFIN
     have HNL : Hid (N.length <= 1000) := by show _ <= _; omega
     have HNM : Hid (∀ x ∈ N, x ∈ M) := fun x hx => List.mem_of_mem_drop (hN ▸ hx)
     clear hN hi hin
     go_wp2_with (first
      | (go_at_call 78; refine (HBC.out).mono ?_; rintro e w5 ⟨rfl, hb5⟩; have HB5 := zH (HB.out.trans (hb5.mono HB.out.size)); have HW5 := zH (H02.out.trans (HB5.out.mono H02.out.size)); have HO5 := zH (HO.out.below hb5 (zN _)); clear c00 c0 c1 hb5)
      | (at_builtin; refine appendI rfl (.tmp 35) (.tmp 36) rfl _ w5.heap.size _ [] s rfl (ybz w5 _ 1 (zN _)) rfl (HS.out.below (HW5.out.trans ((yaa w5 (.cells #[] 3)).mono HW5.out.size)) (zN _)) (yaa w5 _).size (by simp <;> omega) ?_; intro vs6 w6 h6 hg6 hb6; have h6' : T2.OwnI w5.heap.size w6 vs6 s := h6; obtain ⟨A6, d6, rfl⟩ := (ybi (F := anyB) h6' (fun _ _ => trivial)).form; have HI6 := zH h6'; have HX6 := zH ((yaa w5 (.cells #[] 3)).trans hb6); have HW6 := zH (HW5.out.trans (HX6.out.mono HW5.out.size)); have HB6 := zH (HB5.out.trans (HX6.out.mono HB5.out.size)); have HO6 := zH (HO5.out.below HX6.out (zN _)); clear h6 h6' hg6 hb6)
      | (at_builtin; refine appendQ rfl (.tmp 38) (.tmp 39) rfl _ w6.heap.size _ [] l rfl (ybz w6 _ 4 (zN _)) rfl (HLQ.out.below (HW6.out.trans ((yaa w6 (.cells #[] 77)).mono HW6.out.size)) (zN _)) (yaa w6 _).size (by simp <;> omega) ?_; intro vl7 w7 h7 hg7 hb7; have h7' : OwnQ w6.heap.size w7 vl7 l := h7; obtain ⟨A7, d7, rfl⟩ := h7'.form; have HQ7 := zH h7'; have HX7 := zH ((yaa w6 (.cells #[] 77)).trans hb7); have HW7 := zH (HW6.out.trans (HX7.out.mono HW6.out.size)); have HB7 := zH (HB6.out.trans (HX7.out.mono HB6.out.size)); have HO7 := zH ((HO6.out.below HX7.out (zN _)).below (yaa w7 (.cells #[.slice A6 s.length d6, .slice A7 l.length d7] 131)) (zN _)); have HE7 : Hid (EntN w2.heap.size (w7.alloc (.cells #[.slice A6 s.length d6, .slice A7 l.length d7] 131)) ⟨.slice A6 s.length d6, .slice A7 l.length d7, s, l⟩) := EntN.below ⟨RdF.nown (HI6.out.below HX7.out (zN _)) (.inr rfl) HB5.out.size, RdF.nown HQ7.out (.inl rfl) HB6.out.size⟩ (yaa w7 _) (zN _); clear h7 h7' hg7 hb7)
      | (at_builtin; (refine appendN rfl (.tmp 34) (.tmp 42) rfl _ w2.heap.size _ (M.take k) [⟨.slice A6 s.length d6, .slice A7 l.length d7, s, l⟩] rfl HO7.out rfl (RdF.new w7 _ _ (zN _)) (ybc (by intro x hx; simp at hx; subst hx; exact HE7.out.ok)) (Nat.le_trans HB7.out.size (yaa w7 _).size) (by rw [HTL.out]; simp <;> omega) ?_); intro v8 w8 h8 hg8 hb8; have HO8 := zH h8; have HE8 := zH (HE7.out.grown HO7.out hg8); have HB8 := zH ((HB7.out.trans ((yaa w7 (.cells #[.slice A6 s.length d6, .slice A7 l.length d7] 131)).mono HB7.out.size)).trans hb8); have HW8 := zH (H02.out.trans (HB8.out.mono H02.out.size)); obtain ⟨A8, c8, e8⟩ := HO8.out.form; rw [show (M.take k ++ [(⟨.slice A6 s.length d6, .slice A7 l.length d7, s, l⟩ : ME)]).length = k + 1 by rw [List.length_append, HTL.out]; rfl] at e8; subst e8; have c008 := (HB8.out.cell (p := ⟨b0, 0, none⟩) (yaj HC0.out)).trans HC0.out; have c088 := yab HW8.out HCW.out; clear h8 hg8 hb8)
      | (go_at_call 21; refine (yfc (HMI.out.below HW8.out (zN _)) (HS.out.below HW8.out (zN _)) (Nat.le_trans hml.2 (by omega)) hq).mono ?_; rintro e w9 ⟨rfl, hb9⟩; have c009 := yab hb9 c008; have HO9 := zH (HO8.out.below hb9 (zN _)); have HE9 := zH (HE8.out.below hb9 (zN _)); have HB9 := zH (HB8.out.trans (hb9.mono HB8.out.size)); have HW9 := zH (HW8.out.trans (hb9.mono HW8.out.size)); clear c008 c088 hb9)
      | (at_builtin; (refine appendN rfl (.tmp 61) (.tmp 65) rfl _ w2.heap.size _ (M.take k ++ [(⟨.slice A6 s.length d6, .slice A7 l.length d7, s, l⟩ : ME)]) N rfl HO9.out rfl (HDR.out w9 HW9.out) (HDO.out w9 HW9.out) HB9.out.size (by rw [List.length_append, HTL.out]; have := HNL.out; simp <;> omega) ?_); intro v10 w10 h10 hg10 hb10; have HO10 := zH h10; have HE10 := zH (HE9.out.grown HO9.out hg10); have HB10 := zH (HB9.out.trans hb10); have HW10 := zH (H02.out.trans (HB10.out.mono H02.out.size)); have HT10 := zH ((HB10.out.block b1 HSZ.out).trans HT1.out); have d1 : w10.cell? ⟨b1, 0, none⟩ = some (.slice none 0 0) := (by rw [cell_of_row _ _ 0 _ _ _ HT10.out]; rfl); have d2 : w10.frozen? ⟨b1, 0, none⟩ = false := frozen_of_row _ _ 0 _ _ HT10.out; obtain ⟨A10, c10, e10⟩ := HO10.out.form; rw [show (M.take k ++ [(⟨.slice A6 s.length d6, .slice A7 l.length d7, s, l⟩ : ME)] ++ N).length = k + 1 + N.length by have h0 := HTL.out; simp only [List.length_append, List.length_cons, List.length_nil]; omega] at e10; subst e10; clear h10 hg10 hb10))
     have d3 : (w10.setCell ⟨b1, 0, none⟩ (.slice A10 (k + 1 + N.length) c10)).cell? ⟨b1, 0, none⟩ = some (.slice A10 (k + 1 + N.length) c10) := by rw [cell_of_row _ _ 0 _ _ _ (heap_setCell_same w10 b1 0 _ _ _ HT10.out)]; rfl
     have hfin := ygt (w2 := w2) (y := .slice A10 (k + 1 + N.length) c10) (fun k hk => HU.out k (Nat.le_trans H02.out.size hk)) HM.out.2 HW10.out (by have := HB0.out; have := HB1.out; omega) HSZ.out HO10.out HE10.out (HFIN.out _ _) HNM.out
     exact bodyPost_ret (v := .agg #[.slice A10 (k + 1 + N.length) c10]) (by simp [results, Tryz.results42, go_sem, d3]) rfl ⟨⟨_, rfl, hfin.1⟩, hfin.2⟩
    | false =>
     have HFIN : Hid (∀ vs vl, pls (M.take k ++ [⟨vs, vl, s, l⟩] ++ M.drop k) = R) := fun vs vl => by
      rw [<- HR.out, HPA.out, HRA.out, if_neg (by show ¬ m.s = s; simpa using hq), yay, yay, ygu, ykd, List.append_assoc]; rfl
     have hin : k <= M.length := hk
     have hi1 : (k : Int) <= (M.length : Int) := by omega
     have hi0 : (0 : Int) <= (k : Int) := by omega
     have hi : True := trivial
     obtain ⟨N, hN⟩ : ∃ N, M.drop k = N := ⟨_, rfl⟩
     have hNl : M.length - k = N.length := by simp [<- hN]
     have HDR : Hid (∀ W, Below w.heap.size w W -> RdF anyB W (.slice (some ⟨g, o + k * 2, none⟩) N.length (c - k)) N.length (mcells N)) := fun W hW => by
      have := RdF.drop2 (A2 := some ⟨g, o + k * 2, none⟩) (RdF.any (HM.out.below hW (zN _)).1) hin (fun ad e => by cases e; rw [Addr.add_lit, if_neg (by omega)])
      rw [<- ybs, hN, hNl] at this; exact this
     have HDO : Hid (∀ W, Below w.heap.size w W -> ∀ u ∈ mcells N, u.oneCell' = true) := fun W hW => ybc (w := W) fun x hx => ((HM.out.below hW (zN _)).2 x (List.mem_of_mem_drop (hN ▸ hx)))
     rw [hN] at HFIN
     have HNL : Hid (N.length <= 1000) := by show _ <= _; omega
     have HNM : Hid (∀ x ∈ N, x ∈ M) := fun x hx => List.mem_of_mem_drop (hN ▸ hx)
     clear hN hi hin
     go_wp2_with (first
      | (go_at_call 78; refine (HBC.out).mono ?_; rintro e w5 ⟨rfl, hb5⟩; have HB5 := zH (HB.out.trans (hb5.mono HB.out.size)); have HW5 := zH (H02.out.trans (HB5.out.mono H02.out.size)); have HO5 := zH (HO.out.below hb5 (zN _)); clear c00 c0 c1 hb5)
      | (at_builtin; refine appendI rfl (.tmp 35) (.tmp 36) rfl _ w5.heap.size _ [] s rfl (ybz w5 _ 1 (zN _)) rfl (HS.out.below (HW5.out.trans ((yaa w5 (.cells #[] 3)).mono HW5.out.size)) (zN _)) (yaa w5 _).size (by simp <;> omega) ?_; intro vs6 w6 h6 hg6 hb6; have h6' : T2.OwnI w5.heap.size w6 vs6 s := h6; obtain ⟨A6, d6, rfl⟩ := (ybi (F := anyB) h6' (fun _ _ => trivial)).form; have HI6 := zH h6'; have HX6 := zH ((yaa w5 (.cells #[] 3)).trans hb6); have HW6 := zH (HW5.out.trans (HX6.out.mono HW5.out.size)); have HB6 := zH (HB5.out.trans (HX6.out.mono HB5.out.size)); have HO6 := zH (HO5.out.below HX6.out (zN _)); clear h6 h6' hg6 hb6)
      | (at_builtin; refine appendQ rfl (.tmp 38) (.tmp 39) rfl _ w6.heap.size _ [] l rfl (ybz w6 _ 4 (zN _)) rfl (HLQ.out.below (HW6.out.trans ((yaa w6 (.cells #[] 77)).mono HW6.out.size)) (zN _)) (yaa w6 _).size (by simp <;> omega) ?_; intro vl7 w7 h7 hg7 hb7; have h7' : OwnQ w6.heap.size w7 vl7 l := h7; obtain ⟨A7, d7, rfl⟩ := h7'.form; have HQ7 := zH h7'; have HX7 := zH ((yaa w6 (.cells #[] 77)).trans hb7); have HW7 := zH (HW6.out.trans (HX7.out.mono HW6.out.size)); have HB7 := zH (HB6.out.trans (HX7.out.mono HB6.out.size)); have HO7 := zH ((HO6.out.below HX7.out (zN _)).below (yaa w7 (.cells #[.slice A6 s.length d6, .slice A7 l.length d7] 131)) (zN _)); have HE7 : Hid (EntN w2.heap.size (w7.alloc (.cells #[.slice A6 s.length d6, .slice A7 l.length d7] 131)) ⟨.slice A6 s.length d6, .slice A7 l.length d7, s, l⟩) := EntN.below ⟨RdF.nown (HI6.out.below HX7.out (zN _)) (.inr rfl) HB5.out.size, RdF.nown HQ7.out (.inl rfl) HB6.out.size⟩ (yaa w7 _) (zN _); clear h7 h7' hg7 hb7)
      | (at_builtin; (refine appendN rfl (.tmp 34) (.tmp 42) rfl _ w2.heap.size _ (M.take k) [⟨.slice A6 s.length d6, .slice A7 l.length d7, s, l⟩] rfl HO7.out rfl (RdF.new w7 _ _ (zN _)) (ybc (by intro x hx; simp at hx; subst hx; exact HE7.out.ok)) (Nat.le_trans HB7.out.size (yaa w7 _).size) (by rw [HTL.out]; simp <;> omega) ?_); intro v8 w8 h8 hg8 hb8; have HO8 := zH h8; have HE8 := zH (HE7.out.grown HO7.out hg8); have HB8 := zH ((HB7.out.trans ((yaa w7 (.cells #[.slice A6 s.length d6, .slice A7 l.length d7] 131)).mono HB7.out.size)).trans hb8); have HW8 := zH (H02.out.trans (HB8.out.mono H02.out.size)); obtain ⟨A8, c8, e8⟩ := HO8.out.form; rw [show (M.take k ++ [(⟨.slice A6 s.length d6, .slice A7 l.length d7, s, l⟩ : ME)]).length = k + 1 by rw [List.length_append, HTL.out]; rfl] at e8; subst e8; have c008 := (HB8.out.cell (p := ⟨b0, 0, none⟩) (yaj HC0.out)).trans HC0.out; have c088 := yab HW8.out HCW.out; clear h8 hg8 hb8)
      | (go_at_call 21; refine (yfc (HMI.out.below HW8.out (zN _)) (HS.out.below HW8.out (zN _)) (Nat.le_trans hml.2 (by omega)) hq).mono ?_; rintro e w9 ⟨rfl, hb9⟩; have c009 := yab hb9 c008; have HO9 := zH (HO8.out.below hb9 (zN _)); have HE9 := zH (HE8.out.below hb9 (zN _)); have HB9 := zH (HB8.out.trans (hb9.mono HB8.out.size)); have HW9 := zH (HW8.out.trans (hb9.mono HW8.out.size)); clear c008 c088 hb9)
      | (at_builtin; (refine appendN rfl (.tmp 61) (.tmp 65) rfl _ w2.heap.size _ (M.take k ++ [(⟨.slice A6 s.length d6, .slice A7 l.length d7, s, l⟩ : ME)]) N rfl HO9.out rfl (HDR.out w9 HW9.out) (HDO.out w9 HW9.out) HB9.out.size (by rw [List.length_append, HTL.out]; have := HNL.out; simp <;> omega) ?_); intro v10 w10 h10 hg10 hb10; have HO10 := zH h10; have HE10 := zH (HE9.out.grown HO9.out hg10); have HB10 := zH (HB9.out.trans hb10); have HW10 := zH (H02.out.trans (HB10.out.mono H02.out.size)); have HT10 := zH ((HB10.out.block b1 HSZ.out).trans HT1.out); have d1 : w10.cell? ⟨b1, 0, none⟩ = some (.slice none 0 0) := (by rw [cell_of_row _ _ 0 _ _ _ HT10.out]; rfl); have d2 : w10.frozen? ⟨b1, 0, none⟩ = false := frozen_of_row _ _ 0 _ _ HT10.out; obtain ⟨A10, c10, e10⟩ := HO10.out.form; rw [show (M.take k ++ [(⟨.slice A6 s.length d6, .slice A7 l.length d7, s, l⟩ : ME)] ++ N).length = k + 1 + N.length by have h0 := HTL.out; simp only [List.length_append, List.length_cons, List.length_nil]; omega] at e10; subst e10; clear h10 hg10 hb10))
     have d3 : (w10.setCell ⟨b1, 0, none⟩ (.slice A10 (k + 1 + N.length) c10)).cell? ⟨b1, 0, none⟩ = some (.slice A10 (k + 1 + N.length) c10) := by rw [cell_of_row _ _ 0 _ _ _ (heap_setCell_same w10 b1 0 _ _ _ HT10.out)]; rfl
     have hfin := ygt (w2 := w2) (y := .slice A10 (k + 1 + N.length) c10) (fun k hk => HU.out k (Nat.le_trans H02.out.size hk)) HM.out.2 HW10.out (by have := HB0.out; have := HB1.out; omega) HSZ.out HO10.out HE10.out (HFIN.out _ _) HNM.out
     exact bodyPost_ret (v := .agg #[.slice A10 (k + 1 + N.length) c10]) (by simp [results, Tryz.results42, go_sem, d3]) rfl ⟨⟨_, rfl, hfin.1⟩, hfin.2⟩
  ·have HNM : Hid (∀ x ∈ ([] : List ME), x ∈ M) := fun x hx => by simp at hx
   have hkk : k = M.length := by omega
   have HFIN : Hid (∀ vs vl, pls (M.take k ++ [⟨vs, vl, s, l⟩] ++ []) = R) := fun vs vl => by
    rw [<- HR.out, put_at (l := l) (L := pls M) (s := s) (k := k) (by rw [yap]; exact hk) HA.out (fun e he => by
     have := (List.getElem?_eq_some_iff.1 he).1
     rw [yap] at this
     omega), List.drop_of_length_le (by rw [yap]; omega), yyi, yay, yay, ygu, List.append_assoc]; rfl
   have HW := zH (H02.out.trans (HB.out.mono H02.out.size))
   have hkI : ¬ (k : Int) < (M.length : Int) := by omega
   have hi1 : (k : Int) <= (M.length : Int) := by omega
   have hi0 : (0 : Int) <= (k : Int) := by omega
   have hNl : M.length - k = 0 := by omega
   clear hkk hlt
   by_cases hm0 : M.length = 0
   ·obtain rfl : M = [] := List.eq_nil_of_length_eq_zero hm0; have hv := HZ.out rfl
    cases hv
    obtain rfl : k = 0 := by simp at hk; omega
    clear hm0
    go_wp2_with (first
     | (at_builtin; refine appendI rfl (.tmp 35) (.tmp 36) rfl _ wr.heap.size _ [] s rfl (ybz wr _ 1 (zN _)) rfl (HS.out.below (HW.out.trans ((yaa wr (.cells #[] 3)).mono HW.out.size)) (zN _)) (yaa wr _).size (by simp <;> omega) ?_; intro vs6 w6 h6 hg6 hb6; have h6' : T2.OwnI wr.heap.size w6 vs6 s := h6; obtain ⟨A6, d6, rfl⟩ := (ybi (F := anyB) h6' (fun _ _ => trivial)).form; have HI6 := zH h6'; have HX6 := zH ((yaa wr (.cells #[] 3)).trans hb6); have HW6 := zH (HW.out.trans (HX6.out.mono HW.out.size)); have HB6 := zH (HB.out.trans (HX6.out.mono HB.out.size)); have HO6 := zH (HO.out.below HX6.out (zN _)); clear h6 h6' hg6 hb6)
     | (at_builtin; refine appendQ rfl (.tmp 38) (.tmp 39) rfl _ w6.heap.size _ [] l rfl (ybz w6 _ 4 (zN _)) rfl (HLQ.out.below (HW6.out.trans ((yaa w6 (.cells #[] 77)).mono HW6.out.size)) (zN _)) (yaa w6 _).size (by simp <;> omega) ?_; intro vl7 w7 h7 hg7 hb7; have h7' : OwnQ w6.heap.size w7 vl7 l := h7; obtain ⟨A7, d7, rfl⟩ := h7'.form; have HQ7 := zH h7'; have HX7 := zH ((yaa w6 (.cells #[] 77)).trans hb7); have HW7 := zH (HW6.out.trans (HX7.out.mono HW6.out.size)); have HB7 := zH (HB6.out.trans (HX7.out.mono HB6.out.size)); have HO7 := zH ((HO6.out.below HX7.out (zN _)).below (yaa w7 (.cells #[.slice A6 s.length d6, .slice A7 l.length d7] 131)) (zN _)); have HE7 : Hid (EntN w2.heap.size (w7.alloc (.cells #[.slice A6 s.length d6, .slice A7 l.length d7] 131)) ⟨.slice A6 s.length d6, .slice A7 l.length d7, s, l⟩) := EntN.below ⟨RdF.nown (HI6.out.below HX7.out (zN _)) (.inr rfl) HB.out.size, RdF.nown HQ7.out (.inl rfl) HB6.out.size⟩ (yaa w7 _) (zN _); clear h7 h7' hg7 hb7)
     | (at_builtin; (refine appendN rfl (.tmp 34) (.tmp 42) rfl _ w2.heap.size _ ((List.take 0 [] : List ME)) [⟨.slice A6 s.length d6, .slice A7 l.length d7, s, l⟩] rfl HO7.out rfl (RdF.new w7 _ _ (zN _)) (ybc (by intro x hx; simp at hx; subst hx; exact HE7.out.ok)) (Nat.le_trans HB7.out.size (yaa w7 _).size) (by rw [HTL.out]; simp <;> omega) ?_); intro v8 w8 h8 hg8 hb8; have HO8 := zH h8; have HE8 := zH (HE7.out.grown HO7.out hg8); have HB8 := zH ((HB7.out.trans ((yaa w7 (.cells #[.slice A6 s.length d6, .slice A7 l.length d7] 131)).mono HB7.out.size)).trans hb8); have HW8 := zH (H02.out.trans (HB8.out.mono H02.out.size)); obtain ⟨A8, c8, e8⟩ := HO8.out.form; rw [show ((List.take 0 [] : List ME) ++ [(⟨.slice A6 s.length d6, .slice A7 l.length d7, s, l⟩ : ME)]).length = 0 + 1 by rw [List.length_append, HTL.out]; rfl] at e8; subst e8; have c008 := (HB8.out.cell (p := ⟨b0, 0, none⟩) (yaj HC0.out)).trans HC0.out; clear h8 hg8 hb8)
     | (at_builtin; (refine appendN rfl (.tmp 61) (.tmp 65) rfl _ w2.heap.size _ ((List.take 0 [] : List ME) ++ [(⟨.slice A6 s.length d6, .slice A7 l.length d7, s, l⟩ : ME)]) ([] : List ME) rfl HO8.out rfl (yop _ _ _) (fun u hu => by simp [mcells] at hu) HB8.out.size (by rw [List.length_append, HTL.out]; have := hk; simp <;> omega) ?_); intro v10 w10 h10 hg10 hb10; have HO10 := zH h10; have HE10 := zH (HE8.out.grown HO8.out hg10); have HB10 := zH (HB8.out.trans hb10); have HW10 := zH (H02.out.trans (HB10.out.mono H02.out.size)); have HT10 := zH ((HB10.out.block b1 HSZ.out).trans HT1.out); have d1 : w10.cell? ⟨b1, 0, none⟩ = some (.slice none 0 0) := (by rw [cell_of_row _ _ 0 _ _ _ HT10.out]; rfl); have d2 : w10.frozen? ⟨b1, 0, none⟩ = false := frozen_of_row _ _ 0 _ _ HT10.out; obtain ⟨A10, c10, e10⟩ := HO10.out.form; rw [show ((List.take 0 [] : List ME) ++ [(⟨.slice A6 s.length d6, .slice A7 l.length d7, s, l⟩ : ME)] ++ ([] : List ME)).length = 0 + 1 by have h0 := HTL.out; simp only [List.length_append, List.length_cons, List.length_nil]; omega] at e10; subst e10; clear h10 hg10 hb10))
    have d3 : (w10.setCell ⟨b1, 0, none⟩ (.slice A10 1 c10)).cell? ⟨b1, 0, none⟩ = some (.slice A10 1 c10) := by rw [cell_of_row _ _ 0 _ _ _ (heap_setCell_same w10 b1 0 _ _ _ HT10.out)]; rfl
    have hfin := ygt (w2 := w2) (y := .slice A10 1 c10) (fun k hk => HU.out k (Nat.le_trans H02.out.size hk)) HM.out.2 HW10.out (by have := HB0.out; have := HB1.out; omega) HSZ.out HO10.out HE10.out (HFIN.out _ _) HNM.out
    exact bodyPost_ret (v := .agg #[.slice A10 1 c10]) (by simp [results, Tryz.results42, go_sem, d3]) rfl ⟨⟨_, rfl, hfin.1⟩, hfin.2⟩
   ·obtain ⟨g, o, rfl, -⟩ := RdF.base HM.out.1 (by omega)
    clear hm0; obtain ⟨A2', hA2⟩ : ∃ A2', (if c = k then some (⟨g, o, none⟩ : Addr) else some ⟨g, o + k * 2, none⟩) = A2' := ⟨_, rfl⟩
    go_wp2_with (first
     | (at_builtin; refine appendI rfl (.tmp 35) (.tmp 36) rfl _ wr.heap.size _ [] s rfl (ybz wr _ 1 (zN _)) rfl (HS.out.below (HW.out.trans ((yaa wr (.cells #[] 3)).mono HW.out.size)) (zN _)) (yaa wr _).size (by simp <;> omega) ?_; intro vs6 w6 h6 hg6 hb6; have h6' : T2.OwnI wr.heap.size w6 vs6 s := h6; obtain ⟨A6, d6, rfl⟩ := (ybi (F := anyB) h6' (fun _ _ => trivial)).form; have HI6 := zH h6'; have HX6 := zH ((yaa wr (.cells #[] 3)).trans hb6); have HW6 := zH (HW.out.trans (HX6.out.mono HW.out.size)); have HB6 := zH (HB.out.trans (HX6.out.mono HB.out.size)); have HO6 := zH (HO.out.below HX6.out (zN _)); clear h6 h6' hg6 hb6)
     | (at_builtin; refine appendQ rfl (.tmp 38) (.tmp 39) rfl _ w6.heap.size _ [] l rfl (ybz w6 _ 4 (zN _)) rfl (HLQ.out.below (HW6.out.trans ((yaa w6 (.cells #[] 77)).mono HW6.out.size)) (zN _)) (yaa w6 _).size (by simp <;> omega) ?_; intro vl7 w7 h7 hg7 hb7; have h7' : OwnQ w6.heap.size w7 vl7 l := h7; obtain ⟨A7, d7, rfl⟩ := h7'.form; have HQ7 := zH h7'; have HX7 := zH ((yaa w6 (.cells #[] 77)).trans hb7); have HW7 := zH (HW6.out.trans (HX7.out.mono HW6.out.size)); have HB7 := zH (HB6.out.trans (HX7.out.mono HB6.out.size)); have HO7 := zH ((HO6.out.below HX7.out (zN _)).below (yaa w7 (.cells #[.slice A6 s.length d6, .slice A7 l.length d7] 131)) (zN _)); have HE7 : Hid (EntN w2.heap.size (w7.alloc (.cells #[.slice A6 s.length d6, .slice A7 l.length d7] 131)) ⟨.slice A6 s.length d6, .slice A7 l.length d7, s, l⟩) := EntN.below ⟨RdF.nown (HI6.out.below HX7.out (zN _)) (.inr rfl) HB.out.size, RdF.nown HQ7.out (.inl rfl) HB6.out.size⟩ (yaa w7 _) (zN _); clear h7 h7' hg7 hb7)
     | (at_builtin; (refine appendN rfl (.tmp 34) (.tmp 42) rfl _ w2.heap.size _ (M.take k) [⟨.slice A6 s.length d6, .slice A7 l.length d7, s, l⟩] rfl HO7.out rfl (RdF.new w7 _ _ (zN _)) (ybc (by intro x hx; simp at hx; subst hx; exact HE7.out.ok)) (Nat.le_trans HB7.out.size (yaa w7 _).size) (by rw [HTL.out]; simp <;> omega) ?_); intro v8 w8 h8 hg8 hb8; have HO8 := zH h8; have HE8 := zH (HE7.out.grown HO7.out hg8); have HB8 := zH ((HB7.out.trans ((yaa w7 (.cells #[.slice A6 s.length d6, .slice A7 l.length d7] 131)).mono HB7.out.size)).trans hb8); have HW8 := zH (H02.out.trans (HB8.out.mono H02.out.size)); obtain ⟨A8, c8, e8⟩ := HO8.out.form; rw [show (M.take k ++ [(⟨.slice A6 s.length d6, .slice A7 l.length d7, s, l⟩ : ME)]).length = k + 1 by rw [List.length_append, HTL.out]; rfl] at e8; subst e8; have c008 := (HB8.out.cell (p := ⟨b0, 0, none⟩) (yaj HC0.out)).trans HC0.out; clear h8 hg8 hb8)
     | (at_builtin; (refine appendN rfl (.tmp 61) (.tmp 65) rfl _ w2.heap.size _ (M.take k ++ [(⟨.slice A6 s.length d6, .slice A7 l.length d7, s, l⟩ : ME)]) ([] : List ME) rfl HO8.out rfl (yop _ _ _) (fun u hu => by simp [mcells] at hu) HB8.out.size (by rw [List.length_append, HTL.out]; have := hk; simp <;> omega) ?_); intro v10 w10 h10 hg10 hb10; have HO10 := zH h10; have HE10 := zH (HE8.out.grown HO8.out hg10); have HB10 := zH (HB8.out.trans hb10); have HW10 := zH (H02.out.trans (HB10.out.mono H02.out.size)); have HT10 := zH ((HB10.out.block b1 HSZ.out).trans HT1.out); have d1 : w10.cell? ⟨b1, 0, none⟩ = some (.slice none 0 0) := (by rw [cell_of_row _ _ 0 _ _ _ HT10.out]; rfl); have d2 : w10.frozen? ⟨b1, 0, none⟩ = false := frozen_of_row _ _ 0 _ _ HT10.out; obtain ⟨A10, c10, e10⟩ := HO10.out.form; rw [show (M.take k ++ [(⟨.slice A6 s.length d6, .slice A7 l.length d7, s, l⟩ : ME)] ++ ([] : List ME)).length = k + 1 by have h0 := HTL.out; simp only [List.length_append, List.length_cons, List.length_nil]; omega] at e10; subst e10; clear h10 hg10 hb10))
    have d3 : (w10.setCell ⟨b1, 0, none⟩ (.slice A10 (k + 1) c10)).cell? ⟨b1, 0, none⟩ = some (.slice A10 (k + 1) c10) := by rw [cell_of_row _ _ 0 _ _ _ (heap_setCell_same w10 b1 0 _ _ _ HT10.out)]; rfl
    have hfin := ygt (w2 := w2) (y := .slice A10 (k + 1) c10) (fun k hk => HU.out k (Nat.le_trans H02.out.size hk)) HM.out.2 HW10.out (by have := HB0.out; have := HB1.out; omega) HSZ.out HO10.out HE10.out (HFIN.out _ _) HNM.out
    exact bodyPost_ret (v := .agg #[.slice A10 (k + 1) c10]) (by simp [results, Tryz.results42, go_sem, d3]) rfl ⟨⟨_, rfl, hfin.1⟩, hfin.2⟩
end Go.Proofs.YteibnfeokgibmaaGreat
