/-
  PACKED for a claim.
-/
import Derived.Test.YteibnfeokgibmaaGreatP48
import Derived.Test.YteibnfeokgibmaaGreatP49
import Derived.Test.YteibnfeokgibmaaGreatP50
set_option linter.unusedVariables false
set_option linter.unusedSimpArgs false
set_option maxRecDepth 100000
section
namespace Go.Proofs.YteibnfeokgibmaaGreat
open Go.RowKit
variable {U : Nat -> Prop}
def AnS (t : ST) : Prop := ∀ A, t.A = some A -> Anc A
theorem yxy {t : ST} (hg : GoodT t.L) (h8 : AnS t) {r : S6.RV} (hE : rulE t r = 0) : AnS (rulS t r) := by
 intro A' hA'; unfold rulE at hE; unfold rulS at hA'
 by_cases h1 : r.rel = 1
 ·rw [if_pos h1] at hE hA'
  injection hA' with hA'
  subst hA'
  have hlt : ¬ 8 < (elsP t.L r.seq).length := by intro h; rw [if_pos h] at hE; cases hE
  exact ⟨by omega, els_lt hg r.seq⟩
 ·rw [if_neg h1] at hE hA'
  cases hA : t.A with
  | none => rw [hA] at hE; cases hE
  | some A =>
   rw [hA] at hE hA'
   simp only at hE hA'
   have hc : chgE r.rel t.L A = 0 := by
    apply Classical.byContradiction
    intro hc; rw [if_pos hc] at hE; exact hc hE
   injection hA' with hA'
   subst hA'; exact ypp (h8 A hA) hc
def AppIs (U : Nat -> Prop) (L : List PE) (E : Int) (w : World) (q : Ending) (w' : World) : Prop :=
 (E = 0 -> ∃ p : Nat, q = .returned (.tuple #[.pointer (some ⟨p, 0, none⟩), .int .i64 0]) /\ TabAt U w' p L) /\ (E ≠ 0 -> q = .returned (.tuple #[.pointer none, .int .i64 E])) /\ Below w.heap.size w w'
theorem ta_new {B : Nat} {w : World} {q : Nat} {L : List PE} (h : TabAt U w q L) (hB : B <= w.heap.size) (hU : ∀ k, B <= k -> U k) : TA U B (w.alloc (.cells #[.pointer (some ⟨q, 0, none⟩), .slice none 0 0, .bool false] 143)) w.heap.size ⟨L, none⟩ := by
 refine ⟨⟨q, _, heap_alloc_new w _, (h.tight.below (yaa w _) (zN _)).mono fun k hk => ⟨(fun e => by cases e), (by have := hk.2; omega), hk.1⟩, World.ownsRow_nil _ _ _ _⟩, hB, hU⟩
theorem rule_at {w : World} {A : Option Addr} {n c : Nat} {l : List S6.RV} (h : S6.RdRs w (.slice A n c) l) {k : Nat} {x : S6.RV} (hk : l[k]? = some x) :
  ∃ (g o : Nat) (vs ve : Value), A = some ⟨g, o, none⟩ /\ w.cell? ⟨g, o + k * 3, none⟩ = some (.int .i64 x.rel) /\ w.cell? ⟨g, o + k * 3 + 1, none⟩ = some vs /\ w.cell? ⟨g, o + k * 3 + 2, none⟩ = some ve /\ RdI (fun g => g < w.heap.size) w vs x.seq /\ RdI (fun g => g < w.heap.size) w ve x.exp := by
 obtain ⟨g, o, vs, ve, h1, h2, h3, h4, h5, h6⟩ := h.at hk; exact ⟨g, o, vs, ve, h1, h2, h3, h4, RdF.mono (RdF.lt h5 (iv_len _)) fun g hg => hg.2, RdF.mono (RdF.lt h6 (iv_len _)) fun g hg => hg.2⟩
theorem yyh {t : ST} {l : List S6.RV} {k : Nat} {r : S6.RV} (hk : l[k]? = some r) : rlsE t (l.drop k) = (if rulE t r ≠ 0 then rulE t r else rlsE (rulS t r) (l.drop (k + 1))) /\ rlsS t (l.drop k) = rlsS (rulS t r) (l.drop (k + 1)) := by
 have hlt := (List.getElem?_eq_some_iff.1 hk).1; have e := (List.getElem?_eq_some_iff.1 hk).2; rw [List.drop_eq_getElem_cons hlt, e]; exact ⟨rfl, rfl⟩
set_option maxHeartbeats 8000000 in
theorem yxc {w : World} {p : Nat} {L : List PE} (hU : ∀ k, w.heap.size <= k -> U k) (hT : TabAt U w p L) {rv : Value} {l : List S6.RV} (hr : S6.RdRs w rv l) (hl : l.length <= 1000) (hok : ∀ r ∈ l, RuOk r) {E : Int} (hE : appE L l = E) {L' : List PE} (hL' : appL L l = L') :
  Calls Tryz.prog 51 #[.pointer (some ⟨p, 0, none⟩), rv] w (AppIs U L' E w) := by
 obtain ⟨A, c, rfl⟩ := hr.form; have CM := zH (ypb (F := U) hU hT); rw [yvd] at CM; have HR := zH hr; have HU := zH hU; have HOK := zH hok; obtain ⟨n, hn⟩ : ∃ n, l.length = n := ⟨_, rfl⟩; have HN := zH hn; rw [hn] at HR hl |-
 have hnI : (n : Int) <= 1000 := by omega
 unfold appE at hE; unfold appL at hL'; have HEE := zH hE; have HLL := zH hL'; clear hT hr hok hn hE hL' hU
 go_enter Tryz.func51, Tryz.ntmps51
 go_wp2_with (go_at_call 83; refine (CM.out).mono ?_; rintro q w1 ⟨⟨q1, rfl, ht1⟩, hb1⟩; have HTA := zH (ta_new ht1 hb1.size HU.out); have HB1 := zH (hb1.trans ((yaa w1 (.cells #[.pointer (some ⟨q1, 0, none⟩), .slice none 0 0, .bool false] 143)).mono hb1.size)); clear ht1 hb1)
 generalize hw2 : (w1.alloc (.cells #[.pointer (some ⟨q1, 0, none⟩), .slice none 0 0, .bool false] 143)) = w2 at HTA HB1 |-; clear hw2; obtain ⟨px, hpx⟩ : ∃ px, w1.heap.size = px := ⟨_, rfl⟩; rw [hpx] at HTA; rw [show (({ block := w1.heap.size, off := 0 } : Addr)) = ⟨px, 0, none⟩ by rw [hpx]]
 clear hpx CM
 go_loopw [17] (fun i wr => ∃ (k : Nat) (t : ST), k <= n /\ i = .int .i64 (k : Nat) /\ Hid (TA U w.heap.size wr px t) /\ Hid (AnS t) /\ Hid (rlsE t (l.drop k) = rlsE ⟨L, none⟩ l) /\ Hid (rlsS t (l.drop k) = rlsS ⟨L, none⟩ l) /\ Hid (Below w.heap.size w wr)) (fun i _ => n - (intOf i).toNat)
 case atStart => exact ⟨0, ⟨L, none⟩, Nat.zero_le _, rfl, HTA.out, (fun A h => by cases h), rfl, rfl, HB1.out⟩
 case round =>
  clear HTA HB1; obtain ⟨k, t, hk, rfl, HT, HA, HE, HS, HB⟩ := hrel; obtain ⟨wo, rfl⟩ : ∃ wo, wo = wr := ⟨_, rfl⟩
  by_cases hlt : k < n
  ·obtain ⟨r, hr⟩ : ∃ r, l[k]? = some r := ⟨_, List.getElem?_eq_getElem (by rw [HN.out]; exact hlt)⟩
   obtain ⟨g, o, vs, ve, rfl, d0, d1, d2, s1, s2⟩ := rule_at HR.out hr; have hro := HOK.out r (List.mem_of_getElem? hr); have c0 := (HB.out.cell (yaj d0)).trans d0; have c1 := (HB.out.cell (yaj d1)).trans d1; have c2 := (HB.out.cell (yaj d2)).trans d2; obtain ⟨hc1, hc2⟩ := yyh (t := t) hr; rw [HE.out] at hc1; rw [HS.out] at hc2; obtain ⟨A1, k1, rfl⟩ := s1.form; obtain ⟨A2, k2, rfl⟩ := s2.form; obtain ⟨e, he⟩ : ∃ e, rulE t r = e := ⟨_, rfl⟩; rw [he] at hc1; have hba := yaa wo (.cells #[.int .i64 r.rel, .slice A1 r.seq.length k1, .slice A2 r.exp.length k2] 136); have CA := zH (ypz (HT.out.below hba) HA.out (RdF.below (RdI.keep s1 HB.out) hba (zN _)) (RdF.below (RdI.keep s2 HB.out) hba (zN _)) hro he); have HBA := zH (HB.out.trans (hba.mono HB.out.size))
   have hkI : (k : Int) < (n : Int) := by omega
   have HX : Hid ((wo.alloc (.cells #[.int .i64 r.rel, .slice A1 r.seq.length k1, .slice A2 r.exp.length k2] 136)).heap[wo.heap.size]? = some (.cells #[.int .i64 r.rel, .slice A1 r.seq.length k1, .slice A2 r.exp.length k2] 136 (0, 0))) := heap_alloc_new wo _
   have x0 : (wo.alloc (.cells #[.int .i64 r.rel, .slice A1 r.seq.length k1, .slice A2 r.exp.length k2] 136)).cell? ⟨wo.heap.size, 0, none⟩ = some (.int .i64 r.rel) := yat HX.out rfl
   have x1 : (wo.alloc (.cells #[.int .i64 r.rel, .slice A1 r.seq.length k1, .slice A2 r.exp.length k2] 136)).cell? ⟨wo.heap.size, 1, none⟩ = some (.slice A1 r.seq.length k1) := yat HX.out rfl
   have x2 : (wo.alloc (.cells #[.int .i64 r.rel, .slice A1 r.seq.length k1, .slice A2 r.exp.length k2] 136)).cell? ⟨wo.heap.size, 2, none⟩ = some (.slice A2 r.exp.length k2) := yat HX.out rfl
   have HAN : Hid (e = 0 -> AnS (rulS t r)) := fun h0 => by
    obtain ⟨⟨q, va, h1, h2, h3⟩, h4⟩ := HT.out; exact yxy h2.good HA.out (he.trans h0)
   by_cases hE0 : e = 0
   ·subst hE0; rw [if_neg (by simp)] at hc1
    have HC1 := zH hc1; have HC2 := zH hc2; clear hr d0 d1 d2 s1 s2 hro hc1 hc2 he hba hlt
    go_wp2_with (go_at_call 85; refine (CA.out).mono ?_; rintro q w3 ⟨rfl, k1, k2, -⟩; have K1 := zH (k1 rfl); have K2 := zH (HBA.out.trans k2); clear k1 k2 c0 c1 c2 x0 x1 x2)
    go_roundw
    case rel => exact ⟨k + 1, rulS t r, by omega, by go_num, K1.out, (HAN.out trivial), HC1.out.symm, HC2.out.symm, K2.out⟩
    case measure => simp [intOf] <;> omega
   ·rw [if_pos hE0] at hc1
    have HC1 : Hid (E = e) := by
     have h := HEE.out
     show _ = _
     rw [<- h, hc1, if_pos hE0]
    have HE0 := zH hE0
    have hen : (e != 0) = true := by simpa using hE0
    clear hr d0 d1 d2 s1 s2 hro hc1 hc2 he hba hlt hE0
    go_wp2_with (go_at_call 85; refine (CA.out).mono ?_; rintro q w3 ⟨rfl, -, k2, -⟩; have K2 := zH (HBA.out.trans k2); clear k2 c0 c1 c2 x0 x1 x2)
    go_ret2
    exact ⟨fun h => absurd (HC1.out.symm.trans h) HE0.out, fun _ => by rw [HC1.out]; rfl, K2.out⟩
  ·obtain rfl : k = n := by omega
   have hd : l.drop k = [] := List.drop_of_length_le (by rw [HN.out]; exact zN _)
   have he := HE.out; have hs := HS.out; rw [hd] at he hs
   have he : 0 = rlsE ⟨L, none⟩ l := he
   have hs : t = rlsS ⟨L, none⟩ l := hs
   obtain ⟨⟨q, va, h1, h2, h3⟩, h4⟩ := HT.out; obtain ⟨e, hchk⟩ : ∃ e, checkP t.L = e := ⟨_, rfl⟩
   have HEQ : Hid (E = e) := by
    have h := HEE.out
    show _ = _
    rw [<- h, <- he, if_neg (by simp), <- hs, hchk]
   have HLQ : Hid (t.L = L') := by show _ = _; rw [<- HLL.out, <- hs]
   have CK := zH (ymj h2 hchk)
   have c0 : wo.cell? ⟨px, 0, none⟩ = some (.pointer (some ⟨q, 0, none⟩)) := yat h1 rfl
   have HT2 := zH h2
   have hltI : ¬ (k : Int) < (k : Int) := by omega
   have HX := zH h1
   by_cases hE0 : e = 0
   ·subst hE0; clear hd he hs h1 h2 h3 h4 hchk hlt
    go_wp2_with (go_at_call 86; refine (CK.out).mono ?_; rintro q' w3 ⟨rfl, hb⟩; have d0 := yab hb c0; have HB3 := zH (HB.out.trans (hb.mono HB.out.size)); have HT3 := zH (HT2.out.below hb (zN _)); clear hb c0)
    go_ret2
    exact ⟨fun _ => ⟨_, rfl, by rw [<- HLQ.out]; exact HT3.out.mono fun _ h => h.2.2⟩, fun h => absurd HEQ.out h, HB3.out⟩
   ·have HE0 := zH hE0
    have hen : (e != 0) = true := by simpa using hE0
    clear hd he hs h1 h2 h3 h4 hchk hlt hE0
    go_wp2_with (go_at_call 86; refine (CK.out).mono ?_; rintro q' w3 ⟨rfl, hb⟩; have HB3 := zH (HB.out.trans (hb.mono HB.out.size)); clear hb c0)
    go_ret2
    exact ⟨fun h => absurd (HEQ.out.symm.trans h) HE0.out, fun _ => by rw [HEQ.out]; rfl, HB3.out⟩
end Go.Proofs.YteibnfeokgibmaaGreat
end
namespace Go.Proofs.YteibnfeokgibmaaGreat
open Go.RowKit
def okL (x : S6.RV) : Bool := decide (x.seq.length <= 3) && decide (x.exp.length <= 3)
theorem yot (L : List UInt8) : ∀ (f : Nat) (out : List S6.RV) (k : Nat), k <= L.length -> out.all okL = true -> (S6.parD L f out k).1.all okL = true /\ (S6.parD L f out k).1.length <= 40
 | 0, out, k, hk, ho => by rw [S6.parD]; exact ⟨rfl, by simp⟩
 | f + 1, out, k, hk, ho => by
  rw [S6.parD]
  split
  ·split
   ·exact ⟨rfl, by simp⟩
   ·exact ⟨ho, by simp only; omega⟩
  ·split
   ·exact ⟨rfl, by simp⟩
   ·split
    ·exact ⟨rfl, by simp⟩
    ·split
     ·exact ⟨rfl, by simp⟩
     ·rename_i h0 h1 h2 h3
      have hw := S6.yby (L.drop k); rw [List.length_drop] at hw
      have hw : 1 <= (S6.relD (L.drop k)).1 /\ (S6.relD (L.drop k)).1 <= 5 /\ 1 <= (S6.relD (L.drop k)).2 /\ (S6.relD (L.drop k)).2 <= L.length - k := by
       rcases hw with hw | hw
       ·rw [hw] at h1; exact absurd (Or.inl rfl) h1
       ·omega
      have hc : k + (S6.relD (L.drop k)).2 <= L.length := by omega
      have hq := S6.yeq hc; have hx := S6.yvz (r := (S6.relD (L.drop k)).1) hq.2; have ha := S6.af_le hx.2; refine yot L f _ _ ha.2 ?_; rw [List.all_append, ho, Bool.true_and]; simp only [List.all_cons, List.all_nil, Bool.and_true, okL, Bool.and_eq_true, decide_eq_true_eq]; refine ⟨(S6.yin L 3 [] _ rfl rfl (by simpa [S6.seqD] using h2)).2.2, ?_⟩
      unfold S6.expD at h3 |-
      split
      ·rename_i h5
       rw [if_pos h5] at h3; exact (S6.yin L 3 [] _ rfl rfl (by simpa [S6.seqD] using h3)).2.2
      ·simp
theorem yyx (L : List UInt8) : (S6.parse L).1.length <= 40 /\ ∀ r ∈ (S6.parse L).1, RuOk r := by
 have h := yot L (L.length + 2) [] _ (S6.af_le (L := L) (k := 0) (Nat.zero_le _)).2 rfl; have h2 := S6.yud L; refine ⟨h.2, fun r hr => ?_⟩
 have h3 := List.all_eq_true.1 h.1 r hr; have h4 := List.all_eq_true.1 h2 r hr; simp only [okL, Bool.and_eq_true, decide_eq_true_eq] at h3; simp only [S6.okR, Bool.and_eq_true, decide_eq_true_eq] at h4; exact ⟨sg_i64 h4.1.2, sg_i64 h4.2, by omega, by omega⟩
theorem ykf {s : ByteArray} (w : World) (hs : s.size <= 1000000) {l : List S6.RV} {at' E : Nat} (hR : S6.parse s.data.toList = (l, at', E)) :
  Calls Tryz.prog 50 #[.string s] w fun e w' => (∃ (A : Option Addr) (n c : Nat), e = .returned (.tuple #[.slice A n c, .int .i64 (at' : Nat), .int .i64 (E : Nat)]) /\ n = l.length /\ S6.RdRs w' (.slice A n c) l) /\ Below w.heap.size w w' := by
 refine (S6.par_any w hs hR).mono fun e w' hh => ?_
 obtain ⟨⟨v, rfl, hr⟩, hb⟩ := hh; obtain ⟨A, c, rfl⟩ := hr.form; exact ⟨⟨A, _, c, rfl, rfl, hr⟩, hb⟩
def ReadIs (L : List PE) (k : Nat) (E : Int) (w : World) (q : Ending) (w' : World) : Prop :=
 (E = 0 -> ∃ p : Nat, q = .returned (.tuple #[.pointer (some ⟨p, 0, none⟩), .int .i64 (k : Nat), .int .i64 0]) /\ TabAt (fun k => w.heap.size <= k) w' p L) /\ (E ≠ 0 -> q = .returned (.tuple #[.pointer none, .int .i64 (k : Nat), .int .i64 E])) /\ Below w.heap.size w w'
set_option maxHeartbeats 4000000 in
theorem yyo {s : ByteArray} (w : World) (hs : s.size <= 1000000) {l : List S6.RV} {at' E : Nat} (hR : S6.parse s.data.toList = (l, at', E)) (hE : E ≠ 0) (L : List PE) :
  Calls Tryz.prog 29 #[.string s] w (ReadIs L at' E w) := by
 have CP := zH (ykf w hs hR)
 have hen : ((E : Int) != 0) = true := by simpa using hE
 have HE : Hid (¬ (E : Int) = 0) := by show ¬ _; omega
 clear hs hR hE
 go_enter Tryz.func29, Tryz.ntmps29
 go_wp2_with (go_at_call 50; refine (CP.out).mono ?_; rintro q w1 ⟨⟨A, n, c, rfl, -, -⟩, hb⟩; have HB := zH hb; clear hb)
 go_ret3
 exact ⟨fun h => absurd h HE.out, fun _ => rfl, HB.out⟩
set_option maxHeartbeats 4000000 in
theorem read_ok {s : ByteArray} (w : World) (hs : s.size <= 1000000) {l : List S6.RV} {at' : Nat} (hR : S6.parse s.data.toList = (l, at', 0)) {E : Int} (hE : appE rootP l = E) {L : List PE} (hL : appL rootP l = L) :
  Calls Tryz.prog 29 #[.string s] w (ReadIs L 0 E w) := by
 have CP : Hid (Calls Tryz.prog 50 #[.string s] w fun e w' => (∃ (A : Option Addr) (n c : Nat), e = .returned (.tuple #[.slice A n c, .int .i64 (at' : Nat), .int .i64 0]) /\ n = l.length /\ S6.RdRs w' (.slice A n c) l) /\ Below w.heap.size w w') := ykf w hs hR
 have HRU := zH (yyx s.data.toList); rw [hR] at HRU; have HE := zH hE; have HL := zH hL
 have CA : Hid (∀ (w1 : World) (p : Nat) (rv : Value), w.heap.size <= w1.heap.size -> TabAt (fun k => w.heap.size <= k) w1 p rootP -> S6.RdRs w1 rv l -> Calls Tryz.prog 51 #[.pointer (some ⟨p, 0, none⟩), rv] w1 (AppIs (fun k => w.heap.size <= k) L E w1)) := fun w1 p rv hs ht hr => yxc (fun k hk => Nat.le_trans hs hk) ht hr (Nat.le_trans HRU.out.1 (by omega)) HRU.out.2 HE.out HL.out
 clear hs hR hE hL
 by_cases hE0 : E = 0
 ·subst hE0
  go_enter Tryz.func29, Tryz.ntmps29
  go_wp2_with (first
   | (go_at_call 50; refine (CP.out).mono ?_; rintro q w1 ⟨⟨A, n, c, rfl, -, hr⟩, hb⟩; have HB := zH hb; have HR := zH hr; clear hb hr)
   | (go_at_call 25; refine (ykb _).mono ?_; rintro q w2 ⟨p, rfl, ht, hb⟩; have HB2 := zH (HB.out.trans (hb.mono HB.out.size)); have HR2 := zH (HR.out.below hb (zN _)); have HT := zH (ht.mono fun k hk => Nat.le_trans HB.out.size hk); clear hb ht)
   | (go_at_call 51; refine (CA.out _ _ _ HB2.out.size HT.out HR2.out).mono ?_; rintro q w3 ⟨h1, -, hb⟩; obtain ⟨p3, rfl, ht⟩ := h1 rfl; have HB3 := zH (HB2.out.trans (hb.mono HB2.out.size)); have HT3 := zH ht; clear h1 hb ht))
  go_ret3
  exact ⟨fun _ => ⟨_, rfl, HT3.out⟩, fun h => absurd rfl h, HB3.out⟩
 ·have HE0 := zH hE0
  have hen : (E != 0) = true := by simpa using hE0
  clear hE0
  go_enter Tryz.func29, Tryz.ntmps29
  go_wp2_with (first
   | (go_at_call 50; refine (CP.out).mono ?_; rintro q w1 ⟨⟨A, n, c, rfl, -, hr⟩, hb⟩; have HB := zH hb; have HR := zH hr; clear hb hr)
   | (go_at_call 25; refine (ykb _).mono ?_; rintro q w2 ⟨p, rfl, ht, hb⟩; have HB2 := zH (HB.out.trans (hb.mono HB.out.size)); have HR2 := zH (HR.out.below hb (zN _)); have HT := zH (ht.mono fun k hk => Nat.le_trans HB.out.size hk); clear hb ht)
   | (go_at_call 51; refine (CA.out _ _ _ HB2.out.size HT.out HR2.out).mono ?_; rintro q w3 ⟨-, h1, hb⟩; have h2 := h1 HE0.out; subst h2; have HB3 := zH (HB2.out.trans (hb.mono HB2.out.size)); clear h1 hb))
  go_ret3
  exact ⟨fun h => absurd h HE0.out, fun _ => rfl, HB3.out⟩
def rdK (s : ByteArray) : Nat := if (S6.parse s.data.toList).2.2 = 0 then 0 else (S6.parse s.data.toList).2.1
def rdE (s : ByteArray) : Int := if (S6.parse s.data.toList).2.2 = 0 then appE rootP (S6.parse s.data.toList).1 else (S6.parse s.data.toList).2.2
def rdL (s : ByteArray) : List PE := appL rootP (S6.parse s.data.toList).1
theorem Read_any {s : ByteArray} (w : World) (hs : s.size <= 1000000) : Calls Tryz.prog 29 #[.string s] w (ReadIs (rdL s) (rdK s) (rdE s) w) := by
 obtain ⟨R, hR⟩ : ∃ R, S6.parse s.data.toList = R := ⟨_, rfl⟩; obtain ⟨l, k, e⟩ := R; unfold rdL rdK rdE; rw [hR]
 by_cases he : e = 0
 ·subst he; exact read_ok w hs hR rfl rfl
 ·simp only [if_neg he]; exact yyo w hs hR he _
end Go.Proofs.YteibnfeokgibmaaGreat
namespace Go.Proofs.YteibnfeokgibmaaGreat
def Lx (n x : Nat) : Prop := wgt 2 x <= 150 + n /\ wgt 3 x <= 60 + n
theorem Lx.more {n m x : Nat} (h : Lx n x) (hm : n <= m) : Lx m x := ⟨by have := h.1; omega, by have := h.2; omega⟩
end Go.Proofs.YteibnfeokgibmaaGreat
namespace Go.Proofs.YteibnfeokgibmaaGreat
open Go.RowKit
def RAppIs (L : List PE) (E : Int) (w : World) (q : Ending) (w' : World) : Prop :=
 (E = 0 -> ∃ u : Value, q = .returned (.tuple #[.agg #[u], .int .i64 0]) /\ RefT w' u L) /\ (E ≠ 0 -> q = .returned (.tuple #[.agg #[.slice none 0 0], .int .i64 E])) /\ Below w.heap.size w w'
theorem RAppIs.bad {L : List PE} {E : Int} {w w' : World} (hE : E ≠ 0) (hb : Below w.heap.size w w') : RAppIs L E w (.returned (.tuple #[.agg #[.slice none 0 0], .int .i64 E])) w' := ⟨fun h => absurd h hE, fun _ => rfl, hb⟩
theorem yti {s : ByteArray} (w : World) (hs : s.size <= 1000000) {l : List S6.RV} {at' E : Nat} (hR : S6.parse s.data.toList = (l, at', E)) :
  Calls Tryz.prog 52 #[.string s] w fun e w' => (∃ (A : Option Addr) (n c : Nat), e = .returned (.agg #[.slice A n c, .int .i64 (at' : Nat), .int .i64 (E : Nat)]) /\ n = l.length /\ S6.RdRs w' (.slice A n c) l) /\ Below w.heap.size w w' := by
 refine (S6.yyf w hs hR).mono fun e w' hh => ?_
 obtain ⟨⟨v, rfl, hr⟩, hb⟩ := hh; obtain ⟨A, c, rfl⟩ := hr.form; exact ⟨⟨A, _, c, rfl, rfl, hr⟩, hb⟩
def RReadIs (L : List PE) (k : Nat) (E : Int) (w : World) (q : Ending) (w' : World) : Prop :=
 (E = 0 -> ∃ u : Value, q = .returned (.tuple #[.agg #[u], .int .i64 (k : Nat), .int .i64 0]) /\ RefT w' u L) /\ (E ≠ 0 -> q = .returned (.tuple #[.agg #[.slice none 0 0], .int .i64 (k : Nat), .int .i64 E])) /\ Below w.heap.size w w'
set_option maxHeartbeats 8000000 in
theorem yye {s : ByteArray} (w : World) (hs : s.size <= 1000000) {l : List S6.RV} {at' : Nat} (hR : S6.parse s.data.toList = (l, at', 0)) {E : Int} {L : List PE} (hA : ∀ (w1 : World) (u rv : Value), RefT w1 u rootP -> S6.RdRs w1 rv l -> Calls Tryz.prog 53 #[.agg #[u], rv] w1 (RAppIs L E w1)) :
  Calls Tryz.prog 30 #[.string s] w (RReadIs L 0 E w) := by
 have CP : Hid (Calls Tryz.prog 52 #[.string s] (w.alloc (.cells #[.slice none 0 0] 40)) fun e w' => (∃ (A : Option Addr) (n c : Nat), e = .returned (.agg #[.slice A n c, .int .i64 (at' : Nat), .int .i64 0]) /\ n = l.length /\ S6.RdRs w' (.slice A n c) l) /\ Below (w.alloc (.cells #[.slice none 0 0] 40)).heap.size (w.alloc (.cells #[.slice none 0 0] 40)) w') := yti _ hs hR
 have H0 := zH (heap_alloc_new w (.cells #[.slice none 0 0] 40)); have HB := zH (yaa w (.cells #[.slice none 0 0] 40)); have CA := zH hA; obtain ⟨k, hk⟩ : ∃ e : Int, (at' : Int) = e := ⟨_, rfl⟩; rw [hk] at CP; clear hs hR hA hk
 go_enter Tryz.func30, Tryz.ntmps30
 go_upto_region 4 with (go_at_call 52; refine (CP.out).mono ?_; rintro q w1 ⟨⟨A, n, c, rfl, -, hr⟩, hb⟩; have hal := yaa w1 (.cells #[.slice A n c, .int .i64 k, .int .i64 0] 103); have hx := heap_alloc_new w1 (.cells #[.slice A n c, .int .i64 k, .int .i64 0] 103); have HX := zH hx; have x0 := yar (i := 0) (v := .slice A n c) hx rfl; have x1 := yar (i := 1) (v := .int .i64 k) hx rfl; have x2 := yar (i := 2) (v := .int .i64 0) hx rfl; have r1 := (hb.block w.heap.size (R4.yad H0.out)).trans H0.out; have r2 := (hal.block w.heap.size (R4.yad r1)).trans r1; have R2 := zH r2; have y2 := yar (i := 0) (v := .slice none 0 0) r2 rfl; have y2f := frozen_of_row _ w.heap.size 0 _ _ r2; have HR := zH (hr.below hal (zN _)); have HB2 := zH (HB.out.trans ((hb.trans (hal.mono hb.size)).mono HB.out.size)); clear hal hx r1 r2 hr hb)
 clear x1 x2 y2 y2f; have X0 := zH x0; clear x0; obtain ⟨b2, hb2⟩ : ∃ b, w.heap.size = b := ⟨_, rfl⟩
 have HBL : Hid (w.heap.size <= b2) := by show _ <= _; omega
 obtain ⟨b5, hb5⟩ : ∃ b, w1.heap.size = b := ⟨_, rfl⟩; rw [hb5] at X0 |-; rw [hb2] at R2; rw [show (({ block := w.heap.size, off := 0 } : Addr)) = ⟨b2, 0, none⟩ by rw [hb2]]
 clear hb2 hb5 CP H0 HB HX; generalize (w1.alloc (.cells #[.slice A n c, .int .i64 k, .int .i64 0] 103)) = wc at X0 R2 HR HB2 |-
 by_cases hE0 : E = 0
 ·subst hE0; refine ydq (m := 8) 6 [19, 20, 21, 22, 18, 23, 24, 6] [SV.ref rootP, SV.eq (.pointer (some ⟨b5, 0, none⟩)), SV.eq (.slice A n c), SV.rw L, SV.rw L, SV.ref L, SV.eq (.int .i64 0), SV.newT wc.heap.size] (by kernel_rfl) (by kernel_rfl) ?_ ?_ ?_
  ·refine ⟨⟨⟨⟨⟨⟨⟨⟨trivial, ?_⟩, ?_⟩, ?_⟩, ?_⟩, ?_⟩, ?_⟩, ?_⟩, ?_⟩
   all_goals (refine OpIs.mk rfl ?_; intro vs w1 hb hd K hK; simp only [frameV, zS, zA, zB, zC, zD] at hK |-)
   ·have HK := zH hK; clear hK; go_simp
    go_at_call 26
    refine (ylg w1).mono ?_; rintro r5 w5 ⟨⟨u5, rfl, hu5⟩, hb5⟩; exact HK.out _ _ ⟨u5, rfl, hu5⟩ hb5
   ·have HK := zH hK; clear hK; go_simp; exact HK.out _ _ rfl (zR _ _)
   ·have d1 : vs 1 = .pointer (some ⟨b5, 0, none⟩) := hd 1 (by kernel_rfl)
    have c0 := yab hb X0.out; simp only [d1] at hK |-; have HK := zH hK; clear hK; go_simp; exact HK.out _ _ rfl (zR _ _)
   ·have d0 : ∃ u, (vs 0) = .agg #[u] /\ RefT w1 u rootP := hd 0 (by kernel_rfl)
    have d2 : vs 2 = .slice A n c := hd 2 (by kernel_rfl)
    have h7 := Exists.choose_spec d0; generalize Exists.choose d0 = u7 at h7; have e7 := h7.1; have hu7 := zH h7.2; clear h7 d0; simp only [d2] at hK |-; simp only [e7] at hK |-; have HK := zH hK; clear hK; go_simp
    go_at_call 53
    refine (CA.out w1 _ _ hu7.out (HR.out.below hb (zN _))).mono ?_; rintro r5 w5 ⟨h1, -, hb5⟩; obtain ⟨u5, rfl, hu5⟩ := h1 rfl; exact HK.out _ _ ⟨u5, rfl, hu5⟩ hb5
   ·have d3 : (SV.rw L).p (vs 3) w1 := hd 3 (by kernel_rfl)
    have h7 := Exists.choose_spec (SV.rw_get d3); generalize Exists.choose (SV.rw_get d3) = u7 at h7; have e7 := h7.1; have hu7 := zH h7.2; clear h7 d3; simp only [e7] at hK |-; have HK := zH hK; clear hK; go_simp; exact HK.out _ _ ⟨_, rfl, hu7.out⟩ (zR _ _)
   ·have d4 : (SV.rw L).p (vs 4) w1 := hd 4 (by kernel_rfl)
    have h7 := Exists.choose_spec (SV.rw_get d4); generalize Exists.choose (SV.rw_get d4) = u7 at h7; have e7 := h7.1; have hu7 := zH h7.2; clear h7 d4; simp only [e7] at hK |-; have HK := zH hK; clear hK; go_simp; exact HK.out _ _ ⟨_, rfl, hu7.out⟩ (zR _ _)
   ·have d4 : (SV.rw L).p (vs 4) w1 := hd 4 (by kernel_rfl)
    have h7 := Exists.choose_spec (SV.rw_get d4); generalize Exists.choose (SV.rw_get d4) = u7 at h7; have e7 := h7.1; have hu7 := zH h7.2; clear h7 d4; simp only [e7] at hK |-; have HK := zH hK; clear hK; go_simp; exact HK.out _ _ rfl (zR _ _)
   ·have HK := zH hK; clear hK; go_simp; exact HK.out _ _ ⟨_, rfl, hb.size, heap_alloc_new w1 _⟩ (yaa w1 _)
  ·intro vs w5 hb hd; obtain ⟨u5, e13, hu5⟩ : ∃ u, vs 5 = .agg #[u] /\ RefT w5 u L := hd 5 (by omega)
   obtain ⟨A5, c5, f5⟩ := hu5.form; obtain ⟨n5, hn5⟩ : ∃ n5, L.length = n5 := ⟨_, rfl⟩; rw [hn5] at f5; subst f5
   have e14 : vs 6 = .int .i64 0 := hd 6 (by omega)
   obtain ⟨g13, e15, hg13, hr13⟩ : ∃ g, vs 7 = .pointer (some ⟨g, 0, none⟩) /\ wc.heap.size <= g /\ w5.heap[g]? = some (.cells #[.slice none 0 0] 40 (0, 0)) := hd 7 (by omega)
   have x1 := yar (i := 0) (v := .slice none 0 0) hr13 rfl
   have x2 : w5.frozen? ⟨g13, 0, none⟩ = false := frozen_of_row _ _ 0 _ _ hr13
   have r5 := (hb.block b2 (R4.yad R2.out)).trans R2.out
   have ne2 : b2 ≠ g13 := by have := R4.yad R2.out; omega
   have HB5 := zH (HB2.out.trans (hb.mono HB2.out.size)); have h13 := heap_setCell_same w5 g13 0 _ _ (.slice A5 n5 c5) hr13; have r6 := (Below.heap_setCell w5 ⟨g13, 0, none⟩ (.slice A5 n5 c5) b2 ne2).trans r5; have R6 := zH r6; have y13 := yar (i := 0) (v := .slice A5 n5 c5) h13 rfl; have y2 := yar (i := 0) (v := .slice none 0 0) r6 rfl; have y2f := frozen_of_row _ b2 0 _ _ r6
   have HB6 : Hid (Below w.heap.size w (w5.setCell ⟨g13, 0, none⟩ (.slice A5 n5 c5))) := HB5.out.setCell (by show _ <= g13; have := HB2.out.size; omega) _
   have HU6 : Hid (RefT (w5.setCell ⟨g13, 0, none⟩ (.slice A5 n5 c5)) (.slice A5 n5 c5) L) := hu5.off (R4.yae w5 ⟨g13, 0, none⟩ _) hr13 (by decide) (by decide) (by decide)
   simp only [frameV, zS, zA, zB, List.drop_succ_cons, List.drop_zero, List.take_succ_cons, List.take_zero, List.cons_append, List.nil_append, e13, e14, e15]; clear hb hd e13 e14 e15 hg13 hr13 r5 ne2 h13 r6 hu5 hn5
   go_wp2
   have h9 := heap_setCell_same (w5.setCell ⟨g13, 0, none⟩ (.slice A5 n5 c5)) b2 0 _ _ (.slice A5 n5 c5) R6.out; have x9 := yar (i := 0) (v := .slice A5 n5 c5) h9 rfl; refine bodyPost_ret (v := .tuple #[.agg #[.slice A5 n5 c5], .int .i64 0, .int .i64 0]) (by simp [results, Tryz.results30, go_sem, x9]) rfl ?_
   exact ⟨fun _ => ⟨_, rfl, HU6.out.off (R4.yae _ ⟨b2, 0, none⟩ _) R6.out (by decide) (by decide) (by decide)⟩, fun h => absurd rfl h, HB6.out.setCell (by show _ <= b2; exact HBL.out) _⟩
  ·intro vs w5 hb hd; obtain ⟨u5, e13, hu5⟩ : ∃ u, vs 5 = .agg #[u] /\ RefT w5 u L := hd 5 (by omega) (by omega)
   obtain ⟨A5, c5, f5⟩ := hu5.form; obtain ⟨n5, hn5⟩ : ∃ n5, L.length = n5 := ⟨_, rfl⟩; rw [hn5] at f5; subst f5; obtain ⟨u8, e14, -⟩ : ∃ u, vs 4 = .tuple #[.agg #[u], .int .i64 0] /\ RefT w5 u L := hd 4 (by omega) (by omega)
   obtain ⟨g13, e15, hg13, hr13⟩ : ∃ g, vs 7 = .pointer (some ⟨g, 0, none⟩) /\ wc.heap.size <= g /\ w5.heap[g]? = some (.cells #[.slice none 0 0] 40 (0, 0)) := hd 7 (by omega) (by omega)
   have x1 := yar (i := 0) (v := .slice none 0 0) hr13 rfl
   have x2 : w5.frozen? ⟨g13, 0, none⟩ = false := frozen_of_row _ _ 0 _ _ hr13
   have r5 := (hb.block b2 (R4.yad R2.out)).trans R2.out
   have ne2 : b2 ≠ g13 := by have := R4.yad R2.out; omega
   have HB5 := zH (HB2.out.trans (hb.mono HB2.out.size)); have h13 := heap_setCell_same w5 g13 0 _ _ (.slice A5 n5 c5) hr13; have r6 := (Below.heap_setCell w5 ⟨g13, 0, none⟩ (.slice A5 n5 c5) b2 ne2).trans r5; have R6 := zH r6; have y13 := yar (i := 0) (v := .slice A5 n5 c5) h13 rfl; have y2 := yar (i := 0) (v := .slice none 0 0) r6 rfl; have y2f := frozen_of_row _ b2 0 _ _ r6
   have HB6 : Hid (Below w.heap.size w (w5.setCell ⟨g13, 0, none⟩ (.slice A5 n5 c5))) := HB5.out.setCell (by show _ <= g13; have := HB2.out.size; omega) _
   have HU6 : Hid (RefT (w5.setCell ⟨g13, 0, none⟩ (.slice A5 n5 c5)) (.slice A5 n5 c5) L) := hu5.off (R4.yae w5 ⟨g13, 0, none⟩ _) hr13 (by decide) (by decide) (by decide)
   simp only [frameV, zS, zA, zB, List.drop_succ_cons, List.drop_zero, List.take_succ_cons, List.take_zero, List.cons_append, List.nil_append, e13, e14, e15]; clear hb hd e13 e14 e15 hg13 hr13 r5 ne2 h13 r6 hu5 hn5
   go_wp2
   have h9 := heap_setCell_same (w5.setCell ⟨g13, 0, none⟩ (.slice A5 n5 c5)) b2 0 _ _ (.slice A5 n5 c5) R6.out; have x9 := yar (i := 0) (v := .slice A5 n5 c5) h9 rfl; refine bodyPost_ret (v := .tuple #[.agg #[.slice A5 n5 c5], .int .i64 0, .int .i64 0]) (by simp [results, Tryz.results30, go_sem, x9]) rfl ?_
   exact ⟨fun _ => ⟨_, rfl, HU6.out.off (R4.yae _ ⟨b2, 0, none⟩ _) R6.out (by decide) (by decide) (by decide)⟩, fun h => absurd rfl h, HB6.out.setCell (by show _ <= b2; exact HBL.out) _⟩
 ·have HE0 := zH hE0
  have hen : (E != 0) = true := by simpa using hE0
  clear hE0; refine ydq (m := 8) 6 [19, 20, 21, 22, 18, 23, 24, 6] [SV.ref rootP, SV.eq (.pointer (some ⟨b5, 0, none⟩)), SV.eq (.slice A n c), SV.eq (.tuple #[.agg #[.slice none 0 0], .int .i64 E]), SV.eq (.tuple #[.agg #[.slice none 0 0], .int .i64 E]), SV.eq (.agg #[.slice none 0 0]), SV.eq (.int .i64 E), SV.newT wc.heap.size] (by kernel_rfl) (by kernel_rfl) ?_ ?_ ?_
  ·refine ⟨⟨⟨⟨⟨⟨⟨⟨trivial, ?_⟩, ?_⟩, ?_⟩, ?_⟩, ?_⟩, ?_⟩, ?_⟩, ?_⟩
   all_goals (refine OpIs.mk rfl ?_; intro vs w1 hb hd K hK; simp only [frameV, zS, zA, zB, zC, zD] at hK |-)
   ·have HK := zH hK; clear hK; go_simp
    go_at_call 26
    refine (ylg w1).mono ?_; rintro r5 w5 ⟨⟨u5, rfl, hu5⟩, hb5⟩; exact HK.out _ _ ⟨u5, rfl, hu5⟩ hb5
   ·have HK := zH hK; clear hK; go_simp; exact HK.out _ _ rfl (zR _ _)
   ·have d1 : vs 1 = .pointer (some ⟨b5, 0, none⟩) := hd 1 (by kernel_rfl)
    have c0 := yab hb X0.out; simp only [d1] at hK |-; have HK := zH hK; clear hK; go_simp; exact HK.out _ _ rfl (zR _ _)
   ·have d0 : ∃ u, (vs 0) = .agg #[u] /\ RefT w1 u rootP := hd 0 (by kernel_rfl)
    have d2 : vs 2 = .slice A n c := hd 2 (by kernel_rfl)
    have h7 := Exists.choose_spec d0; generalize Exists.choose d0 = u7 at h7; have e7 := h7.1; have hu7 := zH h7.2; clear h7 d0; simp only [d2] at hK |-; simp only [e7] at hK |-; have HK := zH hK; clear hK; go_simp
    go_at_call 53
    refine (CA.out w1 _ _ hu7.out (HR.out.below hb (zN _))).mono ?_; rintro r5 w5 ⟨-, h1, hb5⟩; have h2 := h1 HE0.out; subst h2; exact HK.out _ _ rfl hb5
   ·have d3 : vs 3 = .tuple #[.agg #[.slice none 0 0], .int .i64 E] := hd 3 (by kernel_rfl)
    simp only [d3] at hK |-; have HK := zH hK; clear hK; go_simp; exact HK.out _ _ rfl (zR _ _)
   ·have d4 : vs 4 = .tuple #[.agg #[.slice none 0 0], .int .i64 E] := hd 4 (by kernel_rfl)
    simp only [d4] at hK |-; have HK := zH hK; clear hK; go_simp; exact HK.out _ _ rfl (zR _ _)
   ·have d4 : vs 4 = .tuple #[.agg #[.slice none 0 0], .int .i64 E] := hd 4 (by kernel_rfl)
    simp only [d4] at hK |-; have HK := zH hK; clear hK; go_simp; exact HK.out _ _ rfl (zR _ _)
   ·have HK := zH hK; clear hK; go_simp; exact HK.out _ _ ⟨_, rfl, hb.size, heap_alloc_new w1 _⟩ (yaa w1 _)
  ·intro vs w5 hb hd
   have e13 : vs 5 = .agg #[.slice none 0 0] := hd 5 (by omega)
   have e14 : vs 6 = .int .i64 E := hd 6 (by omega)
   obtain ⟨g13, e15, hg13, hr13⟩ : ∃ g, vs 7 = .pointer (some ⟨g, 0, none⟩) /\ wc.heap.size <= g /\ w5.heap[g]? = some (.cells #[.slice none 0 0] 40 (0, 0)) := hd 7 (by omega)
   have x1 := yar (i := 0) (v := .slice none 0 0) hr13 rfl
   have x2 : w5.frozen? ⟨g13, 0, none⟩ = false := frozen_of_row _ _ 0 _ _ hr13
   have r5 := (hb.block b2 (R4.yad R2.out)).trans R2.out
   have ne2 : b2 ≠ g13 := by have := R4.yad R2.out; omega
   have HB5 := zH (HB2.out.trans (hb.mono HB2.out.size)); have h13 := heap_setCell_same w5 g13 0 _ _ (.slice none 0 0) hr13; have r6 := (Below.heap_setCell w5 ⟨g13, 0, none⟩ (.slice none 0 0) b2 ne2).trans r5; have R6 := zH r6; have y13 := yar (i := 0) (v := .slice none 0 0) h13 rfl; have y2 := yar (i := 0) (v := .slice none 0 0) r6 rfl; have y2f := frozen_of_row _ b2 0 _ _ r6
   have HB6 : Hid (Below w.heap.size w (w5.setCell ⟨g13, 0, none⟩ (.slice none 0 0))) := HB5.out.setCell (by show _ <= g13; have := HB2.out.size; omega) _
   simp only [frameV, zS, zA, zB, List.drop_succ_cons, List.drop_zero, List.take_succ_cons, List.take_zero, List.cons_append, List.nil_append, e13, e14, e15]; clear hb hd e13 e14 e15 hg13 hr13 r5 ne2 h13 r6
   go_wp2
   have h9 := heap_setCell_same (w5.setCell ⟨g13, 0, none⟩ (.slice none 0 0)) b2 0 _ _ (.slice none 0 0) R6.out; have x9 := yar (i := 0) (v := .slice none 0 0) h9 rfl; refine bodyPost_ret (v := .tuple #[.agg #[.slice none 0 0], .int .i64 0, .int .i64 E]) (by simp [results, Tryz.results30, go_sem, x9]) rfl ?_
   exact ⟨fun h => absurd h HE0.out, fun _ => rfl, HB6.out.setCell (by show _ <= b2; exact HBL.out) _⟩
  ·intro vs w5 hb hd
   have e13 : vs 5 = .agg #[.slice none 0 0] := hd 5 (by omega) (by omega)
   have e14 : vs 4 = .tuple #[.agg #[.slice none 0 0], .int .i64 E] := hd 4 (by omega) (by omega)
   obtain ⟨g13, e15, hg13, hr13⟩ : ∃ g, vs 7 = .pointer (some ⟨g, 0, none⟩) /\ wc.heap.size <= g /\ w5.heap[g]? = some (.cells #[.slice none 0 0] 40 (0, 0)) := hd 7 (by omega) (by omega)
   have x1 := yar (i := 0) (v := .slice none 0 0) hr13 rfl
   have x2 : w5.frozen? ⟨g13, 0, none⟩ = false := frozen_of_row _ _ 0 _ _ hr13
   have r5 := (hb.block b2 (R4.yad R2.out)).trans R2.out
   have ne2 : b2 ≠ g13 := by have := R4.yad R2.out; omega
   have HB5 := zH (HB2.out.trans (hb.mono HB2.out.size)); have h13 := heap_setCell_same w5 g13 0 _ _ (.slice none 0 0) hr13; have r6 := (Below.heap_setCell w5 ⟨g13, 0, none⟩ (.slice none 0 0) b2 ne2).trans r5; have R6 := zH r6; have y13 := yar (i := 0) (v := .slice none 0 0) h13 rfl; have y2 := yar (i := 0) (v := .slice none 0 0) r6 rfl; have y2f := frozen_of_row _ b2 0 _ _ r6
   have HB6 : Hid (Below w.heap.size w (w5.setCell ⟨g13, 0, none⟩ (.slice none 0 0))) := HB5.out.setCell (by show _ <= g13; have := HB2.out.size; omega) _
   simp only [frameV, zS, zA, zB, List.drop_succ_cons, List.drop_zero, List.take_succ_cons, List.take_zero, List.cons_append, List.nil_append, e13, e14, e15]; clear hb hd e13 e14 e15 hg13 hr13 r5 ne2 h13 r6
   go_wp2
   have h9 := heap_setCell_same (w5.setCell ⟨g13, 0, none⟩ (.slice none 0 0)) b2 0 _ _ (.slice none 0 0) R6.out; have x9 := yar (i := 0) (v := .slice none 0 0) h9 rfl; refine bodyPost_ret (v := .tuple #[.agg #[.slice none 0 0], .int .i64 0, .int .i64 E]) (by simp [results, Tryz.results30, go_sem, x9]) rfl ?_
   exact ⟨fun h => absurd h HE0.out, fun _ => rfl, HB6.out.setCell (by show _ <= b2; exact HBL.out) _⟩
end Go.Proofs.YteibnfeokgibmaaGreat
namespace Go.Proofs.YteibnfeokgibmaaGreat
def kpS (c : Int) : Bool := (decide (110 <= c) && decide (c <= 122)) || (decide (48 <= c) && decide (c <= 57)) || (decide (78 <= c) && decide (c <= 90))
theorem ycb (e : PE) (t : List PE) (s : List Int) : look (e :: t) s = if e.1 = s then some e.2 else look t s := by
 unfold look; rw [List.find?_cons]
 by_cases h : e.1 = s
 ·rw [if_pos h, beq_iff_eq.2 h]; rfl
 ·rw [if_neg h, beq_eq_false_iff_ne.2 h]
theorem yvf {L : List PE} {x : PE} {s : List Int} (h : x.1 ≠ s) : look (putR L x) s = look L s := by
 induction L with
 | nil =>
  show look [x] s = none
  rw [ycb, if_neg h]; rfl
 | cons e t ih =>
  by_cases hb : befB e.1 x.1 = true
  ·rw [yhr hb, ycb, ycb, ih]
  ·rw [yhs (by simpa using hb), ycb, if_neg h, ycy]
   split
   ·rename_i h2
    rw [ycb, if_neg (by rw [h2]; exact h)]
   ·rfl
theorem yiv {L : List PE} {x : PE} : look (putR L x) x.1 = some x.2 := by
 induction L with
 | nil =>
  show look [x] x.1 = _
  rw [ycb, if_pos rfl]
 | cons e t ih =>
  by_cases hb : befB e.1 x.1 = true
  ·rw [yhr hb, ycb, ih]
   split
   ·rename_i h2
    have : ord e.1 x.1 < 0 := by unfold befB at hb; exact of_decide_eq_true hb
    exact absurd h2 (ord_ne this)
   ·rfl
  ·rw [yhs (by simpa using hb), ycb, if_pos rfl]
theorem ydm {L : List PE} (hs : Srt L) {x : PE} {s : List Int} (h : x.1 ≠ s) : look (putP L x) s = look L s := by
 rw [put_eq hs, yvf h]
theorem ydl {L : List PE} (hs : Srt L) (x : PE) : look (putP L x) x.1 = some x.2 := by
 rw [put_eq hs, yiv]
theorem look_of {L : List PE} (hs : Srt L) {e : PE} (he : e ∈ L) : look L e.1 = some e.2 := by
 obtain ⟨k, hk⟩ := List.mem_iff_getElem?.1 he; exact ydd (yqr hs hk) hk
def kpW (x : Nat) : Prop := ∃ e ∈ rootP, kpS (hd e.1) = true /\ x ∈ e.2
structure KP (f : Nat -> Nat) (L : List PE) : Prop where
 lk : ∀ s : List Int, kpS (hd s) = true -> look L s = (look rootP s).map (List.map f)
 nul : ∀ lv, Lv lv -> ∀ x, kpW x -> (wgt lv (f x) = 0 ↔ wgt lv x = 0)
 ord : ∀ lv, Lv lv -> ∀ x y, kpW x -> kpW y -> (wgt lv (f x) < wgt lv (f y) ↔ wgt lv x < wgt lv y)
 lt : ∀ x, kpW x -> f x < 4294967296
theorem KP.mem {f : Nat -> Nat} {L : List PE} (h : KP f L) (hr : Srt rootP) {x : Nat} (hx : kpW x) : ∃ e ∈ L, f x ∈ e.2 := by
 obtain ⟨e, he, hk, hm⟩ := hx; have h1 := h.lk e.1 hk; rw [look_of hr he] at h1; exact ⟨_, ydn h1, List.mem_map.2 ⟨x, hm, rfl⟩⟩
theorem yfh {lv : Nat} {L : List PE} (h : fullP lv L = false) {e : PE} (he : e ∈ L) {x : Nat} (hx : x ∈ e.2) : wgt lv x ≠ topW lv := by
 intro hw
 have : fullP lv L = true := by
  unfold fullP; exact List.any_eq_true.2 ⟨e, he, List.any_eq_true.2 ⟨x, hx, beq_iff_eq.2 hw⟩⟩
 rw [this] at h; cases h
theorem KP.up {f : Nat -> Nat} {L : List PE} (h : KP f L) (hr : Srt rootP) {lv fr : Nat} (hl : Lv lv) (hf : fullP lv L = false) : KP (fun x => up lv fr (f x)) (mapP (Go.Proofs.YteibnfeokgibmaaGreat.up lv fr) L) where
 lk s hs := by
  rw [ydc, h.lk s hs, Option.map_map]
  congr 1
  funext l
  show List.map _ (List.map f l) = _
  rw [List.map_map]; rfl
 nul k hk x hx := by
  have hlt := h.lt x hx; have h0 := h.nul k hk x hx
  by_cases e : lv = k
  ·subst e; obtain ⟨a, ha, hm⟩ := h.mem hr hx; rw [wgt_up (yfh hf ha hm) hlt]
   split <;> omega
  ·rw [yba hl hk e hlt]; exact h0
 ord k hk x y hx hy := by
  have hlx := h.lt x hx; have hly := h.lt y hy; have h0 := h.ord k hk x y hx hy
  by_cases e : lv = k
  ·subst e; obtain ⟨a, ha, hm⟩ := h.mem hr hx; obtain ⟨b, hb, hn⟩ := h.mem hr hy; have n1 := yfh hf ha hm; have n2 := yfh hf hb hn; rw [wgt_up n1 hlx, wgt_up n2 hly]
   split <;> split <;> omega
  ·rw [yba hl hk e hlx, yba hl hk e hly]; exact h0
 lt x hx := up_lt (h.lt x hx)
theorem yem (L : List PE) (ss : List Int) (n : Nat) : atF L ss (n + 1) = match look L (ss.take (n + 1)) with | some l => (l, n + 1) | none => atF L ss n := rfl
end Go.Proofs.YteibnfeokgibmaaGreat
