/-
  PACKED for a claim.
-/
import Derived.Test.YtichfdjjbafeiaaGreatP47
import Derived.Test.YtichfdjjbafeiaaGreatP48
set_option linter.unusedVariables false
set_option linter.unusedSimpArgs false
set_option maxRecDepth 100000
namespace Go.Proofs.YtichfdjjbafeiaaGreat
open Go.RowKit
def AnS (t : ST) : Prop := ∀ A, t.A = some A -> Anc A
theorem ytg {t : ST} (hg : GoodT t.L) (h8 : AnS t) {r : S6.RV} (hE : rulE t r = 0) : AnS (rulS t r) := by
 intro A' hA'; unfold rulE at hE; unfold rulS at hA'
 by_cases h1 : r.rel = 1
 ·rw [if_pos h1] at hE hA'
  injection hA' with hA'
  subst hA'
  have hlt : ¬ 8 < (elsP t.L r.seq).length := by intro h; rw [if_pos h] at hE; cases hE
  exact ⟨by omega, els_lt hg r.seq⟩
 ·rw [if_neg h1] at hE hA'
  cases hA : t.A with
  | none => rw [hA] at hE; cases hE
  | some A =>
   rw [hA] at hE hA'
   simp only at hE hA'
   have hc : chgE r.rel t.L A = 0 := by
    apply Classical.byContradiction
    intro hc; rw [if_pos hc] at hE; exact hc hE
   injection hA' with hA'
   subst hA'; exact ymu (h8 A hA) hc
def AppIs (L : List PE) (E : Int) (w : World) (q : Ending) (w' : World) : Prop :=
 (E = 0 -> ∃ p : Nat, q = .returned (.tuple #[.pointer (some ⟨p, 0, none⟩), .int .i64 0]) /\ TabAt anyB w' p L) /\ (E ≠ 0 -> q = .returned (.tuple #[.pointer none, .int .i64 E])) /\ Below w.heap.size w w'
theorem ta_new {B : Nat} {w : World} {q : Nat} {L : List PE} {F : Nat -> Prop} (h : TabAt F w q L) (hB : B <= w.heap.size) : TA B (w.alloc (.cells #[.pointer (some ⟨q, 0, none⟩), .slice none 0 0, .bool false] 80)) w.heap.size ⟨L, none⟩ := by
 refine ⟨⟨q, _, heap_alloc_new w _, (h.tight.below (yab w _) (zN _)).mono fun k hk => ⟨(fun e => by cases e), (by have := hk.2; omega)⟩, World.ownsRow_nil _ _ _ _⟩, hB⟩
theorem ywl {w : World} {A : Option Addr} {n c : Nat} {l : List S6.RV} (h : S6.RdRs w (.slice A n c) l) {k : Nat} {x : S6.RV} (hk : l[k]? = some x) :
  ∃ (g o : Nat) (vs ve : Value), A = some ⟨g, o, none⟩ /\ w.cell? ⟨g, o + k * 3, none⟩ = some (.int .i64 x.rel) /\ w.cell? ⟨g, o + k * 3 + 1, none⟩ = some vs /\ w.cell? ⟨g, o + k * 3 + 2, none⟩ = some ve /\ RdI (fun g => g < w.heap.size) w vs x.seq /\ RdI (fun g => g < w.heap.size) w ve x.exp := by
 obtain ⟨g, o, vs, ve, h1, h2, h3, h4, h5, h6⟩ := h.at hk; exact ⟨g, o, vs, ve, h1, h2, h3, h4, RdF.mono (RdF.lt h5 (iv_len _)) fun g hg => hg.2, RdF.mono (RdF.lt h6 (iv_len _)) fun g hg => hg.2⟩
theorem ytj {t : ST} {l : List S6.RV} {k : Nat} {r : S6.RV} (hk : l[k]? = some r) : rlsE t (l.drop k) = (if rulE t r ≠ 0 then rulE t r else rlsE (rulS t r) (l.drop (k + 1))) /\ rlsS t (l.drop k) = rlsS (rulS t r) (l.drop (k + 1)) := by
 have hlt := (List.getElem?_eq_some_iff.1 hk).1; have e := (List.getElem?_eq_some_iff.1 hk).2; rw [List.drop_eq_getElem_cons hlt, e]; exact ⟨rfl, rfl⟩
set_option maxHeartbeats 8000000 in
theorem ykc {F : Nat -> Prop} {w : World} {p : Nat} {L : List PE} (hT : TabAt F w p L) {rv : Value} {l : List S6.RV} (hr : S6.RdRs w rv l) (hl : l.length <= 1000) (hok : ∀ r ∈ l, RuOk r) {E : Int} (hE : appE L l = E) {L' : List PE} (hL' : appL L l = L') :
  Calls Tryz.prog 14 #[.pointer (some ⟨p, 0, none⟩), rv] w (AppIs L' E w) := by
 obtain ⟨A, c, rfl⟩ := hr.form; have CM := zH (yul (F := anyB) (fun _ _ => trivial) (hT.mono fun _ _ => trivial))
 rw [yxf] at CM; have HR := zH hr; have HOK := zH hok; obtain ⟨n, hn⟩ : ∃ n, l.length = n := ⟨_, rfl⟩; have HN := zH hn; rw [hn] at HR hl |-
 have hnI : (n : Int) <= 1000 := by omega
 unfold appE at hE; unfold appL at hL'; have HEE := zH hE; have HLL := zH hL'; clear hT hr hok hn hE hL'
 go_enter Tryz.func14, Tryz.ntmps14
 go_wp2_with (go_at_call 31; refine (CM.out).mono ?_; rintro q w1 ⟨⟨q1, rfl, ht1⟩, hb1⟩; have HTA := zH (ta_new ht1 hb1.size); have HB1 := zH (hb1.trans ((yab w1 (.cells #[.pointer (some ⟨q1, 0, none⟩), .slice none 0 0, .bool false] 80)).mono hb1.size)); clear ht1 hb1)
 generalize hw2 : (w1.alloc (.cells #[.pointer (some ⟨q1, 0, none⟩), .slice none 0 0, .bool false] 80)) = w2 at HTA HB1 |-; clear hw2; obtain ⟨px, hpx⟩ : ∃ px, w1.heap.size = px := ⟨_, rfl⟩; rw [hpx] at HTA; rw [show (({ block := w1.heap.size, off := 0 } : Addr)) = ⟨px, 0, none⟩ by rw [hpx]]
 clear hpx CM
 go_loopw [17] (fun i wr => ∃ (k : Nat) (t : ST), k <= n /\ i = .int .i64 (k : Nat) /\ Hid (TA w.heap.size wr px t) /\ Hid (AnS t) /\ Hid (rlsE t (l.drop k) = rlsE ⟨L, none⟩ l) /\ Hid (rlsS t (l.drop k) = rlsS ⟨L, none⟩ l) /\ Hid (Below w.heap.size w wr)) (fun i _ => n - (intOf i).toNat)
 case atStart => exact ⟨0, ⟨L, none⟩, Nat.zero_le _, rfl, HTA.out, (fun A h => by cases h), rfl, rfl, HB1.out⟩
 case round =>
  clear HTA HB1; obtain ⟨k, t, hk, rfl, HT, HA, HE, HS, HB⟩ := hrel; obtain ⟨wo, rfl⟩ : ∃ wo, wo = wr := ⟨_, rfl⟩
  by_cases hlt : k < n
  ·obtain ⟨r, hr⟩ : ∃ r, l[k]? = some r := ⟨_, List.getElem?_eq_getElem (by rw [HN.out]; exact hlt)⟩
   obtain ⟨g, o, vs, ve, rfl, d0, d1, d2, s1, s2⟩ := ywl HR.out hr; have hro := HOK.out r (List.mem_of_getElem? hr); have c0 := (HB.out.cell (yag d0)).trans d0; have c1 := (HB.out.cell (yag d1)).trans d1; have c2 := (HB.out.cell (yag d2)).trans d2; obtain ⟨hc1, hc2⟩ := ytj (t := t) hr; rw [HE.out] at hc1; rw [HS.out] at hc2; obtain ⟨A1, k1, rfl⟩ := s1.form; obtain ⟨A2, k2, rfl⟩ := s2.form; obtain ⟨e, he⟩ : ∃ e, rulE t r = e := ⟨_, rfl⟩; rw [he] at hc1; have hba := yab wo (.cells #[.int .i64 r.rel, .slice A1 r.seq.length k1, .slice A2 r.exp.length k2] 81); have CA := zH (ynd (HT.out.below hba) HA.out (RdF.below (RdI.keep s1 HB.out) hba (zN _)) (RdF.below (RdI.keep s2 HB.out) hba (zN _)) hro he); have HBA := zH (HB.out.trans (hba.mono HB.out.size))
   have hkI : (k : Int) < (n : Int) := by omega
   have HX : Hid ((wo.alloc (.cells #[.int .i64 r.rel, .slice A1 r.seq.length k1, .slice A2 r.exp.length k2] 81)).heap[wo.heap.size]? = some (.cells #[.int .i64 r.rel, .slice A1 r.seq.length k1, .slice A2 r.exp.length k2] 81 (0, 0))) := heap_alloc_new wo _
   have x0 : (wo.alloc (.cells #[.int .i64 r.rel, .slice A1 r.seq.length k1, .slice A2 r.exp.length k2] 81)).cell? ⟨wo.heap.size, 0, none⟩ = some (.int .i64 r.rel) := yan HX.out rfl
   have x1 : (wo.alloc (.cells #[.int .i64 r.rel, .slice A1 r.seq.length k1, .slice A2 r.exp.length k2] 81)).cell? ⟨wo.heap.size, 1, none⟩ = some (.slice A1 r.seq.length k1) := yan HX.out rfl
   have x2 : (wo.alloc (.cells #[.int .i64 r.rel, .slice A1 r.seq.length k1, .slice A2 r.exp.length k2] 81)).cell? ⟨wo.heap.size, 2, none⟩ = some (.slice A2 r.exp.length k2) := yan HX.out rfl
   have HAN : Hid (e = 0 -> AnS (rulS t r)) := fun h0 => by
    obtain ⟨⟨q, va, h1, h2, h3⟩, h4⟩ := HT.out; exact ytg h2.good HA.out (he.trans h0)
   by_cases hE0 : e = 0
   ·subst hE0; rw [if_neg (by simp)] at hc1
    have HC1 := zH hc1; have HC2 := zH hc2; clear hr d0 d1 d2 s1 s2 hro hc1 hc2 he hba hlt
    go_wp2_with (go_at_call 33; refine (CA.out).mono ?_; rintro q w3 ⟨rfl, k1, k2, -⟩; have K1 := zH (k1 rfl); have K2 := zH (HBA.out.trans k2); clear k1 k2 c0 c1 c2 x0 x1 x2)
    go_roundw
    case rel => exact ⟨k + 1, rulS t r, by omega, by go_num, K1.out, (HAN.out trivial), HC1.out.symm, HC2.out.symm, K2.out⟩
    case measure => simp [intOf] <;> omega
   ·rw [if_pos hE0] at hc1
    have HC1 : Hid (E = e) := by
     have h := HEE.out
     show _ = _
     rw [<- h, hc1, if_pos hE0]
    have HE0 := zH hE0
    have hen : (e != 0) = true := by simpa using hE0
    clear hr d0 d1 d2 s1 s2 hro hc1 hc2 he hba hlt hE0
    go_wp2_with (go_at_call 33; refine (CA.out).mono ?_; rintro q w3 ⟨rfl, -, k2, -⟩; have K2 := zH (HBA.out.trans k2); clear k2 c0 c1 c2 x0 x1 x2)
    go_ret2
    exact ⟨fun h => absurd (HC1.out.symm.trans h) HE0.out, fun _ => by rw [HC1.out]; rfl, K2.out⟩
  ·obtain rfl : k = n := by omega
   have hd : l.drop k = [] := List.drop_of_length_le (by rw [HN.out]; exact zN _)
   have he := HE.out; have hs := HS.out; rw [hd] at he hs
   have he : 0 = rlsE ⟨L, none⟩ l := he
   have hs : t = rlsS ⟨L, none⟩ l := hs
   obtain ⟨⟨q, va, h1, h2, h3⟩, h4⟩ := HT.out; obtain ⟨e, hchk⟩ : ∃ e, checkP t.L = e := ⟨_, rfl⟩
   have HEQ : Hid (E = e) := by
    have h := HEE.out
    show _ = _
    rw [<- h, <- he, if_neg (by simp), <- hs, hchk]
   have HLQ : Hid (t.L = L') := by show _ = _; rw [<- HLL.out, <- hs]
   have CK := zH (ysi h2 hchk)
   have c0 : wo.cell? ⟨px, 0, none⟩ = some (.pointer (some ⟨q, 0, none⟩)) := yan h1 rfl
   have HT2 := zH h2
   have hltI : ¬ (k : Int) < (k : Int) := by omega
   have HX := zH h1
   by_cases hE0 : e = 0
   ·subst hE0; clear hd he hs h1 h2 h3 h4 hchk hlt
    go_wp2_with (go_at_call 11; refine (CK.out).mono ?_; rintro q' w3 ⟨rfl, hb⟩; have d0 := yae hb c0; have HB3 := zH (HB.out.trans (hb.mono HB.out.size)); have HT3 := zH (HT2.out.below hb (zN _)); clear hb c0)
    go_ret2
    exact ⟨fun _ => ⟨_, rfl, by rw [<- HLQ.out]; exact HT3.out.mono fun _ _ => trivial⟩, fun h => absurd HEQ.out h, HB3.out⟩
   ·have HE0 := zH hE0
    have hen : (e != 0) = true := by simpa using hE0
    clear hd he hs h1 h2 h3 h4 hchk hlt hE0
    go_wp2_with (go_at_call 11; refine (CK.out).mono ?_; rintro q' w3 ⟨rfl, hb⟩; have HB3 := zH (HB.out.trans (hb.mono HB.out.size)); clear hb c0)
    go_ret2
    exact ⟨fun h => absurd (HEQ.out.symm.trans h) HE0.out, fun _ => by rw [HEQ.out]; rfl, HB3.out⟩
def okL (x : S6.RV) : Bool := decide (x.seq.length <= 3) && decide (x.exp.length <= 3)
theorem yly (L : List UInt8) : ∀ (f : Nat) (out : List S6.RV) (k : Nat), k <= L.length -> out.all okL = true -> (S6.parD L f out k).1.all okL = true /\ (S6.parD L f out k).1.length <= 40
 | 0, out, k, hk, ho => by rw [S6.parD]; exact ⟨rfl, by simp⟩
 | f + 1, out, k, hk, ho => by
  rw [S6.parD]
  split
  ·split
   ·exact ⟨rfl, by simp⟩
   ·exact ⟨ho, by simp only; omega⟩
  ·split
   ·exact ⟨rfl, by simp⟩
   ·split
    ·exact ⟨rfl, by simp⟩
    ·split
     ·exact ⟨rfl, by simp⟩
     ·rename_i h0 h1 h2 h3
      have hw := S6.ybo (L.drop k); rw [List.length_drop] at hw
      have hw : 1 <= (S6.relD (L.drop k)).1 /\ (S6.relD (L.drop k)).1 <= 5 /\ 1 <= (S6.relD (L.drop k)).2 /\ (S6.relD (L.drop k)).2 <= L.length - k := by
       rcases hw with hw | hw
       ·rw [hw] at h1; exact absurd (Or.inl rfl) h1
       ·omega
      have hc : k + (S6.relD (L.drop k)).2 <= L.length := by omega
      have hq := S6.yfx hc; have hx := S6.yrq (r := (S6.relD (L.drop k)).1) hq.2; have ha := S6.af_le hx.2; refine yly L f _ _ ha.2 ?_; rw [List.all_append, ho, Bool.true_and]; simp only [List.all_cons, List.all_nil, Bool.and_true, okL, Bool.and_eq_true, decide_eq_true_eq]; refine ⟨(S6.ygt L 3 [] _ rfl rfl (by simpa [S6.seqD] using h2)).2.2, ?_⟩
      unfold S6.expD at h3 |-
      split
      ·rename_i h5
       rw [if_pos h5] at h3; exact (S6.ygt L 3 [] _ rfl rfl (by simpa [S6.seqD] using h3)).2.2
      ·simp
theorem ytu (L : List UInt8) : (S6.parse L).1.length <= 40 /\ ∀ r ∈ (S6.parse L).1, RuOk r := by
 have h := yly L (L.length + 2) [] _ (S6.af_le (L := L) (k := 0) (Nat.zero_le _)).2 rfl; have h2 := S6.yqg L; refine ⟨h.2, fun r hr => ?_⟩
 have h3 := List.all_eq_true.1 h.1 r hr; have h4 := List.all_eq_true.1 h2 r hr; simp only [okL, Bool.and_eq_true, decide_eq_true_eq] at h3; simp only [S6.okR, Bool.and_eq_true, decide_eq_true_eq] at h4; exact ⟨sg_i64 h4.1.2, sg_i64 h4.2, by omega, by omega⟩
theorem ylx {s : ByteArray} (w : World) (hs : s.size <= 1000000) {l : List S6.RV} {at' E : Nat} (hR : S6.parse s.data.toList = (l, at', E)) :
  Calls Tryz.prog 22 #[.string s] w fun e w' => (∃ (A : Option Addr) (n c : Nat), e = .returned (.tuple #[.slice A n c, .int .i64 (at' : Nat), .int .i64 (E : Nat)]) /\ n = l.length /\ S6.RdRs w' (.slice A n c) l) /\ Below w.heap.size w w' := by
 refine (S6.ywr w hs hR).mono fun e w' hh => ?_
 obtain ⟨⟨v, rfl, hr⟩, hb⟩ := hh; obtain ⟨A, c, rfl⟩ := hr.form; exact ⟨⟨A, _, c, rfl, rfl, hr⟩, hb⟩
def ReadIs (L : List PE) (k : Nat) (E : Int) (w : World) (q : Ending) (w' : World) : Prop :=
 (E = 0 -> ∃ p : Nat, q = .returned (.tuple #[.pointer (some ⟨p, 0, none⟩), .int .i64 (k : Nat), .int .i64 0]) /\ TabAt anyB w' p L) /\ (E ≠ 0 -> q = .returned (.tuple #[.pointer none, .int .i64 (k : Nat), .int .i64 E])) /\ Below w.heap.size w w'
set_option maxHeartbeats 4000000 in
theorem yto {s : ByteArray} (w : World) (hs : s.size <= 1000000) {l : List S6.RV} {at' E : Nat} (hR : S6.parse s.data.toList = (l, at', E)) (hE : E ≠ 0) (L : List PE) :
  Calls Tryz.prog 9 #[.string s] w (ReadIs L at' E w) := by
 have CP := zH (ylx w hs hR)
 have hen : ((E : Int) != 0) = true := by simpa using hE
 have HE : Hid (¬ (E : Int) = 0) := by show ¬ _; omega
 clear hs hR hE
 go_enter Tryz.func9, Tryz.ntmps9
 go_wp2_with (go_at_call 22; refine (CP.out).mono ?_; rintro q w1 ⟨⟨A, n, c, rfl, -, -⟩, hb⟩; have HB := zH hb; clear hb)
 go_ret3
 exact ⟨fun h => absurd h HE.out, fun _ => rfl, HB.out⟩
set_option maxHeartbeats 4000000 in
theorem ywo {s : ByteArray} (w : World) (hs : s.size <= 1000000) {l : List S6.RV} {at' : Nat} (hR : S6.parse s.data.toList = (l, at', 0)) {E : Int} (hE : appE rootP l = E) {L : List PE} (hL : appL rootP l = L) :
  Calls Tryz.prog 9 #[.string s] w (ReadIs L 0 E w) := by
 have CP : Hid (Calls Tryz.prog 22 #[.string s] w fun e w' => (∃ (A : Option Addr) (n c : Nat), e = .returned (.tuple #[.slice A n c, .int .i64 (at' : Nat), .int .i64 0]) /\ n = l.length /\ S6.RdRs w' (.slice A n c) l) /\ Below w.heap.size w w') := ylx w hs hR
 have HRU := zH (ytu s.data.toList); rw [hR] at HRU; have HE := zH hE; have HL := zH hL
 have CA : Hid (∀ (w1 : World) (p : Nat) (F : Nat -> Prop) (rv : Value), TabAt F w1 p rootP -> S6.RdRs w1 rv l -> Calls Tryz.prog 14 #[.pointer (some ⟨p, 0, none⟩), rv] w1 (AppIs L E w1)) := fun w1 p F rv ht hr => ykc ht hr (Nat.le_trans HRU.out.1 (by omega)) HRU.out.2 HE.out HL.out
 clear hs hR hE hL
 by_cases hE0 : E = 0
 ·subst hE0
  go_enter Tryz.func9, Tryz.ntmps9
  go_wp2_with (first
   | (go_at_call 22; refine (CP.out).mono ?_; rintro q w1 ⟨⟨A, n, c, rfl, -, hr⟩, hb⟩; have HB := zH hb; have HR := zH hr; clear hb hr)
   | (go_at_call 13; refine (yie _).mono ?_; rintro q w2 ⟨p, rfl, ht, hb⟩; have HB2 := zH (HB.out.trans (hb.mono HB.out.size)); have HR2 := zH (HR.out.below hb (zN _)); have HT := zH ht; clear hb ht)
   | (go_at_call 14; refine (CA.out _ _ _ _ HT.out HR2.out).mono ?_; rintro q w3 ⟨h1, -, hb⟩; obtain ⟨p3, rfl, ht⟩ := h1 rfl; have HB3 := zH (HB2.out.trans (hb.mono HB2.out.size)); have HT3 := zH ht; clear h1 hb ht))
  go_ret3
  exact ⟨fun _ => ⟨_, rfl, HT3.out⟩, fun h => absurd rfl h, HB3.out⟩
 ·have HE0 := zH hE0
  have hen : (E != 0) = true := by simpa using hE0
  clear hE0
  go_enter Tryz.func9, Tryz.ntmps9
  go_wp2_with (first
   | (go_at_call 22; refine (CP.out).mono ?_; rintro q w1 ⟨⟨A, n, c, rfl, -, hr⟩, hb⟩; have HB := zH hb; have HR := zH hr; clear hb hr)
   | (go_at_call 13; refine (yie _).mono ?_; rintro q w2 ⟨p, rfl, ht, hb⟩; have HB2 := zH (HB.out.trans (hb.mono HB.out.size)); have HR2 := zH (HR.out.below hb (zN _)); have HT := zH ht; clear hb ht)
   | (go_at_call 14; refine (CA.out _ _ _ _ HT.out HR2.out).mono ?_; rintro q w3 ⟨-, h1, hb⟩; have h2 := h1 HE0.out; subst h2; have HB3 := zH (HB2.out.trans (hb.mono HB2.out.size)); clear h1 hb))
  go_ret3
  exact ⟨fun h => absurd h HE0.out, fun _ => rfl, HB3.out⟩
def rdK (s : ByteArray) : Nat := if (S6.parse s.data.toList).2.2 = 0 then 0 else (S6.parse s.data.toList).2.1
def rdE (s : ByteArray) : Int := if (S6.parse s.data.toList).2.2 = 0 then appE rootP (S6.parse s.data.toList).1 else (S6.parse s.data.toList).2.2
def rdL (s : ByteArray) : List PE := appL rootP (S6.parse s.data.toList).1
theorem yvy {s : ByteArray} (w : World) (hs : s.size <= 1000000) : Calls Tryz.prog 9 #[.string s] w (ReadIs (rdL s) (rdK s) (rdE s) w) := by
 obtain ⟨R, hR⟩ : ∃ R, S6.parse s.data.toList = R := ⟨_, rfl⟩; obtain ⟨l, k, e⟩ := R; unfold rdL rdK rdE; rw [hR]
 by_cases he : e = 0
 ·subst he; exact ywo w hs hR rfl rfl
 ·simp only [if_neg he]; exact yto w hs hR he _
def aw7 : ByteArray := ⟨#[38, 32, 99, 32, 60, 32, 99, 104]⟩
theorem aw7_E : rdE aw7 = 0 := by decide +kernel
theorem aw7_K : rdK aw7 = 0 := by decide +kernel
theorem aw7_ch : elsP (rdL aw7) (T2.sgs (⟨#[99, 104]⟩ : ByteArray).data.toList) = [17899524] := by decide +kernel
theorem aw7_d : elsP (rdL aw7) (T2.sgs (⟨#[100]⟩ : ByteArray).data.toList) = [18423812] := by decide +kernel
theorem yru {F : Nat -> Prop} {w : World} {p : Nat} {L : List PE} (h : TabAt F w p L) (b : ByteArray) (hb : b.size <= 100000) {x : Nat} (he : elsP L (T2.sgs b.data.toList) = [x]) :
  Calls Tryz.prog 23 #[.pointer (some ⟨p, 0, none⟩), .string b] w fun e w' => ∃ g c, e = .returned (.slice (some ⟨g, 0, none⟩) 1 c) /\ w'.cell? ⟨g, 0, none⟩ = some (.int .u32 (x : Int)) /\ Below w.heap.size w w' := by
 have := yda h b hb
 rw [he] at this; refine this.mono fun e w' => ?_
 rintro ⟨v, rfl, ho, hb⟩; obtain ⟨A, c, rfl, _, hr⟩ := R4.yaf ho; obtain ⟨g, rfl, h1, h2, h3⟩ := hr (by simp)
 exact ⟨g, c, rfl, h3 0 _ rfl, hb⟩
theorem aw7_w1 (w : World) : Calls Tryz.prog 17 #[.int .u32 17899524, .int .i64 1] w fun r w' => r = .returned (.int .i64 273) /\ w = w' := yeo (x := 17899524) (p := 273) (by omega) (by omega) w
theorem aw7_w2 (w : World) : Calls Tryz.prog 17 #[.int .u32 18423812, .int .i64 1] w fun r w' => r = .returned (.int .i64 281) /\ w = w' := yeo (x := 18423812) (p := 281) (by omega) (by omega) w
set_option maxHeartbeats 2000000 in
theorem you (w : World) : Calls Tryz.prog 12 #[] w fun e w' => e = .returned (.bool true) /\ Below w.heap.size w w' := by
 have EA := zH aw7_ch; have EE := zH aw7_d
 have RD : Hid (∀ w : World, Calls Tryz.prog 9 #[.string ⟨#[38, 32, 99, 32, 60, 32, 99, 104]⟩] w fun e w' => (∃ p : Nat, e = .returned (.tuple #[.pointer (some ⟨p, 0, none⟩), .int .i64 0, .int .i64 0]) /\ TabAt anyB w' p (rdL aw7)) /\ Below w.heap.size w w') := fun w => (yvy (s := aw7) w (by decide)).mono fun e w' hh => by
  obtain ⟨h1, -, h3⟩ := hh; obtain ⟨p, h1, h2⟩ := h1 aw7_E; rw [aw7_K] at h1; exact ⟨⟨p, h1, h2⟩, h3⟩
 have t1 : True := trivial
 have t2 : True := trivial
 have s1 : Hid ((⟨#[99, 104]⟩ : ByteArray).size <= 100000) := by show _ <= _; decide
 have s2 : Hid ((⟨#[100]⟩ : ByteArray).size <= 100000) := by show _ <= _; decide
 go_enter Tryz.func12, Tryz.ntmps12
 go_wp2_with (first
  | (go_at_call 9; refine (RD.out _).mono ?_; rintro e w1 ⟨⟨p, rfl, ht⟩, hb⟩; have HT := zH ht; have HB := zH hb; clear ht hb)
  | (go_at_call 23; have _t := t1; refine (yru HT.out _ s1.out EA.out).mono ?_; rintro e w2 ⟨g1, c1, rfl, x1, hb⟩; have HT2 := zH (HT.out.below hb (zN _)); have HB2 := zH (HB.out.trans (hb.mono HB.out.size)); clear hb _t t1)
  | (go_at_call 23; refine (yru HT2.out _ s2.out EE.out).mono ?_; rintro e w3 ⟨g2, c2, rfl, y1, hb⟩; have z1 := yae hb x1; have HB3 := zH (HB2.out.trans (hb.mono HB2.out.size)); clear hb x1)
  | (go_at_call 17; (with_reducible refine (aw7_w1 _).mono ?_); rintro e w4 ⟨rfl, rfl⟩)
  | (go_at_call 17; (with_reducible refine (aw7_w2 _).mono ?_); rintro e w5 ⟨rfl, rfl⟩))
 go_ret
 exact ⟨rfl, HB3.out⟩
end Go.Proofs.YtichfdjjbafeiaaGreat
namespace Go.Proofs.YtichfdjjbafeiaaGreat
def Lx (n x : Nat) : Prop := wgt 2 x <= 150 + n /\ wgt 3 x <= 60 + n
theorem Lx.more {n m x : Nat} (h : Lx n x) (hm : n <= m) : Lx m x := ⟨by have := h.1; omega, by have := h.2; omega⟩
theorem Lx.nw {n x lv : Nat} (h : Lx n x) (hn : n <= 60) (hl : Lv lv) : NW lv x := by
 rcases hl with rfl | rfl | rfl
 ·exact .inl rfl
 ·right; have := h.1; have : topW 2 = 255 := rfl; omega
 ·right; have := h.2; have : topW 3 = 127 := rfl; omega
theorem ynl {t : ST} {r : S6.RV} {A : List Nat} (h1 : ¬ r.rel = 1) (hA : t.A = some A) (hE : rulE t r = 0) : chgE r.rel t.L A = 0 /\ withE (chgL r.rel t.L A) r.seq (chgA r.rel A ++ elsP (chgL r.rel t.L A) r.exp) = 0 := by
 rw [ykp h1 hA] at hE
 by_cases hc : chgE r.rel t.L A = 0
 ·rw [if_neg (by simp [hc])] at hE
  exact ⟨hc, hE⟩
 ·rw [if_pos hc] at hE; exact absurd hE hc
end Go.Proofs.YtichfdjjbafeiaaGreat
