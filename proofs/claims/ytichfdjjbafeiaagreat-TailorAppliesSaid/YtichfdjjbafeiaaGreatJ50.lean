/-
  PACKED for a claim.
-/
import Derived.Test.YtichfdjjbafeiaaGreatJ47
import Derived.Test.YtichfdjjbafeiaaGreatJ48
import Derived.Test.YtichfdjjbafeiaaGreatJ49
set_option linter.unusedVariables false
set_option linter.unusedSimpArgs false
set_option maxRecDepth 100000
namespace Go.Proofs.YtichfdjjbafeiaaGreat
open Go.RowKit
def okL (x : S6.RV) : Bool := decide (x.seq.length <= 3) && decide (x.exp.length <= 3)
theorem yom (L : List UInt8) : ∀ (f : Nat) (out : List S6.RV) (k : Nat), k <= L.length -> out.all okL = true -> (S6.parD L f out k).1.all okL = true /\ (S6.parD L f out k).1.length <= 40
 | 0, out, k, hk, ho => by rw [S6.parD]; exact ⟨rfl, by simp⟩
 | f + 1, out, k, hk, ho => by
  rw [S6.parD]
  split
  ·split
   ·exact ⟨rfl, by simp⟩
   ·exact ⟨ho, by simp only; omega⟩
  ·split
   ·exact ⟨rfl, by simp⟩
   ·split
    ·exact ⟨rfl, by simp⟩
    ·split
     ·exact ⟨rfl, by simp⟩
     ·rename_i h0 h1 h2 h3
      have hw := S6.ycg (L.drop k); rw [List.length_drop] at hw
      have hw : 1 <= (S6.relD (L.drop k)).1 /\ (S6.relD (L.drop k)).1 <= 5 /\ 1 <= (S6.relD (L.drop k)).2 /\ (S6.relD (L.drop k)).2 <= L.length - k := by
       rcases hw with hw | hw
       ·rw [hw] at h1; exact absurd (Or.inl rfl) h1
       ·omega
      have hc : k + (S6.relD (L.drop k)).2 <= L.length := by omega
      have hq := S6.yhl hc; have hx := S6.yur (r := (S6.relD (L.drop k)).1) hq.2; have ha := S6.af_le hx.2; refine yom L f _ _ ha.2 ?_; rw [List.all_append, ho, Bool.true_and]; simp only [List.all_cons, List.all_nil, Bool.and_true, okL, Bool.and_eq_true, decide_eq_true_eq]; refine ⟨(S6.yie L 3 [] _ rfl rfl (by simpa [S6.seqD] using h2)).2.2, ?_⟩
      unfold S6.expD at h3 |-
      split
      ·rename_i h5
       rw [if_pos h5] at h3; exact (S6.yie L 3 [] _ rfl rfl (by simpa [S6.seqD] using h3)).2.2
      ·simp
theorem ywv (L : List UInt8) : (S6.parse L).1.length <= 40 /\ ∀ r ∈ (S6.parse L).1, RuOk r := by
 have h := yom L (L.length + 2) [] _ (S6.af_le (L := L) (k := 0) (Nat.zero_le _)).2 rfl; have h2 := S6.yte L; refine ⟨h.2, fun r hr => ?_⟩
 have h3 := List.all_eq_true.1 h.1 r hr; have h4 := List.all_eq_true.1 h2 r hr; simp only [okL, Bool.and_eq_true, decide_eq_true_eq] at h3; simp only [S6.okR, Bool.and_eq_true, decide_eq_true_eq] at h4; exact ⟨sg_i64 h4.1.2, sg_i64 h4.2, by omega, by omega⟩
theorem yol {s : ByteArray} (w : World) (hs : s.size <= 1000000) {l : List S6.RV} {at' E : Nat} (hR : S6.parse s.data.toList = (l, at', E)) :
  Calls Tryz.prog 22 #[.string s] w fun e w' => (∃ (A : Option Addr) (n c : Nat), e = .returned (.tuple #[.slice A n c, .int .i64 (at' : Nat), .int .i64 (E : Nat)]) /\ n = l.length /\ S6.RdRs w' (.slice A n c) l) /\ Below w.heap.size w w' := by
 refine (S6.zae w hs hR).mono fun e w' hh => ?_
 obtain ⟨⟨v, rfl, hr⟩, hb⟩ := hh; obtain ⟨A, c, rfl⟩ := hr.form; exact ⟨⟨A, _, c, rfl, rfl, hr⟩, hb⟩
def ReadIs (L : List PE) (k : Nat) (E : Int) (w : World) (q : Ending) (w' : World) : Prop :=
 (E = 0 -> ∃ p : Nat, q = .returned (.tuple #[.pointer (some ⟨p, 0, none⟩), .int .i64 (k : Nat), .int .i64 0]) /\ TabAt anyB w' p L) /\ (E ≠ 0 -> q = .returned (.tuple #[.pointer none, .int .i64 (k : Nat), .int .i64 E])) /\ Below w.heap.size w w'
set_option maxHeartbeats 4000000 in
theorem ywn {s : ByteArray} (w : World) (hs : s.size <= 1000000) {l : List S6.RV} {at' E : Nat} (hR : S6.parse s.data.toList = (l, at', E)) (hE : E ≠ 0) (L : List PE) :
  Calls Tryz.prog 9 #[.string s] w (ReadIs L at' E w) := by
 have CP := zH (yol w hs hR)
 have hen : ((E : Int) != 0) = true := by simpa using hE
 have HE : Hid (¬ (E : Int) = 0) := by show ¬ _; omega
 clear hs hR hE
 go_enter Tryz.func9, Tryz.ntmps9
 go_wp2_with (go_at_call 22; refine (CP.out).mono ?_; rintro q w1 ⟨⟨A, n, c, rfl, -, -⟩, hb⟩; have HB := zH hb; clear hb)
 go_ret3
 exact ⟨fun h => absurd h HE.out, fun _ => rfl, HB.out⟩
set_option maxHeartbeats 4000000 in
theorem zaa {s : ByteArray} (w : World) (hs : s.size <= 1000000) {l : List S6.RV} {at' : Nat} (hR : S6.parse s.data.toList = (l, at', 0)) {E : Int} (hE : appE rootP l = E) {L : List PE} (hL : appL rootP l = L) :
  Calls Tryz.prog 9 #[.string s] w (ReadIs L 0 E w) := by
 have CP : Hid (Calls Tryz.prog 22 #[.string s] w fun e w' => (∃ (A : Option Addr) (n c : Nat), e = .returned (.tuple #[.slice A n c, .int .i64 (at' : Nat), .int .i64 0]) /\ n = l.length /\ S6.RdRs w' (.slice A n c) l) /\ Below w.heap.size w w') := yol w hs hR
 have HRU := zH (ywv s.data.toList); rw [hR] at HRU; have HE := zH hE; have HL := zH hL
 have CA : Hid (∀ (w1 : World) (p : Nat) (F : Nat -> Prop) (rv : Value), TabAt F w1 p rootP -> S6.RdRs w1 rv l -> Calls Tryz.prog 14 #[.pointer (some ⟨p, 0, none⟩), rv] w1 (AppIs L E w1)) := fun w1 p F rv ht hr => yil ht hr (Nat.le_trans HRU.out.1 (by omega)) HRU.out.2 HE.out HL.out
 clear hs hR hE hL
 by_cases hE0 : E = 0
 ·subst hE0
  go_enter Tryz.func9, Tryz.ntmps9
  go_wp2_with (first
   | (go_at_call 22; refine (CP.out).mono ?_; rintro q w1 ⟨⟨A, n, c, rfl, -, hr⟩, hb⟩; have HB := zH hb; have HR := zH hr; clear hb hr)
   | (go_at_call 13; refine (yff _).mono ?_; rintro q w2 ⟨p, rfl, ht, hb⟩; have HB2 := zH (HB.out.trans (hb.mono HB.out.size)); have HR2 := zH (HR.out.below hb (zN _)); have HT := zH ht; clear hb ht)
   | (go_at_call 14; refine (CA.out _ _ _ _ HT.out HR2.out).mono ?_; rintro q w3 ⟨h1, -, hb⟩; obtain ⟨p3, rfl, ht⟩ := h1 rfl; have HB3 := zH (HB2.out.trans (hb.mono HB2.out.size)); have HT3 := zH ht; clear h1 hb ht))
  go_ret3
  exact ⟨fun _ => ⟨_, rfl, HT3.out⟩, fun h => absurd rfl h, HB3.out⟩
 ·have HE0 := zH hE0
  have hen : (E != 0) = true := by simpa using hE0
  clear hE0
  go_enter Tryz.func9, Tryz.ntmps9
  go_wp2_with (first
   | (go_at_call 22; refine (CP.out).mono ?_; rintro q w1 ⟨⟨A, n, c, rfl, -, hr⟩, hb⟩; have HB := zH hb; have HR := zH hr; clear hb hr)
   | (go_at_call 13; refine (yff _).mono ?_; rintro q w2 ⟨p, rfl, ht, hb⟩; have HB2 := zH (HB.out.trans (hb.mono HB.out.size)); have HR2 := zH (HR.out.below hb (zN _)); have HT := zH ht; clear hb ht)
   | (go_at_call 14; refine (CA.out _ _ _ _ HT.out HR2.out).mono ?_; rintro q w3 ⟨-, h1, hb⟩; have h2 := h1 HE0.out; subst h2; have HB3 := zH (HB2.out.trans (hb.mono HB2.out.size)); clear h1 hb))
  go_ret3
  exact ⟨fun h => absurd h HE0.out, fun _ => rfl, HB3.out⟩
def rdK (s : ByteArray) : Nat := if (S6.parse s.data.toList).2.2 = 0 then 0 else (S6.parse s.data.toList).2.1
def rdE (s : ByteArray) : Int := if (S6.parse s.data.toList).2.2 = 0 then appE rootP (S6.parse s.data.toList).1 else (S6.parse s.data.toList).2.2
def rdL (s : ByteArray) : List PE := appL rootP (S6.parse s.data.toList).1
theorem yzd {s : ByteArray} (w : World) (hs : s.size <= 1000000) : Calls Tryz.prog 9 #[.string s] w (ReadIs (rdL s) (rdK s) (rdE s) w) := by
 obtain ⟨R, hR⟩ : ∃ R, S6.parse s.data.toList = R := ⟨_, rfl⟩; obtain ⟨l, k, e⟩ := R; unfold rdL rdK rdE; rw [hR]
 by_cases he : e = 0
 ·subst he; exact zaa w hs hR rfl rfl
 ·simp only [if_neg he]; exact ywn w hs hR he _
end Go.Proofs.YtichfdjjbafeiaaGreat
namespace Go.Proofs.YtichfdjjbafeiaaGreat
def Lx (n x : Nat) : Prop := wgt 2 x <= 150 + n /\ wgt 3 x <= 60 + n
def Lim (n : Nat) (L : List PE) : Prop := ∀ e ∈ L, ∀ x ∈ e.2, Lx n x
def LimA (n : Nat) (A : List Nat) : Prop := ∀ x ∈ A, Lx n x
def LimS (n : Nat) (t : ST) : Prop := Lim n t.L /\ ∀ A, t.A = some A -> LimA n A
theorem Lx.more {n m x : Nat} (h : Lx n x) (hm : n <= m) : Lx m x := ⟨by have := h.1; omega, by have := h.2; omega⟩
theorem Lx.nw {n x lv : Nat} (h : Lx n x) (hn : n <= 60) (hl : Lv lv) : NW lv x := by
 rcases hl with rfl | rfl | rfl
 ·exact .inl rfl
 ·right; have := h.1; have : topW 2 = 255 := rfl; omega
 ·right; have := h.2; have : topW 3 = 127 := rfl; omega
theorem up_lx {n x lv fr : Nat} (h : Lx n x) (hn : n <= 60) (hl : Lv lv) (hx : x < 4294967296) : Lx (n + 1) (up lv fr x) := by
 have h1 : topW 1 = 64255 := rfl
 have h2 : topW 2 = 255 := rfl
 have h3 : topW 3 = 127 := rfl
 obtain ⟨ha, hb⟩ := h
 rcases hl with rfl | rfl | rfl
 ·exact ⟨by rw [yex (.inl rfl) (.inr (.inl rfl)) (by omega) hx]; omega, by rw [yex (.inl rfl) (.inr (.inr rfl)) (by omega) hx]; omega⟩
 ·exact ⟨by rw [wgt_up (by omega) hx]; split <;> omega, by rw [yex (.inr (.inl rfl)) (.inr (.inr rfl)) (by omega) hx]; omega⟩
 ·exact ⟨by rw [yex (.inr (.inr rfl)) (.inr (.inl rfl)) (by omega) hx]; omega, by rw [wgt_up (by omega) hx]; split <;> omega⟩
theorem nxt_lx {n x lv : Nat} (h : Lx n x) (hn : n <= 60) (hl : Lv lv) (hx : x < 4294967296) : Lx (n + 1) (nxt lv x) := by
 obtain ⟨ha, hb⟩ := h
 have h2 : topW 2 = 255 := rfl
 have h3 : topW 3 = 127 := rfl
 unfold nxt
 rcases hl with rfl | rfl | rfl
 ·rw [if_pos rfl]; unfold Lx wgt E3.mk
  simp
  omega
 ·rw [if_neg (by omega), if_pos rfl]
  have hp : wgt 2 (putW 2 x (wgt 2 x + 1)) = wgt 2 x + 1 := yjk (by rw [if_neg (by omega)]; omega)
  exact ⟨by rw [yfu (.inr (.inr rfl)) (.inr (.inl rfl)) (by omega) (put_lt hx), hp]; omega, by rw [yjk (by rw [if_neg (by omega)]; omega)]; omega⟩
 ·rw [if_neg (by omega), if_neg (by omega)]
  exact ⟨by rw [yfu (.inr (.inr rfl)) (.inr (.inl rfl)) (by omega) hx]; omega, by rw [yjk (by rw [if_neg (by omega)]; omega)]; omega⟩
theorem impl_lx (n : Nat) (c : Int) : LimA n (impl c) := by
 intro x hx; unfold impl at hx
 split at hx
 ·rename_i h
  have := ydh h
  simp only [List.mem_cons, List.not_mem_nil, or_false] at hx
  rcases hx with rfl | rfl <;> (unfold Lx wgt E3.mk; simp; omega)
 ·cases hx
theorem atF_lx {n : Nat} {L : List PE} (h : Lim n L) (ss : List Int) (k : Nat) : LimA n (atF L ss k).1 := by
 induction k with
 | zero => exact impl_lx n _
 | succ k ih =>
  unfold atF
  cases hl : look L (ss.take (k + 1)) with
  | some l => exact fun x hx => h _ (yow hl) x hx
  | none => exact ih
theorem els_lx {n : Nat} {L : List PE} (h : Lim n L) : ∀ (k : Nat) (ss : List Int), ss.length <= k -> LimA n (elsP L ss)
 | 0, ss, hk => by
  have : ss = [] := List.eq_nil_of_length_eq_zero (by omega)
  subst this; intro x hx; simp [ycb] at hx
 | k + 1, ss, hk => by
  rcases Nat.eq_zero_or_pos ss.length with h0 | h0
  ·have : ss = [] := List.eq_nil_of_length_eq_zero h0
   subst this; intro x hx; simp [ycb] at hx
  ·intro x hx; have hu := ycu L h0; rw [ydd L h0] at hx
   rcases List.mem_append.1 hx with hx | hx
   ·exact atF_lx h ss _ x hx
   ·exact els_lx h k (ss.drop (atP L ss).2) (by rw [List.length_drop]; omega) x hx
theorem ykh {n lv : Nat} {L : List PE} {A : List Nat} (h : Lim n L) (hn : n <= 60) (hl : Lv lv) (hg : GoodT L) : Lim (n + 1) (movL lv L A) := by
 unfold movL
 cases lastW lv A with
 | none => exact fun e he x hx => (h e he x hx).more (by omega)
 | some k =>
  intro e he x hx; obtain ⟨f, hf, rfl⟩ := List.mem_map.1 he; obtain ⟨y, hy, rfl⟩ := List.mem_map.1 hx; exact up_lx (h f hf y hy) hn hl ((hg.els f hf).2 y hy)
theorem yki {n lv : Nat} {A : List Nat} (h : LimA n A) (hn : n <= 60) (hl : Lv lv) (h8 : Anc A) : LimA (n + 1) (movA lv A) := by
 unfold movA
 cases hk : lastW lv A with
 | none => exact fun x hx => (h x hx).more (by omega)
 | some k =>
  intro x hx; have hkn := (ygi hk).1
  have hg : A.getD k 0 ∈ A := by rw [List.getD_eq_getElem?_getD, List.getElem?_eq_getElem hkn]; exact List.getElem_mem _
  unfold ancP at hx
  rcases List.mem_append.1 hx with hx | hx
  ·obtain ⟨y, hy, rfl⟩ := List.mem_map.1 hx; exact up_lx (h y (List.mem_of_mem_take hy)) hn hl (h8.2 y (List.mem_of_mem_take hy))
  ·simp only [List.mem_cons, List.not_mem_nil, or_false] at hx; subst hx; exact nxt_lx (h _ hg) hn hl (h8.2 _ hg)
theorem yyl {n : Nat} {r : Int} {L : List PE} {A : List Nat} (h : Lim n L) (hn : n <= 60) (hg : GoodT L) : Lim (n + 1) (chgL r L A) := by
 have h0 : Lim (n + 1) L := fun e he x hx => (h e he x hx).more (by omega)
 unfold chgL
 split
 ·exact ykh h hn (.inl rfl) hg
 ·split
  ·exact ykh h hn (.inr (.inl rfl)) hg
  ·split
   ·exact ykh h hn (.inr (.inr rfl)) hg
   ·exact h0
theorem yym {n : Nat} {r : Int} {A : List Nat} (h : LimA n A) (hn : n <= 60) (h8 : Anc A) : LimA (n + 1) (chgA r A) := by
 have h0 : LimA (n + 1) A := fun x hx => (h x hx).more (by omega)
 unfold chgA
 split
 ·exact yki h hn (.inl rfl) h8
 ·split
  ·exact yki h hn (.inr (.inl rfl)) h8
  ·split
   ·exact yki h hn (.inr (.inr rfl)) h8
   ·exact h0
theorem yip {t : ST} {r : S6.RV} {A : List Nat} (h1 : ¬ r.rel = 1) (hA : t.A = some A) (hE : rulE t r = 0) : chgE r.rel t.L A = 0 /\ withE (chgL r.rel t.L A) r.seq (chgA r.rel A ++ elsP (chgL r.rel t.L A) r.exp) = 0 := by
 rw [ymt h1 hA] at hE
 by_cases hc : chgE r.rel t.L A = 0
 ·rw [if_neg (by simp [hc])] at hE
  exact ⟨hc, hE⟩
 ·rw [if_pos hc] at hE; exact absurd hE hc
theorem ynl {L : List PE} {A : List Nat} (hg : GoodT L) (h8 : Anc A) (ss : List Int) : ∀ x ∈ A ++ elsP L ss, x < 4294967296 := by
 intro x hx
 rcases List.mem_append.1 hx with hx | hx
 ·exact h8.2 x hx
 ·exact els_lt hg ss x hx
theorem ylj {t : ST} {r : S6.RV} (hg : GoodT t.L) (h8 : AnS t) (hE : rulE t r = 0) : GoodT (rulS t r).L := by
 by_cases h1 : r.rel = 1
 ·unfold rulS; rw [if_pos h1]; exact hg
 ·cases hA : t.A with
  | none => unfold rulE at hE; rw [if_neg h1, hA] at hE; cases hE
  | some A =>
   obtain ⟨hc, hw⟩ := yip h1 hA hE; rw [yju h1 hA]; exact yps (yfp hg) hw (ynl (yfp hg) (yhc (h8 A hA) hc) _)
theorem yjt {n : Nat} {t : ST} {r : S6.RV} (hg : GoodT t.L) (h8 : AnS t) (hl : LimS n t) (hn : n <= 60) (hE : rulE t r = 0) : LimS (n + 1) (rulS t r) := by
 by_cases h1 : r.rel = 1
 ·unfold rulS; rw [if_pos h1]; refine ⟨fun e he x hx => (hl.1 e he x hx).more (by omega), fun A hA => ?_⟩
  injection hA with hA
  subst hA; exact fun x hx => (els_lx hl.1 _ _ (zN _) x hx).more (by omega)
 ·cases hA : t.A with
  | none => unfold rulE at hE; rw [if_neg h1, hA] at hE; cases hE
  | some A =>
   obtain ⟨hc, hw⟩ := yip h1 hA hE; rw [yju h1 hA]; have hL := yyl (r := r.rel) (A := A) hl.1 hn hg; have hA2 := yym (r := r.rel) (hl.2 A hA) hn (h8 A hA); have hgl := yfp (r := r.rel) (A := A) hg; refine ⟨fun e he x hx => ?_, fun B hB => ?_⟩
   ·have he : e ∈ putP (chgL r.rel t.L A) (r.seq, chgA r.rel A ++ elsP (chgL r.rel t.L A) r.exp) := he
    rw [put_eq hgl.srt] at he
    rcases yfj he with rfl | he
    ·rcases List.mem_append.1 hx with hx | hx
     ·exact hA2 x hx
     ·exact els_lx hL _ _ (zN _) x hx
    ·exact hL e he x hx
   ·injection hB with hB
    subst hB; exact hA2
theorem zac (L : List PE) (x : PE) (h : 0 < L.length) : 0 < (putP L x).length := by
 rw [yoj]; split <;> omega
theorem yoe {t : ST} {r : S6.RV} (h : 0 < t.L.length) : 0 < (rulS t r).L.length := by
 unfold rulS
 split
 ·exact h
 ·cases t.A with
  | none => exact h
  | some A => exact zac _ _ (by rw [ypl]; exact h)
end Go.Proofs.YtichfdjjbafeiaaGreat
namespace Go.Proofs.YtichfdjjbafeiaaGreat
open Go.RowKit
theorem yfs {ops : Array Oper} {o : Oper} {ts : Array Value} {df : List Deferred} {w : World} {K : Act -> World -> Prop} {Q : Exit -> Act -> World -> Prop} {Z : Prop} (hgd : o.guard = none) (s x : Operand) (d : Nat) (hd : o.dst = some d)
  (ho : o.op = .call { callee := .builtin .append, args := #[s, x], argTypes := #[92, 92] })
  (B g0 : Nat) (m : List Nat) {A : Option Addr} {n C : Nat} (hn : m.length = n) (hs : (Act.mk ts df).eval s = .slice (some ⟨g0, 0, none⟩) 0 0) (hx : (Act.mk ts df).eval x = .slice A n C) (hown : OwnQ B w (.slice (some ⟨g0, 0, none⟩) 0 0) []) (hsrc : RdQ anyB w (.slice A n C) m)
  (hB : B <= w.heap.size) (hl : n <= 1000)
  (h : ∀ v' w', OwnQ B w' v' m -> Below w.heap.size w w' -> K ⟨ts.setIfInBounds d v', df⟩ w') :
  if Region.wanted o (yielded ops ts) = true then Oper.wp Tryz.prog o ⟨ts, df⟩ w K Q else Z := by
 subst hn
 have hw : Region.wanted o (yielded ops ts) = true := by simp [Region.wanted, hgd]
 rw [if_pos hw]; obtain ⟨i0, hi0, hz0, hz1, hz2⟩ := info_parts yga
 by_cases h0 : m.length = 0
 ·obtain rfl : m = [] := List.eq_nil_of_length_eq_zero h0
  have hrun : (Builtin.append_ #[92, 92] o.type #[.slice (some ⟨g0, 0, none⟩) 0 0, .slice A 0 C]).run Tryz.prog w = .ok (.slice (some ⟨g0, 0, none⟩) 0 0) w := by
   cases A <;> simp [Builtin.append_, run_underlying Tryz.underlying92, sizeOf, typeInfo, hi0, Builtin.lenOf, Builtin.firstCells, storeCells, loadCells, loadCellsFrom, Sem.run, Result.andThen, pure]
  have hx' : (Act.mk ts df).eval x = .slice A 0 C := hx
  unfold Oper.wp
  simp [execOp, ho, resolve, invoke, builtin, hs, hx', hrun, Result.andThen]
  have hk : K ((Act.mk ts df).put o.dst (.slice (some ⟨g0, 0, none⟩) 0 0)) w := by rw [hd]; exact h _ w hown (zR _ _)
  exact hk
 ·obtain ⟨g, o', e, -, hcell⟩ := RdF.base hsrc (by omega)
  subst e
  have hcs : ∀ j u, (qcells m)[j]? = some u -> w.cell? ((⟨g, o', none⟩ : Addr).add j) = some u := fun j u hu => by rw [Addr.add_lit]; exact hcell j u hu
  obtain ⟨v', w', hrun, h2, h3, -, -⟩ := run_append_own_at (P := Tryz.prog) (w := w) B 92 o.type 91 i0 _ 4 32 Tryz.underlying92 hi0 hz0 hz1 hz2 rfl (by omega) (.slice (some ⟨g0, 0, none⟩) 0 0) 0 [] hown
   ⟨g, o', none⟩ m.length C (qcells m) (by rw [ybf]) hcs (yge m) (by simp only [maxLen]; omega) (by omega) hB
  have hnx : Builtin.nextslicecap (0 + m.length) 0 = m.length := by rw [Nat.zero_add]; exact nextslicecap_zero (by omega)
  have hrun2 := run_append_grow (P := Tryz.prog) (w := w) 92 o.type 91 i0 _ Tryz.underlying92 hi0 hz0 ⟨g0, 0, none⟩ 0 0 [] (by simp) (by simp) ⟨g, o', none⟩ m.length C (qcells m) (by rw [ybf, hz1]) hcs (by omega) (by omega) (by rw [hnx, hz2]; omega)
  have hbl : Below w.heap.size w w' := by
   rw [hrun] at hrun2
   injection hrun2 with e1 e2
   rw [e2]; exact ((zR _ w).drew).alloc (zN _) _
  unfold Oper.wp
  simp [execOp, ho, resolve, invoke, builtin, hs, hx, hrun, Result.andThen]
  have hk : K ((Act.mk ts df).put o.dst v') w' := by
   rw [hd]; refine h v' w' ?_ hbl; unfold OwnQ; rw [show m.length = 0 + m.length by omega]; exact h2
  exact hk
theorem yhd {ops : Array Oper} {o : Oper} {ts : Array Value} {df : List Deferred} {w : World} {K : Act -> World -> Prop} {Q : Exit -> Act -> World -> Prop} {Z : Prop} (hgd : o.guard = none) (s x : Operand) (d : Nat) (hd : o.dst = some d)
  (ho : o.op = .call { callee := .builtin .append, args := #[s, x], argTypes := #[92, 92] })
  (B : Nat) (v : Value) (l m : List Nat) {A : Option Addr} {n C : Nat} (hn : m.length = n) (hs : (Act.mk ts df).eval s = v) (hx : (Act.mk ts df).eval x = .slice A n C) (hown : OwnQ B w v l) (hsrc : RdQ anyB w (.slice A n C) m)
  (hB : B <= w.heap.size) (hl : l.length + n <= 1000)
  (h : ∀ v' w', OwnQ B w' v' (l ++ m) -> w.grownBy w' v.ownBlock -> K ⟨ts.setIfInBounds d v', df⟩ w') :
  if Region.wanted o (yielded ops ts) = true then Oper.wp Tryz.prog o ⟨ts, df⟩ w K Q else Z := by
 subst hn
 have hw : Region.wanted o (yielded ops ts) = true := by simp [Region.wanted, hgd]
 rw [if_pos hw]; obtain ⟨i0, hi0, hz0, hz1, hz2⟩ := info_parts yga
 by_cases h0 : m.length = 0
 ·obtain rfl : m = [] := List.eq_nil_of_length_eq_zero h0
  have hx' : (Act.mk ts df).eval x = .slice A 0 C := hx
  have hrun : (Builtin.append_ #[92, 92] o.type #[v, .slice A 0 C]).run Tryz.prog w = .ok v w := by
   have h2 := hown.2
   rcases h2 with ⟨rfl, hc0⟩ | ⟨g, cap, cur, rfl, hB', hh, h3, h4, h5, h6⟩
   ·cases A <;> simp [Builtin.append_, run_underlying Tryz.underlying92, sizeOf, typeInfo, hi0, Builtin.lenOf, Builtin.firstCells, storeCells, loadCells, loadCellsFrom, Sem.run, Result.andThen, pure]
   ·cases A <;> simp [Builtin.append_, run_underlying Tryz.underlying92, sizeOf, typeInfo, hi0, Builtin.lenOf, Builtin.firstCells, storeCells, loadCells, loadCellsFrom, Sem.run, Result.andThen, pure, h3]
  unfold Oper.wp
  simp [execOp, ho, resolve, invoke, builtin, hs, hx', hrun, Result.andThen]
  have hk : K ((Act.mk ts df).put o.dst v) w := by rw [hd]; exact h _ w (by rw [List.append_nil]; exact hown) (World.grownBy.refl _ _)
  exact hk
 ·obtain ⟨g, o', e, -, hcell⟩ := RdF.base hsrc (by omega)
  subst e
  have hcs : ∀ j u, (qcells m)[j]? = some u -> w.cell? ((⟨g, o', none⟩ : Addr).add j) = some u := fun j u hu => by rw [Addr.add_lit]; exact hcell j u hu
  obtain ⟨v', w', hrun, h2, h3, -, -⟩ := run_append_own_at (P := Tryz.prog) (w := w) B 92 o.type 91 i0 _ 4 32 Tryz.underlying92 hi0 hz0 hz1 hz2 rfl (by omega) v l.length (qcells l) hown
   ⟨g, o', none⟩ m.length C (qcells m) (by rw [ybf]) hcs (yge m) (by simp only [maxLen]; omega) (by omega) hB
  unfold Oper.wp
  simp [execOp, ho, resolve, invoke, builtin, hs, hx, hrun, Result.andThen]
  have hk : K ((Act.mk ts df).put o.dst v') w' := by
   rw [hd]; refine h v' w' ?_ h3; unfold OwnQ; rw [yeb, List.length_append]; exact h2
  exact hk
structure RA (B b2 b4 c : Nat) (t : ST) (a : Value) (wr : World) : Prop where
 var : ∃ (A : Option Addr) (cp : Nat), wr.heap[b2]? = some (.cells #[.slice A t.L.length cp] 52 (0, 0)) /\ RefT wr (.slice A t.L.length cp) t.L
 res : wr.heap[b4]? = some (.cells #[.slice none 0 0] 52 (0, 0))
 anc : OwnQ B wr a (t.A.getD [])
 good : GoodT t.L
 ans : AnS t
 lim : LimS c t
 pos : 0 < t.L.length
def RAppIs (L : List PE) (E : Int) (w : World) (q : Ending) (w' : World) : Prop :=
 (E = 0 -> ∃ u : Value, q = .returned (.tuple #[.agg #[u], .int .i64 0]) /\ RefT w' u L) /\ (E ≠ 0 -> q = .returned (.tuple #[.agg #[.slice none 0 0], .int .i64 E])) /\ Below w.heap.size w w'
theorem RAppIs.bad {L : List PE} {E : Int} {w w' : World} (hE : E ≠ 0) (hb : Below w.heap.size w w') : RAppIs L E w (.returned (.tuple #[.agg #[.slice none 0 0], .int .i64 E])) w' := ⟨fun h => absurd h hE, fun _ => rfl, hb⟩
def SV.empq (B : Nat) : SV := ⟨fun v w => ∃ g0 : Nat, v = .slice (some ⟨g0, 0, none⟩) 0 0 /\ OwnQ B w v [], fun v w w' h hb => by
 obtain ⟨g0, h1, h2⟩ := h; exact ⟨g0, h1, R4.yai h2 hb (zN _)⟩⟩
def SV.oq (B : Nat) (l : List Nat) : SV := ⟨fun v w => OwnQ B w v l, fun _ _ _ h hb => R4.yai h hb (zN _)⟩
theorem yha (w : World) {B : Nat} (hB : B <= w.heap.size) : OwnQ B (w.alloc (.cells #[] 91)) (.slice (some ⟨w.heap.size, 0, none⟩) 0 0) [] := by
 have := yoo w [] (by simp) hB
 exact this
theorem yfi {N g : Nat} {w1 w2 : World} {v : Value} {l : List Nat} {B : Nat} (h : w1.heap[g]? = some (.cells #[.slice none 0 0] 52 (0, 0))) (ho : OwnQ B w1 v l) (hg : w1.grownBy w2 v.ownBlock) : w2.heap[g]? = some (.cells #[.slice none 0 0] 52 (0, 0)) :=
 (hg.block g (R4.yac h) (R4.yan ho h (by decide))).trans h
end Go.Proofs.YtichfdjjbafeiaaGreat
