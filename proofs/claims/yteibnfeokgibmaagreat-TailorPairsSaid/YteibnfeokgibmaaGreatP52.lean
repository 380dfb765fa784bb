/-
  PACKED for a claim.
-/
import Derived.Test.YteibnfeokgibmaaGreatP51
set_option linter.unusedVariables false
set_option linter.unusedSimpArgs false
set_option maxRecDepth 100000
namespace Go.Proofs.YteibnfeokgibmaaGreat
open Go.RowKit
theorem and16 (n : Int) : bits .and .i64 n 65535 = n % 65536 := T2.yfr 16 (by omega) n
end Go.Proofs.YteibnfeokgibmaaGreat
namespace Go.Proofs.YteibnfeokgibmaaGreat
def trP : Nat -> List Int
 | 0 => [109]
 | n + 1 => [((49 + n : Nat) : Int)]
def trD (i : Nat) : List Int := [((49 + i : Nat) : Int)]
theorem trP_ne {i n : Nat} (hi : i <= n) (hn : n < 8) : trP i ≠ trD n := by
 cases i with
 | zero =>
  intro h
  have h : ((109 : Int)) = ((49 + n : Nat) : Int) := by injection h
  omega
 | succ i =>
  intro h
  have h : ((49 + i : Nat) : Int) = ((49 + n : Nat) : Int) := by injection h
  omega
theorem trD_ne {i n : Nat} (hi : i < n) : trD i ≠ trD n := by
 intro h
 have h : ((49 + i : Nat) : Int) = ((49 + n : Nat) : Int) := by injection h
 omega
def TRel (L : List PE) (k : Nat) (p q : List Int) : Prop := ∃ a b, look L p = some [a] /\ look L q = some [b] /\ (∀ lv, Lv lv -> lv < k -> wgt lv a = wgt lv b) /\ (∀ lv, Lv lv -> lv = k -> wgt lv a < wgt lv b)
def Lo (n x : Nat) : Prop := wgt 1 x <= 1000 + n /\ wgt 2 x <= 150 + n /\ wgt 3 x <= 60 + n /\ E3.okE x = true
structure TR (K : Nat -> Nat) (n : Nat) (t : ST) (e : Nat) : Prop where
 good : GoodT t.L
 lim : ∀ f ∈ t.L, ∀ x ∈ f.2, Lo n x
 len : t.L.length <= 200 + n
 one : ∀ f ∈ t.L, f.1.length = 1
 anc : t.A = some [e]
 at' : look t.L (trP n) = some [e]
 nz : wgt 1 e ≠ 0 /\ wgt 2 e ≠ 0 /\ wgt 3 e ≠ 0
 rel : ∀ j, j < n -> TRel t.L (K j) (trP j) (trD j)
 nn : ∃ z, look t.L [110] = some [z] /\ wgt 1 e < wgt 1 z
 ll : TRel t.L 1 [108] [109]
theorem yet {n : Nat} (hn : n <= 40) {L : List PE} (h : ∀ f ∈ L, ∀ x ∈ f.2, Lo n x) {lv : Nat} (hl : Lv lv) : fullP lv L = false := by
 rw [Bool.eq_false_iff]; intro hf; unfold fullP at hf; obtain ⟨f, hf, h2⟩ := List.any_eq_true.1 hf; obtain ⟨x, hx, h3⟩ := List.any_eq_true.1 h2; have h3 := beq_iff_eq.1 h3; obtain ⟨a, b, c, -⟩ := h f hf x hx
 have h1 : topW 1 = 64255 := rfl
 have h2 : topW 2 = 255 := rfl
 have h4 : topW 3 = 127 := rfl
 rcases hl with rfl | rfl | rfl <;> omega
theorem Lo.more {n m x : Nat} (h : Lo n x) (hm : n <= m) : Lo m x := ⟨by have := h.1; omega, by have := h.2.1; omega, by have := h.2.2.1; omega, h.2.2.2⟩
theorem ykn {x : Nat} : E3.okE x = true ↔ (wgt 1 x = 0 \/ wgt 2 x ≠ 0 /\ wgt 3 x ≠ 0) /\ (wgt 2 x = 0 \/ wgt 3 x ≠ 0) /\ (x % 2 = 0 \/ wgt 1 x ≠ 0) := by
 unfold E3.okE wgt
 simp
 exact and_assoc
theorem yyp {lv e v : Nat} (hl : Lv lv) (he : e < 4294967296) : putW lv e v % 2 = e % 2 := by
 unfold putW
 rcases hl with rfl | rfl | rfl <;> simp <;> omega
theorem up_lo {n x lv fr : Nat} (h : Lo n x) (hn : n <= 40) (hl : Lv lv) (hf : fr ≠ 0) (hx : x < 4294967296) : Lo (n + 1) (up lv fr x) := by
 have h1 : topW 1 = 64255 := rfl
 have h2 : topW 2 = 255 := rfl
 have h3 : topW 3 = 127 := rfl
 obtain ⟨a, b, c, d⟩ := h; rw [ykn] at d
 have hb : up lv fr x % 2 = x % 2 := by unfold up; split; rfl; exact yyp hl hx
 have hne : wgt lv x ≠ topW lv := by rcases hl with rfl | rfl | rfl <;> omega
 have hw := wgt_up (fr := fr) hne hx; unfold Lo; rw [ykn, hb]
 rcases hl with rfl | rfl | rfl
 ·rw [yba (lv := 1) (k := 2) (.inl rfl) (.inr (.inl rfl)) (by omega) hx, yba (lv := 1) (k := 3) (.inl rfl) (.inr (.inr rfl)) (by omega) hx, hw]
  split <;> omega
 ·rw [yba (lv := 2) (k := 1) (.inr (.inl rfl)) (.inl rfl) (by omega) hx, yba (lv := 2) (k := 3) (.inr (.inl rfl)) (.inr (.inr rfl)) (by omega) hx, hw]
  split <;> omega
 ·rw [yba (lv := 3) (k := 1) (.inr (.inr rfl)) (.inl rfl) (by omega) hx, yba (lv := 3) (k := 2) (.inr (.inr rfl)) (.inr (.inl rfl)) (by omega) hx, hw]
  split <;> omega
theorem TRel.up {L : List PE} {k : Nat} {p q : List Int} (h : TRel L k p q) {n : Nat} (hn : n <= 40) (hlim : ∀ f ∈ L, ∀ x ∈ f.2, Lo n x) (hg : GoodT L) {lv fr : Nat} (hl : Lv lv) : TRel (mapP (Go.Proofs.YteibnfeokgibmaaGreat.up lv fr) L) k p q := by
 obtain ⟨a, b, ha, hb, h1, h2⟩ := h; refine ⟨Go.Proofs.YteibnfeokgibmaaGreat.up lv fr a, Go.Proofs.YteibnfeokgibmaaGreat.up lv fr b, by rw [ydc, ha]; rfl, by rw [ydc, hb]; rfl, fun j hj hk => ?_, fun j hj hk => ?_⟩
 all_goals
  have la := (hg.els _ (ydn ha)).2 a (by simp)
  have lb := (hg.els _ (ydn hb)).2 b (by simp)
  have na := yfh (yet hn hlim hl) (ydn ha) (x := a) (by simp)
  have nb := yfh (yet hn hlim hl) (ydn hb) (x := b) (by simp)
  by_cases e : lv = j
 ·subst e
  have := h1 lv hj hk
  rw [wgt_up na la, wgt_up nb lb]
  split <;> split <;> omega
 ·rw [yba hl hj e la, yba hl hj e lb]; exact h1 j hj hk
 ·subst e
  have := h2 lv hj hk
  rw [wgt_up na la, wgt_up nb lb]
  split <;> split <;> omega
 ·rw [yba hl hj e la, yba hl hj e lb]; exact h2 j hj hk
theorem TRel.put {L : List PE} {k : Nat} {p q : List Int} (h : TRel L k p q) (hs : Srt L) {x : PE} (hp : x.1 ≠ p) (hq : x.1 ≠ q) : TRel (putP L x) k p q := by
 obtain ⟨a, b, ha, hb, h1, h2⟩ := h; exact ⟨a, b, by rw [ydm hs hp]; exact ha, by rw [ydm hs hq]; exact hb, h1, h2⟩
structure TM (K : Nat -> Nat) (n : Nat) (L : List PE) (e a : Nat) : Prop where
 good : GoodT L
 lim : ∀ f ∈ L, ∀ x ∈ f.2, Lo (n + 1) x
 len : L.length <= 200 + n
 one : ∀ f ∈ L, f.1.length = 1
 at' : look L (trP n) = some [e]
 new : Lo (n + 1) a /\ a < 4294967296
 nz : wgt 1 a ≠ 0 /\ wgt 2 a ≠ 0 /\ wgt 3 a ≠ 0
 rel : ∀ j, j < n -> TRel L (K j) (trP j) (trD j)
 here : (∀ lv, Lv lv -> lv < K n -> wgt lv e = wgt lv a) /\ (∀ lv, Lv lv -> lv = K n -> wgt lv e < wgt lv a)
 nn : ∃ z, look L [110] = some [z] /\ wgt 1 a < wgt 1 z
 ll : TRel L 1 [108] [109]
theorem TM.put {K : Nat -> Nat} {n : Nat} {L : List PE} {e a : Nat} (h : TM K n L e a) (hn : n < 8) : TR K (n + 1) ⟨putP L (trD n, [a]), some [a]⟩ a /\ withE L (trD n) [a] = 0 := by
 have hs := h.good.srt
 have hsg : (trD n).all T2.isSg = true := by
  unfold trD T2.isSg T2.isPt
  simp
  omega
 refine ⟨⟨?_, ?_, ?_, ?_, rfl, ydl hs _, h.nz, ?_, ?_, ?_⟩, ?_⟩
 ·refine h.good.put (by simp [trD]) (by simp [trD]) hsg (by simp) (fun x hx => ?_) (.inr (by have := h.len; omega))
  simp only [List.mem_cons, List.not_mem_nil, or_false] at hx; subst hx; exact h.new.2
 ·intro f hf x hx
  have hf : f ∈ putP L (trD n, [a]) := hf
  rw [put_eq hs] at hf
  rcases ydk hf with rfl | hf
  ·simp only [List.mem_cons, List.not_mem_nil, or_false] at hx; subst hx; exact h.new.1
  ·exact h.lim f hf x hx
 ·show (putP L (trD n, [a])).length <= _
  rw [yor]
  have := h.len
  split <;> omega
 ·intro f hf
  have hf : f ∈ putP L (trD n, [a]) := hf
  rw [put_eq hs] at hf
  rcases ydk hf with rfl | hf
  ·rfl
  ·exact h.one f hf
 ·intro j hj
  rcases Nat.lt_succ_iff_lt_or_eq.1 hj with hj | rfl
  ·exact (h.rel j hj).put hs (fun e => trP_ne (Nat.le_of_lt hj) hn e.symm) (fun e => trD_ne hj e.symm)
  ·exact ⟨e, a, by rw [ydm hs (fun e => trP_ne (zN _) hn e.symm)]; exact h.at', ydl hs _, h.here.1, h.here.2⟩
 ·obtain ⟨z, hz, hw⟩ := h.nn; refine ⟨z, by rw [ydm hs]; exact hz; (intro e; have e : ((49 + n : Nat) : Int) = 110 := by injection e); omega, hw⟩
 ·refine h.ll.put hs ?_ ?_
  ·intro e; have e : ((49 + n : Nat) : Int) = 108 := by injection e
   omega
  ·intro e; have e : ((49 + n : Nat) : Int) = 109 := by injection e
   omega
 ·unfold withE
  have hb : badA (trD n) [a] = false := by
   unfold badA sgsB; rw [hsg]
   simp [trD]
  rw [if_neg (by rw [hb]; simp), if_neg (fun hh => by have := h.len; omega)]
theorem yvl {lv e : Nat} (h : wgt lv e ≠ 0) : lastW lv [e] = some 0 := by
 unfold lastW
 show lastF lv [e] 1 = _
 unfold lastF; rw [if_neg (by simpa using h)]
theorem ymt : rootP.all (fun f => f.2.all fun x => decide (wgt 1 x <= 1000) && decide (wgt 2 x <= 150) && decide (wgt 3 x <= 60) && E3.okE x) = true := by decide +kernel
theorem yhj : rootP.all (fun f => decide (f.1.length = 1)) = true := by decide +kernel
theorem yso (K : Nat -> Nat) : TR K 0 ⟨rootP, some [23076868]⟩ 23076868 where
 good := root_good
 lim f hf x hx := by
  have := List.all_eq_true.1 (List.all_eq_true.1 ymt f hf) x hx
  simp only [Bool.and_eq_true, decide_eq_true_eq] at this; exact ⟨this.1.1.1, this.1.1.2, this.1.2, this.2⟩
 len := by decide +kernel
 one f hf := of_decide_eq_true (List.all_eq_true.1 yhj f hf)
 anc := rfl
 at' := by decide +kernel
 nz := by decide +kernel
 rel j hj := by omega
 nn := ⟨23601156, by decide +kernel, by decide +kernel⟩
 ll := ⟨22552580, 23076868, by decide +kernel, by decide +kernel, fun lv hl h => by rcases hl with rfl | rfl | rfl <;> omega, fun lv hl h => by subst h; decide +kernel⟩
theorem lk_els {L : List PE} {c : Int} {a : Nat} (h : look L [c] = some [a]) : elsP L [c] = [a] := by
 have hp : 0 < [c].length := by simp
 have hat : atP L [c] = ([a], 1) := by
  unfold atP
  show atF L [c] 1 = _
  unfold atF
  show (match look L [c] with | some l => (l, 0 + 1) | none => atF L [c] 0) = _
  rw [h]
 rw [ycc L hp, hat]
 rfl
end Go.Proofs.YteibnfeokgibmaaGreat
namespace Go.Proofs.YteibnfeokgibmaaGreat
open S6 (parse parD relD seqD expD af blk endd wrd wr1 mk)
theorem yut {k : Nat} (h1 : 1 <= k) (h4 : k <= 4) : (k = 1 /\ mk (k + 1) = [60]) \/ (k = 2 /\ mk (k + 1) = [60, 60]) \/ (k = 3 /\ mk (k + 1) = [60, 60, 60]) \/ (k = 4 /\ mk (k + 1) = [61]) := by
 have : k = 1 \/ k = 2 \/ k = 3 \/ k = 4 := by omega
 rcases this with rfl | rfl | rfl | rfl
 ·exact .inl ⟨rfl, rfl⟩
 ·exact .inr (.inl ⟨rfl, rfl⟩)
 ·exact .inr (.inr (.inl ⟨rfl, rfl⟩))
 ·exact .inr (.inr (.inr ⟨rfl, rfl⟩))
theorem rel_mk {k : Nat} (h1 : 1 <= k) (h4 : k <= 4) (R : List UInt8) : relD (mk (k + 1) ++ 32 :: R) = (k + 1, (mk (k + 1)).length) := by
 rcases yut h1 h4 with ⟨rfl, h⟩ | ⟨rfl, h⟩ | ⟨rfl, h⟩ | ⟨rfl, h⟩ <;>
 ·rw [h]; unfold relD S6.lts; simp only [List.cons_append, List.nil_append, T2.yal, T2.ycf]
  rfl
theorem yuu {k : Nat} (h1 : 1 <= k) (h4 : k <= 4) : ∃ x t, mk (k + 1) = x :: t /\ (x = 60 \/ x = 61) := by
 rcases yut h1 h4 with ⟨rfl, h⟩ | ⟨rfl, h⟩ | ⟨rfl, h⟩ | ⟨rfl, h⟩ <;> exact ⟨_, _, h, by decide⟩
end Go.Proofs.YteibnfeokgibmaaGreat
namespace Go.Proofs.YteibnfeokgibmaaGreat
def oneT (L : List PE) : Prop := ∀ e ∈ L, e.1.length = 1
theorem yun {L : List PE} (h : oneT L) {s : List Int} (hs : 2 <= s.length) : look L s = none := by
 cases hl : look L s with
 | none => rfl
 | some l =>
  have := h _ (ydn hl)
  simp only at this
  omega
theorem yow : oneT rootP := fun e he => of_decide_eq_true (List.all_eq_true.1 yhj e he)
theorem yvi : (List.range 26).all (fun k => decide (look rootP [((97 + k : Nat) : Int)] = some [E3.mk (256 + 8 * k) 32 2 0]) && decide (look rootP [((65 + k : Nat) : Int)] = some [E3.mk (256 + 8 * k) 32 8 0])) = true := by decide +kernel
theorem ygx {k : Nat} (h : k < 26) : look rootP [((97 + k : Nat) : Int)] = some [E3.mk (256 + 8 * k) 32 2 0] /\ look rootP [((65 + k : Nat) : Int)] = some [E3.mk (256 + 8 * k) 32 8 0] := by
 have := List.all_eq_true.1 yvi k (List.mem_range.2 h)
 simpa using this
theorem mk_wgt {p s t : Nat} (hp : p < 65536) (hs : s < 256) (ht : t < 128) : wgt 1 (E3.mk p s t 0) = p /\ wgt 2 (E3.mk p s t 0) = s /\ wgt 3 (E3.mk p s t 0) = t /\ E3.mk p s t 0 % 2 = 0 := by
 unfold wgt E3.mk
 simp
 omega
def lc (a : Nat) : Int := ((97 + a : Nat) : Int)
def le (a : Nat) : Nat := E3.mk (256 + 8 * a) 32 2 0
theorem le_w {a : Nat} (h : a < 26) : wgt 1 (le a) = 256 + 8 * a /\ wgt 2 (le a) = 32 /\ wgt 3 (le a) = 2 /\ le a % 2 = 0 /\ le a < 4294967296 /\ okW (le a) = true := by
 have h1 := mk_wgt (p := 256 + 8 * a) (s := 32) (t := 2) (by omega) (by omega) (by omega)
 refine ⟨h1.1, h1.2.1, h1.2.2.1, h1.2.2.2, by unfold le E3.mk; omega, ?_⟩
 unfold okW; rw [Bool.and_eq_true]; refine ⟨ykn.2 ?_, decide_eq_true ?_⟩
 ·unfold le; omega
 ·have : le a / 65536 = wgt 1 (le a) := by unfold wgt; rw [if_pos rfl]
  rw [this]; unfold le; omega
theorem lc_sg {a : Nat} (h : a < 26) : T2.isSg (lc a) = true := by
 unfold lc T2.isSg T2.isPt; simp; omega
theorem zax (L : List PE) {s : List Int} (h : s.length = 1) : begs L s = true := by
 unfold begs; rw [h]; refine List.all_eq_true.2 fun k hk => ?_
 have : k = 0 := by have := List.mem_range.1 hk; omega
 subst this; rfl
theorem yxz {a : Nat} (h : a < 26) : rulE ⟨rootP, none⟩ ⟨1, [lc a], []⟩ = 0 /\ rulS ⟨rootP, none⟩ ⟨1, [lc a], []⟩ = ⟨rootP, some [le a]⟩ := by
 have he : elsP rootP [lc a] = [le a] := lk_els (ygx h).1
 constructor
 ·unfold rulE; rw [if_pos rfl]
  show (if 8 < (elsP rootP [lc a]).length then (1 : Int) else 0) = 0
  rw [he]; rfl
 ·unfold rulS; rw [if_pos rfl]
  show ST.mk rootP (some (elsP rootP [lc a])) = _
  rw [he]
theorem two_app {a : Nat} (h : a < 26) {r : S6.RV} {L : List PE} (hE : rulE ⟨rootP, some [le a]⟩ r = 0) (hS : (rulS ⟨rootP, some [le a]⟩ r).L = L) (hc : checkP L = 0) : Go.Proofs.YteibnfeokgibmaaGreat.appE rootP [⟨1, [lc a], []⟩, r] = 0 /\ appL rootP [⟨1, [lc a], []⟩, r] = L := by
 obtain ⟨r0, s0⟩ := yxz h
 have e0 : rlsE ⟨rootP, none⟩ [⟨1, [lc a], []⟩, r] = 0 := by
  unfold rlsE; rw [if_neg (by simp [r0]), s0]
  unfold rlsE; rw [if_neg (by simp [hE])]
  rfl
 have s1 : (rlsS ⟨rootP, none⟩ [⟨1, [lc a], []⟩, r]).L = L := by
  show (rlsS (rulS ⟨rootP, none⟩ ⟨1, [lc a], []⟩) [r]).L = L
  rw [s0]; exact hS
 refine ⟨?_, s1⟩; unfold Go.Proofs.YteibnfeokgibmaaGreat.appE; rw [if_neg (by simp [e0]), s1]
 exact hc
end Go.Proofs.YteibnfeokgibmaaGreat
namespace Go.Proofs.YteibnfeokgibmaaGreat
open S6 (parse parD relD seqD expD af blk endd wrd wr1 mk)
def twoT (c : Int) (k : Nat) (l : List Int) : List UInt8 := [38] ++ (32 :: (wrd [c] ++ (32 :: (mk (k + 1) ++ (32 :: (wrd l ++ []))))))
theorem par_two {c : Int} {l : List Int} {k : Nat} (hk1 : 1 <= k) (hk4 : k <= 4) (hc : T2.isPt c = true) (hl : l.all T2.isPt = true) (hl0 : 0 < l.length) (hl3 : l.length <= 3) : parse (twoT c k l) = ([⟨1, [c], []⟩, ⟨((k + 1 : Nat) : Int), l, []⟩], 0, 0) := by
 have pc : [c].all T2.isPt = true := by simp [hc]
 obtain ⟨L, hL⟩ : ∃ L, twoT c k l = L := ⟨_, rfl⟩; rw [hL]
 have h0 : L.drop 0 = [38] ++ (32 :: (wrd [c] ++ (32 :: (mk (k + 1) ++ (32 :: (wrd l ++ [])))))) := by rw [<- hL, List.drop_zero]; rfl
 obtain ⟨x, t, hm, hx⟩ := yuu hk1 hk4
 have h1 : L.drop 1 = 32 :: (wrd [c] ++ (32 :: (mk (k + 1) ++ (32 :: (wrd l ++ []))))) := S6.ybq (X := [38]) h0
 have s1 : seqD L 1 = (true, [c], 2 + (wrd [c]).length) := S6.yol (by rw [S6.ywe]; rfl) (by simp) (by simp) pc h1
 have h2 : L.drop (2 + (wrd [c]).length) = [32] ++ (mk (k + 1) ++ (32 :: (wrd l ++ []))) := by
  have h1' : L.drop 2 = wrd [c] ++ _ := S6.ybq (X := [32]) h1
  exact S6.ybq h1'
 obtain ⟨k2, hk2⟩ : ∃ q, 2 + (wrd [c]).length = q := ⟨_, rfl⟩; rw [hk2] at h2 s1
 have h3 : L.drop (k2 + 1) = mk (k + 1) ++ (32 :: (wrd l ++ [])) := S6.ybq (X := [32]) h2
 have a2 : af L k2 = k2 + 1 := by unfold af; rw [h2, List.singleton_append, S6.yws, S6.yhf (by rw [hm, List.cons_append, T2.yal]; rcases hx with rfl | rfl <;> rfl)]
 have a3 : af L (k2 + 1) = k2 + 1 := by unfold af; rw [h3]; exact congrArg _ (S6.yhf (by rw [hm, List.cons_append, T2.yal]; rcases hx with rfl | rfl <;> rfl))
 have e1 : expD L 1 k2 = (true, [], k2 + 1) := by unfold expD; rw [if_neg (by simp), a2]
 have hr := rel_mk hk1 hk4 (wrd l ++ []); rw [<- h3] at hr; obtain ⟨q, hq⟩ : ∃ q, (mk (k + 1)).length = q := ⟨_, rfl⟩
 have h4 : L.drop (k2 + 1 + q) = 32 :: (wrd l ++ []) := by rw [<- hq]; exact S6.ybq h3
 rw [hq] at hr
 have s4 : seqD L (k2 + 1 + q) = (true, l, k2 + 1 + q + 1 + (wrd l).length) := S6.yol (R := []) rfl hl0 hl3 hl h4
 have h5 : L.drop (k2 + 1 + q + 1 + (wrd l).length) = [] := by
  have h4' : L.drop (k2 + 1 + q + 1) = wrd l ++ _ := S6.ybq (X := [32]) h4
  exact S6.ybq h4'
 obtain ⟨k5, hk5⟩ : ∃ q', k2 + 1 + q + 1 + (wrd l).length = q' := ⟨_, rfl⟩; rw [hk5] at h5 s4
 have l5 : L.length <= k5 := by
  have := congrArg List.length h5
  rw [List.length_drop] at this; simp only [List.length_nil] at this
  omega
 have a5 : af L k5 = k5 := S6.yny l5
 have e5 : ∀ r, expD L r k5 = (true, [], k5) := fun r => by
  unfold expD; rw [a5, if_neg (fun h => by have h := h.2; rw [S6.gb_out l5] at h; cases h)]
 have l3 : k2 + 1 < L.length := by
  have := congrArg List.length h3
  rw [List.length_drop, List.length_append, List.length_cons] at this
  omega
 have a0 : af L 0 = 0 := by unfold af; rw [h0]; exact congrArg _ (S6.yhf (by rw [List.cons_append, T2.yal]; rfl))
 have r0 : relD (L.drop 0) = (1, 1) := by rw [h0]; unfold relD; rw [List.cons_append, T2.yal]; rfl
 unfold parse; rw [a0, show L.length + 2 = L.length + 1 + 1 from rfl, parD, if_neg (by omega), r0]
 simp only [Nat.zero_add, s1, e1, a3]; rw [if_neg (by simp), if_neg (by simp), if_neg (by simp)]
 rw [parD, if_neg (by omega), hr]
 simp only [s4, e5, a5]; rw [if_neg (fun h => by (try dsimp only at h); simp only [List.length_cons, List.length_nil, List.nil_append] at h; omega), if_neg (by simp), if_neg (by simp)]
 obtain ⟨m, hm⟩ : ∃ m, L.length = m + 1 := ⟨L.length - 1, by omega⟩
 rw [hm, parD, if_pos (by omega), if_neg (by simp)]
 rfl
theorem ydr {a w : Nat} (h : wgt 1 a = w) (hw : w ≠ 0) (l : List Nat) : wsP 1 false false (a :: l) = ((w : Nat) : Int) :: wsP 1 false false l := by
 show wsF 1 false (a :: l) = _ :: wsF 1 false l
 rw [wsF, h, if_neg (by simp [hw])]
def prL (a b c : Nat) : List PE := putP (mapP (up 1 (256 + 8 * a)) rootP) ([lc b, lc c], [E3.mk (257 + 8 * a) 32 2 0])
theorem yyz {a : Nat} (ha : a < 26) : chgE 2 rootP [le a] = 0 /\ chgL 2 rootP [le a] = mapP (up 1 (256 + 8 * a)) rootP /\ chgA 2 [le a] = [E3.mk (257 + 8 * a) 32 2 0] := by
 have hw := le_w ha
 have hl : lastW 1 [le a] = some 0 := yvl (by rw [hw.1]; omega)
 have hf := yet (n := 0) (by omega) (yso (fun _ => 1)).lim (lv := 1) (.inl rfl)
 have hf : fullP 1 rootP = false := hf
 have hg : [le a].getD 0 0 = le a := rfl
 refine ⟨?_, ?_, ?_⟩
 ·unfold chgE movE; rw [if_pos rfl, hl]
  show (if topW 1 < wgt 1 (le a) then (1 : Int) else if fullP 1 rootP then 60 else 0) = 0
  rw [hw.1, hf, if_neg (by show ¬ 64255 < _; omega), if_neg (by simp)]
 ·unfold chgL movL; rw [if_pos rfl, hl]
  show mapP (up 1 (wgt 1 (le a))) rootP = _
  rw [hw.1]
 ·unfold chgA movA; rw [if_pos rfl, hl]
  show [nxt 1 (le a)] = _
  unfold nxt; rw [if_pos rfl, hw.1, show 256 + 8 * a + 1 = 257 + 8 * a by omega]
theorem yza {a b c : Nat} (ha : a < 26) (hb : b < 26) (hc : c < 26) : Go.Proofs.YteibnfeokgibmaaGreat.appE rootP [⟨1, [lc a], []⟩, ⟨2, [lc b, lc c], []⟩] = 0 /\ appL rootP [⟨1, [lc a], []⟩, ⟨2, [lc b, lc c], []⟩] = prL a b c := by
 have hne : ¬ (2 : Int) = 1 := by omega
 obtain ⟨m1, m2, m3⟩ := yyz ha
 have hgd : GoodT (mapP (up 1 (256 + 8 * a)) rootP) := ygy (fun x hx => up_lt hx) root_good
 refine two_app ha ?_ ?_ ?_
 ·rw [ytf (A := [le a]) hne rfl]
  show (if chgE 2 rootP [le a] ≠ 0 then chgE 2 rootP [le a] else withE (chgL 2 rootP [le a]) [lc b, lc c] (chgA 2 [le a] ++ elsP (chgL 2 rootP [le a]) [])) = 0
  rw [m1, m2, m3, if_neg (by simp), ycu, List.append_nil]
  unfold withE
  have hbad : badA [lc b, lc c] [E3.mk (257 + 8 * a) 32 2 0] = false := by
   unfold badA sgsB; rw [List.all_cons, List.all_cons, lc_sg hb, lc_sg hc]; rfl
  have hlen : rootP.length < 500 := by decide +kernel
  rw [if_neg (by rw [hbad]; simp), if_neg (fun hh => by have := hh.2; rw [ycs] at this; omega)]
 ·rw [yte (A := [le a]) hne rfl]
  show putP (chgL 2 rootP [le a]) ([lc b, lc c], chgA 2 [le a] ++ elsP (chgL 2 rootP [le a]) []) = _
  rw [m2, m3, ycu, List.append_nil]; rfl
 ·unfold checkP; rw [if_pos]; refine List.all_eq_true.2 fun f hf => ?_
  unfold goodE; rw [Bool.and_eq_true]
  have hf2 : f ∈ putP (mapP (up 1 (256 + 8 * a)) rootP) ([lc b, lc c], [E3.mk (257 + 8 * a) 32 2 0]) := hf
  rw [put_eq hgd.srt] at hf2
  rcases ydk hf2 with rfl | hf2
  ·constructor
   ·have h1 := mk_wgt (p := 257 + 8 * a) (s := 32) (t := 2) (by omega) (by omega) (by omega)
    show ([E3.mk (257 + 8 * a) 32 2 0]).all okW = true
    rw [List.all_cons, List.all_nil, Bool.and_true]; unfold okW; rw [Bool.and_eq_true]; refine ⟨ykn.2 (by omega), decide_eq_true ?_⟩
    have : E3.mk (257 + 8 * a) 32 2 0 / 65536 = wgt 1 (E3.mk (257 + 8 * a) 32 2 0) := by unfold wgt; rw [if_pos rfl]
    omega
   ·unfold begs; refine List.all_eq_true.2 fun k hk => ?_
    have hk : k < 2 := List.mem_range.1 hk
    have : k = 0 \/ k = 1 := by omega
    rcases this with rfl | rfl
    ·rfl
    ·show (place (prL a b c) [lc b]).isSome = true
     have hl : look (prL a b c) [lc b] = (look rootP [lc b]).map (List.map (up 1 (256 + 8 * a))) := by
      unfold prL; rw [ydm hgd.srt (fun h => by have h := congrArg List.length h; simp at h), ydc]
     rw [show look rootP [lc b] = some [le b] from (ygx hb).1] at hl
     cases hp : place (prL a b c) [lc b] with
     | none => rw [ydx hp] at hl; cases hl
     | some k => rfl
  ·obtain ⟨g, hg, rfl⟩ := List.mem_map.1 hf2
   constructor
   ·refine List.all_eq_true.2 fun y hy => ?_
    obtain ⟨z, hz, rfl⟩ := List.mem_map.1 hy; have hlo := up_lo (lv := 1) (fr := 256 + 8 * a) ((yso (fun _ => 1)).lim g hg z hz) (by omega) (.inl rfl) (by omega) ((root_good.els g hg).2 z hz)
    unfold okW; rw [hlo.2.2.2, Bool.true_and]
    have : up 1 (256 + 8 * a) z / 65536 = wgt 1 (up 1 (256 + 8 * a) z) := by unfold wgt; rw [if_pos rfl]
    have := hlo.1
    exact decide_eq_true (by omega)
   ·exact zax _ (yow g hg)
theorem ykg (a : Nat) : Srt (mapP (up 1 (256 + 8 * a)) rootP) := (ygy (f := up 1 (256 + 8 * a)) (fun x hx => up_lt hx) root_good).srt
theorem yge {a b c : Nat} (s : Int) : look (prL a b c) [s] = (look rootP [s]).map (List.map (up 1 (256 + 8 * a))) := by
 unfold prL; rw [ydm (ykg a) (fun h => by have h := congrArg List.length h; simp at h), ydc]
theorem yqw {a b c : Nat} : look (prL a b c) [lc b, lc c] = some [E3.mk (257 + 8 * a) 32 2 0] := ydl (ykg a) _
theorem yhv {a b c : Nat} {s : List Int} (h2 : 2 <= s.length) (hne : s ≠ [lc b, lc c]) : look (prL a b c) s = none := by
 unfold prL; rw [ydm (ykg a) (fun h => hne h.symm), ydc, yun yow h2]
 rfl
def leU (a o : Nat) : Nat := up 1 (256 + 8 * a) (le o)
theorem leU_w {a o : Nat} (ho : o < 26) : wgt 1 (leU a o) = if o <= a then 256 + 8 * o else 257 + 8 * o := by
 have hw := le_w ho
 have t1 : topW 1 = 64255 := rfl
 unfold leU; rw [wgt_up (by rw [hw.1]; omega) hw.2.2.2.2.1, hw.1]
 by_cases h : o <= a
 ·rw [if_pos h, if_pos (by omega)]
 ·rw [if_neg h, if_neg (by omega)]; omega
theorem yfg {a b c o : Nat} (ho : o < 26) : elsP (prL a b c) [lc o] = [leU a o] := lk_els (by rw [yge, show look rootP [lc o] = some [le o] from (ygx ho).1]; rfl)
theorem yhx {a b c : Nat} : elsP (prL a b c) [lc b, lc c] = [E3.mk (257 + 8 * a) 32 2 0] := by
 rw [ycc _ (by simp)]
 have hat : atP (prL a b c) [lc b, lc c] = ([E3.mk (257 + 8 * a) 32 2 0], 2) := by
  unfold atP
  show atF _ _ 2 = _
  rw [yem]
  show (match look (prL a b c) [lc b, lc c] with | some l => (l, 1 + 1) | none => _) = _
  rw [yqw]
 rw [hat]
 rfl
theorem ylq {a b c d e : Nat} (hb : b < 26) (hc : c < 26) (hd : look rootP [((d : Nat) : Int)] = some [e]) (hd97 : d < 97) : elsP (prL a b c) [lc b, ((d : Nat) : Int), lc c] = [leU a b, up 1 (256 + 8 * a) e, leU a c] := by
 have hne : ((d : Nat) : Int) ≠ lc c := by unfold lc; omega
 have h1 : atP (prL a b c) [lc b, ((d : Nat) : Int), lc c] = ([leU a b], 1) := by
  unfold atP
  show atF _ _ 3 = _
  rw [yem, yem, yem]
  show (match look (prL a b c) [lc b, ((d : Nat) : Int), lc c] with | some l => (l, 2 + 1) | none => match look (prL a b c) [lc b, ((d : Nat) : Int)] with | some l => (l, 1 + 1) | none => match look (prL a b c) [lc b] with | some l => (l, 0 + 1) | none => _) = _
  rw [yhv (by simp) (fun h => by simp at h), yhv (s := [lc b, ((d : Nat) : Int)]) (by simp) (fun h => by simp at h; exact hne h), yge, show look rootP [lc b] = some [le b] from (ygx hb).1]
  rfl
 have h2 : atP (prL a b c) [((d : Nat) : Int), lc c] = ([up 1 (256 + 8 * a) e], 1) := by
  unfold atP
  show atF _ _ 2 = _
  rw [yem, yem]
  show (match look (prL a b c) [((d : Nat) : Int), lc c] with | some l => (l, 1 + 1) | none => match look (prL a b c) [((d : Nat) : Int)] with | some l => (l, 0 + 1) | none => _) = _
  rw [yhv (by simp) (fun h => by simp at h; unfold lc at h; omega), yge, hd]
  rfl
 rw [ycc _ (by simp), h1]
 show [leU a b] ++ elsP (prL a b c) [((d : Nat) : Int), lc c] = _
 rw [ycc _ (by simp), h2]
 show [leU a b] ++ ([up 1 (256 + 8 * a) e] ++ elsP (prL a b c) [lc c]) = _
 rw [yfg hc]
 rfl
theorem col_lt {a b : List Nat} {x y : Nat} {l m : List Nat} (ha : a = x :: l) (hb : b = y :: m) (hx : wgt 1 x ≠ 0) (h : wgt 1 x < wgt 1 y) : colC 3 false false a b = -1 := by
 refine ygk (by omega) ?_ (by omega)
 rw [ha, hb, ydr rfl hx, ydr rfl (by omega), cmpW, if_neg (by omega), if_pos (by omega)]
theorem col_gt {a b : List Nat} {x y : Nat} {l m : List Nat} (ha : a = x :: l) (hb : b = y :: m) (hy : wgt 1 y ≠ 0) (h : wgt 1 y < wgt 1 x) : colC 3 false false a b = 1 := by
 refine ygk (by omega) ?_ (by omega)
 rw [ha, hb, ydr rfl (by omega), ydr rfl hy, cmpW, if_neg (by omega), if_neg (by omega)]
theorem yuf {a b c o : Nat} (ha : a < 26) (hb : b < 26) (hc : c < 26) (ho : o < 26) :
  colC 3 false false (elsP (prL a b c) [lc a]) (elsP (prL a b c) [lc b, lc c]) = -1 ∧
  (o < a -> colC 3 false false (elsP (prL a b c) [lc b, lc c]) (elsP (prL a b c) [lc o]) = 1) ∧
  (a < o -> colC 3 false false (elsP (prL a b c) [lc b, lc c]) (elsP (prL a b c) [lc o]) = -1) ∧
  colC 3 false false (elsP (prL a b c) [lc b, 49, lc c]) (elsP (prL a b c) [lc b, 50, lc c]) = -1 := by
 have hn := mk_wgt (p := 257 + 8 * a) (s := 32) (t := 2) (by omega) (by omega) (by omega)
 have wa := leU_w (a := a) ha; have wo := leU_w (a := a) ho; have wb := leU_w (a := a) hb; rw [if_pos (zN _)] at wa; refine ⟨col_lt (yfg ha) yhx (by omega) (by omega), fun h => ?_, fun h => ?_, ?_⟩
 ·rw [if_pos (by omega)] at wo
  exact col_gt yhx (yfg ho) (by omega) (by omega)
 ·rw [if_neg (by omega)] at wo
  exact col_lt yhx (yfg ho) (by omega) (by omega)
 ·have e1 := ylq (a := a) (d := 49) (e := 8658948) hb hc (by decide +kernel) (by omega)
  have e2 := ylq (a := a) (d := 50) (e := 8921092) hb hc (by decide +kernel) (by omega)
  have u1 : up 1 (256 + 8 * a) 8658948 = 8658948 := by unfold up; rw [if_pos (.inl (by show 132 <= _; omega))]
  have u2 : up 1 (256 + 8 * a) 8921092 = 8921092 := by unfold up; rw [if_pos (.inl (by show 136 <= _; omega))]
  rw [u1] at e1; rw [u2] at e2
  have wb0 : wgt 1 (leU a b) ≠ 0 := by rw [wb]; split <;> omega
  refine ygk (by omega) ?_ (by omega)
  rw [show elsP (prL a b c) [lc b, 49, lc c] = _ from e1, show elsP (prL a b c) [lc b, 50, lc c] = _ from e2, ydr rfl wb0, ydr rfl wb0, cmpW, if_pos rfl, ydr (a := 8658948) (w := 132) rfl (by omega), ydr (a := 8921092) (w := 136) rfl (by omega), cmpW, if_neg (by omega), if_pos (by omega)]
def lb (a : Nat) : UInt8 := UInt8.ofNat (97 + a)
theorem lb_wrd : ∀ a, a < 26 -> wrd [lc a] = [lb a] /\ T2.isPt (lc a) = true := by decide +kernel
theorem yxe (c : Int) (l : List Int) : wrd (c :: l) = wrd [c] ++ wrd l := by
 show wr1 c ++ wrd l = (wr1 c ++ []) ++ wrd l
 rw [List.append_nil]
theorem yzc {a b c : Nat} (ha : a < 26) (hb : b < 26) (hc : c < 26) {s : ByteArray} (hs : s.data.toList = [38, 32, lb a, 32, 60, 32, lb b, lb c]) : rdK s = 0 /\ rdE s = 0 /\ rdL s = prL a b c := by
 obtain ⟨w1, p1⟩ := lb_wrd a ha; obtain ⟨w2, p2⟩ := lb_wrd b hb; obtain ⟨w3, p3⟩ := lb_wrd c hc
 have ht : s.data.toList = twoT (lc a) 1 [lc b, lc c] := by
  rw [hs]; unfold twoT
  rw [w1, yxe, w2, w3]; rfl
 have hp := par_two (c := lc a) (l := [lc b, lc c]) (k := 1) (by omega) (by omega) p1 (by simp [p2, p3]) (by simp) (by simp)
 rw [<- ht] at hp; obtain ⟨e1, e2⟩ := yza ha hb hc; unfold rdK rdE rdL; rw [hp]; exact ⟨rfl, e1, e2⟩
end Go.Proofs.YteibnfeokgibmaaGreat
namespace Go.Proofs.YteibnfeokgibmaaGreat
theorem yta : ∀ {l : List UInt8}, l.all (fun x => decide (x.toNat < 128)) = true -> T2.sgs l = l.map fun x => ((x.toNat : Nat) : Int)
 | [], h => rfl
 | x :: t, h => by
  simp only [List.all_cons, Bool.and_eq_true, decide_eq_true_eq] at h
  have hd : T2.dec (x :: t) = (x.toNat, 1) := by
   unfold T2.dec; rw [T2.yal, if_pos h.1]
  rw [T2.ych (by simp), hd, List.drop_one, List.tail_cons, yta (by simpa using h.2)]
  rfl
theorem ysy {c : Nat} (hc : T2.isPt (c : Int) = true) (r : List UInt8) : T2.sgs (T2.one c ++ r) = (c : Int) :: T2.sgs r := by
 have hl := T2.ykm c; rw [T2.ych (fun h => by have := congrArg List.length h; rw [List.length_append] at this; simp only [List.length_nil] at this; omega), T2.yky hc r]
 show (c : Int) :: T2.sgs ((T2.one c ++ r).drop (T2.one c).length) = _
 rw [List.drop_left]
end Go.Proofs.YteibnfeokgibmaaGreat
