/-
  PACKED for a claim.
-/
import Derived.Test.YteibnfeokgibmaaGreatS02
import Derived.Test.YteibnfeokgibmaaGreatS03
set_option linter.unusedVariables false
set_option linter.unusedSimpArgs false
set_option maxRecDepth 100000
namespace Go.Proofs.YteibnfeokgibmaaGreat
abbrev PE := List Int × List Nat
def cmpI (x y : Int) : Int := if x < y then -1 else if y < x then 1 else 0
def cmpL : List Int -> List Int -> Int
 | [], [] => 0
 | [], _ :: _ => -1
 | _ :: _, [] => 1
 | x :: a, y :: b => if cmpI x y = 0 then cmpL a b else cmpI x y
def hd (a : List Int) : Int := a.headD 0
def lexC (x y : Int) : Int := if x = 0 then y else x
def ord (a b : List Int) : Int := lexC (cmpI (hd a) (hd b)) (lexC (cmpI a.length b.length) (cmpL a b))
theorem yfe {x y : Int} : cmpI x y < 0 ↔ x < y := by unfold cmpI; split <;> (try split) <;> omega
theorem yba {x y : Int} : cmpI x y = 0 ↔ x = y := by unfold cmpI; split <;> (try split) <;> omega
theorem ycp (x : Int) : cmpI x x = 0 := yba.2 rfl
theorem yki (x y : Int) : cmpI y x = - cmpI x y := by unfold cmpI; split <;> (repeat' split) <;> omega
structure TO {α : Type} (c : α -> α -> Int) : Prop where
 anti : ∀ a b, c b a = - c a b
 trans : ∀ a b d, c a b < 0 -> c b d < 0 -> c a d < 0
 zero : ∀ a b d, c a b = 0 -> c a d = c b d
theorem TO.zero' {α : Type} {c : α -> α -> Int} (h : TO c) {a b d : α} (e : c b d = 0) : c a d = c a b := by
 have h1 : c d b = 0 := by rw [h.anti b d]; omega
 have h2 := h.zero d b a h1; rw [h.anti a d, h.anti a b] at h2
 omega
theorem yku {α : Type} (f : α -> Int) : TO (fun a b => cmpI (f a) (f b)) where
 anti a b := yki _ _
 trans a b d h1 h2 := by
  have h1 := yfe.1 h1; have h2 := yfe.1 h2; exact yfe.2 (by omega)
 zero a b d h := by
  have h := yba.1 h; simp only [h]
theorem yke : ∀ a, cmpL a a = 0
 | [] => rfl
 | x :: a => by unfold cmpL; rw [if_pos (ycp x)]; exact yke a
theorem yhd : ∀ {a b : List Int}, cmpL a b = 0 -> a = b
 | [], [], _ => rfl
 | [], _ :: _, h => by simp [cmpL] at h
 | _ :: _, [], h => by simp [cmpL] at h
 | x :: a, y :: b, h => by
  unfold cmpL at h
  by_cases e : cmpI x y = 0
  ·rw [if_pos e] at h; rw [yba.1 e, yhd h]
  ·rw [if_neg e] at h; exact absurd h e
theorem ykf : ∀ a b : List Int, cmpL b a = - cmpL a b
 | [], [] => rfl
 | [], _ :: _ => rfl
 | _ :: _, [] => rfl
 | x :: a, y :: b => by
  have h := yki x y; unfold cmpL
  by_cases e : cmpI x y = 0
  ·rw [if_pos e, if_pos (by omega)]; exact ykf a b
  ·rw [if_neg e, if_neg (by omega)]; exact h
theorem yic : ∀ a b d : List Int, cmpL a b < 0 -> cmpL b d < 0 -> cmpL a d < 0
 | [], [], d, h, h2 => h2
 | [], _ :: _, [], h, h2 => by simp [cmpL] at h2
 | [], _ :: _, _ :: _, h, h2 => by simp [cmpL]
 | _ :: _, [], _, h, h2 => by simp [cmpL] at h
 | _ :: _, _ :: _, [], h, h2 => by simp [cmpL] at h2
 | x :: a, y :: b, z :: d, h, h2 => by
  unfold cmpL at h h2 |-; have T := yku (fun i : Int => i)
  by_cases e1 : cmpI x y = 0
  ·rw [if_pos e1] at h
   have e3 : cmpI x z = cmpI y z := T.zero x y z e1
   rw [e3]
   by_cases e2 : cmpI y z = 0
   ·rw [if_pos e2] at h2 |-; exact yic a b d h h2
   ·rw [if_neg e2] at h2 |-; exact h2
  ·rw [if_neg e1] at h
   by_cases e2 : cmpI y z = 0
   ·have e3 : cmpI x z = cmpI x y := T.zero' (a := x) (b := y) (d := z) e2
    rw [e3, if_neg e1]; exact h
   ·rw [if_neg e2] at h2
    have h3 : cmpI x z < 0 := T.trans x y z h h2
    rw [if_neg (by omega)]; exact h3
theorem to_cmpL : TO cmpL where
 anti := ykf
 trans := yic
 zero a b d h := by rw [yhd h]
theorem TO.lex {α : Type} {c d : α -> α -> Int} (h1 : TO c) (h2 : TO d) : TO (fun a b => lexC (c a b) (d a b)) where
 anti a b := by
  have e1 := h1.anti a b; have e2 := h2.anti a b; simp only [lexC]
  by_cases e : c a b = 0
  ·rw [if_pos e, if_pos (by omega)]; exact e2
  ·rw [if_neg e, if_neg (by omega)]; exact e1
 trans a b f g1 g2 := by
  simp only [lexC] at g1 g2 |-
  by_cases e1 : c a b = 0
  ·rw [if_pos e1] at g1; rw [h1.zero a b f e1]
   by_cases e2 : c b f = 0
   ·rw [if_pos e2] at g2 |-; exact h2.trans a b f g1 g2
   ·rw [if_neg e2] at g2 |-; exact g2
  ·rw [if_neg e1] at g1
   by_cases e2 : c b f = 0
   ·rw [h1.zero' (a := a) e2, if_neg e1]; exact g1
   ·rw [if_neg e2] at g2
    have := h1.trans a b f g1 g2
    rw [if_neg (by omega)]; exact this
 zero a b f g := by
  simp only [lexC] at g |-
  by_cases e1 : c a b = 0
  ·rw [if_pos e1] at g; rw [h1.zero a b f e1, h2.zero a b f g]
  ·rw [if_neg e1] at g; exact absurd g e1
theorem to_ord : TO ord := (yku hd).lex ((yku fun a : List Int => (a.length : Int)).lex to_cmpL)
theorem ymo (a : List Int) : ord a a = 0 := by unfold ord lexC; rw [if_pos (ycp _), if_pos (ycp _)]; exact yke a
theorem yux {a b : List Int} (h : ord a b = 0) : a = b := by
 unfold ord lexC at h
 by_cases e : cmpI (hd a) (hd b) = 0
 ·rw [if_pos e] at h
  by_cases e2 : cmpI (a.length : Int) b.length = 0
  ·rw [if_pos e2] at h; exact yhd h
  ·rw [if_neg e2] at h; exact absurd h e2
 ·rw [if_neg e] at h; exact absurd h e
theorem ord_ne {a b : List Int} (h : ord a b < 0) : a ≠ b := fun e => by rw [e, ymo] at h; omega
def befB (a s : List Int) : Bool := decide (ord a s < 0)
def Srt (L : List PE) : Prop := L.Pairwise fun a b => ord a.1 b.1 < 0
def place (L : List PE) (s : List Int) : Option Nat := L.findIdx? fun e => e.1 == s
def look (L : List PE) (s : List Int) : Option (List Nat) := (L.find? fun e => e.1 == s).map (·.2)
theorem yda (s : List Int) : place [] s = none := rfl
theorem yaw (e : PE) (t : List PE) (s : List Int) : place (e :: t) s = if e.1 = s then some 0 else (place t s).map (· + 1) := by
 unfold place; rw [List.findIdx?_cons]
 by_cases h : e.1 = s <;> simp [h]
theorem ybw {L : List PE} {s : List Int} {k : Nat} (h : place L s = some k) : ∃ e, L[k]? = some e /\ e.1 = s := by
 induction L generalizing k with
 | nil => simp [yda] at h
 | cons e t ih =>
  rw [yaw] at h
  by_cases c : e.1 = s
  ·rw [if_pos c] at h
   cases h
   exact ⟨e, rfl, c⟩
  ·rw [if_neg c] at h
   cases hp : place t s with
   | none => rw [hp] at h; simp at h
   | some j =>
    rw [hp] at h
    simp at h
    subst h; obtain ⟨f, h1, h2⟩ := ih hp; exact ⟨f, by simpa using h1, h2⟩
theorem ymm {L : List PE} {s : List Int} {k : Nat} (h : place L s = some k) : k < L.length := by
 obtain ⟨e, h1, _⟩ := ybw h; exact (List.getElem?_eq_some_iff.1 h1).1
theorem ycl {L : List PE} {s : List Int} : place L s = none ↔ ∀ e ∈ L, e.1 ≠ s := by
 induction L with
 | nil => simp [yda]
 | cons e t ih =>
  rw [yaw]
  by_cases c : e.1 = s
  ·simp [c]
  ·simp [c, ih]
theorem ydm {L : List PE} {s : List Int} {k : Nat} {e : PE} (h : place L s = some k) (he : L[k]? = some e) : look L s = some e.2 := by
 induction L generalizing k with
 | nil => simp at he
 | cons f t ih =>
  rw [yaw] at h; unfold look
  by_cases c : f.1 = s
  ·rw [if_pos c] at h
   cases h
   simp at he
   subst he
   simp [c]
  ·rw [if_neg c] at h
   cases hp : place t s with
   | none => rw [hp] at h; simp at h
   | some j =>
    rw [hp] at h
    simp at h
    subst h
    have := ih hp (by simpa using he)
    unfold look at this
    simp [c, this]
theorem yeg {L : List PE} {s : List Int} (h : place L s = none) : look L s = none := by
 have := ycl.1 h
 unfold look; rw [Option.map_eq_none_iff, List.find?_eq_none]; intro e he
 simpa using this e he
theorem ymv {L : List PE} {s : List Int} {l : List Nat} (h : look L s = some l) : (s, l) ∈ L := by
 cases hp : place L s with
 | none => rw [yeg hp] at h; cases h
 | some k =>
  obtain ⟨e, h1, h2⟩ := ybw hp; rw [ydm hp h1] at h
  cases h
  have := List.mem_of_getElem? h1
  rw [<- h2]; exact this
theorem yjo (A : List PE) (e : PE) (s : List Int) : place (A ++ [e]) s = match place A s with | some k => some k | none => if e.1 = s then some A.length else none := by
 induction A with
 | nil => rw [yda]; simp only [List.nil_append, yaw, yda]; rfl
 | cons f t ih =>
  rw [List.cons_append, yaw, yaw, ih]
  by_cases c : f.1 = s
  ·simp [c]
  ·rw [if_neg c, if_neg c]
   cases place t s with
   | some k => rfl
   | none => by_cases d : e.1 = s <;> simp [d]
def cnt (L : List PE) (s : List Int) : Nat := L.countP fun e => befB e.1 s
def putP (L : List PE) (x : PE) : List PE := match place L x.1 with
 | some k => L.set k x
 | none => L.take (cnt L x.1) ++ x :: L.drop (cnt L x.1)
def restR (R : List PE) (s : List Int) : List PE := match R with
 | [] => []
 | e :: t => if e.1 = s then t else e :: t
theorem yci (e : PE) (t : List PE) (s : List Int) : restR (e :: t) s = if e.1 = s then t else e :: t := rfl
def putR (L : List PE) (x : PE) : List PE := L.takeWhile (fun e => befB e.1 x.1) ++ x :: restR (L.dropWhile fun e => befB e.1 x.1) x.1
theorem ygi {e : PE} {t : List PE} {x : PE} (h : befB e.1 x.1 = true) : putR (e :: t) x = e :: putR t x := by
 unfold putR; simp [h]
theorem ygj {e : PE} {t : List PE} {x : PE} (h : befB e.1 x.1 = false) : putR (e :: t) x = x :: restR (e :: t) x.1 := by
 unfold putR; simp [h]
theorem ykl {e : PE} {t : List PE} {s : List Int} (hs : Srt (e :: t)) (h : ord s e.1 < 0) : ∀ f ∈ t, ord s f.1 < 0 := fun f hf =>
 to_ord.trans _ _ _ h ((List.pairwise_cons.1 hs).1 f hf)
theorem ylk {a b : List Int} (h : ¬ ord a b < 0) (hne : a ≠ b) : ord b a < 0 := by
 have h1 := to_ord.anti a b
 have h2 : ord a b ≠ 0 := fun e => hne (yux e)
 omega
theorem put_eq {L : List PE} (hs : Srt L) (x : PE) : putP L x = putR L x := by
 induction L with
 | nil => rfl
 | cons e t ih =>
  have ht := (List.pairwise_cons.1 hs).2
  by_cases h1 : ord e.1 x.1 < 0
  ·have hb : befB e.1 x.1 = true := by simp [befB, h1]
   rw [ygi hb, <- ih ht]; unfold putP; rw [yaw, if_neg (ord_ne h1)]
   have hc : cnt (e :: t) x.1 = cnt t x.1 + 1 := by unfold cnt; rw [List.countP_cons_of_pos (p := fun e : PE => befB e.1 x.1) hb]
   cases place t x.1 with
   | some k => simp
   | none => simp [hc]
  ·have hb : befB e.1 x.1 = false := by simp [befB]; omega
   rw [ygj hb]; unfold putP; rw [yaw, yci]
   by_cases h2 : e.1 = x.1
   ·simp [h2]
   ·rw [if_neg h2, if_neg h2]; have h3 := ylk h1 h2; have h4 := ykl hs h3
    have hp : place t x.1 = none := ycl.2 fun f hf => (ord_ne (h4 f hf)).symm
    have hc : cnt (e :: t) x.1 = 0 := by
     unfold cnt; rw [List.countP_eq_zero]; intro f hf
     rcases List.mem_cons.1 hf with rfl | hf
     ·simp [hb]
     ·have h5 := h4 f hf; have h6 := to_ord.anti f.1 x.1
      simp [befB]; omega
    simp [hp, hc]
theorem ydk {L : List PE} {x f : PE} (h : f ∈ putR L x) : f = x \/ f ∈ L := by
 unfold putR at h
 rcases List.mem_append.1 h with h | h
 ·exact .inr ((List.takeWhile_prefix _).sublist.subset h)
 ·rcases List.mem_cons.1 h with h | h
  ·exact .inl h
  ·right
   have : f ∈ L.dropWhile fun e => befB e.1 x.1 := by
    revert h
    unfold restR
    cases L.dropWhile fun e => befB e.1 x.1 with
    | nil => simp
    | cons e t =>
     intro h
     simp only at h
     by_cases c : e.1 = x.1
     ·rw [if_pos c] at h; exact List.mem_cons_of_mem _ h
     ·rw [if_neg c] at h; exact h
   exact (List.dropWhile_suffix _).sublist.subset this
theorem yxa {L : List PE} (hs : Srt L) (x : PE) : Srt (putR L x) := by
 induction L with
 | nil => exact List.pairwise_singleton _ _
 | cons e t ih =>
  have hc := List.pairwise_cons.1 hs
  by_cases h1 : ord e.1 x.1 < 0
  ·have hb : befB e.1 x.1 = true := by simp [befB, h1]
   rw [ygi hb]; refine List.pairwise_cons.2 ⟨fun f hf => ?_, ih hc.2⟩
   rcases ydk hf with rfl | hf
   ·exact h1
   ·exact hc.1 f hf
  ·have hb : befB e.1 x.1 = false := by simp [befB]; omega
   rw [ygj hb, yci]
   by_cases h2 : e.1 = x.1
   ·rw [if_pos h2]; refine List.pairwise_cons.2 ⟨fun f hf => ?_, hc.2⟩
    rw [<- h2]; exact hc.1 f hf
   ·rw [if_neg h2]; have h3 := ylk h1 h2; refine List.pairwise_cons.2 ⟨fun f hf => ?_, hs⟩
    rcases List.mem_cons.1 hf with rfl | hf
    ·exact h3
    ·exact ykl hs h3 f hf
theorem ymk (L : List PE) (x : PE) : (putP L x).length = if (place L x.1).isSome then L.length else L.length + 1 := by
 unfold putP
 cases place L x.1 with
 | some k => simp
 | none =>
  have : cnt L x.1 <= L.length := List.countP_le_length
  simp; omega
structure GoodT (L : List PE) : Prop where
 srt : Srt L
 seq : ∀ e ∈ L, 1 <= e.1.length /\ e.1.length <= 3 /\ e.1.all T2.isSg = true
 els : ∀ e ∈ L, e.2.length <= 8 /\ ∀ x ∈ e.2, x < 4294967296
 len : L.length <= 500
theorem GoodT.put {L : List PE} (h : GoodT L) {s : List Int} {l : List Nat} (h1 : 1 <= s.length) (h3 : s.length <= 3) (hg : s.all T2.isSg = true) (h8 : l.length <= 8) (hw : ∀ x ∈ l, x < 4294967296) (hl : (place L s).isSome = true \/ L.length < 500) : GoodT (putP L (s, l)) where
 srt := by rw [put_eq h.srt]; exact yxa h.srt _
 seq e he := by
  rw [put_eq h.srt] at he
  rcases ydk he with rfl | he
  ·exact ⟨h1, h3, hg⟩
  ·exact h.seq e he
 els e he := by
  rw [put_eq h.srt] at he
  rcases ydk he with rfl | he
  ·exact ⟨h8, hw⟩
  ·exact h.els e he
 len := by
  rw [ymk]
  have := h.len
  rcases hl with hl | hl
  ·simp only at hl |-; rw [if_pos hl]; exact this
  ·split <;> omega
def impl (c : Int) : List Nat := if T2.isSg c then [E3.mk (64256 + c.toNat / 32768) 32 2 0, E3.mk (32768 + c.toNat % 32768) 32 2 0] else []
def atF (L : List PE) (ss : List Int) : Nat -> List Nat × Nat
 | 0 => (impl (hd ss), 1)
 | n + 1 => match look L (ss.take (n + 1)) with
  | some l => (l, n + 1)
  | none => atF L ss n
def atP (L : List PE) (ss : List Int) : List Nat × Nat := atF L ss (min 3 ss.length)
theorem ywn (L : List PE) (ss : List Int) (n : Nat) : 1 <= (atF L ss n).2 /\ (atF L ss n).2 <= max 1 n := by
 induction n with
 | zero => simp [atF]
 | succ n ih =>
  unfold atF
  cases look L (ss.take (n + 1)) with
  | some l => simp
  | none => simp only; omega
theorem yel (L : List PE) {ss : List Int} (h : 0 < ss.length) : 1 <= (atP L ss).2 /\ (atP L ss).2 <= ss.length /\ (atP L ss).2 <= 3 := by
 have := ywn L ss (min 3 ss.length)
 unfold atP; omega
theorem yvo (c : Int) : (impl c).length <= 8 := by unfold impl; split <;> simp
theorem yea {c : Int} (h : T2.isSg c = true) : 0 <= c /\ c <= 1114367 := by
 unfold T2.isSg T2.isPt at h
 simp at h
 omega
theorem yym (c : Int) : ∀ x ∈ impl c, x < 4294967296 := by
 intro x hx; unfold impl at hx
 split at hx
 ·rename_i h
  have := yea h
  simp [E3.mk] at hx
  omega
 ·simp at hx
theorem ywp {L : List PE} (h : GoodT L) (ss : List Int) (n : Nat) : (atF L ss n).1.length <= 8 /\ ∀ x ∈ (atF L ss n).1, x < 4294967296 := by
 induction n with
 | zero => exact ⟨yvo _, yym _⟩
 | succ n ih =>
  unfold atF
  cases hl : look L (ss.take (n + 1)) with
  | some l => exact h.els _ (ymv hl)
  | none => exact ih
theorem yjf {L : List PE} (h : GoodT L) (ss : List Int) : (atP L ss).1.length <= 8 /\ ∀ x ∈ (atP L ss).1, x < 4294967296 := ywp h ss _
def elF : Nat -> List PE -> List Int -> List Nat
 | 0, _, _ => []
 | n + 1, L, ss => if ss.isEmpty then [] else (atP L ss).1 ++ elF n L (ss.drop (atP L ss).2)
def elsP (L : List PE) (ss : List Int) : List Nat := elF ss.length L ss
theorem yia (L : List PE) : ∀ (n m : Nat) (ss : List Int), ss.length <= n -> ss.length <= m -> elF n L ss = elF m L ss
 | 0, 0, _, _, _ => rfl
 | 0, m + 1, ss, h, _ => by
  have : ss = [] := List.eq_nil_of_length_eq_zero (by omega)
  subst this; rfl
 | n + 1, 0, ss, _, h => by
  have : ss = [] := List.eq_nil_of_length_eq_zero (by omega)
  subst this; rfl
 | n + 1, m + 1, ss, h1, h2 => by
  unfold elF
  cases ss with
  | nil => rfl
  | cons c t =>
   have hu := yel L (ss := c :: t) (by simp)
   have hd : ((c :: t).drop (atP L (c :: t)).2).length <= t.length := by rw [List.length_drop]; simp; omega
   simp only [List.isEmpty_cons]; rw [yia L n m _ (by simp at h1; omega) (by simp at h2; omega)]
theorem ycu (L : List PE) : elsP L [] = [] := rfl
theorem ydf (L : List PE) {ss : List Int} (h : 0 < ss.length) : elsP L ss = (atP L ss).1 ++ elsP L (ss.drop (atP L ss).2) := by
 have hu := yel L h; unfold elsP; obtain ⟨n, hn⟩ : ∃ n, ss.length = n + 1 := ⟨ss.length - 1, by omega⟩
 rw [hn]
 have he : ss.isEmpty = false := by cases ss with | nil => simp at h | cons _ _ => rfl
 rw [elF, he]; simp only [Bool.false_eq_true, if_false]; rw [yia L n (ss.drop (atP L ss).2).length _ (by rw [List.length_drop]; omega) (zN _)]
theorem ynf {L : List PE} (h : GoodT L) : ∀ (n : Nat) (ss : List Int), ss.length <= n -> (elsP L ss).length <= 8 * ss.length
 | 0, ss, hn => by
  have : ss = [] := List.eq_nil_of_length_eq_zero (by omega)
  subst this; simp [ycu]
 | n + 1, ss, hn => by
  rcases Nat.eq_zero_or_pos ss.length with h0 | h0
  ·have : ss = [] := List.eq_nil_of_length_eq_zero h0
   subst this; simp [ycu]
  ·have hu := yel L h0; have hg := (yjf h ss).1; have hi := ynf h n (ss.drop (atP L ss).2) (by rw [List.length_drop]; omega)
   rw [ydf L h0, List.length_append]; rw [List.length_drop] at hi
   omega
def okW (x : Nat) : Bool := E3.okE x && decide (x / 65536 < 64256)
def begs (L : List PE) (s : List Int) : Bool := (List.range s.length).all fun n => n == 0 || (place L (s.take n)).isSome
def goodE (L : List PE) (e : PE) : Bool := e.2.all okW && begs L e.1
def checkP (L : List PE) : Int := if L.all (goodE L) then 0 else 3
def ones : Nat -> List PE -> List (Int × Int)
 | _, [] => []
 | k, e :: t => (if e.1.length = 1 then [(hd e.1, (k : Int) + 1)] else []) ++ ones (k + 1) t
theorem yit (k : Nat) (A B : List PE) : ones k (A ++ B) = ones k A ++ ones (k + A.length) B := by
 induction A generalizing k with
 | nil => simp [ones]
 | cons e t ih =>
  rw [List.cons_append, ones, ones, ih, List.append_assoc, List.length_cons, show k + 1 + t.length = k + (t.length + 1) by omega]
theorem ymp (k : Nat) (L : List PE) : (ones k L).length <= L.length := by
 induction L generalizing k with
 | nil => simp [ones]
 | cons e t ih =>
  have := ih (k + 1)
  rw [ones, List.length_append, List.length_cons]
  split <;> simp <;> omega
theorem yiw {s : List Int} (h : s.length = 1) : s = [hd s] := by
 match s, h with
 | [c], _ => rfl
theorem yis {k : Nat} {L : List PE} {p : Int × Int} (h : p ∈ ones k L) : ∃ e ∈ L, e.1 = [p.1] /\ (k : Int) + 1 <= p.2 /\ p.2 <= (k : Int) + L.length := by
 induction L generalizing k with
 | nil => simp [ones] at h
 | cons e t ih =>
  rw [ones] at h
  rcases List.mem_append.1 h with h | h
  ·split at h
   ·rename_i h1
    simp at h
    subst h; exact ⟨e, by simp, yiw h1, by simp, by simp; omega⟩
   ·simp at h
  ·obtain ⟨f, h1, h2, h3, h4⟩ := ih h; exact ⟨f, by simp [h1], h2, by omega, by simp; omega⟩
end Go.Proofs.YteibnfeokgibmaaGreat
