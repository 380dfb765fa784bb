/-
  PACKED for a claim.
-/
import Derived.Test.YteibnfeokgibmaaGreatP03
import Derived.Test.YteibnfeokgibmaaGreatP04
set_option linter.unusedVariables false
set_option linter.unusedSimpArgs false
set_option maxRecDepth 100000
namespace Go.Proofs.YteibnfeokgibmaaGreat
abbrev PE := List Int × List Nat
def cmpI (x y : Int) : Int := if x < y then -1 else if y < x then 1 else 0
def cmpL : List Int -> List Int -> Int
 | [], [] => 0
 | [], _ :: _ => -1
 | _ :: _, [] => 1
 | x :: a, y :: b => if cmpI x y = 0 then cmpL a b else cmpI x y
def hd (a : List Int) : Int := a.headD 0
def lexC (x y : Int) : Int := if x = 0 then y else x
def ord (a b : List Int) : Int := lexC (cmpI (hd a) (hd b)) (lexC (cmpI a.length b.length) (cmpL a b))
theorem ygl {x y : Int} : cmpI x y < 0 ↔ x < y := by unfold cmpI; split <;> (try split) <;> omega
theorem ybd {x y : Int} : cmpI x y = 0 ↔ x = y := by unfold cmpI; split <;> (try split) <;> omega
theorem ydg (x : Int) : cmpI x x = 0 := ybd.2 rfl
theorem ymi (x y : Int) : cmpI y x = - cmpI x y := by unfold cmpI; split <;> (repeat' split) <;> omega
structure TO {α : Type} (c : α -> α -> Int) : Prop where
 anti : ∀ a b, c b a = - c a b
 trans : ∀ a b d, c a b < 0 -> c b d < 0 -> c a d < 0
 zero : ∀ a b d, c a b = 0 -> c a d = c b d
theorem TO.zero' {α : Type} {c : α -> α -> Int} (h : TO c) {a b d : α} (e : c b d = 0) : c a d = c a b := by
 have h1 : c d b = 0 := by rw [h.anti b d]; omega
 have h2 := h.zero d b a h1; rw [h.anti a d, h.anti a b] at h2
 omega
theorem ymu {α : Type} (f : α -> Int) : TO (fun a b => cmpI (f a) (f b)) where
 anti a b := ymi _ _
 trans a b d h1 h2 := by
  have h1 := ygl.1 h1; have h2 := ygl.1 h2; exact ygl.2 (by omega)
 zero a b d h := by
  have h := ybd.1 h; simp only [h]
theorem yme : ∀ a, cmpL a a = 0
 | [] => rfl
 | x :: a => by unfold cmpL; rw [if_pos (ydg x)]; exact yme a
theorem yio : ∀ {a b : List Int}, cmpL a b = 0 -> a = b
 | [], [], _ => rfl
 | [], _ :: _, h => by simp [cmpL] at h
 | _ :: _, [], h => by simp [cmpL] at h
 | x :: a, y :: b, h => by
  unfold cmpL at h
  by_cases e : cmpI x y = 0
  ·rw [if_pos e] at h; rw [ybd.1 e, yio h]
  ·rw [if_neg e] at h; exact absurd h e
theorem ymf : ∀ a b : List Int, cmpL b a = - cmpL a b
 | [], [] => rfl
 | [], _ :: _ => rfl
 | _ :: _, [] => rfl
 | x :: a, y :: b => by
  have h := ymi x y; unfold cmpL
  by_cases e : cmpI x y = 0
  ·rw [if_pos e, if_pos (by omega)]; exact ymf a b
  ·rw [if_neg e, if_neg (by omega)]; exact h
theorem yjn : ∀ a b d : List Int, cmpL a b < 0 -> cmpL b d < 0 -> cmpL a d < 0
 | [], [], d, h, h2 => h2
 | [], _ :: _, [], h, h2 => by simp [cmpL] at h2
 | [], _ :: _, _ :: _, h, h2 => by simp [cmpL]
 | _ :: _, [], _, h, h2 => by simp [cmpL] at h
 | _ :: _, _ :: _, [], h, h2 => by simp [cmpL] at h2
 | x :: a, y :: b, z :: d, h, h2 => by
  unfold cmpL at h h2 |-; have T := ymu (fun i : Int => i)
  by_cases e1 : cmpI x y = 0
  ·rw [if_pos e1] at h
   have e3 : cmpI x z = cmpI y z := T.zero x y z e1
   rw [e3]
   by_cases e2 : cmpI y z = 0
   ·rw [if_pos e2] at h2 |-; exact yjn a b d h h2
   ·rw [if_neg e2] at h2 |-; exact h2
  ·rw [if_neg e1] at h
   by_cases e2 : cmpI y z = 0
   ·have e3 : cmpI x z = cmpI x y := T.zero' (a := x) (b := y) (d := z) e2
    rw [e3, if_neg e1]; exact h
   ·rw [if_neg e2] at h2
    have h3 : cmpI x z < 0 := T.trans x y z h h2
    rw [if_neg (by omega)]; exact h3
theorem to_cmpL : TO cmpL where
 anti := ymf
 trans := yjn
 zero a b d h := by rw [yio h]
theorem TO.lex {α : Type} {c d : α -> α -> Int} (h1 : TO c) (h2 : TO d) : TO (fun a b => lexC (c a b) (d a b)) where
 anti a b := by
  have e1 := h1.anti a b; have e2 := h2.anti a b; simp only [lexC]
  by_cases e : c a b = 0
  ·rw [if_pos e, if_pos (by omega)]; exact e2
  ·rw [if_neg e, if_neg (by omega)]; exact e1
 trans a b f g1 g2 := by
  simp only [lexC] at g1 g2 |-
  by_cases e1 : c a b = 0
  ·rw [if_pos e1] at g1; rw [h1.zero a b f e1]
   by_cases e2 : c b f = 0
   ·rw [if_pos e2] at g2 |-; exact h2.trans a b f g1 g2
   ·rw [if_neg e2] at g2 |-; exact g2
  ·rw [if_neg e1] at g1
   by_cases e2 : c b f = 0
   ·rw [h1.zero' (a := a) e2, if_neg e1]; exact g1
   ·rw [if_neg e2] at g2
    have := h1.trans a b f g1 g2
    rw [if_neg (by omega)]; exact this
 zero a b f g := by
  simp only [lexC] at g |-
  by_cases e1 : c a b = 0
  ·rw [if_pos e1] at g; rw [h1.zero a b f e1, h2.zero a b f g]
  ·rw [if_neg e1] at g; exact absurd g e1
theorem to_ord : TO ord := (ymu hd).lex ((ymu fun a : List Int => (a.length : Int)).lex to_cmpL)
theorem you (a : List Int) : ord a a = 0 := by unfold ord lexC; rw [if_pos (ydg _), if_pos (ydg _)]; exact yme a
theorem yzh {a b : List Int} (h : ord a b = 0) : a = b := by
 unfold ord lexC at h
 by_cases e : cmpI (hd a) (hd b) = 0
 ·rw [if_pos e] at h
  by_cases e2 : cmpI (a.length : Int) b.length = 0
  ·rw [if_pos e2] at h; exact yio h
  ·rw [if_neg e2] at h; exact absurd h e2
 ·rw [if_neg e] at h; exact absurd h e
theorem ord_ne {a b : List Int} (h : ord a b < 0) : a ≠ b := fun e => by rw [e, you] at h; omega
def befB (a s : List Int) : Bool := decide (ord a s < 0)
def Srt (L : List PE) : Prop := L.Pairwise fun a b => ord a.1 b.1 < 0
def place (L : List PE) (s : List Int) : Option Nat := L.findIdx? fun e => e.1 == s
def look (L : List PE) (s : List Int) : Option (List Nat) := (L.find? fun e => e.1 == s).map (·.2)
theorem ydv (s : List Int) : place [] s = none := rfl
theorem yaz (e : PE) (t : List PE) (s : List Int) : place (e :: t) s = if e.1 = s then some 0 else (place t s).map (· + 1) := by
 unfold place; rw [List.findIdx?_cons]
 by_cases h : e.1 = s <;> simp [h]
theorem ybr {L : List PE} {s : List Int} {k : Nat} (h : place L s = some k) : ∃ e, L[k]? = some e /\ e.1 = s := by
 induction L generalizing k with
 | nil => simp [ydv] at h
 | cons e t ih =>
  rw [yaz] at h
  by_cases c : e.1 = s
  ·rw [if_pos c] at h
   cases h
   exact ⟨e, rfl, c⟩
  ·rw [if_neg c] at h
   cases hp : place t s with
   | none => rw [hp] at h; simp at h
   | some j =>
    rw [hp] at h
    simp at h
    subst h; obtain ⟨f, h1, h2⟩ := ih hp; exact ⟨f, by simpa using h1, h2⟩
theorem yke {L : List PE} {s : List Int} {k : Nat} (h : place L s = some k) : k < L.length := by
 obtain ⟨e, h1, _⟩ := ybr h; exact (List.getElem?_eq_some_iff.1 h1).1
theorem yda {L : List PE} {s : List Int} : place L s = none ↔ ∀ e ∈ L, e.1 ≠ s := by
 induction L with
 | nil => simp [ydv]
 | cons e t ih =>
  rw [yaz]
  by_cases c : e.1 = s
  ·simp [c]
  ·simp [c, ih]
theorem ydd {L : List PE} {s : List Int} {k : Nat} {e : PE} (h : place L s = some k) (he : L[k]? = some e) : look L s = some e.2 := by
 induction L generalizing k with
 | nil => simp at he
 | cons f t ih =>
  rw [yaz] at h; unfold look
  by_cases c : f.1 = s
  ·rw [if_pos c] at h
   cases h
   simp at he
   subst he
   simp [c]
  ·rw [if_neg c] at h
   cases hp : place t s with
   | none => rw [hp] at h; simp at h
   | some j =>
    rw [hp] at h
    simp at h
    subst h
    have := ih hp (by simpa using he)
    unfold look at this
    simp [c, this]
theorem ydx {L : List PE} {s : List Int} (h : place L s = none) : look L s = none := by
 have := yda.1 h
 unfold look; rw [Option.map_eq_none_iff, List.find?_eq_none]; intro e he
 simpa using this e he
theorem ydn {L : List PE} {s : List Int} {l : List Nat} (h : look L s = some l) : (s, l) ∈ L := by
 cases hp : place L s with
 | none => rw [ydx hp] at h; cases h
 | some k =>
  obtain ⟨e, h1, h2⟩ := ybr hp; rw [ydd hp h1] at h
  cases h
  have := List.mem_of_getElem? h1
  rw [<- h2]; exact this
theorem ylm (A : List PE) (e : PE) (s : List Int) : place (A ++ [e]) s = match place A s with | some k => some k | none => if e.1 = s then some A.length else none := by
 induction A with
 | nil => rw [ydv]; simp only [List.nil_append, yaz, ydv]; rfl
 | cons f t ih =>
  rw [List.cons_append, yaz, yaz, ih]
  by_cases c : f.1 = s
  ·simp [c]
  ·rw [if_neg c, if_neg c]
   cases place t s with
   | some k => rfl
   | none => by_cases d : e.1 = s <;> simp [d]
theorem yqr {L : List PE} (h : Srt L) {k : Nat} {e : PE} (he : L[k]? = some e) : place L e.1 = some k := by
 induction L generalizing k with
 | nil => simp at he
 | cons f t ih =>
  rw [yaz]; have hs := List.pairwise_cons.1 h
  cases k with
  | zero => simp at he; subst he; simp
  | succ k =>
   have he' : t[k]? = some e := by simpa using he
   rw [if_neg (ord_ne (hs.1 e (List.mem_of_getElem? he'))), ih hs.2 he']
   rfl
def cnt (L : List PE) (s : List Int) : Nat := L.countP fun e => befB e.1 s
def putP (L : List PE) (x : PE) : List PE := match place L x.1 with
 | some k => L.set k x
 | none => L.take (cnt L x.1) ++ x :: L.drop (cnt L x.1)
def restR (R : List PE) (s : List Int) : List PE := match R with
 | [] => []
 | e :: t => if e.1 = s then t else e :: t
theorem ycy (e : PE) (t : List PE) (s : List Int) : restR (e :: t) s = if e.1 = s then t else e :: t := rfl
def putR (L : List PE) (x : PE) : List PE := L.takeWhile (fun e => befB e.1 x.1) ++ x :: restR (L.dropWhile fun e => befB e.1 x.1) x.1
theorem yhr {e : PE} {t : List PE} {x : PE} (h : befB e.1 x.1 = true) : putR (e :: t) x = e :: putR t x := by
 unfold putR; simp [h]
theorem yhs {e : PE} {t : List PE} {x : PE} (h : befB e.1 x.1 = false) : putR (e :: t) x = x :: restR (e :: t) x.1 := by
 unfold putR; simp [h]
theorem ymm {e : PE} {t : List PE} {s : List Int} (hs : Srt (e :: t)) (h : ord s e.1 < 0) : ∀ f ∈ t, ord s f.1 < 0 := fun f hf =>
 to_ord.trans _ _ _ h ((List.pairwise_cons.1 hs).1 f hf)
theorem ynk {a b : List Int} (h : ¬ ord a b < 0) (hne : a ≠ b) : ord b a < 0 := by
 have h1 := to_ord.anti a b
 have h2 : ord a b ≠ 0 := fun e => hne (yzh e)
 omega
theorem put_eq {L : List PE} (hs : Srt L) (x : PE) : putP L x = putR L x := by
 induction L with
 | nil => rfl
 | cons e t ih =>
  have ht := (List.pairwise_cons.1 hs).2
  by_cases h1 : ord e.1 x.1 < 0
  ·have hb : befB e.1 x.1 = true := by simp [befB, h1]
   rw [yhr hb, <- ih ht]; unfold putP; rw [yaz, if_neg (ord_ne h1)]
   have hc : cnt (e :: t) x.1 = cnt t x.1 + 1 := by unfold cnt; rw [List.countP_cons_of_pos (p := fun e : PE => befB e.1 x.1) hb]
   cases place t x.1 with
   | some k => simp
   | none => simp [hc]
  ·have hb : befB e.1 x.1 = false := by simp [befB]; omega
   rw [yhs hb]; unfold putP; rw [yaz, ycy]
   by_cases h2 : e.1 = x.1
   ·simp [h2]
   ·rw [if_neg h2, if_neg h2]; have h3 := ynk h1 h2; have h4 := ymm hs h3
    have hp : place t x.1 = none := yda.2 fun f hf => (ord_ne (h4 f hf)).symm
    have hc : cnt (e :: t) x.1 = 0 := by
     unfold cnt; rw [List.countP_eq_zero]; intro f hf
     rcases List.mem_cons.1 hf with rfl | hf
     ·simp [hb]
     ·have h5 := h4 f hf; have h6 := to_ord.anti f.1 x.1
      simp [befB]; omega
    simp [hp, hc]
theorem ydk {L : List PE} {x f : PE} (h : f ∈ putR L x) : f = x \/ f ∈ L := by
 unfold putR at h
 rcases List.mem_append.1 h with h | h
 ·exact .inr ((List.takeWhile_prefix _).sublist.subset h)
 ·rcases List.mem_cons.1 h with h | h
  ·exact .inl h
  ·right
   have : f ∈ L.dropWhile fun e => befB e.1 x.1 := by
    revert h
    unfold restR
    cases L.dropWhile fun e => befB e.1 x.1 with
    | nil => simp
    | cons e t =>
     intro h
     simp only at h
     by_cases c : e.1 = x.1
     ·rw [if_pos c] at h; exact List.mem_cons_of_mem _ h
     ·rw [if_neg c] at h; exact h
   exact (List.dropWhile_suffix _).sublist.subset this
theorem srt_put {L : List PE} (hs : Srt L) (x : PE) : Srt (putR L x) := by
 induction L with
 | nil => exact List.pairwise_singleton _ _
 | cons e t ih =>
  have hc := List.pairwise_cons.1 hs
  by_cases h1 : ord e.1 x.1 < 0
  ·have hb : befB e.1 x.1 = true := by simp [befB, h1]
   rw [yhr hb]; refine List.pairwise_cons.2 ⟨fun f hf => ?_, ih hc.2⟩
   rcases ydk hf with rfl | hf
   ·exact h1
   ·exact hc.1 f hf
  ·have hb : befB e.1 x.1 = false := by simp [befB]; omega
   rw [yhs hb, ycy]
   by_cases h2 : e.1 = x.1
   ·rw [if_pos h2]; refine List.pairwise_cons.2 ⟨fun f hf => ?_, hc.2⟩
    rw [<- h2]; exact hc.1 f hf
   ·rw [if_neg h2]; have h3 := ynk h1 h2; refine List.pairwise_cons.2 ⟨fun f hf => ?_, hs⟩
    rcases List.mem_cons.1 hf with rfl | hf
    ·exact h3
    ·exact ymm hs h3 f hf
theorem yor (L : List PE) (x : PE) : (putP L x).length = if (place L x.1).isSome then L.length else L.length + 1 := by
 unfold putP
 cases place L x.1 with
 | some k => simp
 | none =>
  have : cnt L x.1 <= L.length := List.countP_le_length
  simp; omega
structure GoodT (L : List PE) : Prop where
 srt : Srt L
 seq : ∀ e ∈ L, 1 <= e.1.length /\ e.1.length <= 3 /\ e.1.all T2.isSg = true
 els : ∀ e ∈ L, e.2.length <= 8 /\ ∀ x ∈ e.2, x < 4294967296
 len : L.length <= 500
theorem GoodT.put {L : List PE} (h : GoodT L) {s : List Int} {l : List Nat} (h1 : 1 <= s.length) (h3 : s.length <= 3) (hg : s.all T2.isSg = true) (h8 : l.length <= 8) (hw : ∀ x ∈ l, x < 4294967296) (hl : (place L s).isSome = true \/ L.length < 500) : GoodT (putP L (s, l)) where
 srt := by rw [put_eq h.srt]; exact srt_put h.srt _
 seq e he := by
  rw [put_eq h.srt] at he
  rcases ydk he with rfl | he
  ·exact ⟨h1, h3, hg⟩
  ·exact h.seq e he
 els e he := by
  rw [put_eq h.srt] at he
  rcases ydk he with rfl | he
  ·exact ⟨h8, hw⟩
  ·exact h.els e he
 len := by
  rw [yor]
  have := h.len
  rcases hl with hl | hl
  ·simp only at hl |-; rw [if_pos hl]; exact this
  ·split <;> omega
def impl (c : Int) : List Nat := if T2.isSg c then [E3.mk (64256 + c.toNat / 32768) 32 2 0, E3.mk (32768 + c.toNat % 32768) 32 2 0] else []
def atF (L : List PE) (ss : List Int) : Nat -> List Nat × Nat
 | 0 => (impl (hd ss), 1)
 | n + 1 => match look L (ss.take (n + 1)) with
  | some l => (l, n + 1)
  | none => atF L ss n
def atP (L : List PE) (ss : List Int) : List Nat × Nat := atF L ss (min 3 ss.length)
theorem atF_used (L : List PE) (ss : List Int) (n : Nat) : 1 <= (atF L ss n).2 /\ (atF L ss n).2 <= max 1 n := by
 induction n with
 | zero => simp [atF]
 | succ n ih =>
  unfold atF
  cases look L (ss.take (n + 1)) with
  | some l => simp
  | none => simp only; omega
theorem yel (L : List PE) {ss : List Int} (h : 0 < ss.length) : 1 <= (atP L ss).2 /\ (atP L ss).2 <= ss.length /\ (atP L ss).2 <= 3 := by
 have := atF_used L ss (min 3 ss.length)
 unfold atP; omega
theorem zaa (c : Int) : (impl c).length <= 8 := by unfold impl; split <;> simp
theorem yfb {c : Int} (h : T2.isSg c = true) : 0 <= c /\ c <= 1114367 := by
 unfold T2.isSg T2.isPt at h
 simp at h
 omega
theorem impl_lt (c : Int) : ∀ x ∈ impl c, x < 4294967296 := by
 intro x hx; unfold impl at hx
 split at hx
 ·rename_i h
  have := yfb h
  simp [E3.mk] at hx
  omega
 ·simp at hx
theorem atF_good {L : List PE} (h : GoodT L) (ss : List Int) (n : Nat) : (atF L ss n).1.length <= 8 /\ ∀ x ∈ (atF L ss n).1, x < 4294967296 := by
 induction n with
 | zero => exact ⟨zaa _, impl_lt _⟩
 | succ n ih =>
  unfold atF
  cases hl : look L (ss.take (n + 1)) with
  | some l => exact h.els _ (ydn hl)
  | none => exact ih
theorem yfq {L : List PE} (h : GoodT L) (ss : List Int) : (atP L ss).1.length <= 8 /\ ∀ x ∈ (atP L ss).1, x < 4294967296 := atF_good h ss _
def elF : Nat -> List PE -> List Int -> List Nat
 | 0, _, _ => []
 | n + 1, L, ss => if ss.isEmpty then [] else (atP L ss).1 ++ elF n L (ss.drop (atP L ss).2)
def elsP (L : List PE) (ss : List Int) : List Nat := elF ss.length L ss
theorem yjm (L : List PE) : ∀ (n m : Nat) (ss : List Int), ss.length <= n -> ss.length <= m -> elF n L ss = elF m L ss
 | 0, 0, _, _, _ => rfl
 | 0, m + 1, ss, h, _ => by
  have : ss = [] := List.eq_nil_of_length_eq_zero (by omega)
  subst this; rfl
 | n + 1, 0, ss, _, h => by
  have : ss = [] := List.eq_nil_of_length_eq_zero (by omega)
  subst this; rfl
 | n + 1, m + 1, ss, h1, h2 => by
  unfold elF
  cases ss with
  | nil => rfl
  | cons c t =>
   have hu := yel L (ss := c :: t) (by simp)
   have hd : ((c :: t).drop (atP L (c :: t)).2).length <= t.length := by rw [List.length_drop]; simp; omega
   simp only [List.isEmpty_cons]; rw [yjm L n m _ (by simp at h1; omega) (by simp at h2; omega)]
theorem ycu (L : List PE) : elsP L [] = [] := rfl
theorem ycc (L : List PE) {ss : List Int} (h : 0 < ss.length) : elsP L ss = (atP L ss).1 ++ elsP L (ss.drop (atP L ss).2) := by
 have hu := yel L h; unfold elsP; obtain ⟨n, hn⟩ : ∃ n, ss.length = n + 1 := ⟨ss.length - 1, by omega⟩
 rw [hn]
 have he : ss.isEmpty = false := by cases ss with | nil => simp at h | cons _ _ => rfl
 rw [elF, he]; simp only [Bool.false_eq_true, if_false]; rw [yjm L n (ss.drop (atP L ss).2).length _ (by rw [List.length_drop]; omega) (zN _)]
theorem ypk {L : List PE} (h : GoodT L) : ∀ (n : Nat) (ss : List Int), ss.length <= n -> (elsP L ss).length <= 8 * ss.length
 | 0, ss, hn => by
  have : ss = [] := List.eq_nil_of_length_eq_zero (by omega)
  subst this; simp [ycu]
 | n + 1, ss, hn => by
  rcases Nat.eq_zero_or_pos ss.length with h0 | h0
  ·have : ss = [] := List.eq_nil_of_length_eq_zero h0
   subst this; simp [ycu]
  ·have hu := yel L h0; have hg := (yfq h ss).1; have hi := ypk h n (ss.drop (atP L ss).2) (by rw [List.length_drop]; omega)
   rw [ycc L h0, List.length_append]; rw [List.length_drop] at hi
   omega
def okW (x : Nat) : Bool := E3.okE x && decide (x / 65536 < 64256)
def begs (L : List PE) (s : List Int) : Bool := (List.range s.length).all fun n => n == 0 || (place L (s.take n)).isSome
def goodE (L : List PE) (e : PE) : Bool := e.2.all okW && begs L e.1
def checkP (L : List PE) : Int := if L.all (goodE L) then 0 else 3
def ones : Nat -> List PE -> List (Int × Int)
 | _, [] => []
 | k, e :: t => (if e.1.length = 1 then [(hd e.1, (k : Int) + 1)] else []) ++ ones (k + 1) t
theorem ykj (k : Nat) (A B : List PE) : ones k (A ++ B) = ones k A ++ ones (k + A.length) B := by
 induction A generalizing k with
 | nil => simp [ones]
 | cons e t ih =>
  rw [List.cons_append, ones, ones, ih, List.append_assoc, List.length_cons, show k + 1 + t.length = k + (t.length + 1) by omega]
theorem yov (k : Nat) (L : List PE) : (ones k L).length <= L.length := by
 induction L generalizing k with
 | nil => simp [ones]
 | cons e t ih =>
  have := ih (k + 1)
  rw [ones, List.length_append, List.length_cons]
  split <;> simp <;> omega
theorem ykq {s : List Int} (h : s.length = 1) : s = [hd s] := by
 match s, h with
 | [c], _ => rfl
theorem yki {k : Nat} {L : List PE} {p : Int × Int} (h : p ∈ ones k L) : ∃ e ∈ L, e.1 = [p.1] /\ (k : Int) + 1 <= p.2 /\ p.2 <= (k : Int) + L.length := by
 induction L generalizing k with
 | nil => simp [ones] at h
 | cons e t ih =>
  rw [ones] at h
  rcases List.mem_append.1 h with h | h
  ·split at h
   ·rename_i h1
    simp at h
    subst h; exact ⟨e, by simp, ykq h1, by simp, by simp; omega⟩
   ·simp at h
  ·obtain ⟨f, h1, h2, h3, h4⟩ := ih h; exact ⟨f, by simp [h1], h2, by omega, by simp; omega⟩
def sgsB (l : List Int) : Bool := l.all T2.isSg
def badA (s : List Int) (l : List Nat) : Bool := decide (s.length < 1) || decide (3 < s.length) || decide (8 < l.length) || !sgsB s
def withE (L : List PE) (s : List Int) (l : List Nat) : Int := if badA s l then 1 else if place L s = none /\ 500 <= L.length then 65 else 0
def wgt (lv e : Nat) : Nat := if lv = 1 then e / 65536 else if lv = 2 then e / 256 % 256 else e / 2 % 128
def topW (lv : Nat) : Nat := if lv = 1 then 64255 else if lv = 2 then 255 else 127
def putW (lv e v : Nat) : Nat := if lv = 1 then v % 65536 * 65536 + e % 65536 else if lv = 2 then e / 65536 * 65536 + v % 256 * 256 + e % 256 else e / 256 * 256 + v % 128 * 2 + e % 2
def up (lv fr e : Nat) : Nat := if wgt lv e <= fr \/ topW lv < wgt lv e then e else putW lv e (wgt lv e + 1)
def nxt (lv k : Nat) : Nat := if lv = 1 then E3.mk (wgt 1 k + 1) 32 2 0 else if lv = 2 then putW 3 (putW 2 k (wgt 2 k + 1)) 2 else putW 3 k (wgt 3 k + 1)
def lastF (lv : Nat) (A : List Nat) : Nat -> Option Nat
 | 0 => none
 | n + 1 => if wgt lv (A.getD n 0) = 0 then lastF lv A n else some n
def lastW (lv : Nat) (A : List Nat) : Option Nat := lastF lv A A.length
def fullP (lv : Nat) (L : List PE) : Bool := L.any fun e => e.2.any fun x => wgt lv x == topW lv
def mpE (f : Nat -> Nat) (e : PE) : PE := (e.1, e.2.map f)
def mapP (f : Nat -> Nat) (L : List PE) : List PE := L.map (mpE f)
def ancP (lv at' : Nat) (A : List Nat) : List Nat := (A.take at').map (up lv (wgt lv (A.getD at' 0))) ++ [nxt lv (A.getD at' 0)]
def movE (lv : Nat) (L : List PE) (A : List Nat) : Int := match lastW lv A with
 | none => 1
 | some k => if topW lv < wgt lv (A.getD k 0) then 1 else if fullP lv L then 60 else 0
def movL (lv : Nat) (L : List PE) (A : List Nat) : List PE := match lastW lv A with
 | none => L
 | some k => mapP (up lv (wgt lv (A.getD k 0))) L
def movA (lv : Nat) (A : List Nat) : List Nat := match lastW lv A with
 | none => A
 | some k => ancP lv k A
def chgE (r : Int) (L : List PE) (A : List Nat) : Int := if r = 2 then movE 1 L A else if r = 3 then movE 2 L A else if r = 4 then movE 3 L A else if r = 5 then 0 else 1
def chgL (r : Int) (L : List PE) (A : List Nat) : List PE := if r = 2 then movL 1 L A else if r = 3 then movL 2 L A else if r = 4 then movL 3 L A else L
def chgA (r : Int) (A : List Nat) : List Nat := if r = 2 then movA 1 A else if r = 3 then movA 2 A else if r = 4 then movA 3 A else A
structure ST where
 L : List PE
 A : Option (List Nat)
def rulE (t : ST) (r : S6.RV) : Int :=
 if r.rel = 1 then (if 8 < (elsP t.L r.seq).length then 1 else 0)
 else match t.A with
  | none => 1
  | some A => if chgE r.rel t.L A ≠ 0 then chgE r.rel t.L A else withE (chgL r.rel t.L A) r.seq (chgA r.rel A ++ elsP (chgL r.rel t.L A) r.exp)
def rulS (t : ST) (r : S6.RV) : ST :=
 if r.rel = 1 then ⟨t.L, some (elsP t.L r.seq)⟩
 else match t.A with
  | none => t
  | some A => ⟨putP (chgL r.rel t.L A) (r.seq, chgA r.rel A ++ elsP (chgL r.rel t.L A) r.exp), some (chgA r.rel A)⟩
def rlsE : ST -> List S6.RV -> Int
 | _, [] => 0
 | t, r :: l => if rulE t r ≠ 0 then rulE t r else rlsE (rulS t r) l
def rlsS : ST -> List S6.RV -> ST
 | t, [] => t
 | t, r :: l => rlsS (rulS t r) l
def appE (L : List PE) (l : List S6.RV) : Int := if rlsE ⟨L, none⟩ l ≠ 0 then rlsE ⟨L, none⟩ l else checkP (rlsS ⟨L, none⟩ l).L
def appL (L : List PE) (l : List S6.RV) : List PE := (rlsS ⟨L, none⟩ l).L
def Lv (lv : Nat) : Prop := lv = 1 \/ lv = 2 \/ lv = 3
theorem wgt_top {lv e : Nat} (h : e < 4294967296) : wgt lv e <= (if lv = 1 then 65535 else topW lv) := by
 unfold wgt topW; repeat' split
 all_goals omega
theorem put_lt {lv e v : Nat} (h : e < 4294967296) : putW lv e v < 4294967296 := by
 unfold putW; repeat' split
 all_goals omega
theorem up_lt {lv fr e : Nat} (h : e < 4294967296) : up lv fr e < 4294967296 := by
 unfold up; split
 ·exact h
 ·exact put_lt h
theorem wgt_put {lv e v : Nat} (h : v <= (if lv = 1 then 65535 else topW lv)) : wgt lv (putW lv e v) = v := by
 unfold wgt putW topW at *; repeat' split
 all_goals simp_all
 all_goals omega
theorem ypw {lv k e v : Nat} (hl : Lv lv) (hk : Lv k) (h : lv ≠ k) (he : e < 4294967296) : wgt k (putW lv e v) = wgt k e := by
 unfold wgt putW; rcases hl with rfl | rfl | rfl <;> rcases hk with rfl | rfl | rfl <;> first | exact absurd rfl h | (simp; done) | (simp; omega)
theorem wgt_up {lv fr e : Nat} (h : wgt lv e ≠ topW lv) (he : e < 4294967296) : wgt lv (up lv fr e) = if wgt lv e <= fr \/ topW lv < wgt lv e then wgt lv e else wgt lv e + 1 := by
 unfold up; split
 ·rfl
 ·rename_i h2
  refine wgt_put ?_
  split
  ·rename_i h3; subst h3; have : topW 1 = 64255 := rfl; omega
  ·omega
theorem yba {lv k fr e : Nat} (hl : Lv lv) (hk : Lv k) (h : lv ≠ k) (he : e < 4294967296) : wgt k (up lv fr e) = wgt k e := by
 unfold up; split
 ·rfl
 ·exact ypw hl hk h he
theorem nxt_lt {lv k : Nat} (h : k < 4294967296) (h1 : lv = 1 -> wgt 1 k <= 64255) : nxt lv k < 4294967296 := by
 unfold nxt; repeat' split
 ·rename_i e; have := h1 e; unfold E3.mk; omega
 ·exact put_lt (put_lt h)
 ·exact put_lt h
theorem yra {lv : Nat} {A : List Nat} {n k : Nat} (h : lastF lv A n = some k) : k < n /\ wgt lv (A.getD k 0) ≠ 0 := by
 induction n with
 | zero => cases h
 | succ n ih =>
  unfold lastF at h; split at h
  ·have := ih h; exact ⟨by omega, this.2⟩
  ·cases h; exact ⟨Nat.lt_succ_self _, by assumption⟩
theorem yjh {lv : Nat} {A : List Nat} {k : Nat} (h : lastW lv A = some k) : k < A.length /\ wgt lv (A.getD k 0) ≠ 0 := yra h
theorem getD_lt {A : List Nat} (h : ∀ x ∈ A, x < 4294967296) (k : Nat) : A.getD k 0 < 4294967296 := by
 rw [List.getD_eq_getElem?_getD]
 cases e : A[k]? with
 | none => simp
 | some x => exact h x (List.mem_of_getElem? e)
theorem yvc (f : Nat -> Nat) (L : List PE) : (mapP f L).map (·.1) = L.map (·.1) := by
 unfold mapP; rw [List.map_map]; rfl
theorem ycs (f : Nat -> Nat) (L : List PE) : (mapP f L).length = L.length := List.length_map _
theorem ydc (f : Nat -> Nat) (L : List PE) (s : List Int) : look (mapP f L) s = (look L s).map (List.map f) := by
 induction L with
 | nil => rfl
 | cons e t ih =>
  show look (mpE f e :: mapP f t) s = _
  unfold look at *; rw [List.find?_cons, List.find?_cons]
  show Option.map Prod.snd (match e.1 == s with | true => some (mpE f e) | false => List.find? (fun e => e.1 == s) (mapP f t)) = _
  cases e.1 == s with
  | true => rfl
  | false => exact ih
theorem ygy {f : Nat -> Nat} (hf : ∀ x, x < 4294967296 -> f x < 4294967296) {L : List PE} (h : GoodT L) : GoodT (mapP f L) where
 srt := by
  unfold Srt mapP; rw [List.pairwise_map]; exact h.srt
 seq e he := by
  obtain ⟨g, hg, rfl⟩ := List.mem_map.1 he; exact h.seq g hg
 els e he := by
  obtain ⟨g, hg, rfl⟩ := List.mem_map.1 he; have h2 := h.els g hg; refine ⟨by simpa [mpE] using h2.1, fun y hy => ?_⟩
  obtain ⟨z, hz, rfl⟩ := List.mem_map.1 hy; exact hf z (h2.2 z hz)
 len := by rw [ycs]; exact h.len
def Anc (A : List Nat) : Prop := A.length <= 8 /\ ∀ x ∈ A, x < 4294967296
theorem ancP_anc {lv k : Nat} {A : List Nat} (h : Anc A) (hk : k < A.length) (h1 : ¬ topW lv < wgt lv (A.getD k 0)) : Anc (ancP lv k A) := by
 unfold ancP; refine ⟨?_, fun x hx => ?_⟩
 ·have := h.1
  rw [List.length_append, List.length_map, List.length_take]; simp; omega
 ·rcases List.mem_append.1 hx with hx | hx
  ·obtain ⟨y, hy, rfl⟩ := List.mem_map.1 hx; exact up_lt (h.2 y (List.mem_of_mem_take hy))
  ·simp only [List.mem_cons, List.not_mem_nil, or_false] at hx; subst hx; refine nxt_lt (getD_lt h.2 k) fun e => ?_
   subst e
   have : topW 1 = 64255 := rfl
   omega
theorem yzp {lv : Nat} {L : List PE} {A : List Nat} (h : Anc A) (hE : movE lv L A = 0) : Anc (movA lv A) := by
 unfold movE movA at *
 cases hk : lastW lv A with
 | none => exact h
 | some k =>
  rw [hk] at hE
  simp only at hE |-
  split at hE
  ·cases hE
  ·exact ancP_anc h (yjh hk).1 (by assumption)
theorem ypp {r : Int} {L : List PE} {A : List Nat} (h : Anc A) (hE : chgE r L A = 0) : Anc (chgA r A) := by
 unfold chgE chgA at *; repeat' split at hE
 all_goals first | cases hE | skip
 all_goals simp_all
 all_goals exact yzp h hE
end Go.Proofs.YteibnfeokgibmaaGreat
