/-
  PACKED for a claim.
-/
import Derived.Test.YtichfdjjbafeiaaGreatP04
import Derived.Test.YtichfdjjbafeiaaGreatP06
set_option linter.unusedVariables false
set_option linter.unusedSimpArgs false
set_option maxRecDepth 100000
namespace Go.Proofs.YtichfdjjbafeiaaGreat
def wgt (lv e : Nat) : Nat := if lv = 1 then e / 65536 else if lv = 2 then e / 256 % 256 else e / 2 % 128
def topW (lv : Nat) : Nat := if lv = 1 then 64255 else if lv = 2 then 255 else 127
def putW (lv e v : Nat) : Nat := if lv = 1 then v % 65536 * 65536 + e % 65536 else if lv = 2 then e / 65536 * 65536 + v % 256 * 256 + e % 256 else e / 256 * 256 + v % 128 * 2 + e % 2
def up (lv fr e : Nat) : Nat := if wgt lv e <= fr \/ topW lv < wgt lv e then e else putW lv e (wgt lv e + 1)
def nxt (lv k : Nat) : Nat := if lv = 1 then E3.mk (wgt 1 k + 1) 32 2 0 else if lv = 2 then putW 3 (putW 2 k (wgt 2 k + 1)) 2 else putW 3 k (wgt 3 k + 1)
def lastF (lv : Nat) (A : List Nat) : Nat -> Option Nat
 | 0 => none
 | n + 1 => if wgt lv (A.getD n 0) = 0 then lastF lv A n else some n
def lastW (lv : Nat) (A : List Nat) : Option Nat := lastF lv A A.length
def fullP (lv : Nat) (L : List PE) : Bool := L.any fun e => e.2.any fun x => wgt lv x == topW lv
def mpE (f : Nat -> Nat) (e : PE) : PE := (e.1, e.2.map f)
def mapP (f : Nat -> Nat) (L : List PE) : List PE := L.map (mpE f)
def ancP (lv at' : Nat) (A : List Nat) : List Nat := (A.take at').map (up lv (wgt lv (A.getD at' 0))) ++ [nxt lv (A.getD at' 0)]
def movE (lv : Nat) (L : List PE) (A : List Nat) : Int := match lastW lv A with
 | none => 1
 | some k => if topW lv < wgt lv (A.getD k 0) then 1 else if fullP lv L then 60 else 0
def movL (lv : Nat) (L : List PE) (A : List Nat) : List PE := match lastW lv A with
 | none => L
 | some k => mapP (up lv (wgt lv (A.getD k 0))) L
def movA (lv : Nat) (A : List Nat) : List Nat := match lastW lv A with
 | none => A
 | some k => ancP lv k A
def chgE (r : Int) (L : List PE) (A : List Nat) : Int := if r = 2 then movE 1 L A else if r = 3 then movE 2 L A else if r = 4 then movE 3 L A else if r = 5 then 0 else 1
def chgL (r : Int) (L : List PE) (A : List Nat) : List PE := if r = 2 then movL 1 L A else if r = 3 then movL 2 L A else if r = 4 then movL 3 L A else L
def chgA (r : Int) (A : List Nat) : List Nat := if r = 2 then movA 1 A else if r = 3 then movA 2 A else if r = 4 then movA 3 A else A
structure ST where
 L : List PE
 A : Option (List Nat)
def rulE (t : ST) (r : S6.RV) : Int :=
 if r.rel = 1 then (if 8 < (elsP t.L r.seq).length then 1 else 0)
 else match t.A with
  | none => 1
  | some A => if chgE r.rel t.L A ≠ 0 then chgE r.rel t.L A else withE (chgL r.rel t.L A) r.seq (chgA r.rel A ++ elsP (chgL r.rel t.L A) r.exp)
def rulS (t : ST) (r : S6.RV) : ST :=
 if r.rel = 1 then ⟨t.L, some (elsP t.L r.seq)⟩
 else match t.A with
  | none => t
  | some A => ⟨putP (chgL r.rel t.L A) (r.seq, chgA r.rel A ++ elsP (chgL r.rel t.L A) r.exp), some (chgA r.rel A)⟩
def rlsE : ST -> List S6.RV -> Int
 | _, [] => 0
 | t, r :: l => if rulE t r ≠ 0 then rulE t r else rlsE (rulS t r) l
def rlsS : ST -> List S6.RV -> ST
 | t, [] => t
 | t, r :: l => rlsS (rulS t r) l
def appE (L : List PE) (l : List S6.RV) : Int := if rlsE ⟨L, none⟩ l ≠ 0 then rlsE ⟨L, none⟩ l else checkP (rlsS ⟨L, none⟩ l).L
def appL (L : List PE) (l : List S6.RV) : List PE := (rlsS ⟨L, none⟩ l).L
def Lv (lv : Nat) : Prop := lv = 1 \/ lv = 2 \/ lv = 3
theorem ywa {lv e : Nat} (h : e < 4294967296) : wgt lv e <= (if lv = 1 then 65535 else topW lv) := by
 unfold wgt topW; repeat' split
 all_goals omega
theorem put_lt {lv e v : Nat} (h : e < 4294967296) : putW lv e v < 4294967296 := by
 unfold putW; repeat' split
 all_goals omega
theorem up_lt {lv fr e : Nat} (h : e < 4294967296) : up lv fr e < 4294967296 := by
 unfold up; split
 ·exact h
 ·exact put_lt h
theorem yhx {lv e v : Nat} (h : v <= (if lv = 1 then 65535 else topW lv)) : wgt lv (putW lv e v) = v := by
 unfold wgt putW topW at *; repeat' split
 all_goals simp_all
 all_goals omega
theorem ybk {lv k e v : Nat} (hl : Lv lv) (hk : Lv k) (h : lv ≠ k) (he : e < 4294967296) : wgt k (putW lv e v) = wgt k e := by
 unfold wgt putW; rcases hl with rfl | rfl | rfl <;> rcases hk with rfl | rfl | rfl <;> first | exact absurd rfl h | (simp; done) | (simp; omega)
theorem wgt_up {lv fr e : Nat} (h : wgt lv e ≠ topW lv) (he : e < 4294967296) : wgt lv (up lv fr e) = if wgt lv e <= fr \/ topW lv < wgt lv e then wgt lv e else wgt lv e + 1 := by
 unfold up; split
 ·rfl
 ·rename_i h2
  refine yhx ?_
  split
  ·rename_i h3; subst h3; have : topW 1 = 64255 := rfl; omega
  ·omega
theorem yar {lv k fr e : Nat} (hl : Lv lv) (hk : Lv k) (h : lv ≠ k) (he : e < 4294967296) : wgt k (up lv fr e) = wgt k e := by
 unfold up; split
 ·rfl
 ·exact ybk hl hk h he
theorem nxt_lt {lv k : Nat} (h : k < 4294967296) (h1 : lv = 1 -> wgt 1 k <= 64255) : nxt lv k < 4294967296 := by
 unfold nxt; repeat' split
 ·rename_i e; have := h1 e; unfold E3.mk; omega
 ·exact put_lt (put_lt h)
 ·exact put_lt h
theorem yny {lv : Nat} {A : List Nat} {n k : Nat} (h : lastF lv A n = some k) : k < n /\ wgt lv (A.getD k 0) ≠ 0 := by
 induction n with
 | zero => cases h
 | succ n ih =>
  unfold lastF at h; split at h
  ·have := ih h; exact ⟨by omega, this.2⟩
  ·cases h; exact ⟨Nat.lt_succ_self _, by assumption⟩
theorem yhn {lv : Nat} {A : List Nat} {k : Nat} (h : lastW lv A = some k) : k < A.length /\ wgt lv (A.getD k 0) ≠ 0 := yny h
theorem yxx {A : List Nat} (h : ∀ x ∈ A, x < 4294967296) (k : Nat) : A.getD k 0 < 4294967296 := by
 rw [List.getD_eq_getElem?_getD]
 cases e : A[k]? with
 | none => simp
 | some x => exact h x (List.mem_of_getElem? e)
theorem yqu (f : Nat -> Nat) (L : List PE) : (mapP f L).map (·.1) = L.map (·.1) := by
 unfold mapP; rw [List.map_map]; rfl
theorem ycm (f : Nat -> Nat) (L : List PE) : (mapP f L).length = L.length := List.length_map _
theorem yee (f : Nat -> Nat) (L : List PE) (s : List Int) : look (mapP f L) s = (look L s).map (List.map f) := by
 induction L with
 | nil => rfl
 | cons e t ih =>
  show look (mpE f e :: mapP f t) s = _
  unfold look at *; rw [List.find?_cons, List.find?_cons]
  show Option.map Prod.snd (match e.1 == s with | true => some (mpE f e) | false => List.find? (fun e => e.1 == s) (mapP f t)) = _
  cases e.1 == s with
  | true => rfl
  | false => exact ih
theorem yfp {f : Nat -> Nat} (hf : ∀ x, x < 4294967296 -> f x < 4294967296) {L : List PE} (h : GoodT L) : GoodT (mapP f L) where
 srt := by
  unfold Srt mapP; rw [List.pairwise_map]; exact h.srt
 seq e he := by
  obtain ⟨g, hg, rfl⟩ := List.mem_map.1 he; exact h.seq g hg
 els e he := by
  obtain ⟨g, hg, rfl⟩ := List.mem_map.1 he; have h2 := h.els g hg; refine ⟨by simpa [mpE] using h2.1, fun y hy => ?_⟩
  obtain ⟨z, hz, rfl⟩ := List.mem_map.1 hy; exact hf z (h2.2 z hz)
 len := by rw [ycm]; exact h.len
def Anc (A : List Nat) : Prop := A.length <= 8 /\ ∀ x ∈ A, x < 4294967296
theorem yvv {lv k : Nat} {A : List Nat} (h : Anc A) (hk : k < A.length) (h1 : ¬ topW lv < wgt lv (A.getD k 0)) : Anc (ancP lv k A) := by
 unfold ancP; refine ⟨?_, fun x hx => ?_⟩
 ·have := h.1
  rw [List.length_append, List.length_map, List.length_take]; simp; omega
 ·rcases List.mem_append.1 hx with hx | hx
  ·obtain ⟨y, hy, rfl⟩ := List.mem_map.1 hx; exact up_lt (h.2 y (List.mem_of_mem_take hy))
  ·simp only [List.mem_cons, List.not_mem_nil, or_false] at hx; subst hx; refine nxt_lt (yxx h.2 k) fun e => ?_
   subst e
   have : topW 1 = 64255 := rfl
   omega
theorem yuj {lv : Nat} {L : List PE} {A : List Nat} (h : Anc A) (hE : movE lv L A = 0) : Anc (movA lv A) := by
 unfold movE movA at *
 cases hk : lastW lv A with
 | none => exact h
 | some k =>
  rw [hk] at hE
  simp only at hE |-
  split at hE
  ·cases hE
  ·exact yvv h (yhn hk).1 (by assumption)
theorem yqn {lv : Nat} {L : List PE} {A : List Nat} (h : GoodT L) : GoodT (movL lv L A) := by
 unfold movL
 cases lastW lv A with
 | none => exact h
 | some k => exact yfp (fun x hx => up_lt hx) h
theorem ymu {r : Int} {L : List PE} {A : List Nat} (h : Anc A) (hE : chgE r L A = 0) : Anc (chgA r A) := by
 unfold chgE chgA at *; repeat' split at hE
 all_goals first | cases hE | skip
 all_goals simp_all
 all_goals exact yuj h hE
theorem ysh {r : Int} {L : List PE} {A : List Nat} (h : GoodT L) : GoodT (chgL r L A) := by
 unfold chgL; repeat' split
 all_goals first | exact h | exact yqn h
end Go.Proofs.YtichfdjjbafeiaaGreat
