/-
  PACKED for a claim.
-/
import Derived.Test.YtichfdjjbafeiaaGreatP50
import Derived.Test.YtichfdjjbafeiaaGreatP51
set_option linter.unusedVariables false
set_option linter.unusedSimpArgs false
set_option maxRecDepth 100000
namespace Go.Proofs.YtichfdjjbafeiaaGreat
open Go.RowKit
theorem ymc (w : World) (x : Int) (T : TypeId) : RdI anyB (w.alloc (.cells #[.int .i64 x] T)) (.slice (some ⟨w.heap.size, 0, none⟩) 1 1) [x] := RdF.new (n := 1) w (iv [x]) T (zN 1)
theorem yno (w : World) {r1 r2 x y : Int} {g1 g2 : Nat} (h1 : RdI anyB w (.slice (some ⟨g1, 0, none⟩) 1 1) [x]) (h2 : RdI anyB w (.slice (some ⟨g2, 0, none⟩) 1 1) [y]) (T : TypeId) :
  S6.RdRs (w.alloc (.cells #[.int .i64 r1, .slice (some ⟨g1, 0, none⟩) 1 1, .slice none 0 0, .int .i64 r2, .slice (some ⟨g2, 0, none⟩) 1 1, .slice none 0 0] T)) (.slice (some ⟨w.heap.size, 0, none⟩) 2 2) [⟨r1, [x], []⟩, ⟨r2, [y], []⟩] := by
 refine ⟨[⟨r1, .slice (some ⟨g1, 0, none⟩) 1 1, .slice none 0 0, [x], []⟩, ⟨r2, .slice (some ⟨g2, 0, none⟩) 1 1, .slice none 0 0, [y], []⟩], rfl, RdF.new (n := 2) w (S6.rcells [⟨r1, .slice (some ⟨g1, 0, none⟩) 1 1, .slice none 0 0, [x], []⟩, ⟨r2, .slice (some ⟨g2, 0, none⟩) 1 1, .slice none 0 0, [y], []⟩]) T (zN 2), fun m hm => ?_⟩
 have hb := yab w (.cells #[.int .i64 r1, .slice (some ⟨g1, 0, none⟩) 1 1, .slice none 0 0, .int .i64 r2, .slice (some ⟨g2, 0, none⟩) 1 1, .slice none 0 0] T); simp only [List.mem_cons, List.not_mem_nil, or_false] at hm
 rcases hm with rfl | rfl
 ·exact ⟨h1.below hb (zN _), RdF.nil _ _⟩
 ·exact ⟨h2.below hb (zN _), RdF.nil _ _⟩
theorem ywd (r1 r2 x y : Int) : S6.RVs [⟨r1, [x], []⟩, ⟨r2, [y], []⟩] := ⟨by simp, fun x hx => by
 simp only [List.mem_cons, List.not_mem_nil, or_false] at hx
 rcases hx with rfl | rfl <;> simp⟩
theorem two_ru {r1 r2 x y : Int} (hx : -9223372036854775808 <= x /\ x <= 9223372036854775807) (hy : -9223372036854775808 <= y /\ y <= 9223372036854775807) : ∀ r ∈ [(⟨r1, [x], []⟩ : S6.RV), ⟨r2, [y], []⟩], RuOk r := by
 intro r hr; simp only [List.mem_cons, List.not_mem_nil, or_false] at hr
 have hn : I64 [] := fun z hz => by cases hz
 rcases hr with rfl | rfl
 ·exact ⟨fun z hz => by simp only [List.mem_cons, List.not_mem_nil, or_false] at hz; subst hz; exact hx, hn, by simp, by simp⟩
 ·exact ⟨fun z hz => by simp only [List.mem_cons, List.not_mem_nil, or_false] at hz; subst hz; exact hy, hn, by simp, by simp⟩
theorem and16 (n : Int) : bits .and .i64 n 65535 = n % 65536 := T2.yem 16 (by omega) n
end Go.Proofs.YtichfdjjbafeiaaGreat
namespace Go.Proofs.YtichfdjjbafeiaaGreat
def kpS (c : Int) : Bool := (decide (110 <= c) && decide (c <= 122)) || (decide (48 <= c) && decide (c <= 57)) || (decide (78 <= c) && decide (c <= 90))
def kpQ (c : Int) : Bool := decide (97 <= c) && decide (c <= 109)
def kpR (r : S6.RV) : Bool := decide (r.rel = 1) || r.seq.all kpQ
theorem ybi (e : PE) (t : List PE) (s : List Int) : look (e :: t) s = if e.1 = s then some e.2 else look t s := by
 unfold look; rw [List.find?_cons]
 by_cases h : e.1 = s
 ·rw [if_pos h, beq_iff_eq.2 h]; rfl
 ·rw [if_neg h, beq_eq_false_iff_ne.2 h]
theorem yqw {L : List PE} {x : PE} {s : List Int} (h : x.1 ≠ s) : look (putR L x) s = look L s := by
 induction L with
 | nil =>
  show look [x] s = none
  rw [ybi, if_neg h]; rfl
 | cons e t ih =>
  by_cases hb : befB e.1 x.1 = true
  ·rw [yif hb, ybi, ybi, ih]
  ·rw [yig (by simpa using hb), ybi, if_neg h, yeu]
   split
   ·rename_i h2
    rw [ybi, if_neg (by rw [h2]; exact h)]
   ·rfl
theorem yhc {L : List PE} {x : PE} : look (putR L x) x.1 = some x.2 := by
 induction L with
 | nil =>
  show look [x] x.1 = _
  rw [ybi, if_pos rfl]
 | cons e t ih =>
  by_cases hb : befB e.1 x.1 = true
  ·rw [yif hb, ybi, ih]
   split
   ·rename_i h2
    have : ord e.1 x.1 < 0 := by unfold befB at hb; exact of_decide_eq_true hb
    exact absurd h2 (ord_ne this)
   ·rfl
  ·rw [yig (by simpa using hb), ybi, if_pos rfl]
theorem ydg {L : List PE} (hs : Srt L) {x : PE} {s : List Int} (h : x.1 ≠ s) : look (putP L x) s = look L s := by
 rw [put_eq hs, yqw h]
theorem ycn {L : List PE} (hs : Srt L) (x : PE) : look (putP L x) x.1 = some x.2 := by
 rw [put_eq hs, yhc]
theorem yxg {L : List PE} (hs : Srt L) {e : PE} (he : e ∈ L) : look L e.1 = some e.2 := by
 obtain ⟨k, hk⟩ := List.mem_iff_getElem?.1 he; exact yfa (ynr hs hk) hk
def kpW (x : Nat) : Prop := ∃ e ∈ rootP, kpS (hd e.1) = true /\ x ∈ e.2
structure KP (f : Nat -> Nat) (L : List PE) : Prop where
 lk : ∀ s : List Int, kpS (hd s) = true -> look L s = (look rootP s).map (List.map f)
 nul : ∀ lv, Lv lv -> ∀ x, kpW x -> (wgt lv (f x) = 0 ↔ wgt lv x = 0)
 ord : ∀ lv, Lv lv -> ∀ x y, kpW x -> kpW y -> (wgt lv (f x) < wgt lv (f y) ↔ wgt lv x < wgt lv y)
 lt : ∀ x, kpW x -> f x < 4294967296
theorem KP.mem {f : Nat -> Nat} {L : List PE} (h : KP f L) (hr : Srt rootP) {x : Nat} (hx : kpW x) : ∃ e ∈ L, f x ∈ e.2 := by
 obtain ⟨e, he, hk, hm⟩ := hx; have h1 := h.lk e.1 hk; rw [yxg hr he] at h1; exact ⟨_, ydh h1, List.mem_map.2 ⟨x, hm, rfl⟩⟩
theorem yed {lv : Nat} {L : List PE} (h : fullP lv L = false) {e : PE} (he : e ∈ L) {x : Nat} (hx : x ∈ e.2) : wgt lv x ≠ topW lv := by
 intro hw
 have : fullP lv L = true := by
  unfold fullP; exact List.any_eq_true.2 ⟨e, he, List.any_eq_true.2 ⟨x, hx, beq_iff_eq.2 hw⟩⟩
 rw [this] at h; cases h
theorem KP.up {f : Nat -> Nat} {L : List PE} (h : KP f L) (hr : Srt rootP) {lv fr : Nat} (hl : Lv lv) (hf : fullP lv L = false) : KP (fun x => up lv fr (f x)) (mapP (Go.Proofs.YtichfdjjbafeiaaGreat.up lv fr) L) where
 lk s hs := by
  rw [yee, h.lk s hs, Option.map_map]
  congr 1
  funext l
  show List.map _ (List.map f l) = _
  rw [List.map_map]; rfl
 nul k hk x hx := by
  have hlt := h.lt x hx; have h0 := h.nul k hk x hx
  by_cases e : lv = k
  ·subst e; obtain ⟨a, ha, hm⟩ := h.mem hr hx; rw [wgt_up (yed hf ha hm) hlt]
   split <;> omega
  ·rw [yar hl hk e hlt]; exact h0
 ord k hk x y hx hy := by
  have hlx := h.lt x hx; have hly := h.lt y hy; have h0 := h.ord k hk x y hx hy
  by_cases e : lv = k
  ·subst e; obtain ⟨a, ha, hm⟩ := h.mem hr hx; obtain ⟨b, hb, hn⟩ := h.mem hr hy; have n1 := yed hf ha hm; have n2 := yed hf hb hn; rw [wgt_up n1 hlx, wgt_up n2 hly]
   split <;> split <;> omega
  ·rw [yar hl hk e hlx, yar hl hk e hly]; exact h0
 lt x hx := up_lt (h.lt x hx)
theorem KP.mov {f : Nat -> Nat} {L : List PE} (h : KP f L) (hr : Srt rootP) {lv : Nat} (hl : Lv lv) {A : List Nat} (hE : movE lv L A = 0) : ∃ g, KP g (movL lv L A) := by
 unfold movE at hE; unfold movL
 cases hk : lastW lv A with
 | none => rw [hk] at hE; cases hE
 | some k =>
  rw [hk] at hE
  simp only at hE |-
  split at hE
  ·cases hE
  ·split at hE
   ·cases hE
   ·rename_i hf
    exact ⟨_, h.up hr hl (by simpa using hf)⟩
theorem KP.chg {f : Nat -> Nat} {L : List PE} (h : KP f L) (hr : Srt rootP) {r : Int} {A : List Nat} (hE : chgE r L A = 0) : ∃ g, KP g (chgL r L A) := by
 unfold chgE at hE; unfold chgL
 split
 ·rename_i e; rw [if_pos e] at hE; exact h.mov hr (.inl rfl) hE
 ·rename_i e
  rw [if_neg e] at hE
  split
  ·rename_i e; rw [if_pos e] at hE; exact h.mov hr (.inr (.inl rfl)) hE
  ·rename_i e
   rw [if_neg e] at hE
   split
   ·rename_i e; rw [if_pos e] at hE; exact h.mov hr (.inr (.inr rfl)) hE
   ·exact ⟨f, h⟩
theorem yxn {c : Int} (h : kpQ c = true) : kpS c = false := by
 simp only [kpQ, kpS, Bool.and_eq_true, decide_eq_true_eq, Bool.or_eq_false_iff, Bool.and_eq_false_iff, decide_eq_false_iff_not] at *
 omega
theorem yxm {L : List PE} {s : List Int} {l : List Nat} (h : withE L s l = 0) : 1 <= s.length := by
 unfold withE at h
 split at h
 ·cases h
 ·rename_i hb
  rcases Nat.lt_or_ge s.length 1 with h1 | h1
  ·refine absurd ?_ hb; unfold badA; rw [decide_eq_true h1, Bool.true_or, Bool.true_or, Bool.true_or]
  ·exact h1
theorem KP.rul {f : Nat -> Nat} {t : ST} (h : KP f t.L) (hr : Srt rootP) (hg : GoodT t.L) {r : S6.RV} (hE : rulE t r = 0) (hq : kpR r = true) : ∃ g, KP g (rulS t r).L := by
 by_cases h1 : r.rel = 1
 ·unfold rulS; rw [if_pos h1]; exact ⟨f, h⟩
 ·cases hA : t.A with
  | none => unfold rulE at hE; rw [if_neg h1, hA] at hE; cases hE
  | some A =>
   obtain ⟨hc, hw⟩ := ynl h1 hA hE; rw [yko h1 hA]; obtain ⟨g, hg2⟩ := h.chg hr hc; refine ⟨g, ⟨fun s hs => ?_, hg2.nul, hg2.ord, hg2.lt⟩⟩
   rw [ydg (ysh hg).srt]
   ·exact hg2.lk s hs
   ·intro e
    have e : r.seq = s := e
    subst e; have hl := yxm hw; unfold kpR at hq; rw [decide_eq_false h1, Bool.false_or] at hq
    cases hseq : r.seq with
    | nil => rw [hseq] at hl; simp at hl
    | cons c u =>
     rw [hseq] at hq hs; simp only [List.all_cons, Bool.and_eq_true] at hq; rw [show hd (c :: u) = c from rfl, yxn hq.1] at hs
     cases hs
def trP : Nat -> List Int
 | 0 => [109]
 | n + 1 => [((49 + n : Nat) : Int)]
def trD (i : Nat) : List Int := [((49 + i : Nat) : Int)]
theorem trP_ne {i n : Nat} (hi : i <= n) (hn : n < 8) : trP i ≠ trD n := by
 cases i with
 | zero =>
  intro h
  have h : ((109 : Int)) = ((49 + n : Nat) : Int) := by injection h
  omega
 | succ i =>
  intro h
  have h : ((49 + i : Nat) : Int) = ((49 + n : Nat) : Int) := by injection h
  omega
theorem trD_ne {i n : Nat} (hi : i < n) : trD i ≠ trD n := by
 intro h
 have h : ((49 + i : Nat) : Int) = ((49 + n : Nat) : Int) := by injection h
 omega
def TRel (L : List PE) (k : Nat) (p q : List Int) : Prop := ∃ a b, look L p = some [a] /\ look L q = some [b] /\ (∀ lv, Lv lv -> lv < k -> wgt lv a = wgt lv b) /\ (∀ lv, Lv lv -> lv = k -> wgt lv a < wgt lv b)
def Lo (n x : Nat) : Prop := wgt 1 x <= 1000 + n /\ wgt 2 x <= 150 + n /\ wgt 3 x <= 60 + n /\ E3.okE x = true
structure TR (K : Nat -> Nat) (n : Nat) (t : ST) (e : Nat) : Prop where
 good : GoodT t.L
 lim : ∀ f ∈ t.L, ∀ x ∈ f.2, Lo n x
 len : t.L.length <= 200 + n
 one : ∀ f ∈ t.L, f.1.length = 1
 anc : t.A = some [e]
 at' : look t.L (trP n) = some [e]
 nz : wgt 1 e ≠ 0 /\ wgt 2 e ≠ 0 /\ wgt 3 e ≠ 0
 rel : ∀ j, j < n -> TRel t.L (K j) (trP j) (trD j)
 nn : ∃ z, look t.L [110] = some [z] /\ wgt 1 e < wgt 1 z
 ll : TRel t.L 1 [108] [109]
theorem ydo {n : Nat} (hn : n <= 40) {L : List PE} (h : ∀ f ∈ L, ∀ x ∈ f.2, Lo n x) {lv : Nat} (hl : Lv lv) : fullP lv L = false := by
 rw [Bool.eq_false_iff]; intro hf; unfold fullP at hf; obtain ⟨f, hf, h2⟩ := List.any_eq_true.1 hf; obtain ⟨x, hx, h3⟩ := List.any_eq_true.1 h2; have h3 := beq_iff_eq.1 h3; obtain ⟨a, b, c, -⟩ := h f hf x hx
 have h1 : topW 1 = 64255 := rfl
 have h2 : topW 2 = 255 := rfl
 have h4 : topW 3 = 127 := rfl
 rcases hl with rfl | rfl | rfl <;> omega
theorem Lo.more {n m x : Nat} (h : Lo n x) (hm : n <= m) : Lo m x := ⟨by have := h.1; omega, by have := h.2.1; omega, by have := h.2.2.1; omega, h.2.2.2⟩
theorem ygg {x : Nat} : E3.okE x = true ↔ (wgt 1 x = 0 \/ wgt 2 x ≠ 0 /\ wgt 3 x ≠ 0) /\ (wgt 2 x = 0 \/ wgt 3 x ≠ 0) /\ (x % 2 = 0 \/ wgt 1 x ≠ 0) := by
 unfold E3.okE wgt
 simp
 exact and_assoc
theorem yfl {lv e v : Nat} (hl : Lv lv) (he : e < 4294967296) : putW lv e v % 2 = e % 2 := by
 unfold putW
 rcases hl with rfl | rfl | rfl <;> simp <;> omega
theorem up_lo {n x lv fr : Nat} (h : Lo n x) (hn : n <= 40) (hl : Lv lv) (hf : fr ≠ 0) (hx : x < 4294967296) : Lo (n + 1) (up lv fr x) := by
 have h1 : topW 1 = 64255 := rfl
 have h2 : topW 2 = 255 := rfl
 have h3 : topW 3 = 127 := rfl
 obtain ⟨a, b, c, d⟩ := h; rw [ygg] at d
 have hb : up lv fr x % 2 = x % 2 := by unfold up; split; rfl; exact yfl hl hx
 have hne : wgt lv x ≠ topW lv := by rcases hl with rfl | rfl | rfl <;> omega
 have hw := wgt_up (fr := fr) hne hx; unfold Lo; rw [ygg, hb]
 rcases hl with rfl | rfl | rfl
 ·rw [yar (lv := 1) (k := 2) (.inl rfl) (.inr (.inl rfl)) (by omega) hx, yar (lv := 1) (k := 3) (.inl rfl) (.inr (.inr rfl)) (by omega) hx, hw]
  split <;> omega
 ·rw [yar (lv := 2) (k := 1) (.inr (.inl rfl)) (.inl rfl) (by omega) hx, yar (lv := 2) (k := 3) (.inr (.inl rfl)) (.inr (.inr rfl)) (by omega) hx, hw]
  split <;> omega
 ·rw [yar (lv := 3) (k := 1) (.inr (.inr rfl)) (.inl rfl) (by omega) hx, yar (lv := 3) (k := 2) (.inr (.inr rfl)) (.inr (.inl rfl)) (by omega) hx, hw]
  split <;> omega
theorem ywz {n x : Nat} (h : Lo n x) (hn : n <= 40) (hx : x < 4294967296) :
  (wgt 1 (nxt 1 x) = wgt 1 x + 1 /\ wgt 2 (nxt 1 x) = 32 /\ wgt 3 (nxt 1 x) = 2 /\ nxt 1 x % 2 = 0 /\ nxt 1 x < 4294967296) ∧
  (wgt 1 (nxt 2 x) = wgt 1 x /\ wgt 2 (nxt 2 x) = wgt 2 x + 1 /\ wgt 3 (nxt 2 x) = 2 /\ nxt 2 x % 2 = x % 2 /\ nxt 2 x < 4294967296) ∧
  (wgt 1 (nxt 3 x) = wgt 1 x /\ wgt 2 (nxt 3 x) = wgt 2 x /\ wgt 3 (nxt 3 x) = wgt 3 x + 1 /\ nxt 3 x % 2 = x % 2 /\ nxt 3 x < 4294967296) := by
 obtain ⟨a, b, c, -⟩ := h
 have t2 : topW 2 = 255 := rfl
 have t3 : topW 3 = 127 := rfl
 refine ⟨?_, ?_, ?_⟩
 ·unfold nxt; rw [if_pos rfl]; generalize wgt 1 x = p at *; unfold wgt E3.mk
  simp
  omega
 ·unfold nxt; rw [if_neg (by omega), if_pos rfl]
  obtain ⟨y, hy⟩ : ∃ y, putW 2 x (wgt 2 x + 1) = y := ⟨_, rfl⟩
  have hyl : y < 4294967296 := by rw [<- hy]; exact put_lt hx
  have e1 : wgt 1 y = wgt 1 x := by rw [<- hy]; exact ybk (.inr (.inl rfl)) (.inl rfl) (by omega) hx
  have e2 : wgt 2 y = wgt 2 x + 1 := by rw [<- hy]; exact yhx (by rw [if_neg (by omega)]; omega)
  have e3 : y % 2 = x % 2 := by rw [<- hy]; exact yfl (.inr (.inl rfl)) hx
  rw [hy, ybk (lv := 3) (k := 1) (.inr (.inr rfl)) (.inl rfl) (by omega) hyl, ybk (lv := 3) (k := 2) (.inr (.inr rfl)) (.inr (.inl rfl)) (by omega) hyl, yhx (lv := 3) (v := 2) (by rw [if_neg (by omega)]; omega), yfl (.inr (.inr rfl)) hyl]
  exact ⟨e1, e2, rfl, e3, put_lt hyl⟩
 ·unfold nxt; rw [if_neg (by omega), if_neg (by omega)]
  rw [ybk (lv := 3) (k := 1) (.inr (.inr rfl)) (.inl rfl) (by omega) hx, ybk (lv := 3) (k := 2) (.inr (.inr rfl)) (.inr (.inl rfl)) (by omega) hx, yhx (lv := 3) (v := wgt 3 x + 1) (by rw [if_neg (by omega)]; omega), yfl (.inr (.inr rfl)) hx]
  exact ⟨rfl, rfl, rfl, rfl, put_lt hx⟩
theorem TRel.up {L : List PE} {k : Nat} {p q : List Int} (h : TRel L k p q) {n : Nat} (hn : n <= 40) (hlim : ∀ f ∈ L, ∀ x ∈ f.2, Lo n x) (hg : GoodT L) {lv fr : Nat} (hl : Lv lv) : TRel (mapP (Go.Proofs.YtichfdjjbafeiaaGreat.up lv fr) L) k p q := by
 obtain ⟨a, b, ha, hb, h1, h2⟩ := h; refine ⟨Go.Proofs.YtichfdjjbafeiaaGreat.up lv fr a, Go.Proofs.YtichfdjjbafeiaaGreat.up lv fr b, by rw [yee, ha]; rfl, by rw [yee, hb]; rfl, fun j hj hk => ?_, fun j hj hk => ?_⟩
 all_goals
  have la := (hg.els _ (ydh ha)).2 a (by simp)
  have lb := (hg.els _ (ydh hb)).2 b (by simp)
  have na := yed (ydo hn hlim hl) (ydh ha) (x := a) (by simp)
  have nb := yed (ydo hn hlim hl) (ydh hb) (x := b) (by simp)
  by_cases e : lv = j
 ·subst e
  have := h1 lv hj hk
  rw [wgt_up na la, wgt_up nb lb]
  split <;> split <;> omega
 ·rw [yar hl hj e la, yar hl hj e lb]; exact h1 j hj hk
 ·subst e
  have := h2 lv hj hk
  rw [wgt_up na la, wgt_up nb lb]
  split <;> split <;> omega
 ·rw [yar hl hj e la, yar hl hj e lb]; exact h2 j hj hk
theorem TRel.put {L : List PE} {k : Nat} {p q : List Int} (h : TRel L k p q) (hs : Srt L) {x : PE} (hp : x.1 ≠ p) (hq : x.1 ≠ q) : TRel (putP L x) k p q := by
 obtain ⟨a, b, ha, hb, h1, h2⟩ := h; exact ⟨a, b, by rw [ydg hs hp]; exact ha, by rw [ydg hs hq]; exact hb, h1, h2⟩
structure TM (K : Nat -> Nat) (n : Nat) (L : List PE) (e a : Nat) : Prop where
 good : GoodT L
 lim : ∀ f ∈ L, ∀ x ∈ f.2, Lo (n + 1) x
 len : L.length <= 200 + n
 one : ∀ f ∈ L, f.1.length = 1
 at' : look L (trP n) = some [e]
 new : Lo (n + 1) a /\ a < 4294967296
 nz : wgt 1 a ≠ 0 /\ wgt 2 a ≠ 0 /\ wgt 3 a ≠ 0
 rel : ∀ j, j < n -> TRel L (K j) (trP j) (trD j)
 here : (∀ lv, Lv lv -> lv < K n -> wgt lv e = wgt lv a) /\ (∀ lv, Lv lv -> lv = K n -> wgt lv e < wgt lv a)
 nn : ∃ z, look L [110] = some [z] /\ wgt 1 a < wgt 1 z
 ll : TRel L 1 [108] [109]
theorem TM.put {K : Nat -> Nat} {n : Nat} {L : List PE} {e a : Nat} (h : TM K n L e a) (hn : n < 8) : TR K (n + 1) ⟨putP L (trD n, [a]), some [a]⟩ a /\ withE L (trD n) [a] = 0 := by
 have hs := h.good.srt
 have hsg : (trD n).all T2.isSg = true := by
  unfold trD T2.isSg T2.isPt
  simp
  omega
 refine ⟨⟨?_, ?_, ?_, ?_, rfl, ycn hs _, h.nz, ?_, ?_, ?_⟩, ?_⟩
 ·refine h.good.put (by simp [trD]) (by simp [trD]) hsg (by simp) (fun x hx => ?_) (.inr (by have := h.len; omega))
  simp only [List.mem_cons, List.not_mem_nil, or_false] at hx; subst hx; exact h.new.2
 ·intro f hf x hx
  have hf : f ∈ putP L (trD n, [a]) := hf
  rw [put_eq hs] at hf
  rcases yck hf with rfl | hf
  ·simp only [List.mem_cons, List.not_mem_nil, or_false] at hx; subst hx; exact h.new.1
  ·exact h.lim f hf x hx
 ·show (putP L (trD n, [a])).length <= _
  rw [ylv]
  have := h.len
  split <;> omega
 ·intro f hf
  have hf : f ∈ putP L (trD n, [a]) := hf
  rw [put_eq hs] at hf
  rcases yck hf with rfl | hf
  ·rfl
  ·exact h.one f hf
 ·intro j hj
  rcases Nat.lt_succ_iff_lt_or_eq.1 hj with hj | rfl
  ·exact (h.rel j hj).put hs (fun e => trP_ne (Nat.le_of_lt hj) hn e.symm) (fun e => trD_ne hj e.symm)
  ·exact ⟨e, a, by rw [ydg hs (fun e => trP_ne (zN _) hn e.symm)]; exact h.at', ycn hs _, h.here.1, h.here.2⟩
 ·obtain ⟨z, hz, hw⟩ := h.nn; refine ⟨z, by rw [ydg hs]; exact hz; (intro e; have e : ((49 + n : Nat) : Int) = 110 := by injection e); omega, hw⟩
 ·refine h.ll.put hs ?_ ?_
  ·intro e; have e : ((49 + n : Nat) : Int) = 108 := by injection e
   omega
  ·intro e; have e : ((49 + n : Nat) : Int) = 109 := by injection e
   omega
 ·unfold withE
  have hb : badA (trD n) [a] = false := by
   unfold badA sgsB; rw [hsg]
   simp [trD]
  rw [if_neg (by rw [hb]; simp), if_neg (fun hh => by have := h.len; omega)]
theorem yrb {lv e : Nat} (h : wgt lv e ≠ 0) : lastW lv [e] = some 0 := by
 unfold lastW
 show lastF lv [e] 1 = _
 unfold lastF; rw [if_neg (by simpa using h)]
theorem yki : rootP.all (fun f => f.2.all fun x => decide (wgt 1 x <= 1000) && decide (wgt 2 x <= 150) && decide (wgt 3 x <= 60) && E3.okE x) = true := by decide +kernel
theorem yft : rootP.all (fun f => decide (f.1.length = 1)) = true := by decide +kernel
theorem ype (K : Nat -> Nat) : TR K 0 ⟨rootP, some [23076868]⟩ 23076868 where
 good := root_good
 lim f hf x hx := by
  have := List.all_eq_true.1 (List.all_eq_true.1 yki f hf) x hx
  simp only [Bool.and_eq_true, decide_eq_true_eq] at this; exact ⟨this.1.1.1, this.1.1.2, this.1.2, this.2⟩
 len := by decide +kernel
 one f hf := of_decide_eq_true (List.all_eq_true.1 yft f hf)
 anc := rfl
 at' := by decide +kernel
 nz := by decide +kernel
 rel j hj := by omega
 nn := ⟨23601156, by decide +kernel, by decide +kernel⟩
 ll := ⟨22552580, 23076868, by decide +kernel, by decide +kernel, fun lv hl h => by rcases hl with rfl | rfl | rfl <;> omega, fun lv hl h => by subst h; decide +kernel⟩
theorem lk_els {L : List PE} {c : Int} {a : Nat} (h : look L [c] = some [a]) : elsP L [c] = [a] := by
 have hp : 0 < [c].length := by simp
 have hat : atP L [c] = ([a], 1) := by
  unfold atP
  show atF L [c] 1 = _
  unfold atF
  show (match look L [c] with | some l => (l, 0 + 1) | none => atF L [c] 0) = _
  rw [h]
 rw [ycz L hp, hat]
 rfl
theorem ygu (lv a b : Nat) : cmpW (nzW lv [a]) (nzW lv [b]) = if wgt lv a = wgt lv b then 0 else if wgt lv a < wgt lv b then -1 else 1 := by
 rw [ykx, ykx]
 by_cases ha : wgt lv a = 0
 ·by_cases hb : wgt lv b = 0
  ·rw [if_pos ha, if_pos hb, if_pos (by omega)]; rfl
  ·rw [if_pos ha, if_neg hb, if_neg (by omega), if_pos (by omega)]; rfl
 ·by_cases hb : wgt lv b = 0
  ·rw [if_neg ha, if_pos hb, if_neg (by omega), if_neg (by omega)]; rfl
  ·rw [if_neg ha, if_neg hb]
   show (if ((wgt lv a : Nat) : Int) = ((wgt lv b : Nat) : Int) then (0 : Int) else if ((wgt lv a : Nat) : Int) < ((wgt lv b : Nat) : Int) then -1 else 1) = _
   by_cases e : wgt lv a = wgt lv b
   ·rw [if_pos e, if_pos (by omega)]
   ·rw [if_neg e, if_neg (by omega)]
    by_cases e2 : wgt lv a < wgt lv b
    ·rw [if_pos e2, if_pos (by omega)]
    ·rw [if_neg e2, if_neg (by omega)]
end Go.Proofs.YtichfdjjbafeiaaGreat
