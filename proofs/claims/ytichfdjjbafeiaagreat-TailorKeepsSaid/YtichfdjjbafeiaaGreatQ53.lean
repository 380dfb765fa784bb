/-
  PACKED for a claim.
-/
import Derived.Test.YtichfdjjbafeiaaGreatQ51
import Derived.Test.YtichfdjjbafeiaaGreatQ52
set_option linter.unusedVariables false
set_option linter.unusedSimpArgs false
set_option maxRecDepth 100000
namespace Go.Proofs.YtichfdjjbafeiaaGreat
def kpS (c : Int) : Bool := (decide (110 <= c) && decide (c <= 122)) || (decide (48 <= c) && decide (c <= 57)) || (decide (78 <= c) && decide (c <= 90))
def kpB (x : UInt8) : Bool := kpS (x.toNat : Int)
def kpQ (c : Int) : Bool := decide (97 <= c) && decide (c <= 109)
def kpR (r : S6.RV) : Bool := decide (r.rel = 1) || r.seq.all kpQ
theorem ycr (e : PE) (t : List PE) (s : List Int) : look (e :: t) s = if e.1 = s then some e.2 else look t s := by
 unfold look; rw [List.find?_cons]
 by_cases h : e.1 = s
 ·rw [if_pos h, beq_iff_eq.2 h]; rfl
 ·rw [if_neg h, beq_eq_false_iff_ne.2 h]
theorem yqs {L : List PE} {x : PE} {s : List Int} (h : x.1 ≠ s) : look (putR L x) s = look L s := by
 induction L with
 | nil =>
  show look [x] s = none
  rw [ycr, if_neg h]; rfl
 | cons e t ih =>
  by_cases hb : befB e.1 x.1 = true
  ·rw [yki hb, ycr, ycr, ih]
  ·rw [ykj (by simpa using hb), ycr, if_neg h, yek]
   split
   ·rename_i h2
    rw [ycr, if_neg (by rw [h2]; exact h)]
   ·rfl
theorem yub {L : List PE} (hs : Srt L) {x : PE} {s : List Int} (h : x.1 ≠ s) : look (putP L x) s = look L s := by
 rw [put_eq hs, yqs h]
theorem ywp {L : List PE} (hs : Srt L) {e : PE} (he : e ∈ L) : look L e.1 = some e.2 := by
 obtain ⟨k, hk⟩ := List.mem_iff_getElem?.1 he; exact yer (ynh hs hk) hk
def kpW (x : Nat) : Prop := ∃ e ∈ rootP, kpS (hd e.1) = true /\ x ∈ e.2
structure KP (f : Nat -> Nat) (L : List PE) : Prop where
 lk : ∀ s : List Int, kpS (hd s) = true -> look L s = (look rootP s).map (List.map f)
 nul : ∀ lv, Lv lv -> ∀ x, kpW x -> (wgt lv (f x) = 0 ↔ wgt lv x = 0)
 ord : ∀ lv, Lv lv -> ∀ x y, kpW x -> kpW y -> (wgt lv (f x) < wgt lv (f y) ↔ wgt lv x < wgt lv y)
 lt : ∀ x, kpW x -> f x < 4294967296
theorem KP.mem {f : Nat -> Nat} {L : List PE} (h : KP f L) (hr : Srt rootP) {x : Nat} (hx : kpW x) : ∃ e ∈ L, f x ∈ e.2 := by
 obtain ⟨e, he, hk, hm⟩ := hx; have h1 := h.lk e.1 hk; rw [ywp hr he] at h1; exact ⟨_, yff h1, List.mem_map.2 ⟨x, hm, rfl⟩⟩
theorem yhz {lv : Nat} {L : List PE} (h : fullP lv L = false) {e : PE} (he : e ∈ L) {x : Nat} (hx : x ∈ e.2) : wgt lv x ≠ topW lv := by
 intro hw
 have : fullP lv L = true := by
  unfold fullP; exact List.any_eq_true.2 ⟨e, he, List.any_eq_true.2 ⟨x, hx, beq_iff_eq.2 hw⟩⟩
 rw [this] at h; cases h
theorem KP.up {f : Nat -> Nat} {L : List PE} (h : KP f L) (hr : Srt rootP) {lv fr : Nat} (hl : Lv lv) (hf : fullP lv L = false) : KP (fun x => up lv fr (f x)) (mapP (Go.Proofs.YtichfdjjbafeiaaGreat.up lv fr) L) where
 lk s hs := by
  rw [yqq, h.lk s hs, Option.map_map]
  congr 1
  funext l
  show List.map _ (List.map f l) = _
  rw [List.map_map]; rfl
 nul k hk x hx := by
  have hlt := h.lt x hx; have h0 := h.nul k hk x hx
  by_cases e : lv = k
  ·subst e; obtain ⟨a, ha, hm⟩ := h.mem hr hx; rw [wgt_up (yhz hf ha hm) hlt]
   split <;> omega
  ·rw [yfg hl hk e hlt]; exact h0
 ord k hk x y hx hy := by
  have hlx := h.lt x hx; have hly := h.lt y hy; have h0 := h.ord k hk x y hx hy
  by_cases e : lv = k
  ·subst e; obtain ⟨a, ha, hm⟩ := h.mem hr hx; obtain ⟨b, hb, hn⟩ := h.mem hr hy; have n1 := yhz hf ha hm; have n2 := yhz hf hb hn; rw [wgt_up n1 hlx, wgt_up n2 hly]
   split <;> split <;> omega
  ·rw [yfg hl hk e hlx, yfg hl hk e hly]; exact h0
 lt x hx := up_lt (h.lt x hx)
theorem KP.mov {f : Nat -> Nat} {L : List PE} (h : KP f L) (hr : Srt rootP) {lv : Nat} (hl : Lv lv) {A : List Nat} (hE : movE lv L A = 0) : ∃ g, KP g (movL lv L A) := by
 unfold movE at hE; unfold movL
 cases hk : lastW lv A with
 | none => rw [hk] at hE; cases hE
 | some k =>
  rw [hk] at hE
  simp only at hE |-
  split at hE
  ·cases hE
  ·split at hE
   ·cases hE
   ·rename_i hf
    exact ⟨_, h.up hr hl (by simpa using hf)⟩
theorem KP.chg {f : Nat -> Nat} {L : List PE} (h : KP f L) (hr : Srt rootP) {r : Int} {A : List Nat} (hE : chgE r L A = 0) : ∃ g, KP g (chgL r L A) := by
 unfold chgE at hE; unfold chgL
 split
 ·rename_i e; rw [if_pos e] at hE; exact h.mov hr (.inl rfl) hE
 ·rename_i e
  rw [if_neg e] at hE
  split
  ·rename_i e; rw [if_pos e] at hE; exact h.mov hr (.inr (.inl rfl)) hE
  ·rename_i e
   rw [if_neg e] at hE
   split
   ·rename_i e; rw [if_pos e] at hE; exact h.mov hr (.inr (.inr rfl)) hE
   ·exact ⟨f, h⟩
theorem ywy {c : Int} (h : kpQ c = true) : kpS c = false := by
 simp only [kpQ, kpS, Bool.and_eq_true, decide_eq_true_eq, Bool.or_eq_false_iff, Bool.and_eq_false_iff, decide_eq_false_iff_not] at *
 omega
theorem ywv {L : List PE} {s : List Int} {l : List Nat} (h : withE L s l = 0) : 1 <= s.length := by
 unfold withE at h
 split at h
 ·cases h
 ·rename_i hb
  rcases Nat.lt_or_ge s.length 1 with h1 | h1
  ·refine absurd ?_ hb; unfold badA; rw [decide_eq_true h1, Bool.true_or, Bool.true_or, Bool.true_or]
  ·exact h1
theorem KP.rul {f : Nat -> Nat} {t : ST} (h : KP f t.L) (hr : Srt rootP) (hg : GoodT t.L) {r : S6.RV} (hE : rulE t r = 0) (hq : kpR r = true) : ∃ g, KP g (rulS t r).L := by
 by_cases h1 : r.rel = 1
 ·unfold rulS; rw [if_pos h1]; exact ⟨f, h⟩
 ·cases hA : t.A with
  | none => unfold rulE at hE; rw [if_neg h1, hA] at hE; cases hE
  | some A =>
   obtain ⟨hc, hw⟩ := ygu h1 hA hE; rw [yke h1 hA]; obtain ⟨g, hg2⟩ := h.chg hr hc; refine ⟨g, ⟨fun s hs => ?_, hg2.nul, hg2.ord, hg2.lt⟩⟩
   rw [yub (ygl hg).srt]
   ·exact hg2.lk s hs
   ·intro e
    have e : r.seq = s := e
    subst e; have hl := ywv hw; unfold kpR at hq; rw [decide_eq_false h1, Bool.false_or] at hq
    cases hseq : r.seq with
    | nil => rw [hseq] at hl; simp at hl
    | cons c u =>
     rw [hseq] at hq hs; simp only [List.all_cons, Bool.and_eq_true] at hq; rw [show hd (c :: u) = c from rfl, ywy hq.1] at hs
     cases hs
theorem KP.rls (hr : Srt rootP) : ∀ (l : List S6.RV) (t : ST) (f : Nat -> Nat), KP f t.L -> GoodT t.L -> AnS t -> rlsE t l = 0 -> l.all kpR = true -> ∃ g, KP g (rlsS t l).L
 | [], t, f, h, hg, ha, hE, hq => ⟨f, h⟩
 | r :: l, t, f, h, hg, ha, hE, hq => by
  unfold rlsE at hE; simp only [List.all_cons, Bool.and_eq_true] at hq
  by_cases h0 : rulE t r = 0
  ·rw [if_neg (by simp [h0])] at hE
   obtain ⟨g, h2⟩ := h.rul hr hg h0 hq.1; exact KP.rls hr l (rulS t r) g h2 (ypj hg ha h0) (ylj hg ha h0) hE hq.2
  ·rw [if_pos h0] at hE; exact absurd hE h0
theorem yww : KP (fun x => x) rootP where
 lk s hs := by
  rw [show List.map (fun x : Nat => x) = id from by funext l; simp]
  simp
 nul lv hl x hx := Iff.rfl
 ord lv hl x y hx hy := Iff.rfl
 lt x hx := by
  obtain ⟨e, he, -, hm⟩ := hx; exact (root_good.els e he).2 x hm
theorem kp_app {l : List S6.RV} (hE : Go.Proofs.YtichfdjjbafeiaaGreat.appE rootP l = 0) (hq : l.all kpR = true) : ∃ g, KP g (appL rootP l) := by
 unfold Go.Proofs.YtichfdjjbafeiaaGreat.appE at hE
 by_cases h0 : rlsE ⟨rootP, none⟩ l = 0
 ·exact KP.rls root_good.srt l ⟨rootP, none⟩ _ yww root_good (fun A e => by cases e) h0 hq
 ·rw [if_pos h0] at hE; exact absurd hE h0
theorem ywx : (List.range 123).all (fun c => !kpS (c : Int) || (look rootP [(c : Int)]).isSome) = true := by decide +kernel
theorem kp_has {c : Int} (h : kpS c = true) : (look rootP [c]).isSome = true := by
 have hr : 0 <= c /\ c < 123 := by
  simp only [kpS, Bool.and_eq_true, decide_eq_true_eq, Bool.or_eq_true] at h
  omega
 have h1 := List.all_eq_true.1 ywx c.toNat (List.mem_range.2 (by omega))
 rw [show ((c.toNat : Nat) : Int) = c by omega, h] at h1
 simpa using h1
theorem ymo (L : List PE) (ss : List Int) (n : Nat) : atF L ss (n + 1) = match look L (ss.take (n + 1)) with | some l => (l, n + 1) | none => atF L ss n := rfl
theorem kp_atF {f : Nat -> Nat} {L : List PE} (h : KP f L) {c : Int} {u : List Int} (hc : kpS c = true) : ∀ n, (atF L (c :: u) (n + 1)).1 = (atF rootP (c :: u) (n + 1)).1.map f /\ (atF L (c :: u) (n + 1)).2 = (atF rootP (c :: u) (n + 1)).2 /\ ∀ x ∈ (atF rootP (c :: u) (n + 1)).1, kpW x
 | 0 => by
  have hs := kp_has hc; have hk := h.lk [c] hc; obtain ⟨l, hl⟩ := Option.isSome_iff_exists.1 hs; rw [hl] at hk; unfold atF; simp only [List.take_succ_cons, List.take_zero]; rw [hk, hl]; exact ⟨rfl, rfl, fun x hx => ⟨_, yff hl, hc, hx⟩⟩
 | n + 1 => by
  have ih := kp_atF h (u := u) hc n; have hk := h.lk ((c :: u).take (n + 1 + 1)) hc; rw [ymo L (c :: u) (n + 1), ymo rootP (c :: u) (n + 1), hk]
  cases hl : look rootP ((c :: u).take (n + 1 + 1)) with
  | none => exact ih
  | some l => exact ⟨rfl, rfl, fun x hx => ⟨_, yff hl, hc, hx⟩⟩
theorem kp_els {f : Nat -> Nat} {L : List PE} (h : KP f L) : ∀ (n : Nat) (ss : List Int), ss.length <= n -> ss.all kpS = true -> elsP L ss = (elsP rootP ss).map f /\ ∀ x ∈ elsP rootP ss, kpW x
 | n, [], hn, hq => by rw [yby, yby]; exact ⟨rfl, fun x hx => by cases hx⟩
 | 0, c :: u, hn, hq => by simp at hn
 | n + 1, c :: u, hn, hq => by
  have hc : kpS c = true := by simp only [List.all_cons, Bool.and_eq_true] at hq; exact hq.1
  have hp : 0 < (c :: u).length := by simp
  have hu := ycl rootP hp; obtain ⟨m, hm⟩ : ∃ m, min 3 (c :: u).length = m + 1 := ⟨min 3 (c :: u).length - 1, by simp only [List.length_cons]; omega⟩
  have ha := kp_atF h (u := u) hc m
  have e1 : atP L (c :: u) = atF L (c :: u) (m + 1) := by unfold atP; rw [hm]
  have e2 : atP rootP (c :: u) = atF rootP (c :: u) (m + 1) := by unfold atP; rw [hm]
  rw [<- e1, <- e2] at ha; rw [ycc L hp, ycc rootP hp, ha.1, ha.2.1, List.map_append]
  have ih := kp_els h n ((c :: u).drop (atP rootP (c :: u)).2) (by rw [List.length_drop]; simp only [List.length_cons] at hn |-; omega) (by
   rw [List.all_eq_true] at hq |-; exact fun x hx => hq x (List.mem_of_mem_drop hx))
  rw [ih.1]; refine ⟨rfl, fun x hx => ?_⟩
  rcases List.mem_append.1 hx with hx | hx
  ·exact ha.2.2 x hx
  ·exact ih.2 x hx
def nzL (lv : Nat) (X : List Nat) : List Nat := X.filter fun x => !decide (wgt lv x = 0)
theorem yhx {f : Nat -> Nat} {lv : Nat} {X : List Nat} (h : ∀ x ∈ X, (wgt lv (f x) = 0 ↔ wgt lv x = 0)) : nzW lv (X.map f) = (nzL lv X).map (fun x => ((wgt lv (f x) : Nat) : Int)) := by
 induction X with
 | nil => rfl
 | cons x t ih =>
  have hx := h x (List.mem_cons_self ..); rw [List.map_cons, yhy, ih fun y hy => h y (List.mem_cons_of_mem _ hy)]
  unfold nzL; rw [List.filter_cons]
  by_cases e : wgt lv x = 0
  ·rw [if_pos (hx.2 e), if_neg (by simp [e])]
  ·rw [if_neg (fun h => e (hx.1 h)), if_pos (by simp [e])]; rfl
theorem ymi {a b : Nat -> Int} {p : Nat -> Prop} (h : ∀ x y, p x -> p y -> (a x < a y ↔ b x < b y)) : ∀ (X Y : List Nat), (∀ x ∈ X, p x) -> (∀ x ∈ Y, p x) -> cmpW (X.map a) (Y.map a) = cmpW (X.map b) (Y.map b)
 | [], [], _, _ => rfl
 | [], _ :: _, _, _ => rfl
 | _ :: _, [], _, _ => rfl
 | x :: X, y :: Y, hX, hY => by
  have px := hX x (List.mem_cons_self ..); have py := hY y (List.mem_cons_self ..); have h1 := h x y px py; have h2 := h y x py px; have ih := ymi h X Y (fun z hz => hX z (List.mem_cons_of_mem _ hz)) (fun z hz => hY z (List.mem_cons_of_mem _ hz))
  rw [List.map_cons, List.map_cons, List.map_cons, List.map_cons]; unfold cmpW
  by_cases e : b x = b y
  ·rw [if_pos e, if_pos (by omega), ih]
  ·rw [if_neg e, if_neg (by omega)]
   by_cases e2 : b x < b y
   ·rw [if_pos e2, if_pos (h1.2 e2)]
   ·rw [if_neg e2, if_neg (fun e3 => e2 (h1.1 e3))]
theorem kp_cmp {f : Nat -> Nat} {L : List PE} (h : KP f L) {a b : List Int} (ha : a.all kpS = true) (hb : b.all kpS = true) {lv : Nat} (hl : Lv lv) : cmpW (nzW lv (elsP L a)) (nzW lv (elsP L b)) = cmpW (nzW lv (elsP rootP a)) (nzW lv (elsP rootP b)) := by
 obtain ⟨e1, w1⟩ := kp_els h a.length a (zN _) ha; obtain ⟨e2, w2⟩ := kp_els h b.length b (zN _) hb; rw [e1, e2]; obtain ⟨X, hX⟩ : ∃ X, elsP rootP a = X := ⟨_, rfl⟩; obtain ⟨Y, hY⟩ : ∃ X, elsP rootP b = X := ⟨_, rfl⟩; rw [hX] at w1 |-; rw [hY] at w2 |-; rw [yhx fun x hx => h.nul lv hl x (w1 x hx), yhx fun x hx => h.nul lv hl x (w2 x hx)]
 have i1 := yhx (f := fun x => x) (lv := lv) (X := X) fun x hx => Iff.rfl
 have i2 := yhx (f := fun x => x) (lv := lv) (X := Y) fun x hx => Iff.rfl
 rw [List.map_id'] at i1 i2; rw [i1, i2]; refine ymi (p := kpW) (fun x y hx hy => ?_) _ _ (fun x hx => w1 x (List.mem_filter.1 hx).1) (fun x hx => w2 x (List.mem_filter.1 hx).1)
 have := h.ord lv hl x y hx hy
 omega
theorem yfn : ∀ {l : List UInt8}, l.all kpB = true -> (T2.sgs l).all kpS = true
 | [], h => rfl
 | x :: t, h => by
  simp only [List.all_cons, Bool.and_eq_true] at h
  have hx : x.toNat < 128 := by
   have := h.1
   simp only [kpB, kpS, Bool.and_eq_true, decide_eq_true_eq, Bool.or_eq_true] at this
   omega
  have hd : T2.dec (x :: t) = (x.toNat, 1) := by
   unfold T2.dec; rw [T2.yal, if_pos hx]
  rw [T2.ybv (by simp), hd, List.all_cons, List.drop_one, List.tail_cons, yfn h.2, Bool.and_true]
  exact h.1
end Go.Proofs.YtichfdjjbafeiaaGreat
