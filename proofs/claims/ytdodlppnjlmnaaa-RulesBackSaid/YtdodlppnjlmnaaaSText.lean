/-
  THE CONTRACT of the program's Text.
-/
import Derived.Test.YtdodlppnjlmnaaaSEqf
import Derived.Test.YtdodlppnjlmnaaaSLaw1
import Derived.Lib.Join
namespace Go.Proofs.Ytdodlppnjlmnaaa
open Go.RowKit
set_option linter.unusedVariables false
set_option linter.unusedSimpArgs false
def sv (ss : List ByteArray) : List Value := ss.map Value.string
def OwnS (B : Nat) (w : World) (v : Value) (ss : List ByteArray) : Prop := w.ownsRow B 9 1 v ss.length (sv ss)
theorem OwnS.below {B B' : Nat} {w w' : World} {v : Value} {ss : List ByteArray} (h : OwnS B w v ss) (hb : Below B' w w') (hB : w.heap.size ≤ B') : OwnS B w' v ss := R4.own_below h hb hB
theorem OwnS.form {B : Nat} {w : World} {v : Value} {ss : List ByteArray} (h : OwnS B w v ss) : ∃ A c, v = .slice A ss.length c := by
  obtain ⟨A, c, e, _⟩ := R4.own_parts h
  exact ⟨A, c, e⟩
theorem str_info : (Try.prog.info? 9).map (fun i => (i.zero, i.size, i.bytes)) = some (some (.string ByteArray.empty), 1, 16) := by kernel_rfl
/-- append of two strings. -/
theorem pushS {ops : Array Oper} {rest : List Oper} {o : Oper} {a : Act} {Q : Exit → Act → World → Prop} (hgd : o.guard = none) (s x : Operand)
    (ho : o.op = .call { callee := .builtin .append, args := #[s, x], argTypes := #[57, 57] })
    (w0 : World) (B : Nat) (v : Value) (ss : List ByteArray) (t u : ByteArray) {N : Nat} (hs : a.eval s = v) (hown : OwnS B w0 v ss) (hN : w0.heap.size = N) (hx : a.eval x = .slice (some ⟨N, 0, none⟩) 2 2)
    (hB : B ≤ w0.heap.size) (hl : ss.length + 2 ≤ 1000000)
    (h : ∀ v' w', OwnS B w' v' (ss ++ [t, u]) → (w0.alloc (.cells #[.string t, .string u] 9)).grownBy w' v.ownBlock → Below B w0 w' → wpList Try.prog ops Q rest (a.put o.dst v') w') : wpList Try.prog ops Q (o :: rest) a (w0.alloc (.cells #[.string t, .string u] 9)) := by
  subst hN
  obtain ⟨i0, hi0, hz0, hz1, hz2⟩ := info_parts str_info
  have hb1 : Below B w0 (w0.alloc (.cells #[.string t, .string u] 9)) := (Below.refl B w0).alloc hB _
  have hb2 : B ≤ (w0.alloc (.cells #[.string t, .string u] 9)).heap.size := Nat.le_trans hB hb1.size
  refine appendG Try.underlying57 hi0 hz0 hz1 hz2 rfl (by omega) (by omega) hgd s x ho _ B v ss.length (sv ss) hs (World.ownsRow.alloc hown _) hx (RdF.new (n := 2) w0 (sv [t, u]) 9 (Nat.le_refl 2)) rfl ?_ hb2 hl ?_
  · intro y hy
    have hy : y ∈ ([.string t, .string u] : List Value) := hy
    simp only [List.mem_cons, List.not_mem_nil, or_false] at hy
    rcases hy with rfl | rfl <;> rfl
  · intro v' w' h1 h2 h3
    refine h v' w' ?_ h2 (hb1.trans h3)
    unfold OwnS
    rw [show sv (ss ++ [t, u]) = sv ss ++ sv [t, u] from by simp [sv], List.length_append]
    exact h1
theorem R3.grown {T E : TypeId} {w w' : World} {B h s n : Nat} {a b c v : Value} {xs : List Value} (x : R3 T w h a b c) (ho : w.ownsRow B E s v n xs) (hne : T ≠ E) (hg : w.grownBy w' v.ownBlock) : R3 T w' h a b c :=
  (hg.block h x.lt (R4.own_apart ho x hne)).trans x
theorem R3.below {T : TypeId} {w w' : World} {h : Nat} {a b c : Value} (x : R3 T w h a b c) (hb : Below w.heap.size w w') : R3 T w' h a b c := x.low hb x.lt
/-- The words of rules, as Text gathers them. -/
def ruleW (x : RV) : List (List UInt8) := [mk x.rel.toNat, spl x.seq] ++ (if x.exp.length = 0 then [] else [[47], spl x.exp])
def wordsW (l : List RV) : List (List UInt8) := l.flatMap ruleW
def jn : List (List UInt8) → List UInt8
  | [] => []
  | [x] => x
  | x :: y :: t => x ++ [32] ++ jn (y :: t)
theorem join_jn : ∀ (xs : List (List UInt8)), Lib.join xs [32] = jn xs
  | [] => rfl
  | [x] => by simp [Lib.join, List.intercalate, jn]
  | x :: y :: t => by
    have ih := join_jn (y :: t)
    unfold Lib.join List.intercalate at ih ⊢
    rw [List.intersperse_cons_cons, List.flatten_cons, List.flatten_cons, ih, jn, List.append_assoc]
theorem jn_app : ∀ (xs ys : List (List UInt8)), xs ≠ [] → ys ≠ [] → jn (xs ++ ys) = jn xs ++ [32] ++ jn ys
  | [], ys, h, _ => absurd rfl h
  | [x], y :: t, _, _ => by rw [List.singleton_append, jn, jn]
  | [x], [], _, h => absurd rfl h
  | x :: z :: t, ys, _, h => by
    rw [List.cons_append, List.cons_append, jn, ← List.cons_append, jn_app (z :: t) ys (by simp) h, jn]
    simp only [List.append_assoc]
def textW (l : List RV) : List UInt8 := jn (wordsW l)
theorem ruleW_ne (x : RV) : ruleW x ≠ [] := by unfold ruleW; simp
theorem ruleW_jn {x : RV} (h : okR x = true) : jn (ruleW x) = ruleT x := by
  simp only [okR, Bool.and_eq_true, decide_eq_true_eq] at h
  obtain ⟨⟨⟨h1, h2⟩, h3⟩, h4⟩ := h
  unfold ruleW ruleT
  rw [spl_all h3, spl_all h4]
  by_cases he : x.exp.length = 0
  · rw [if_pos he, if_pos he, List.append_nil, List.append_nil]; rfl
  · rw [if_neg he, if_neg he]
    show mk x.rel.toNat ++ [32] ++ (wrd x.seq ++ [32] ++ ([47] ++ [32] ++ wrd x.exp)) = _
    simp only [List.append_assoc, List.cons_append, List.nil_append]
theorem textW_ok : ∀ (l : List RV), l.all okR = true → textW l = txt l
  | [], _ => rfl
  | [x], h => by
    simp only [List.all_cons, List.all_nil, Bool.and_true] at h
    show jn (ruleW x ++ []) = ruleT x
    rw [List.append_nil, ruleW_jn h]
  | x :: y :: t, h => by
    have h1 : okR x = true ∧ (y :: t).all okR = true := by simpa [List.all_cons] using h
    have ih := textW_ok (y :: t) h1.2
    unfold textW at ih ⊢
    have hw : wordsW (x :: y :: t) = ruleW x ++ wordsW (y :: t) := rfl
    rw [hw, jn_app _ _ (ruleW_ne x) (by
      show ruleW y ++ wordsW t ≠ []
      intro e
      exact ruleW_ne y (List.append_eq_nil_iff.1 e).1), ih, ruleW_jn h1.1]
    rfl
/-- What Text answers. -/
theorem text_good (l : List RV) : (if (parse (textW l)).2.2 = 0 ∧ (parse (textW l)).1 = l then ((textW l, 0) : List UInt8 × Nat) else ([], 1)) = if good l = true then (txt l, 0) else ([], 1) := by
  by_cases hg : good l = true
  · have h2 : l.all okR = true := by
      simp only [good, Bool.and_eq_true] at hg; exact hg.1.1
    have hp := good_parse hg
    rw [if_pos hg, textW_ok l h2, hp, if_pos ⟨rfl, rfl⟩]
  · rw [if_neg hg, if_neg]
    rintro ⟨h1, h2⟩
    apply hg
    have h3 : l.all okR = true := by rw [← h2]; exact parse_okR _
    rw [textW_ok l h3] at h1 h2
    unfold good
    rw [h3, decide_eq_true h1, decide_eq_true h2]; rfl
theorem jn_len : ∀ (xs : List (List UInt8)) (m : Nat), (∀ x ∈ xs, x.length ≤ m) → (jn xs).length ≤ xs.length * (m + 1)
  | [], m, h => Nat.zero_le _
  | [x], m, h => by have := h x (by simp); rw [jn]; simp; omega
  | x :: y :: t, m, h => by
    have h1 := h x (by simp)
    have ih := jn_len (y :: t) m (fun z hz => h z (by simp [hz]))
    rw [jn]
    simp only [List.length_append, List.length_cons, List.length_nil] at ih ⊢
    have : (t.length + 1 + 1) * (m + 1) = (t.length + 1) * (m + 1) + (m + 1) := Nat.succ_mul _ _
    omega
/-- Rules that are not too great for the law. -/
def RVs (l : List RV) : Prop := l.length ≤ 60 ∧ ∀ x ∈ l, x.seq.length ≤ 20 ∧ x.exp.length ≤ 20
theorem RVs.ok {l : List RV} (h : RVs l) : RVok l := ⟨by have := h.1; omega, fun x hx => by have := h.2 x hx; omega⟩
theorem mk_len (n : Nat) : (mk n).length ≤ 100 := by unfold mk; split <;> simp
theorem wordsW_mem {l : List RV} (h : RVs l) : ∀ z ∈ wordsW l, z.length ≤ 100 := by
  intro z hz
  obtain ⟨x, hx, hz⟩ := List.mem_flatMap.1 hz
  have hl := h.2 x hx
  have a1 := spl_len x.seq
  have a2 := spl_len x.exp
  have a3 := mk_len x.rel.toNat
  unfold ruleW at hz
  split at hz
  · simp only [List.append_nil, List.mem_cons, List.not_mem_nil, or_false] at hz
    rcases hz with rfl | rfl <;> omega
  · simp only [List.cons_append, List.nil_append, List.mem_cons, List.not_mem_nil, or_false] at hz
    rcases hz with rfl | rfl | rfl | rfl
    · omega
    · omega
    · simp
    · omega
theorem ruleW_len (x : RV) : (ruleW x).length ≤ 4 := by unfold ruleW; split <;> simp
theorem wordsW_len (l : List RV) : (wordsW l).length ≤ 4 * l.length := by
  induction l with
  | nil => exact Nat.le_refl _
  | cons x t ih =>
    have := ruleW_len x
    show (ruleW x ++ wordsW t).length ≤ _
    rw [List.length_append, List.length_cons]; omega
theorem wordsW_next {l : List RV} {k : Nat} {x : RV} (h : l[k]? = some x) : wordsW (l.take (k + 1)) = wordsW (l.take k) ++ ruleW x := by
  unfold wordsW
  rw [List.take_add_one, h, List.flatMap_append]
  simp
theorem textW_len {l : List RV} (h : RVs l) : (textW l).length ≤ 30000 := by
  have h1 := jn_len (wordsW l) 100 (wordsW_mem h)
  have h2 := wordsW_len l
  have h3 := h.1
  unfold textW
  have : (wordsW l).length * (100 + 1) ≤ 240 * 101 := Nat.mul_le_mul (by omega) (Nat.le_refl _)
  omega
theorem ba_ext {a b : ByteArray} (h : a.data.toList = b.data.toList) : a = b := by
  cases a; cases b
  simp only at h
  rw [Array.toList_inj.1 h]
abbrev SP : ByteArray := ⟨#[32]⟩
theorem join_any {w : World} {B : Nat} {A : Option Addr} {n c : Nat} {ss : List ByteArray} (ho : OwnS B w (.slice A n c) ss) {T : ByteArray} (hT : T.data.toList = jn (ss.map (·.data.toList))) (hl : T.size ≤ 1000000) (hs : ss.length ≤ 1000000) :
    Calls Try.prog 23 #[.slice A n c, .string SP] w fun e w' => e = .returned (.string T) ∧ Below w.heap.size w w' := by
  obtain ⟨A', c', e, hc, hr⟩ := R4.own_parts ho
  cases e
  cases ss with
  | nil =>
    have : T = ⟨#[]⟩ := ba_ext (by rw [hT]; rfl)
    subst this
    exact (Try.strings_Join_none A c SP w).mono fun e w' hh => ⟨hh.1, by rw [hh.2]; exact Below.refl _ _⟩
  | cons a t =>
    obtain ⟨g, rfl, -, hlt, hcell⟩ := hr (by simp)
    have hj : Lib.join ((a :: t).map (·.data.toList)) SP.data.toList = T.data.toList := by rw [hT]; exact join_jn _
    have := Try.strings_Join g 0 c (a :: t) SP w (fun j x hx => by rw [Nat.zero_add]; exact hcell j _ (by unfold sv; rw [List.getElem?_map, hx]; rfl)) hlt (by omega) hc (by rw [hj, T2.ba_len]; omega)
    rw [hj] at this
    exact this
set_option maxRecDepth 100000 in
set_option maxHeartbeats 4000000 in
theorem text_words {w : World} {v : Value} {l : List RV} (h : RdRs w v l) (hl : RVs l) (hM : MaxL w) {T : ByteArray} (hT : T.data.toList = textW l) {r : Nat} {t : ByteArray} {pl : List RV} {at' E : Nat} (hp : parse T.data.toList = (pl, at', E))
    (hr : if E = 0 ∧ pl = l then r = 0 ∧ t = T else r = 1 ∧ t = ⟨#[]⟩) :
    Calls Try.prog 10 #[v] w fun e w' => e = .returned (.tuple #[.string t, .int .i64 (r : Nat)]) ∧ Below w.heap.size w w' := by
  obtain ⟨A, c, rfl⟩ := h.form
  have HV := Lib.hid h
  have HM := Lib.hid hM
  have hRs := hl
  obtain ⟨n, hn⟩ : ∃ n, l.length = n := ⟨_, rfl⟩
  have hn60 : n ≤ 60 := by rw [← hn]; exact hl.1
  rw [hn] at HV ⊢
  have hcap := HV.out.cap
  have HN := Lib.hid hn
  have HRS := Lib.hid hRs
  have HT := Lib.hid hT
  have HR := Lib.hid hr
  have HB0 := Lib.hid (Below.refl w.heap.size w)
  have htl := textW_len hRs
  have hTs : T.size ≤ 1000000 := by rw [← T2.ba_len, hT]; omega
  have HPA := Lib.hid (fun w => par_form (s := T) w hTs hp)
  have hplo := parse_ok T.data.toList
  rw [hp] at hplo
  have HEQ := Lib.hid (fun (w : World) (u v : Value) (hu : RdRs w u pl) (hv : RdRs w v l) (q : Bool) (hq : decide (pl = l) = q) => eqf_any hu hv hplo hRs.ok.1 hq)
  clear h hM hn hl hRs hT hr hp hplo htl
  go_enter Try.func10, Try.ntmps10
  go_wp2
  go_loopg [4, 13] n (fun f wv i wr => ∃ (k : Nat) (ss : List ByteArray), k ≤ n ∧ i = .int .i64 (k : Nat) ∧ f = n - k ∧ Hid (ss.map (·.data.toList) = wordsW (l.take k)) ∧ Hid (OwnS w.heap.size wr wv ss) ∧ Hid (Below w.heap.size w wr))
  case atStart => exact ⟨0, [], Nat.zero_le _, rfl, rfl, rfl, World.ownsRow_nil w _ _ 1, HB0.out⟩
  case round =>
    obtain ⟨k, ss, hk, rfl, rfl, HSS, HO, HW⟩ := hrel
    clear HB0
    obtain ⟨Aw, cw, rfl⟩ := HO.out.form
    obtain ⟨nw, hnw⟩ : ∃ m, ss.length = m := ⟨_, rfl⟩
    have HNW := Lib.hid hnw
    have hsl : nw ≤ 4 * k := by
      have h1 := wordsW_len (l.take k)
      rw [← HSS.out, List.length_map, hnw, List.length_take, HN.out] at h1; omega
    rw [hnw] at HO ⊢
    clear hnw
    by_cases hlt : k < n
    · obtain ⟨x, hx⟩ : ∃ x, l[k]? = some x := ⟨_, List.getElem?_eq_getElem (by rw [HN.out]; exact hlt)⟩
      obtain ⟨g, o, A1, n1, p1, A2, n2, p2, rfl, c0, c1, c2, r1, r2, rfl, rfl⟩ := HV.out.at' hx
      replace c0 := cell_call HW.out c0
      replace c1 := cell_call HW.out c1
      replace c2 := cell_call HW.out c2
      have hxm := HRS.out.2 x (List.mem_of_getElem? hx)
      have hltI : (k : Int) < (n : Int) := by omega
      have hkc : (k : Int) < (c : Int) := by omega
      have HNX := Lib.hid (wordsW_next hx)
      have HX1 := Lib.hid r1
      have HX2 := Lib.hid r2
      obtain ⟨xr, hxr⟩ : ∃ z, x.rel = z := ⟨_, rfl⟩
      have HXR := Lib.hid hxr
      obtain ⟨xs, hxs⟩ : ∃ z, x.seq = z := ⟨_, rfl⟩
      obtain ⟨xe, hxe⟩ : ∃ z, x.exp = z := ⟨_, rfl⟩
      have HXS := Lib.hid hxs
      have HXE := Lib.hid hxe
      rw [hxr] at c0
      rw [hxs] at HX1 c1 hxm
      rw [hxe] at HX2 c2 hxm
      obtain ⟨es, hes⟩ : ∃ z, xs.length = z := ⟨_, rfl⟩
      obtain ⟨ee, hee⟩ : ∃ z, xe.length = z := ⟨_, rfl⟩
      rw [hes] at HX1 c1 hxm
      rw [hee] at HX2 c2 hxm
      have HEE := Lib.hid hee
      obtain ⟨tm, htm⟩ : ∃ t, mkS xr = t := ⟨_, rfl⟩
      have HMK := Lib.hid (mark_any htm)
      have hxl1 : xs.length ≤ 1000 := by omega
      have hxl2 : xe.length ≤ 1000 := by omega
      have HSP1 := Lib.hid (fun (w' : World) (hw : Below w.heap.size w w') (hm : MaxL w') => spell_any (RdI.below HX1.out hw (Nat.le_refl _)) hxl1 hm)
      have HSP2 := Lib.hid (fun (w' : World) (hw : Below w.heap.size w w') (hm : MaxL w') => spell_any (RdI.below HX2.out hw (Nat.le_refl _)) hxl2 hm)
      obtain ⟨ts, hts⟩ : ∃ t : ByteArray, (⟨(spl xs).toArray⟩ : ByteArray) = t := ⟨_, rfl⟩
      obtain ⟨te, hte⟩ : ∃ t : ByteArray, (⟨(spl xe).toArray⟩ : ByteArray) = t := ⟨_, rfl⟩
      rw [hts] at HSP1
      rw [hte] at HSP2
      have hwx : ruleW x = [tm.data.toList, ts.data.toList] ++ (if ee = 0 then [] else [[47], te.data.toList]) := by
        unfold ruleW
        rw [hxr, hxs, hxe, hee, ← htm, mkS_list, ← hts, ← hte]
      have HWX := Lib.hid hwx
      have HLs : Hid (ss.length + 2 ≤ 1000000) := by show _ ≤ _; rw [HNW.out]; omega
      have hwb := alloc_below wr (.cells #[.int .i64 xr, .slice A1 es p1, .slice A2 ee p2] 43)
      have HWB := Lib.hid hwb
      have HXX := Lib.hid (R3.new 43 wr (.int .i64 xr) (.slice A1 es p1) (.slice A2 ee p2))
      obtain ⟨S, hS0⟩ : ∃ S : World → Prop, S = fun w' => w'.cell? ⟨wr.heap.size, 0, none⟩ = some (.int .i64 xr) ∧ w'.cell? ⟨wr.heap.size, 1, none⟩ = some (.slice A1 es p1) ∧ w'.cell? ⟨wr.heap.size, 2, none⟩ = some (.slice A2 ee p2) := ⟨_, rfl⟩
      have hS := Lib.hid hS0
      have HSx : Hid (∀ w', R3 43 w' wr.heap.size (.int .i64 xr) (.slice A1 es p1) (.slice A2 ee p2) → S w') := fun w' hx => by rw [hS0]; exact ⟨hx.c0, hx.c1, hx.c2⟩
      clear hS0 hx r1 r2 hxr hxs hxe hes hee htm hxl1 hxl2 hts hte hwx hwb hxm
      go_wp2
      generalize wr.alloc (.cells #[.int .i64 xr, .slice A1 es p1, .slice A2 ee p2] 43) = w1 at HWB HXX ⊢
      have HXz : Hid (R3 43 w1.drew wr.heap.size (.int .i64 xr) (.slice A1 es p1) (.slice A2 ee p2)) := HXX.out.below (below_drewN w1 1)
      have HWz : Hid (Below wr.heap.size wr w1.drew) := HWB.out.drew
      have HSz := Lib.hid (HSx.out _ HXz.out)
      refine R4.till_region (m := 8) (S := S) (by kernel_rfl) ?_
      generalize w1.drew = wz at HXz HWz HSz ⊢
      refine R4.till_slot (i := 0) (d := 17) (v := ?_) rfl (by kernel_rfl) (by kernel_rfl) (by omega) (by kernel_rfl) (by kernel_rfl) (fun _ _ _ h => h) (Or.inl ⟨by rfl, ?_⟩) HSz.out ?_
      rotate_left
      · intro w' hSw; rw [hS.out] at hSw; obtain ⟨s1, s2, s3⟩ := hSw; go_simp <;> with_reducible rfl
      try simp only [List.setIfInBounds_toArray, List.set_cons_zero, List.set_cons_succ]
      refine R4.till_slot (i := 1) (d := 18) (v := ?_) rfl (by kernel_rfl) (by kernel_rfl) (by omega) (by kernel_rfl) (by kernel_rfl) (fun _ _ _ h => h) (Or.inl ⟨by rfl, ?_⟩) HSz.out ?_
      rotate_left
      · intro w' hSw; rw [hS.out] at hSw; obtain ⟨s1, s2, s3⟩ := hSw; go_simp <;> with_reducible rfl
      try simp only [List.setIfInBounds_toArray, List.set_cons_zero, List.set_cons_succ]
      refine R4.till_slot (i := 2) (d := 19) (v := ?_) rfl (by kernel_rfl) (by kernel_rfl) (by omega) (by kernel_rfl) (by kernel_rfl) (fun _ _ _ h => h) (Or.inl ⟨by rfl, ?_⟩) HSz.out ?_
      rotate_left
      · intro w' hSw; rw [hS.out] at hSw; obtain ⟨s1, s2, s3⟩ := hSw; go_simp <;> with_reducible rfl
      try simp only [List.setIfInBounds_toArray, List.set_cons_zero, List.set_cons_succ]
      refine R4.till_slot (i := 4) (d := 21) (v := ?_) rfl (by kernel_rfl) (by kernel_rfl) (by omega) (by kernel_rfl) (by kernel_rfl) (fun _ _ _ h => h) (Or.inl ⟨by rfl, ?_⟩) HSz.out ?_
      rotate_left
      · intro w' hSw; rw [hS.out] at hSw; obtain ⟨s1, s2, s3⟩ := hSw; go_simp <;> with_reducible rfl
      try simp only [List.setIfInBounds_toArray, List.set_cons_zero, List.set_cons_succ]
      refine R4.till_slot (i := 5) (d := 22) (v := ?_) rfl (by kernel_rfl) (by kernel_rfl) (by omega) (by kernel_rfl) (by kernel_rfl) (fun _ _ _ h => h) (Or.inl ⟨by rfl, ?_⟩) HSz.out ?_
      rotate_left
      · intro w' hSw; rw [hS.out] at hSw; obtain ⟨s1, s2, s3⟩ := hSw; go_simp <;> with_reducible rfl
      try simp only [List.setIfInBounds_toArray, List.set_cons_zero, List.set_cons_succ]
      refine R4.till_one (i := 3) rfl (by kernel_rfl) (by omega) (fun K hK => ?_)
      have HK := Lib.hid hK
      clear hK
      go_simp
      go_at_call 21
      (with_reducible refine (HMK.out _).mono ?_)
      rintro e w2 ⟨rfl, rfl⟩
      refine HK.out _ _ HSz.out ?_
      clear HK K
      try simp only [List.setIfInBounds_toArray, List.set_cons_zero, List.set_cons_succ]
      refine R4.till_one (i := 6) rfl (by kernel_rfl) (by omega) (fun K hK => ?_)
      have HK := Lib.hid hK
      clear hK
      go_simp
      go_at_call 22
      (with_reducible refine (HSP1.out _ (HW.out.trans (HWz.out.mono HW.out.size)) ((HM.out.below HW.out (Nat.le_refl _)).below HWz.out (Nat.le_refl _))).mono ?_)
      rintro e w2 ⟨rfl, hb2⟩
      have HX2' := Lib.hid (HXz.out.below hb2)
      have HW2 := Lib.hid (HWz.out.trans (hb2.mono HWz.out.size))
      clear hb2
      refine HK.out _ _ (HSx.out _ HX2'.out) ?_
      clear HK K
      try simp only [List.setIfInBounds_toArray, List.set_cons_zero, List.set_cons_succ]
      refine R4.till_one (i := 7) rfl (by kernel_rfl) (by omega) (fun K hK => ?_)
      have HK := Lib.hid hK
      clear hK
      go_simp
      refine HK.out _ _ (HSx.out _ (HX2'.out.below (alloc_below w2 (.cells #[.string tm, .string ts] 9)))) ?_
      clear HK K
      try simp only [List.setIfInBounds_toArray, List.set_cons_zero, List.set_cons_succ]
      refine R4.till_tail (k := 8) (by omega) (by kernel_rfl) (by kernel_rfl) ?_
      simp only [List.drop_succ_cons, List.drop_zero]
      have HBs : Hid (w.heap.size ≤ w2.heap.size) := Nat.le_trans HW.out.size HW2.out.size
      have HO2 := Lib.hid (HO.out.below HW2.out (Nat.le_refl _))
      by_cases hee : ee = 0
      · subst hee
        go_wp2_with (at_builtin; refine pushS rfl (.tmp 17) (.tmp 24) rfl w2 w.heap.size _ ss tm ts rfl HO2.out rfl rfl HBs.out HLs.out ?_; intro v3 w3 ho3 hg3 hb3; have HO3 := Lib.hid ho3; have HB3 := Lib.hid hb3; have HX3 := Lib.hid ((HX2'.out.below (alloc_below w2 (.cells #[.string tm, .string ts] 9))).grown (World.ownsRow.alloc HO2.out _) (by decide) hg3); have x0 := HX3.out.c0; have x1 := HX3.out.c1; have x2 := HX3.out.c2; clear ho3 hg3 hb3)
        go_roundg (n - (k + 1))
        case measure => omega
        case rel => exact ⟨k + 1, ss ++ [tm, ts], by omega, by first | rfl | (congr 1), rfl, by show _ = _; rw [HNX.out, HWX.out, ← HSS.out, List.map_append]; rfl, HO3.out, HW.out.trans ((HW2.out.mono HW.out.size).trans HB3.out)⟩
      · have heI : (0 : Int) < (ee : Int) := by omega
        have HLs2 : Hid ((ss ++ [tm, ts]).length + 2 ≤ 1000000) := by show _ ≤ _; rw [List.length_append, HNW.out]; simp; omega
        have heN : Hid (ee ≠ 0) := hee
        have tok : True := trivial
        go_wp2_with (first
          | (at_builtin; have _t := tok; refine pushS rfl (.tmp 17) (.tmp 24) rfl w2 w.heap.size _ ss tm ts rfl HO2.out rfl rfl HBs.out HLs.out ?_; intro v3 w3 ho3 hg3 hb3; have HO3 := Lib.hid ho3; have HB3 := Lib.hid (hb3 : Below w.heap.size w2 w3); have HX3 := Lib.hid ((HX2'.out.below (alloc_below w2 (.cells #[.string tm, .string ts] 9))).grown (World.ownsRow.alloc HO2.out _) (by decide) hg3); have x0 := HX3.out.c0; have x1 := HX3.out.c1; have x2 := HX3.out.c2; have HW3 := Lib.hid (HW.out.trans ((HW2.out.mono HW.out.size).trans hb3)); clear ho3 hg3 hb3; clear _t tok)
          | (go_at_call 22; refine (HSP2.out _ HW3.out (HM.out.below HW3.out (Nat.le_refl _))).mono ?_; rintro e w4 ⟨rfl, hb4⟩; have HO4 := Lib.hid (HO3.out.below hb4 (Nat.le_refl _)); have HW4 := Lib.hid (HW3.out.trans (hb4.mono HW3.out.size)); clear hb4)
          | (at_builtin; refine pushS rfl (.tmp 30) (.tmp 34) rfl w4 w.heap.size _ (ss ++ [tm, ts]) SLH te rfl HO4.out rfl rfl HW4.out.size HLs2.out ?_; intro v5 w5 ho5 hg5 hb5; have HO5 := Lib.hid ho5; have HW5 := Lib.hid (HW4.out.trans hb5); clear ho5 hg5 hb5))
        go_roundg (n - (k + 1))
        case measure => omega
        case rel => exact ⟨k + 1, ss ++ [tm, ts] ++ [SLH, te], by omega, by first | rfl | (congr 1), rfl, by show _ = _; rw [HNX.out, HWX.out, ← HSS.out, List.map_append, List.map_append, if_neg heN.out, List.append_assoc]; rfl, HO5.out, HW5.out⟩
    · have hltI : ¬ (k : Int) < (n : Int) := by omega
      have hkn : l.take k = l := List.take_of_length_le (by rw [HN.out]; omega)
      have hss := HSS.out
      rw [hkn] at hss
      have HJ := Lib.hid (join_any HO.out (T := T) (by rw [HT.out, hss]; rfl) hTs (by rw [HNW.out]; omega))
      clear hkn hss HSS
      by_cases hE : E = 0
      · subst hE
        by_cases hpl : pl = l
        · have hr2 : r = 0 ∧ t = T := by have := HR.out; rw [if_pos ⟨rfl, hpl⟩] at this; exact this
          obtain ⟨rfl, rfl⟩ := hr2
          have HQ := Lib.hid (fun (w : World) (u v : Value) hu hv => HEQ.out w u v hu hv true (decide_eq_true hpl))
          clear hpl HR
          go_wp2_with (first
            | (go_at_call 23; refine HJ.out.mono ?_; rintro e w2 ⟨rfl, hb2⟩; have HW2 := Lib.hid (HW.out.trans (hb2.mono HW.out.size)); clear hb2)
            | (go_at_call 7; refine (HPA.out _).mono ?_; rintro e w3 ⟨⟨A3, n3, c3, rfl, -, hr3⟩, hb3⟩; have HR3 := Lib.hid hr3; have HW3 := Lib.hid (HW2.out.trans (hb3.mono HW2.out.size)); clear hb3 hr3)
            | (go_at_call 24; refine (HQ.out _ _ _ HR3.out (HV.out.below HW3.out (Nat.le_refl _))).mono ?_; rintro e w4 ⟨rfl, hb4⟩; have HW4 := Lib.hid (HW3.out.trans (hb4.mono HW3.out.size)); clear hb4))
          go_ret2
          exact ⟨rfl, HW4.out⟩
        · have hr2 : r = 1 ∧ t = ⟨#[]⟩ := by have := HR.out; rw [if_neg (fun h => hpl h.2)] at this; exact this
          obtain ⟨rfl, rfl⟩ := hr2
          have HQ := Lib.hid (fun (w : World) (u v : Value) hu hv => HEQ.out w u v hu hv false (decide_eq_false hpl))
          clear hpl HR
          go_wp2_with (first
            | (go_at_call 23; refine HJ.out.mono ?_; rintro e w2 ⟨rfl, hb2⟩; have HW2 := Lib.hid (HW.out.trans (hb2.mono HW.out.size)); clear hb2)
            | (go_at_call 7; refine (HPA.out _).mono ?_; rintro e w3 ⟨⟨A3, n3, c3, rfl, -, hr3⟩, hb3⟩; have HR3 := Lib.hid hr3; have HW3 := Lib.hid (HW2.out.trans (hb3.mono HW2.out.size)); clear hb3 hr3)
            | (go_at_call 24; refine (HQ.out _ _ _ HR3.out (HV.out.below HW3.out (Nat.le_refl _))).mono ?_; rintro e w4 ⟨rfl, hb4⟩; have HW4 := Lib.hid (HW3.out.trans (hb4.mono HW3.out.size)); clear hb4))
          go_ret2
          exact ⟨rfl, HW4.out⟩
      · have hr2 : r = 1 ∧ t = ⟨#[]⟩ := by have := HR.out; rw [if_neg (fun h => hE h.1)] at this; exact this
        obtain ⟨rfl, rfl⟩ := hr2
        have hEI : ((E : Int) == 0) = false := by simp; omega
        have hEJ : ((E : Int) != 0) = true := by simp; omega
        have hEN : ¬ E = 0 := hE
        clear HR hE
        go_wp2_with (first
          | (go_at_call 23; refine HJ.out.mono ?_; rintro e w2 ⟨rfl, hb2⟩; have HW2 := Lib.hid (HW.out.trans (hb2.mono HW.out.size)); clear hb2)
          | (go_at_call 7; refine (HPA.out _).mono ?_; rintro e w3 ⟨⟨A3, n3, c3, rfl, -, hr3⟩, hb3⟩; have HR3 := Lib.hid hr3; have HW3 := Lib.hid (HW2.out.trans (hb3.mono HW2.out.size)); clear hb3 hr3))
        go_ret2
        exact ⟨rfl, HW3.out⟩
theorem parse_pair (L : List UInt8) : parse L = ((parse L).1, (parse L).2.1, (parse L).2.2) := rfl
/-- What Text answers: the rules' text, if they have one. -/
theorem text_any {w : World} {v : Value} {l : List RV} (h : RdRs w v l) (hl : RVs l) (hM : MaxL w) {t : ByteArray} {r : Nat} (ht : t.data.toList = if good l = true then txt l else []) (hr : r = if good l = true then 0 else 1) :
    Calls Try.prog 10 #[v] w fun e w' => e = .returned (.tuple #[.string t, .int .i64 (r : Nat)]) ∧ Below w.heap.size w w' := by
  have hg := text_good l
  refine text_words h hl hM (T := ⟨(textW l).toArray⟩) rfl (parse_pair _) ?_
  show if (parse (textW l)).2.2 = 0 ∧ (parse (textW l)).1 = l then _ else _
  by_cases hc : (parse (textW l)).2.2 = 0 ∧ (parse (textW l)).1 = l
  · rw [if_pos hc] at hg ⊢
    by_cases hgd : good l = true
    · rw [if_pos hgd] at hg ht hr
      have h1 : textW l = txt l := congrArg Prod.fst hg
      exact ⟨hr, ba_ext (by rw [ht, ← h1])⟩
    · rw [if_neg hgd] at hg
      exact absurd (congrArg Prod.snd hg) (by simp)
  · rw [if_neg hc] at hg ⊢
    by_cases hgd : good l = true
    · rw [if_pos hgd] at hg
      exact absurd (congrArg Prod.snd hg) (by simp)
    · rw [if_neg hgd] at ht hr
      exact ⟨hr, ba_ext ht⟩
end Go.Proofs.Ytdodlppnjlmnaaa
