/-
  THE CONTRACT of the document's Text.
-/
import Derived.Test.YtdodlppnjlmnaaaSWordR
import Derived.Deep.CutRange
namespace Go.Proofs.Ytdodlppnjlmnaaa
open Go.RowKit
set_option linter.unusedVariables false
set_option linter.unusedSimpArgs false
/-- The names of the relations, and that a world has come of another by new memory alone. -/
structure NS (w wr : World) : Prop where
  b : Below w.heap.size w wr
  lt : w.heap.size < wr.heap.size
  c : ∀ r : Nat, r < 5 → wr.cell? ⟨w.heap.size, r, none⟩ = some (.string (mkS ((r : Int) + 1)))
theorem NS.start (w : World) : NS w (w.alloc (.cells #[.string ⟨#[38]⟩, .string ⟨#[60]⟩, .string ⟨#[60, 60]⟩, .string ⟨#[60, 60, 60]⟩, .string ⟨#[61]⟩] 9)) := by
  have hn := heap_alloc_new w (.cells #[.string ⟨#[38]⟩, .string ⟨#[60]⟩, .string ⟨#[60, 60]⟩, .string ⟨#[60, 60, 60]⟩, .string ⟨#[61]⟩] 9)
  refine ⟨alloc_below w _, by rw [World.size_alloc]; omega, fun r hr => ?_⟩
  have h5 : r = 0 ∨ r = 1 ∨ r = 2 ∨ r = 3 ∨ r = 4 := by omega
  rcases h5 with rfl | rfl | rfl | rfl | rfl
  · exact cell_of_row _ _ 0 _ _ _ hn
  · exact cell_of_row _ _ 1 _ _ _ hn
  · exact cell_of_row _ _ 2 _ _ _ hn
  · exact cell_of_row _ _ 3 _ _ _ hn
  · exact cell_of_row _ _ 4 _ _ _ hn
theorem NS.below {w wr w' : World} (h : NS w wr) (hb : Below wr.heap.size wr w') : NS w w' :=
  ⟨h.b.trans (hb.mono h.b.size), Nat.lt_of_lt_of_le h.lt hb.size, fun r hr => cell_call hb (h.c r hr)⟩
theorem mkS_size (r : Int) : (mkS r).size ≤ 3 := by
  rw [← T2.ba_len, mkS_list]; unfold mk; split <;> simp
theorem ruleT_len {x : RV} (h1 : x.seq.length ≤ 20) (h2 : x.exp.length ≤ 20) : (ruleT x).length ≤ 210 := by
  have a := wrd_len x.seq
  have b := wrd_len x.exp
  have c : (mk x.rel.toNat).length ≤ 3 := by unfold mk; split <;> simp
  unfold ruleT
  split <;> simp only [List.length_append, List.length_cons, List.length_nil] <;> omega
theorem txt_app : ∀ (l : List RV) (x : RV), txt (l ++ [x]) = if l = [] then ruleT x else txt l ++ [32] ++ ruleT x
  | [], x => rfl
  | [y], x => by rw [if_neg (by simp)]; rfl
  | y :: z :: t, x => by
    have ih := txt_app (z :: t) x
    rw [if_neg (by simp)] at ih ⊢
    show ruleT y ++ [32] ++ txt (z :: t ++ [x]) = ruleT y ++ [32] ++ txt (z :: t) ++ [32] ++ ruleT x
    rw [ih]
    simp only [List.append_assoc]
theorem txt_next {l : List RV} {k : Nat} {x : RV} (h : l[k]? = some x) : txt (l.take (k + 1)) = if k = 0 then ruleT x else txt (l.take k) ++ [32] ++ ruleT x := by
  have hl := (List.getElem?_eq_some_iff.1 h).1
  rw [List.take_add_one, h]
  show txt (l.take k ++ [x]) = _
  rw [txt_app]
  by_cases hk : k = 0
  · rw [if_pos hk, if_pos (by subst hk; simp)]
  · rw [if_neg hk, if_neg]
    intro e
    have := congrArg List.length e
    rw [List.length_take, List.length_nil] at this
    omega
theorem txt_len : ∀ (l : List RV), (∀ x ∈ l, x.seq.length ≤ 20 ∧ x.exp.length ≤ 20) → (txt l).length ≤ 211 * l.length
  | [], _ => Nat.le_refl _
  | [x], h => by have := ruleT_len (h x (by simp)).1 (h x (by simp)).2; show (ruleT x).length ≤ _; simp; omega
  | x :: y :: t, h => by
    have h1 := ruleT_len (h x (by simp)).1 (h x (by simp)).2
    have ih := txt_len (y :: t) (fun z hz => h z (by simp [hz]))
    show (ruleT x ++ [32] ++ txt (y :: t)).length ≤ _
    simp only [List.length_append, List.length_cons, List.length_nil] at ih ⊢
    omega
theorem take_all {p : RV → Bool} {l : List RV} {k : Nat} {x : RV} (h : l[k]? = some x) (hp : p x = true) (ha : (l.take k).all p = true) : (l.take (k + 1)).all p = true := by
  rw [List.take_add_one, h, List.all_append, ha]; simp [hp]
theorem take_sg {l : List Int} {k : Nat} {x : Int} (h : l[k]? = some x) (hp : T2.isSg x = true) (ha : (l.take k).all T2.isSg = true) : (l.take (k + 1)).all T2.isSg = true := by
  rw [List.take_add_one, h, List.all_append, ha]; simp [hp]
theorem not_all {α : Type} {p : α → Bool} {l : List α} {k : Nat} {x : α} (h : l[k]? = some x) (hp : p x = false) : l.all p = false := by
  rw [List.all_eq_false]; exact ⟨x, List.mem_of_getElem? h, by simp [hp]⟩
set_option maxRecDepth 100000 in
set_option maxHeartbeats 8000000 in
theorem rtext_any {w : World} {v : Value} {l : List RV} (h : RdRs w v l) (hl : RVs l) {t0 : ByteArray} {q : Bool} (hgo : l.all okR = true → t0.data.toList = txt l ∧ q = decide ((parse (txt l)).2.2 = 0 ∧ (parse (txt l)).1 = l)) (hno : l.all okR = false → t0 = ⟨#[]⟩ ∧ q = false) :
    Calls Try.prog 12 #[v] w fun e w' => e = .returned (.tuple #[.string t0, .bool q]) ∧ Below w.heap.size w w' := by
  obtain ⟨A, c, rfl⟩ := h.form
  have HV := Lib.hid h
  obtain ⟨n, hn⟩ : ∃ n, l.length = n := ⟨_, rfl⟩
  have hn60 : n ≤ 60 := by rw [← hn]; exact hl.1
  rw [hn] at HV ⊢
  have hcap := HV.out.cap
  have HN := Lib.hid hn
  have HRS := Lib.hid hl
  have HGO := Lib.hid hgo
  have HNO := Lib.hid hno
  have HNS := Lib.hid (NS.start w)
  clear h hn hl hgo hno
  go_enter Try.func12, Try.ntmps12
  go_wp2
  go_loopg [5, 6] n (fun f sv i wr => ∃ (k : Nat) (t : ByteArray), k ≤ n ∧ i = .int .i64 (k : Nat) ∧ sv = .string t ∧ f = n - k ∧ Hid (t.data.toList = txt (l.take k)) ∧ Hid ((l.take k).all okR = true) ∧ Hid (NS w wr))
  case atStart => exact ⟨0, ⟨#[]⟩, Nat.zero_le _, rfl, rfl, rfl, rfl, rfl, HNS.out⟩
  case round =>
    obtain ⟨k, t, hk, rfl, rfl, rfl, HTK, HALL, HNW⟩ := hrel
    clear HNS
    obtain ⟨wo, rfl⟩ : ∃ wo, wo = wr := ⟨_, rfl⟩
    by_cases hlt : k < n
    · obtain ⟨x, hx⟩ : ∃ x, l[k]? = some x := ⟨_, List.getElem?_eq_getElem (by rw [HN.out]; exact hlt)⟩
      obtain ⟨g, o, A1, n1, p1, A2, n2, p2, rfl, c0, c1, c2, r1, r2, rfl, rfl⟩ := HV.out.at' hx
      replace c0 := (HNW.out.b.cell (cell_lt c0)).trans c0
      replace c1 := (HNW.out.b.cell (cell_lt c1)).trans c1
      replace c2 := (HNW.out.b.cell (cell_lt c2)).trans c2
      replace r1 := RdI.below r1 HNW.out.b (Nat.le_refl _)
      replace r2 := RdI.below r2 HNW.out.b (Nat.le_refl _)
      have hxm := HRS.out.2 x (List.mem_of_getElem? hx)
      have hltI : (k : Int) < (n : Int) := by omega
      have hkc : (k : Int) < (c : Int) := by omega
      have htl := txt_len (l.take k) (fun y hy => HRS.out.2 y (List.mem_of_mem_take hy))
      rw [← HTK.out, T2.ba_len, List.length_take, HN.out] at htl
      have htz : t.size ≤ 13000 := by omega
      have HXK := Lib.hid hx
      have HNX := Lib.hid (txt_next hx)
      obtain ⟨xr, hxr⟩ : ∃ z, x.rel = z := ⟨_, rfl⟩
      obtain ⟨xs, hxs⟩ : ∃ z, x.seq = z := ⟨_, rfl⟩
      obtain ⟨xe, hxe⟩ : ∃ z, x.exp = z := ⟨_, rfl⟩
      have HXR := Lib.hid hxr
      have HXS := Lib.hid hxs
      have HXE := Lib.hid hxe
      rw [hxr] at c0
      rw [hxs] at r1 c1 hxm
      rw [hxe] at r2 c2 hxm
      obtain ⟨es, hes⟩ : ∃ z, xs.length = z := ⟨_, rfl⟩
      obtain ⟨ee, hee⟩ : ∃ z, xe.length = z := ⟨_, rfl⟩
      rw [hes] at r1 c1 hxm
      rw [hee] at r2 c2 hxm
      have HES := Lib.hid hes
      have HEE := Lib.hid hee
      have HX1 := Lib.hid r1
      have HX2 := Lib.hid r2
      have HCAP1 := Lib.hid (RdF.cap r1).1
      have HCAP2 := Lib.hid (RdF.cap r2).1
      have HC0 := Lib.hid c0
      have HC1 := Lib.hid c1
      have HC2 := Lib.hid c2
      clear hx r1 r2 hxr hxs hxe hes hee htl hlt
      by_cases hr1 : xr < 1
      · have hno := HNO.out (not_all HXK.out (by unfold okR; rw [HXR.out, decide_eq_false (by omega : ¬ 1 ≤ xr)]; rfl))
        obtain ⟨rfl, rfl⟩ := hno
        go_wp2
        go_ret2
        exact ⟨rfl, HNW.out.b⟩
      by_cases hr5 : 5 < xr
      · have hno := HNO.out (not_all HXK.out (by unfold okR; rw [HXR.out, decide_eq_false (by omega : ¬ xr ≤ 5)]; simp))
        obtain ⟨rfl, rfl⟩ := hno
        go_wp2
        go_ret2
        exact ⟨rfl, HNW.out.b⟩
      go_wp2
      go_loopg [7] es (fun f i wq => ∃ j : Nat, j ≤ es ∧ i = .int .i64 (j : Nat) ∧ f = es - j ∧ Hid ((xs.take j).all T2.isSg = true) ∧ Hid (wo = wq))
      case atStart => exact ⟨0, Nat.zero_le _, rfl, rfl, rfl, rfl⟩
      case round =>
        obtain ⟨j, hj, rfl, rfl, HJ, HWQ⟩ := hrel
        have hwq := HWQ.out
        subst hwq
        by_cases hjl : j < es
        · obtain ⟨z, hz⟩ : ∃ z, xs[j]? = some z := ⟨_, List.getElem?_eq_getElem (by rw [HES.out]; exact hjl)⟩
          obtain ⟨gz, oz, rfl, hcz⟩ := HX1.out.at hz
          have hjI : (j : Int) < (es : Int) := by omega
          have hjc : (j : Int) < (p1 : Int) := by have := HCAP1.out; rw [HES.out] at this; omega
          obtain ⟨b, hb⟩ : ∃ b, T2.isSg z = b := ⟨_, rfl⟩
          have HSG := Lib.hid (fun (w : World) => (by have := T2.rsign_any z w; rw [hb] at this; exact this : Calls Try.prog 13 #[.int .i64 z] w fun e w' => e = .returned (.bool b) ∧ w = w'))
          have HZ := Lib.hid hz
          cases b with
          | true =>
            have HJ2 := Lib.hid (take_sg hz hb HJ.out)
            clear hz hb
            go_wp2_with (go_at_call 13; refine (HSG.out _).mono ?_; rintro e w' ⟨rfl, rfl⟩)
            go_roundg (es - (j + 1))
            case measure => omega
            case rel => exact ⟨j + 1, by omega, by first | rfl | (congr 1), rfl, HJ2.out, rfl⟩
          | false =>
            have HBAD := Lib.hid (not_all hz hb)
            clear hz hb
            have hno := HNO.out (not_all HXK.out (by unfold okR; rw [HXS.out, HXE.out, HBAD.out]; simp))
            obtain ⟨rfl, rfl⟩ := hno
            go_wp2_with (go_at_call 13; refine (HSG.out _).mono ?_; rintro e w' ⟨rfl, rfl⟩)
            go_ret2
            exact ⟨rfl, HNW.out.b⟩
        · have hjI : ¬ (j : Int) < (es : Int) := by omega
          have HG1 : Hid (xs.all T2.isSg = true) := by have := HJ.out; rw [List.take_of_length_le (by rw [HES.out]; omega)] at this; exact this
          clear hjl HJ
          go_wp2
          go_loopg [8] ee (fun f i wq => ∃ j : Nat, j ≤ ee ∧ i = .int .i64 (j : Nat) ∧ f = ee - j ∧ Hid ((xe.take j).all T2.isSg = true) ∧ Hid (wo = wq))
          case atStart => exact ⟨0, Nat.zero_le _, rfl, rfl, rfl, rfl⟩
          case round =>
            obtain ⟨j, hj, rfl, rfl, HJ, HWQ⟩ := hrel
            have hwq := HWQ.out
            subst hwq
            by_cases hjl : j < ee
            · obtain ⟨z, hz⟩ : ∃ z, xe[j]? = some z := ⟨_, List.getElem?_eq_getElem (by rw [HEE.out]; exact hjl)⟩
              obtain ⟨gz, oz, rfl, hcz⟩ := HX2.out.at hz
              have hjI : (j : Int) < (ee : Int) := by omega
              have hjc : (j : Int) < (p2 : Int) := by have := HCAP2.out; rw [HEE.out] at this; omega
              obtain ⟨b, hb⟩ : ∃ b, T2.isSg z = b := ⟨_, rfl⟩
              have HSG := Lib.hid (fun (w : World) => (by have := T2.rsign_any z w; rw [hb] at this; exact this : Calls Try.prog 13 #[.int .i64 z] w fun e w' => e = .returned (.bool b) ∧ w = w'))
              have HZ := Lib.hid hz
              cases b with
              | true =>
                have HJ2 := Lib.hid (take_sg hz hb HJ.out)
                clear hz hb
                go_wp2_with (go_at_call 13; refine (HSG.out _).mono ?_; rintro e w' ⟨rfl, rfl⟩)
                go_roundg (ee - (j + 1))
                case measure => omega
                case rel => exact ⟨j + 1, by omega, by first | rfl | (congr 1), rfl, HJ2.out, rfl⟩
              | false =>
                have HBAD := Lib.hid (not_all hz hb)
                clear hz hb
                have hno := HNO.out (not_all HXK.out (by unfold okR; rw [HXS.out, HXE.out, HBAD.out]; simp))
                obtain ⟨rfl, rfl⟩ := hno
                go_wp2_with (go_at_call 13; refine (HSG.out _).mono ?_; rintro e w' ⟨rfl, rfl⟩)
                go_ret2
                exact ⟨rfl, HNW.out.b⟩
            · have hjI : ¬ (j : Int) < (ee : Int) := by omega
              have HG2 : Hid (xe.all T2.isSg = true) := by have := HJ.out; rw [List.take_of_length_le (by rw [HEE.out]; omega)] at this; exact this
              clear hjl HJ
              obtain ⟨ri, hri⟩ : ∃ ri : Nat, xr = (ri : Int) + 1 := ⟨(xr - 1).toNat, by omega⟩
              have hri5 : ri < 5 := by omega
              have hriI : (ri : Int) < 5 := by omega
              have hsub : IntKind.i64.wrap (xr - 1) = (ri : Int) := (IntWalk.i64_in _ (by omega)).trans (by omega)
              obtain ⟨nm, hnm⟩ : ∃ z, mkS xr = z := ⟨_, rfl⟩
              have hcn := HNW.out.c ri hri5
              rw [← hri, hnm] at hcn
              have HCN := Lib.hid hcn
              have HNM : Hid (nm.data.toList = mk xr.toNat) := by show _ = _; rw [← hnm]; exact mkS_list _
              have hnz : nm.size ≤ 3 := by rw [← hnm]; exact mkS_size _
              obtain ⟨ts, hts⟩ : ∃ t : ByteArray, t.data.toList = wrd xs := ⟨⟨(wrd xs).toArray⟩, rfl⟩
              obtain ⟨te, hte⟩ : ∃ t : ByteArray, t.data.toList = wrd xe := ⟨⟨(wrd xe).toArray⟩, rfl⟩
              have hsz : ts.size ≤ 100 := by have := wrd_len xs; rw [← hts, T2.ba_len, HES.out] at this; omega
              have hez : te.size ≤ 100 := by have := wrd_len xe; rw [← hte, T2.ba_len, HEE.out] at this; omega
              have HTS := Lib.hid hts
              have HTE := Lib.hid hte
              have HW1 := Lib.hid (fun (w' : World) (hw : Below wo.heap.size wo w') => word_any (RdI.below HX1.out hw (Nat.le_refl _)) (by rw [HES.out]; omega) HG1.out hts)
              have HW2 := Lib.hid (fun (w' : World) (hw : Below wo.heap.size wo w') => word_any (RdI.below HX2.out hw (Nat.le_refl _)) (by rw [HEE.out]; omega) HG2.out hte)
              have HALL2 := Lib.hid (take_all HXK.out (by unfold okR; rw [HXR.out, HXS.out, HXE.out, HG1.out, HG2.out, decide_eq_true (by omega : 1 ≤ xr), decide_eq_true (by omega : xr ≤ 5)]; rfl) HALL.out)
              clear hri hnm hcn hts hte c0 c1
              by_cases hk0 : k = 0
              · have ht0 : t.data.toList = [] := by rw [HTK.out, hk0]; rfl
                have HT1' : Hid (t.data.toList ++ ruleT x = txt (l.take (k + 1))) := by show _ = _; rw [HNX.out, if_pos hk0, ht0, List.nil_append]
                subst hk0
                simp only [Nat.zero_mul, Nat.add_zero] at c2 HC0 HC1 HC2
                have hn0 : 0 < n := by omega
                have hn0I : (0 : Int) < (n : Int) := by omega
                have hc0 : 0 < c := by omega
                have hc0I : (0 : Int) < (c : Int) := by omega
                clear ht0
                have htz' : t.size ≤ 19000 := by omega
                go_upto_region 20 with (fail)
                have hn0 : 0 < n := by omega
                generalize t = t1 at HT1' htz' ⊢
                have HT1 := HT1'
                have hn1 : (t1 ++ nm).size = t1.size + nm.size := ba_size _ _
                have hn2 : (t1 ++ nm ++ (⟨#[32]⟩ : ByteArray)).size = (t1 ++ nm).size + 1 := ba_size _ _
                have hq1 : t1.size + nm.size ≤ 1000000 := by omega
                have hq2 : t1.size + nm.size + 1 ≤ 1000000 := by omega
                have hq3 : t1.size + nm.size + 1 + ts.size ≤ 1000000 := by omega
                have hu1 : ¬ (9223372036854775807 < t1.size + nm.size) := by omega
                have hu2 : ¬ (9223372036854775807 < t1.size + nm.size + 1) := by omega
                clear hn1 hn2
                obtain ⟨S, hS0⟩ : ∃ S : World → Prop, S = fun w' => w'.cell? ⟨g, o, none⟩ = some (.int .i64 xr) ∧ w'.cell? ⟨g, o + 1, none⟩ = some (.slice A1 es p1) ∧ w'.cell? ⟨w.heap.size, ri, none⟩ = some (.string nm) := ⟨_, rfl⟩
                have hS := Lib.hid hS0
                have HSx : Hid (∀ w', Below wo.heap.size wo w' → S w') := fun w' hb => by rw [hS0]; exact ⟨cell_call hb HC0.out, cell_call hb HC1.out, cell_call hb HCN.out⟩
                clear hS0
                have HBz : Hid (Below wo.heap.size wo wo.drew) := below_drewN wo 1
                have HSz := Lib.hid (HSx.out _ HBz.out)
                refine R4.till_region (m := 19) (S := S) (by kernel_rfl) ?_
                generalize wo.drew = wz at HBz HSz ⊢
                refine R4.till_slot (i := 0) (d := 75) (v := ?_) rfl (by kernel_rfl) (by kernel_rfl) (by omega) (by kernel_rfl) (by kernel_rfl) (fun _ _ _ h => h) (Or.inl ⟨by rfl, ?_⟩) HSz.out ?_
                rotate_left
                · intro w' hSw; rw [hS.out] at hSw; obtain ⟨s1, s2, s3⟩ := hSw; go_simp <;> with_reducible rfl
                try simp only [List.setIfInBounds_toArray, List.set_cons_zero, List.set_cons_succ]
                refine R4.till_slot (i := 1) (d := 76) (v := ?_) rfl (by kernel_rfl) (by kernel_rfl) (by omega) (by kernel_rfl) (by kernel_rfl) (fun _ _ _ h => h) (Or.inl ⟨by rfl, ?_⟩) HSz.out ?_
                rotate_left
                · intro w' hSw; rw [hS.out] at hSw; obtain ⟨s1, s2, s3⟩ := hSw; go_simp <;> with_reducible rfl
                try simp only [List.setIfInBounds_toArray, List.set_cons_zero, List.set_cons_succ]
                refine R4.till_slot (i := 2) (d := 77) (v := ?_) rfl (by kernel_rfl) (by kernel_rfl) (by omega) (by kernel_rfl) (by kernel_rfl) (fun _ _ _ h => h) (Or.inl ⟨by rfl, ?_⟩) HSz.out ?_
                rotate_left
                · intro w' hSw; rw [hS.out] at hSw; obtain ⟨s1, s2, s3⟩ := hSw; go_simp <;> with_reducible rfl
                try simp only [List.setIfInBounds_toArray, List.set_cons_zero, List.set_cons_succ]
                refine R4.till_slot (i := 3) (d := 78) (v := ?_) rfl (by kernel_rfl) (by kernel_rfl) (by omega) (by kernel_rfl) (by kernel_rfl) (fun _ _ _ h => h) (Or.inl ⟨by rfl, ?_⟩) HSz.out ?_
                rotate_left
                · intro w' hSw; rw [hS.out] at hSw; obtain ⟨s1, s2, s3⟩ := hSw; go_simp <;> with_reducible rfl
                try simp only [List.setIfInBounds_toArray, List.set_cons_zero, List.set_cons_succ]
                refine R4.till_slot (i := 4) (d := 79) (v := ?_) rfl (by kernel_rfl) (by kernel_rfl) (by omega) (by kernel_rfl) (by kernel_rfl) (fun _ _ _ h => h) (Or.inl ⟨by rfl, ?_⟩) HSz.out ?_
                rotate_left
                · intro w' hSw; rw [hS.out] at hSw; obtain ⟨s1, s2, s3⟩ := hSw; go_simp <;> with_reducible rfl
                try simp only [List.setIfInBounds_toArray, List.set_cons_zero, List.set_cons_succ]
                refine R4.till_slot (i := 5) (d := 80) (v := ?_) rfl (by kernel_rfl) (by kernel_rfl) (by omega) (by kernel_rfl) (by kernel_rfl) (fun _ _ _ h => h) (Or.inl ⟨by rfl, ?_⟩) HSz.out ?_
                rotate_left
                · intro w' hSw; rw [hS.out] at hSw; obtain ⟨s1, s2, s3⟩ := hSw; go_simp <;> with_reducible rfl
                try simp only [List.setIfInBounds_toArray, List.set_cons_zero, List.set_cons_succ]
                refine R4.till_slot (i := 6) (d := 81) (v := ?_) rfl (by kernel_rfl) (by kernel_rfl) (by omega) (by kernel_rfl) (by kernel_rfl) (fun _ _ _ h => h) (Or.inl ⟨by rfl, ?_⟩) HSz.out ?_
                rotate_left
                · intro w' hSw; rw [hS.out] at hSw; obtain ⟨s1, s2, s3⟩ := hSw; go_simp <;> with_reducible rfl
                try simp only [List.setIfInBounds_toArray, List.set_cons_zero, List.set_cons_succ]
                refine R4.till_slot (i := 7) (d := 82) (v := ?_) rfl (by kernel_rfl) (by kernel_rfl) (by omega) (by kernel_rfl) (by kernel_rfl) (fun _ _ _ h => h) (Or.inl ⟨by rfl, ?_⟩) HSz.out ?_
                rotate_left
                · intro w' hSw; rw [hS.out] at hSw; obtain ⟨s1, s2, s3⟩ := hSw; go_simp <;> with_reducible rfl
                try simp only [List.setIfInBounds_toArray, List.set_cons_zero, List.set_cons_succ]
                refine R4.till_slot (i := 8) (d := 83) (v := ?_) rfl (by kernel_rfl) (by kernel_rfl) (by omega) (by kernel_rfl) (by kernel_rfl) (fun _ _ _ h => h) (Or.inl ⟨by rfl, ?_⟩) HSz.out ?_
                rotate_left
                · intro w' hSw; rw [hS.out] at hSw; obtain ⟨s1, s2, s3⟩ := hSw; go_simp <;> with_reducible rfl
                try simp only [List.setIfInBounds_toArray, List.set_cons_zero, List.set_cons_succ]
                refine R4.till_slot (i := 9) (d := 84) (v := ?_) rfl (by kernel_rfl) (by kernel_rfl) (by omega) (by kernel_rfl) (by kernel_rfl) (fun _ _ _ h => h) (Or.inl ⟨by rfl, ?_⟩) HSz.out ?_
                rotate_left
                · intro w' hSw; rw [hS.out] at hSw; obtain ⟨s1, s2, s3⟩ := hSw; go_simp <;> with_reducible rfl
                try simp only [List.setIfInBounds_toArray, List.set_cons_zero, List.set_cons_succ]
                refine R4.till_slot (i := 10) (d := 85) (v := ?_) rfl (by kernel_rfl) (by kernel_rfl) (by omega) (by kernel_rfl) (by kernel_rfl) (fun _ _ _ h => h) (Or.inl ⟨by rfl, ?_⟩) HSz.out ?_
                rotate_left
                · intro w' hSw; rw [hS.out] at hSw; obtain ⟨s1, s2, s3⟩ := hSw; go_simp <;> with_reducible rfl
                try simp only [List.setIfInBounds_toArray, List.set_cons_zero, List.set_cons_succ]
                refine R4.till_slot (i := 11) (d := 86) (v := ?_) rfl (by kernel_rfl) (by kernel_rfl) (by omega) (by kernel_rfl) (by kernel_rfl) (fun _ _ _ h => h) (Or.inl ⟨by rfl, ?_⟩) HSz.out ?_
                rotate_left
                · intro w' hSw; rw [hS.out] at hSw; obtain ⟨s1, s2, s3⟩ := hSw; go_simp <;> with_reducible rfl
                try simp only [List.setIfInBounds_toArray, List.set_cons_zero, List.set_cons_succ]
                refine R4.till_slot (i := 12) (d := 87) (v := ?_) rfl (by kernel_rfl) (by kernel_rfl) (by omega) (by kernel_rfl) (by kernel_rfl) (fun _ _ _ h => h) (Or.inl ⟨by rfl, ?_⟩) HSz.out ?_
                rotate_left
                · intro w' hSw; rw [hS.out] at hSw; obtain ⟨s1, s2, s3⟩ := hSw; go_simp <;> with_reducible rfl
                try simp only [List.setIfInBounds_toArray, List.set_cons_zero, List.set_cons_succ]
                refine R4.till_slot (i := 13) (d := 88) (v := ?_) rfl (by kernel_rfl) (by kernel_rfl) (by omega) (by kernel_rfl) (by kernel_rfl) (fun _ _ _ h => h) (Or.inl ⟨by rfl, ?_⟩) HSz.out ?_
                rotate_left
                · intro w' hSw; rw [hS.out] at hSw; obtain ⟨s1, s2, s3⟩ := hSw; go_simp <;> with_reducible rfl
                try simp only [List.setIfInBounds_toArray, List.set_cons_zero, List.set_cons_succ]
                refine R4.till_slot (i := 14) (d := 89) (v := ?_) rfl (by kernel_rfl) (by kernel_rfl) (by omega) (by kernel_rfl) (by kernel_rfl) (fun _ _ _ h => h) (Or.inl ⟨by rfl, ?_⟩) HSz.out ?_
                rotate_left
                · intro w' hSw; rw [hS.out] at hSw; obtain ⟨s1, s2, s3⟩ := hSw; go_simp <;> with_reducible rfl
                try simp only [List.setIfInBounds_toArray, List.set_cons_zero, List.set_cons_succ]
                refine R4.till_slot (i := 15) (d := 90) (v := ?_) rfl (by kernel_rfl) (by kernel_rfl) (by omega) (by kernel_rfl) (by kernel_rfl) (fun _ _ _ h => h) (Or.inl ⟨by rfl, ?_⟩) HSz.out ?_
                rotate_left
                · intro w' hSw; rw [hS.out] at hSw; obtain ⟨s1, s2, s3⟩ := hSw; go_simp <;> with_reducible rfl
                try simp only [List.setIfInBounds_toArray, List.set_cons_zero, List.set_cons_succ]
                refine R4.till_slot (i := 16) (d := 91) (v := ?_) rfl (by kernel_rfl) (by kernel_rfl) (by omega) (by kernel_rfl) (by kernel_rfl) (fun _ _ _ h => h) (Or.inl ⟨by rfl, ?_⟩) HSz.out ?_
                rotate_left
                · intro w' hSw; rw [hS.out] at hSw; obtain ⟨s1, s2, s3⟩ := hSw; go_simp <;> with_reducible rfl
                try simp only [List.setIfInBounds_toArray, List.set_cons_zero, List.set_cons_succ]
                refine R4.till_one (i := 17) rfl (by kernel_rfl) (by omega) (fun K hK => ?_)
                have HK := Lib.hid hK
                clear hK
                go_simp
                go_at_call 26
                (with_reducible refine (HW1.out _ HBz.out).mono ?_)
                rintro e w2 ⟨rfl, hb2⟩
                have HB2 := Lib.hid (HBz.out.trans (hb2.mono HBz.out.size))
                have HSz2 := Lib.hid (HSx.out _ HB2.out)
                clear hb2
                refine HK.out _ _ HSz2.out ?_
                clear HK K
                try simp only [List.setIfInBounds_toArray, List.set_cons_zero, List.set_cons_succ]
                obtain ⟨t2, ht2⟩ : ∃ z, t1 ++ nm ++ (⟨#[32]⟩ : ByteArray) = z := ⟨_, rfl⟩
                rw [ht2]
                have HT2 : Hid (t2.data.toList = t1.data.toList ++ mk xr.toNat ++ [32]) := by show _ = _; rw [← ht2, ba_app, ba_app, HNM.out]
                have hz2 : t2.size ≤ 20100 := by rw [← ht2, ba_size, ba_size, show (⟨#[32]⟩ : ByteArray).size = 1 from rfl]; omega
                have hz3 : t2.size + ts.size ≤ 1000000 := by omega
                have hu3 : ¬ (9223372036854775807 < t2.size + ts.size) := by omega
                clear ht2 hq1 hq2 hq3 hu1 hu2
                refine R4.till_slot (i := 18) (d := 93) (v := ?_) rfl (by kernel_rfl) (by kernel_rfl) (by omega) (by kernel_rfl) (by kernel_rfl) (fun _ _ _ h => h) (Or.inl ⟨by rfl, ?_⟩) HSz2.out ?_
                rotate_left
                · intro w' hSw; rw [hS.out] at hSw; obtain ⟨s1, s2, s3⟩ := hSw; go_simp <;> with_reducible rfl
                try simp only [List.setIfInBounds_toArray, List.set_cons_zero, List.set_cons_succ]
                obtain ⟨t3, ht3⟩ : ∃ z, t2 ++ ts = z := ⟨_, rfl⟩
                rw [ht3]
                have HT3 : Hid (t3.data.toList = t1.data.toList ++ mk xr.toNat ++ [32] ++ wrd xs) := by show _ = _; rw [← ht3, ba_app, HT2.out, HTS.out]
                have hz4 : t3.size ≤ 20200 := by rw [← ht3, ba_size]; omega
                clear ht3
                refine R4.till_tail (k := 19) (by omega) (by kernel_rfl) (by kernel_rfl) ?_
                simp only [List.drop_succ_cons, List.drop_zero]
                have hc2 := cell_call HB2.out HC2.out
                have HRU : Hid (ruleT x = mk xr.toNat ++ [32] ++ wrd xs ++ (if ee = 0 then [] else [32, 47, 32] ++ wrd xe)) := by
                  show _ = _
                  unfold ruleT
                  rw [HXR.out, HXS.out, HXE.out, HEE.out]
                by_cases hee : ee = 0
                · have HE : Hid (t3.data.toList = txt (l.take (0 + 1))) := by
                    show _ = _
                    rw [← HT1.out, HRU.out, if_pos hee, HT3.out]
                    simp only [List.append_nil, List.append_assoc]
                  subst hee
                  go_wp2
                  go_roundg (n - (0 + 1))
                  case measure => omega
                  case rel => exact ⟨0 + 1, _, by omega, by first | rfl | (congr 1), rfl, rfl, HE.out, HALL2.out, HNW.out.below HB2.out⟩
                · have heI : (0 : Int) < (ee : Int) := by omega
                  have HE : Hid ((t3 ++ (⟨#[32, 47, 32]⟩ : ByteArray) ++ te).data.toList = txt (l.take (0 + 1))) := by
                    show _ = _
                    rw [← HT1.out, HRU.out, if_neg hee, ba_app, ba_app, HT3.out, HTE.out]
                    simp only [List.append_assoc]
                  have hz5 : t3.size + 3 + te.size ≤ 1000000 := by omega
                  have hz6 : (t3 ++ (⟨#[32, 47, 32]⟩ : ByteArray)).size + te.size ≤ 1000000 := by rw [ba_size]; exact hz5
                  clear hee
                  go_wp2_with (go_at_call 26; refine (HW2.out _ HB2.out).mono ?_; rintro e w3 ⟨rfl, hb3⟩; have HB3 := Lib.hid (HB2.out.trans (hb3.mono HB2.out.size)); clear hb3)
                  go_roundg (n - (0 + 1))
                  case measure => omega
                  case rel => exact ⟨0 + 1, _, by omega, by first | rfl | (congr 1), rfl, rfl, HE.out, HALL2.out, HNW.out.below HB3.out⟩
              · have hk0I : (0 : Int) < (k : Int) := by omega
                have HT1' : Hid ((t ++ (⟨#[32]⟩ : ByteArray)).data.toList ++ ruleT x = txt (l.take (k + 1))) := by show _ = _; rw [HNX.out, if_neg hk0, ba_app, HTK.out]
                clear hk0
                have htz' : (t ++ (⟨#[32]⟩ : ByteArray)).size ≤ 19000 := by rw [ba_size, show (⟨#[32]⟩ : ByteArray).size = 1 from rfl]; omega
                go_upto_region 20 with (fail)
                generalize t ++ (⟨#[32]⟩ : ByteArray) = t1 at HT1' htz' ⊢
                have HT1 := HT1'
                have hm9 : t.size + 1 ≤ 1000000 := by omega
                have hn1 : (t1 ++ nm).size = t1.size + nm.size := ba_size _ _
                have hn2 : (t1 ++ nm ++ (⟨#[32]⟩ : ByteArray)).size = (t1 ++ nm).size + 1 := ba_size _ _
                have hq1 : t1.size + nm.size ≤ 1000000 := by omega
                have hq2 : t1.size + nm.size + 1 ≤ 1000000 := by omega
                have hq3 : t1.size + nm.size + 1 + ts.size ≤ 1000000 := by omega
                have hu1 : ¬ (9223372036854775807 < t1.size + nm.size) := by omega
                have hu2 : ¬ (9223372036854775807 < t1.size + nm.size + 1) := by omega
                clear hn1 hn2
                obtain ⟨S, hS0⟩ : ∃ S : World → Prop, S = fun w' => w'.cell? ⟨g, o + k * 3, none⟩ = some (.int .i64 xr) ∧ w'.cell? ⟨g, o + k * 3 + 1, none⟩ = some (.slice A1 es p1) ∧ w'.cell? ⟨w.heap.size, ri, none⟩ = some (.string nm) := ⟨_, rfl⟩
                have hS := Lib.hid hS0
                have HSx : Hid (∀ w', Below wo.heap.size wo w' → S w') := fun w' hb => by rw [hS0]; exact ⟨cell_call hb HC0.out, cell_call hb HC1.out, cell_call hb HCN.out⟩
                clear hS0
                have HBz : Hid (Below wo.heap.size wo wo.drew) := below_drewN wo 1
                have HSz := Lib.hid (HSx.out _ HBz.out)
                refine R4.till_region (m := 19) (S := S) (by kernel_rfl) ?_
                generalize wo.drew = wz at HBz HSz ⊢
                refine R4.till_slot (i := 0) (d := 75) (v := ?_) rfl (by kernel_rfl) (by kernel_rfl) (by omega) (by kernel_rfl) (by kernel_rfl) (fun _ _ _ h => h) (Or.inl ⟨by rfl, ?_⟩) HSz.out ?_
                rotate_left
                · intro w' hSw; rw [hS.out] at hSw; obtain ⟨s1, s2, s3⟩ := hSw; go_simp <;> with_reducible rfl
                try simp only [List.setIfInBounds_toArray, List.set_cons_zero, List.set_cons_succ]
                refine R4.till_slot (i := 1) (d := 76) (v := ?_) rfl (by kernel_rfl) (by kernel_rfl) (by omega) (by kernel_rfl) (by kernel_rfl) (fun _ _ _ h => h) (Or.inl ⟨by rfl, ?_⟩) HSz.out ?_
                rotate_left
                · intro w' hSw; rw [hS.out] at hSw; obtain ⟨s1, s2, s3⟩ := hSw; go_simp <;> with_reducible rfl
                try simp only [List.setIfInBounds_toArray, List.set_cons_zero, List.set_cons_succ]
                refine R4.till_slot (i := 2) (d := 77) (v := ?_) rfl (by kernel_rfl) (by kernel_rfl) (by omega) (by kernel_rfl) (by kernel_rfl) (fun _ _ _ h => h) (Or.inl ⟨by rfl, ?_⟩) HSz.out ?_
                rotate_left
                · intro w' hSw; rw [hS.out] at hSw; obtain ⟨s1, s2, s3⟩ := hSw; go_simp <;> with_reducible rfl
                try simp only [List.setIfInBounds_toArray, List.set_cons_zero, List.set_cons_succ]
                refine R4.till_slot (i := 3) (d := 78) (v := ?_) rfl (by kernel_rfl) (by kernel_rfl) (by omega) (by kernel_rfl) (by kernel_rfl) (fun _ _ _ h => h) (Or.inl ⟨by rfl, ?_⟩) HSz.out ?_
                rotate_left
                · intro w' hSw; rw [hS.out] at hSw; obtain ⟨s1, s2, s3⟩ := hSw; go_simp <;> with_reducible rfl
                try simp only [List.setIfInBounds_toArray, List.set_cons_zero, List.set_cons_succ]
                refine R4.till_slot (i := 4) (d := 79) (v := ?_) rfl (by kernel_rfl) (by kernel_rfl) (by omega) (by kernel_rfl) (by kernel_rfl) (fun _ _ _ h => h) (Or.inl ⟨by rfl, ?_⟩) HSz.out ?_
                rotate_left
                · intro w' hSw; rw [hS.out] at hSw; obtain ⟨s1, s2, s3⟩ := hSw; go_simp <;> with_reducible rfl
                try simp only [List.setIfInBounds_toArray, List.set_cons_zero, List.set_cons_succ]
                refine R4.till_slot (i := 5) (d := 80) (v := ?_) rfl (by kernel_rfl) (by kernel_rfl) (by omega) (by kernel_rfl) (by kernel_rfl) (fun _ _ _ h => h) (Or.inl ⟨by rfl, ?_⟩) HSz.out ?_
                rotate_left
                · intro w' hSw; rw [hS.out] at hSw; obtain ⟨s1, s2, s3⟩ := hSw; go_simp <;> with_reducible rfl
                try simp only [List.setIfInBounds_toArray, List.set_cons_zero, List.set_cons_succ]
                refine R4.till_slot (i := 6) (d := 81) (v := ?_) rfl (by kernel_rfl) (by kernel_rfl) (by omega) (by kernel_rfl) (by kernel_rfl) (fun _ _ _ h => h) (Or.inl ⟨by rfl, ?_⟩) HSz.out ?_
                rotate_left
                · intro w' hSw; rw [hS.out] at hSw; obtain ⟨s1, s2, s3⟩ := hSw; go_simp <;> with_reducible rfl
                try simp only [List.setIfInBounds_toArray, List.set_cons_zero, List.set_cons_succ]
                refine R4.till_slot (i := 7) (d := 82) (v := ?_) rfl (by kernel_rfl) (by kernel_rfl) (by omega) (by kernel_rfl) (by kernel_rfl) (fun _ _ _ h => h) (Or.inl ⟨by rfl, ?_⟩) HSz.out ?_
                rotate_left
                · intro w' hSw; rw [hS.out] at hSw; obtain ⟨s1, s2, s3⟩ := hSw; go_simp <;> with_reducible rfl
                try simp only [List.setIfInBounds_toArray, List.set_cons_zero, List.set_cons_succ]
                refine R4.till_slot (i := 8) (d := 83) (v := ?_) rfl (by kernel_rfl) (by kernel_rfl) (by omega) (by kernel_rfl) (by kernel_rfl) (fun _ _ _ h => h) (Or.inl ⟨by rfl, ?_⟩) HSz.out ?_
                rotate_left
                · intro w' hSw; rw [hS.out] at hSw; obtain ⟨s1, s2, s3⟩ := hSw; go_simp <;> with_reducible rfl
                try simp only [List.setIfInBounds_toArray, List.set_cons_zero, List.set_cons_succ]
                refine R4.till_slot (i := 9) (d := 84) (v := ?_) rfl (by kernel_rfl) (by kernel_rfl) (by omega) (by kernel_rfl) (by kernel_rfl) (fun _ _ _ h => h) (Or.inl ⟨by rfl, ?_⟩) HSz.out ?_
                rotate_left
                · intro w' hSw; rw [hS.out] at hSw; obtain ⟨s1, s2, s3⟩ := hSw; go_simp <;> with_reducible rfl
                try simp only [List.setIfInBounds_toArray, List.set_cons_zero, List.set_cons_succ]
                refine R4.till_slot (i := 10) (d := 85) (v := ?_) rfl (by kernel_rfl) (by kernel_rfl) (by omega) (by kernel_rfl) (by kernel_rfl) (fun _ _ _ h => h) (Or.inl ⟨by rfl, ?_⟩) HSz.out ?_
                rotate_left
                · intro w' hSw; rw [hS.out] at hSw; obtain ⟨s1, s2, s3⟩ := hSw; go_simp <;> with_reducible rfl
                try simp only [List.setIfInBounds_toArray, List.set_cons_zero, List.set_cons_succ]
                refine R4.till_slot (i := 11) (d := 86) (v := ?_) rfl (by kernel_rfl) (by kernel_rfl) (by omega) (by kernel_rfl) (by kernel_rfl) (fun _ _ _ h => h) (Or.inl ⟨by rfl, ?_⟩) HSz.out ?_
                rotate_left
                · intro w' hSw; rw [hS.out] at hSw; obtain ⟨s1, s2, s3⟩ := hSw; go_simp <;> with_reducible rfl
                try simp only [List.setIfInBounds_toArray, List.set_cons_zero, List.set_cons_succ]
                refine R4.till_slot (i := 12) (d := 87) (v := ?_) rfl (by kernel_rfl) (by kernel_rfl) (by omega) (by kernel_rfl) (by kernel_rfl) (fun _ _ _ h => h) (Or.inl ⟨by rfl, ?_⟩) HSz.out ?_
                rotate_left
                · intro w' hSw; rw [hS.out] at hSw; obtain ⟨s1, s2, s3⟩ := hSw; go_simp <;> with_reducible rfl
                try simp only [List.setIfInBounds_toArray, List.set_cons_zero, List.set_cons_succ]
                refine R4.till_slot (i := 13) (d := 88) (v := ?_) rfl (by kernel_rfl) (by kernel_rfl) (by omega) (by kernel_rfl) (by kernel_rfl) (fun _ _ _ h => h) (Or.inl ⟨by rfl, ?_⟩) HSz.out ?_
                rotate_left
                · intro w' hSw; rw [hS.out] at hSw; obtain ⟨s1, s2, s3⟩ := hSw; go_simp <;> with_reducible rfl
                try simp only [List.setIfInBounds_toArray, List.set_cons_zero, List.set_cons_succ]
                refine R4.till_slot (i := 14) (d := 89) (v := ?_) rfl (by kernel_rfl) (by kernel_rfl) (by omega) (by kernel_rfl) (by kernel_rfl) (fun _ _ _ h => h) (Or.inl ⟨by rfl, ?_⟩) HSz.out ?_
                rotate_left
                · intro w' hSw; rw [hS.out] at hSw; obtain ⟨s1, s2, s3⟩ := hSw; go_simp <;> with_reducible rfl
                try simp only [List.setIfInBounds_toArray, List.set_cons_zero, List.set_cons_succ]
                refine R4.till_slot (i := 15) (d := 90) (v := ?_) rfl (by kernel_rfl) (by kernel_rfl) (by omega) (by kernel_rfl) (by kernel_rfl) (fun _ _ _ h => h) (Or.inl ⟨by rfl, ?_⟩) HSz.out ?_
                rotate_left
                · intro w' hSw; rw [hS.out] at hSw; obtain ⟨s1, s2, s3⟩ := hSw; go_simp <;> with_reducible rfl
                try simp only [List.setIfInBounds_toArray, List.set_cons_zero, List.set_cons_succ]
                refine R4.till_slot (i := 16) (d := 91) (v := ?_) rfl (by kernel_rfl) (by kernel_rfl) (by omega) (by kernel_rfl) (by kernel_rfl) (fun _ _ _ h => h) (Or.inl ⟨by rfl, ?_⟩) HSz.out ?_
                rotate_left
                · intro w' hSw; rw [hS.out] at hSw; obtain ⟨s1, s2, s3⟩ := hSw; go_simp <;> with_reducible rfl
                try simp only [List.setIfInBounds_toArray, List.set_cons_zero, List.set_cons_succ]
                refine R4.till_one (i := 17) rfl (by kernel_rfl) (by omega) (fun K hK => ?_)
                have HK := Lib.hid hK
                clear hK
                go_simp
                go_at_call 26
                (with_reducible refine (HW1.out _ HBz.out).mono ?_)
                rintro e w2 ⟨rfl, hb2⟩
                have HB2 := Lib.hid (HBz.out.trans (hb2.mono HBz.out.size))
                have HSz2 := Lib.hid (HSx.out _ HB2.out)
                clear hb2
                refine HK.out _ _ HSz2.out ?_
                clear HK K
                try simp only [List.setIfInBounds_toArray, List.set_cons_zero, List.set_cons_succ]
                obtain ⟨t2, ht2⟩ : ∃ z, t1 ++ nm ++ (⟨#[32]⟩ : ByteArray) = z := ⟨_, rfl⟩
                rw [ht2]
                have HT2 : Hid (t2.data.toList = t1.data.toList ++ mk xr.toNat ++ [32]) := by show _ = _; rw [← ht2, ba_app, ba_app, HNM.out]
                have hz2 : t2.size ≤ 20100 := by rw [← ht2, ba_size, ba_size, show (⟨#[32]⟩ : ByteArray).size = 1 from rfl]; omega
                have hz3 : t2.size + ts.size ≤ 1000000 := by omega
                have hu3 : ¬ (9223372036854775807 < t2.size + ts.size) := by omega
                clear ht2 hq1 hq2 hq3 hu1 hu2
                refine R4.till_slot (i := 18) (d := 93) (v := ?_) rfl (by kernel_rfl) (by kernel_rfl) (by omega) (by kernel_rfl) (by kernel_rfl) (fun _ _ _ h => h) (Or.inl ⟨by rfl, ?_⟩) HSz2.out ?_
                rotate_left
                · intro w' hSw; rw [hS.out] at hSw; obtain ⟨s1, s2, s3⟩ := hSw; go_simp <;> with_reducible rfl
                try simp only [List.setIfInBounds_toArray, List.set_cons_zero, List.set_cons_succ]
                obtain ⟨t3, ht3⟩ : ∃ z, t2 ++ ts = z := ⟨_, rfl⟩
                rw [ht3]
                have HT3 : Hid (t3.data.toList = t1.data.toList ++ mk xr.toNat ++ [32] ++ wrd xs) := by show _ = _; rw [← ht3, ba_app, HT2.out, HTS.out]
                have hz4 : t3.size ≤ 20200 := by rw [← ht3, ba_size]; omega
                clear ht3
                refine R4.till_tail (k := 19) (by omega) (by kernel_rfl) (by kernel_rfl) ?_
                simp only [List.drop_succ_cons, List.drop_zero]
                have hc2 := cell_call HB2.out HC2.out
                have HRU : Hid (ruleT x = mk xr.toNat ++ [32] ++ wrd xs ++ (if ee = 0 then [] else [32, 47, 32] ++ wrd xe)) := by
                  show _ = _
                  unfold ruleT
                  rw [HXR.out, HXS.out, HXE.out, HEE.out]
                by_cases hee : ee = 0
                · have HE : Hid (t3.data.toList = txt (l.take (k + 1))) := by
                    show _ = _
                    rw [← HT1.out, HRU.out, if_pos hee, HT3.out]
                    simp only [List.append_nil, List.append_assoc]
                  subst hee
                  go_wp2
                  go_roundg (n - (k + 1))
                  case measure => omega
                  case rel => exact ⟨k + 1, _, by omega, by first | rfl | (congr 1), rfl, rfl, HE.out, HALL2.out, HNW.out.below HB2.out⟩
                · have heI : (0 : Int) < (ee : Int) := by omega
                  have HE : Hid ((t3 ++ (⟨#[32, 47, 32]⟩ : ByteArray) ++ te).data.toList = txt (l.take (k + 1))) := by
                    show _ = _
                    rw [← HT1.out, HRU.out, if_neg hee, ba_app, ba_app, HT3.out, HTE.out]
                    simp only [List.append_assoc]
                  have hz5 : t3.size + 3 + te.size ≤ 1000000 := by omega
                  have hz6 : (t3 ++ (⟨#[32, 47, 32]⟩ : ByteArray)).size + te.size ≤ 1000000 := by rw [ba_size]; exact hz5
                  clear hee
                  go_wp2_with (go_at_call 26; refine (HW2.out _ HB2.out).mono ?_; rintro e w3 ⟨rfl, hb3⟩; have HB3 := Lib.hid (HB2.out.trans (hb3.mono HB2.out.size)); clear hb3)
                  go_roundg (n - (k + 1))
                  case measure => omega
                  case rel => exact ⟨k + 1, _, by omega, by first | rfl | (congr 1), rfl, rfl, HE.out, HALL2.out, HNW.out.below HB3.out⟩
    · have hltI : ¬ (k : Int) < (n : Int) := by omega
      have hkn : l.take k = l := List.take_of_length_le (by rw [HN.out]; omega)
      have hal := HALL.out
      have htk := HTK.out
      rw [hkn] at hal htk
      have hgo := HGO.out hal
      have htt : t = t0 := ba_ext (by rw [htk, hgo.1])
      subst htt
      have htl := txt_len l HRS.out.2
      rw [← htk, T2.ba_len, HN.out] at htl
      obtain ⟨⟨pl, at', E⟩, hR⟩ : ∃ z, parse t.data.toList = z := ⟨_, rfl⟩
      have hok := parse_ok t.data.toList
      have hq := hgo.2
      rw [← htk, hR] at hq
      rw [hR] at hok
      have HP := Lib.hid (fun w => rpar_form (s := t) w (by omega) hR)
      have HSM := Lib.hid (fun (w : World) (u v : Value) (hu : RdRs w u pl) (hv : RdRs w v l) => rsames_any hu hv hok (by rw [HN.out]; omega))
      clear hkn hal htk hgo hR hok htl
      by_cases hE : E = 0
      · subst hE
        obtain ⟨b, hb⟩ : ∃ b, decide (pl = l) = b := ⟨_, rfl⟩
        have hqb : q = b := by rw [hq, ← hb]; simp
        subst hqb
        rw [hb] at HSM
        clear hq hb
        go_wp2_with (first
          | (go_at_call 8; refine (HP.out _).mono ?_; rintro e w2 ⟨⟨A2, n2, c2, rfl, hn2, hr⟩, hb⟩; have HN2 := Lib.hid (HNW.out.b.trans (hb.mono HNW.out.b.size)); have HR2 := Lib.hid (hr.below (alloc_below w2 (.cells #[.slice A2 n2 c2, .int .i64 (at' : Nat), .int .i64 ((0 : Nat) : Int)] TZ)) (Nat.le_refl _)); have HB2 := Lib.hid (HN2.out.alloc HN2.out.size (.cells #[.slice A2 n2 c2, .int .i64 (at' : Nat), .int .i64 ((0 : Nat) : Int)] TZ)); clear hr hb hn2)
          | (go_at_call 27; refine (HSM.out _ _ _ HR2.out (HV.out.below HB2.out (Nat.le_refl _))).mono ?_; rintro e w3 ⟨rfl, m, rfl⟩))
        go_ret2
        exact ⟨rfl, HB2.out.trans ((below_drewN _ m).mono HB2.out.size)⟩
      · have hEI : ((E : Int) == 0) = false := by simp; omega
        have hqb : q = false := by rw [hq]; exact decide_eq_false (fun h => hE h.1)
        subst hqb
        have hEN : ¬ E = 0 := hE
        clear hq
        go_wp2_with (go_at_call 8; refine (HP.out _).mono ?_; rintro e w2 ⟨⟨A2, n2, c2, rfl, hn2, hr⟩, hb⟩; have HN2 := Lib.hid (HNW.out.b.trans (hb.mono HNW.out.b.size)); have HB2 := Lib.hid (HN2.out.alloc HN2.out.size (.cells #[.slice A2 n2 c2, .int .i64 (at' : Nat), .int .i64 (E : Nat)] TZ)); clear hr hb hn2)
        go_ret2
        exact ⟨rfl, HB2.out⟩
end Go.Proofs.Ytdodlppnjlmnaaa
