/-
  PACKED for a claim.
-/
import Derived.Test.YteibnfeokgibmaaGreatP27
import Derived.Test.YteibnfeokgibmaaGreatP38
set_option linter.unusedVariables false
set_option linter.unusedSimpArgs false
set_option maxRecDepth 100000
section
namespace Go.Proofs.YteibnfeokgibmaaGreat
open Go.RowKit
variable {U : Nat -> Prop}
def SV.two (V : Value) (l : List Nat) : SV := ⟨fun v w => ∃ (g : Nat) (u : Value), v = .slice (some ⟨g, 0, none⟩) 2 2 /\ w.cell? ⟨g, 0, none⟩ = some V /\ w.cell? ⟨g, 1, none⟩ = some u /\ RdE anyB w u l, fun v w w' h hb => by
 obtain ⟨g, u, h1, h2, h3, h4⟩ := h; exact ⟨g, u, h1, yab hb h2, yab hb h3, h4.below hb (zN _)⟩⟩
theorem SV.two_get {V : Value} {l : List Nat} {v : Value} {w : World} (h : (SV.two V l).p v w) : ∃ g : Nat, v = .slice (some ⟨g, 0, none⟩) 2 2 /\ ∃ u : Value, w.cell? ⟨g, 0, none⟩ = some V /\ w.cell? ⟨g, 1, none⟩ = some u /\ RdE anyB w u l := by
 obtain ⟨g, u, h1, h2, h3, h4⟩ := h; exact ⟨g, h1, u, h2, h3, h4⟩
theorem ysn {w : World} {V u : Value} {l : List Nat} (hu : RdE anyB w u l) {T : TypeId} : (SV.two V l).p (.slice (some ⟨w.heap.size, 0, none⟩) 2 2) (w.alloc (.cells #[V, u] T)) :=
 ⟨_, u, rfl, yat (heap_alloc_new w _) rfl, yat (heap_alloc_new w _) rfl, RdE.below hu (yaa w _) (zN _)⟩
def SV.tbl (F : Nat -> Prop) (L : List PE) : SV := ⟨fun v w => ∃ q : Nat, v = .tuple #[.pointer (some ⟨q, 0, none⟩), .int .i64 0] /\ TabAt F w q L, fun _ _ _ ⟨q, e, h⟩ hb => ⟨q, e, h.below hb (zN _)⟩⟩
theorem SV.tbl_get {F : Nat -> Prop} {L : List PE} {v : Value} {w : World} (h : (SV.tbl F L).p v w) : ∃ q : Nat, v = .tuple #[.pointer (some ⟨q, 0, none⟩), .int .i64 0] /\ TabAt F w q L := h
def SV.tbp (F : Nat -> Prop) (L : List PE) : SV := ⟨fun v w => ∃ q : Nat, v = .pointer (some ⟨q, 0, none⟩) /\ TabAt F w q L, fun _ _ _ ⟨q, e, h⟩ hb => ⟨q, e, h.below hb (zN _)⟩⟩
theorem ypm {F G : Nat -> Prop} {w : World} {g : Nat} {u v : Value} {l m : List Nat} (hu : RdE F w u l) (hv : RdE G w v m) (c0 : w.cell? ⟨g, 0, none⟩ = some u) (c1 : w.cell? ⟨g, 1, none⟩ = some v) (hN : l.length + m.length <= 1000) :
  Calls Tryz.prog 178 #[.slice (some ⟨g, 0, none⟩) 2 2] w fun e w' => (∃ v, e = .returned v /\ RdE anyB w' v (l ++ m)) /\ Below w.heap.size w w' := by
 refine (ywi (F := anyB) (n := 2) (Ms := [l, m]) (vs := [u, v]) rfl rfl (by omega) ?_ ?_ (by simpa using hN)).mono ?_
 ·intro k x hk
  rcases k with _ | _ | k
  ·simp at hk; subst hk; exact c0
  ·simp at hk; subst hk; exact c1
  ·simp at hk
 ·intro k x M hk hM
  rcases k with _ | _ | k
  ·simp at hk hM; subst hk hM; exact RdF.any hu
  ·simp at hk hM; subst hk hM; exact RdF.any hv
  ·simp at hk
 ·rintro e w' ⟨⟨x, rfl, ho⟩, hb⟩; refine ⟨⟨x, rfl, ?_⟩, hb⟩
  have := OwnE.rd (F := anyB) ho fun _ _ => trivial
  simpa using this
theorem els_lt {L : List PE} (hg : GoodT L) (ss : List Int) : ∀ x ∈ elsP L ss, x < 4294967296 := ywf hg ss.length ss (zN _)
theorem ykw {L : List PE} (hg : GoodT L) (ss : List Int) : (elsP L ss).length <= 8 * ss.length := ypk hg ss.length ss (zN _)
theorem px_at {B : Nat} {w w' : World} {px n c : Nat} {L : List PE} {A : List Nat} {Aa : Option Addr} (hT : TA U B w px ⟨L, some A⟩) (c1 : w.cell? ⟨px, 1, none⟩ = some (.slice Aa n c)) (hb : Below w.heap.size w w') : ∃ A0, w'.heap[px]? = some (.cells #[.pointer A0, .slice Aa n c, .bool true] 143 (0, 0)) := by
 obtain ⟨⟨q, va, h1, h2, h3⟩, h4⟩ := hT; rw [cell_of_row w px 1 _ _ _ h1] at c1
 cases c1
 exact ⟨_, (hb.block px (R4.yad h1)).trans h1⟩
set_option maxHeartbeats 8000000 in
theorem zaf {B : Nat} {w : World} {px : Nat} {L : List PE} {A : List Nat} (hT : TA U B w px ⟨L, some A⟩) (h8 : Anc A) {sv ev : Value} {s e : List Int} (hs : RdI anyB w sv s) (he : RdI anyB w ev e) (hI : I64 e) (hle : e.length <= 100) {l2 : List Nat} (hl2 : elsP L e = l2) {L' : List PE} (hE : withE L s (A ++ l2) = 0) (hL' : putP L (s, A ++ l2) = L') :
  Calls Tryz.prog 132 #[.pointer (some ⟨px, 0, none⟩), sv, ev] w (MovIs U B px ⟨L', some A⟩ 0 w) := by
 have HT := zH hT; obtain ⟨q, Aa, c, c0, c1, -, f0, -, -, hTab, hown, hrd⟩ := hT.cells (A := A) rfl
 have HLW : Hid (∀ x ∈ A ++ l2, x < 4294967296) := by
  intro x hx
  rcases List.mem_append.1 hx with hx | hx
  ·exact h8.2 x hx
  ·rw [<- hl2] at hx; exact els_lt hTab.good e x hx
 have HLL : Hid (A.length + l2.length <= 1000) := by
  have h1 := ykw hTab.good e; rw [hl2] at h1; have h2 := h8.1
  show _ <= _; omega
 have HBW := zH (Nat.le_trans hT.bel.le (Nat.le_of_lt hT.lt)); have HPB := zH hT.bel; obtain ⟨As, cs, rfl⟩ := hs.form; obtain ⟨Ae, ce, rfl⟩ := he.form; have HS := zH hs; have HEX := zH he; have HI := zH hI; have HLE := zH hle; have HL2 := zH hl2; have HRD := zH hrd; have HC0 := zH c0; have HC1 := zH c1; have HTab := zH hTab; have HO := zH hown; have HWE := zH hE; have HPT := zH hL'; clear hL'; obtain ⟨n, hn⟩ : ∃ n, A.length = n := ⟨_, rfl⟩; obtain ⟨ns, hns⟩ : ∃ n, s.length = n := ⟨_, rfl⟩; obtain ⟨ne, hne⟩ : ∃ n, e.length = n := ⟨_, rfl⟩; rw [hn] at HC1 HRD HO HTab; rw [hns] at HS |-; rw [hne] at HEX |-
 have HFB : Hid (∀ (w' : World), Below w.heap.size w w' -> ∀ k, w'.heap.size <= k -> (Value.slice Aa n c).ownBlock ≠ some k /\ (k ≠ px /\ U k)) := by
  intro w' hb k hk'; have h2 := HT.out.lt; have h3 := hb.size; refine ⟨fun e => ?_, by omega, hT.bel.nu k (by have := hT.bel.le; omega)⟩
  have := (World.ownsRow.lt HO.out k e).2
  omega
 clear hT h8 hs he hI hle hl2 c0 c1 f0 hTab hown hrd hn hns hne hE
 go_enter Tryz.func132, Tryz.ntmps132
 go_upto_region 1 with (fail)
 refine ydq (m := 18) 17 [10, 11, 12, 13, 14, 15, 16, 17, 18, 19, 20, 21, 22, 23, 24, 9, 25, 26] [SV.eq (.pointer (some ⟨px, 0, none⟩)), SV.eq (.pointer (some ⟨px, 0, none⟩)), SV.eq (.pointer (some ⟨px, 0, none⟩)), SV.eq (.pointer (some ⟨q, 0, none⟩)), SV.eq (.slice As ns cs), SV.eq (.pointer (some ⟨px, 0, none⟩)), SV.eq (.pointer (some ⟨px, 0, none⟩)), SV.eq (.pointer (some ⟨px, 1, none⟩)), SV.eq (.slice Aa n c), SV.eq (.pointer (some ⟨px, 0, none⟩)), SV.eq (.slice Ae ne ce), SV.els l2, SV.two (.slice Aa n c) l2, SV.els (A ++ l2), SV.tbl (fun k => (Value.slice Aa n c).ownBlock ≠ some k /\ (k ≠ px /\ U k)) L', SV.tbl (fun k => (Value.slice Aa n c).ownBlock ≠ some k /\ (k ≠ px /\ U k)) L', SV.tbp (fun k => (Value.slice Aa n c).ownBlock ≠ some k /\ (k ≠ px /\ U k)) L', SV.eq (.int .i64 0)] (by kernel_rfl) (by kernel_rfl) ?_ ?_ ?_
 ·refine ⟨⟨⟨⟨⟨⟨⟨⟨⟨⟨⟨⟨⟨⟨⟨⟨⟨⟨trivial, ?_⟩, ?_⟩, ?_⟩, ?_⟩, ?_⟩, ?_⟩, ?_⟩, ?_⟩, ?_⟩, ?_⟩, ?_⟩, ?_⟩, ?_⟩, ?_⟩, ?_⟩, ?_⟩, ?_⟩, ?_⟩
  all_goals (refine OpIs.mk rfl ?_; intro vs w1 hb hd K hK; simp only [frameV, zS, zA, zB, zC, zD] at hK |-)
  ·have HK := zH hK; clear hK; go_simp; exact HK.out _ _ rfl (zR _ _)
  ·have d0 : vs 0 = .pointer (some ⟨px, 0, none⟩) := hd 0 (by kernel_rfl)
   simp only [d0] at hK |-; have HK := zH hK; clear hK; go_simp; exact HK.out _ _ rfl (zR _ _)
  ·have d1 : vs 1 = .pointer (some ⟨px, 0, none⟩) := hd 1 (by kernel_rfl)
   simp only [d1] at hK |-; have HK := zH hK; clear hK; go_simp; exact HK.out _ _ rfl (zR _ _)
  ·have d2 : vs 2 = .pointer (some ⟨px, 0, none⟩) := hd 2 (by kernel_rfl)
   have c0 := yab hb HC0.out; simp only [d2] at hK |-; have HK := zH hK; clear hK; go_simp; exact HK.out _ _ rfl (zR _ _)
  iterate 2 (·have HK := zH hK; clear hK; go_simp; exact HK.out _ _ rfl (zR _ _))
  ·have d5 : vs 5 = .pointer (some ⟨px, 0, none⟩) := hd 5 (by kernel_rfl)
   simp only [d5] at hK |-; have HK := zH hK; clear hK; go_simp; exact HK.out _ _ rfl (zR _ _)
  ·have d6 : vs 6 = .pointer (some ⟨px, 0, none⟩) := hd 6 (by kernel_rfl)
   simp only [d6] at hK |-; have HK := zH hK; clear hK; go_simp; exact HK.out _ _ rfl (zR _ _)
  ·have d7 : vs 7 = .pointer (some ⟨px, 1, none⟩) := hd 7 (by kernel_rfl)
   have c0 := yab hb HC1.out; simp only [d7] at hK |-; have HK := zH hK; clear hK; go_simp; exact HK.out _ _ rfl (zR _ _)
  iterate 2 (·have HK := zH hK; clear hK; go_simp; exact HK.out _ _ rfl (zR _ _))
  ·have d9 : vs 9 = .pointer (some ⟨px, 0, none⟩) := hd 9 (by kernel_rfl)
   have d10 : vs 10 = .slice Ae ne ce := hd 10 (by kernel_rfl)
   simp only [d9, d10] at hK |-; have HK := zH hK; clear hK; go_simp
   go_at_call 175
   refine (yft (HT.out.below hb) rfl (by have h := HEX.out.below hb (zN _); exact h) HI.out (Nat.le_trans HLE.out (by omega))).mono ?_
   rintro r w3 ⟨v3, rfl, ho3, hb3⟩; refine HK.out _ _ ?_ hb3; have h3 := OwnE.rd (F := anyB) ho3 fun _ _ => trivial
   show RdE anyB w3 v3 l2
   rw [<- HL2.out]; exact h3
  ·have d8 : vs 8 = .slice Aa n c := hd 8 (by kernel_rfl)
   have d11 : RdE anyB w1 (vs 11) l2 := hd 11 (by kernel_rfl)
   have q1 := Exists.choose_spec (RdF.form d11); generalize Exists.choose (RdF.form d11) = A7 at q1; have q2 := Exists.choose_spec q1; generalize Exists.choose q1 = c7 at q2; clear q1
   have d11' : Hid (RdE anyB w1 (.slice A7 l2.length c7) l2) := (by show RdE _ _ _ _; rw [<- q2]; exact d11)
   clear d11; simp only [d8] at hK |-; simp only [q2] at hK |-; have HK := zH hK; clear hK; go_simp; exact HK.out _ _ (ysn d11'.out) (yaa w1 _)
  ·have d12 : (SV.two (.slice Aa n c) l2).p (vs 12) w1 := hd 12 (by kernel_rfl)
   have h7 := Exists.choose_spec (SV.two_get d12); generalize Exists.choose (SV.two_get d12) = q7 at h7; have e7 := h7.1; have hu7 := zH h7.2; clear h7 d12; simp only [e7] at hK |-; have HK := zH hK; clear hK; go_simp
   go_at_call 178
   have h8 := Exists.choose_spec hu7.out; refine (ypm (RdF.below HRD.out hb (zN _)) h8.2.2 h8.1 h8.2.1 HLL.out).mono ?_; rintro r w3 ⟨⟨v3, rfl, hr3⟩, hb3⟩; exact HK.out _ _ hr3 hb3
  ·have d3 : vs 3 = .pointer (some ⟨q, 0, none⟩) := hd 3 (by kernel_rfl)
   have d4 : vs 4 = .slice As ns cs := hd 4 (by kernel_rfl)
   have d13 : RdE anyB w1 (vs 13) (A ++ l2) := hd 13 (by kernel_rfl)
   have d13' := zH d13; clear d13; simp only [d3, d4] at hK |-; have HK := zH hK; clear hK; go_simp
   go_at_call 177
   refine (yoc (HFB.out w1 hb) (HTab.out.below hb (zN _)) (by have h := HS.out.below hb (zN _); exact h) d13'.out HLW.out).mono ?_
   rintro r w3 ⟨h1, -, hb3⟩; obtain ⟨q3, rfl, ht3⟩ := h1 HWE.out; exact HK.out _ _ ⟨q3, rfl, by rw [<- HPT.out]; exact ht3⟩ hb3
  ·have d14 : (SV.tbl (fun k => (Value.slice Aa n c).ownBlock ≠ some k /\ (k ≠ px /\ U k)) L').p (vs 14) w1 := hd 14 (by kernel_rfl)
   have h7 := Exists.choose_spec (SV.tbl_get d14); generalize Exists.choose (SV.tbl_get d14) = q7 at h7; have e7 := h7.1; have hu7 := zH h7.2; clear h7 d14; simp only [e7] at hK |-; have HK := zH hK; clear hK; go_simp; exact HK.out _ _ ⟨_, rfl, hu7.out⟩ (zR _ _)
  ·have d15 : (SV.tbl (fun k => (Value.slice Aa n c).ownBlock ≠ some k /\ (k ≠ px /\ U k)) L').p (vs 15) w1 := hd 15 (by kernel_rfl)
   have h7 := Exists.choose_spec (SV.tbl_get d15); generalize Exists.choose (SV.tbl_get d15) = q7 at h7; have e7 := h7.1; have hu7 := zH h7.2; clear h7 d15; simp only [e7] at hK |-; have HK := zH hK; clear hK; go_simp; exact HK.out _ _ ⟨_, rfl, hu7.out⟩ (zR _ _)
  ·have d15 : (SV.tbl (fun k => (Value.slice Aa n c).ownBlock ≠ some k /\ (k ≠ px /\ U k)) L').p (vs 15) w1 := hd 15 (by kernel_rfl)
   have h7 := Exists.choose_spec (SV.tbl_get d15); generalize Exists.choose (SV.tbl_get d15) = q7 at h7; have e7 := h7.1; have hu7 := zH h7.2; clear h7 d15; simp only [e7] at hK |-; have HK := zH hK; clear hK; go_simp; exact HK.out _ _ rfl (zR _ _)
 ·intro vs w3 hb hd; obtain ⟨q9, e16, ht9⟩ : ∃ q : Nat, vs 16 = .pointer (some ⟨q, 0, none⟩) /\ TabAt (fun k => (Value.slice Aa n c).ownBlock ≠ some k /\ (k ≠ px /\ U k)) w3 q L' := hd 16 (by omega)
  have e15 : vs 17 = .int .i64 0 := hd 17 (by omega)
  have HT9 := zH ht9
  have hp3 : ∃ A0, w3.heap[px]? = some (.cells #[.pointer A0, .slice Aa n c, .bool true] 143 (0, 0)) := px_at HT.out HC1.out hb
  obtain ⟨A0, hp3⟩ := hp3; have HP3 := zH hp3; have g0 := yat (i := 0) (v := .pointer A0) hp3 rfl; have g1 := frozen_of_row w3 px 0 _ _ hp3; have HB3 := zH hb; simp only [frameV, zS, zA, zB, List.drop_succ_cons, List.drop_zero, List.take_succ_cons, List.take_zero, List.cons_append, List.nil_append, e16, e15]; clear hb hd e16 e15 ht9 hp3
  go_wp2
  go_ret
  have h10 := heap_setCell_same _ px 0 _ _ (.pointer (some ⟨q9, 0, none⟩)) HP3.out; simp only [zS, zA, zB] at h10; exact ⟨rfl, fun _ => ⟨⟨q9, _, h10, tab_px HT9.out (fun k h => h.2.1) HP3.out, own_px (R4.yan HO.out HB3.out (zN _)) HP3.out⟩, HPB.out⟩, (HB3.out.mono HBW.out).setCell (by show B <= px; exact HPB.out.le) _, (Kp.of_below HB3.out).trans (Kp.px HP3.out)⟩
 ·intro vs w3 hb hd; obtain ⟨q9, e16, ht9⟩ : ∃ q : Nat, vs 16 = .pointer (some ⟨q, 0, none⟩) /\ TabAt (fun k => (Value.slice Aa n c).ownBlock ≠ some k /\ (k ≠ px /\ U k)) w3 q L' := hd 16 (by omega) (by omega)
  obtain ⟨q8, e15, -⟩ : ∃ q : Nat, vs 15 = .tuple #[.pointer (some ⟨q, 0, none⟩), .int .i64 0] /\ TabAt (fun k => (Value.slice Aa n c).ownBlock ≠ some k /\ (k ≠ px /\ U k)) w3 q L' := hd 15 (by omega) (by omega)
  have HT9 := zH ht9
  have hp3 : ∃ A0, w3.heap[px]? = some (.cells #[.pointer A0, .slice Aa n c, .bool true] 143 (0, 0)) := px_at HT.out HC1.out hb
  obtain ⟨A0, hp3⟩ := hp3; have HP3 := zH hp3; have g0 := yat (i := 0) (v := .pointer A0) hp3 rfl; have g1 := frozen_of_row w3 px 0 _ _ hp3; have HB3 := zH hb; simp only [frameV, zS, zA, zB, List.drop_succ_cons, List.drop_zero, List.take_succ_cons, List.take_zero, List.cons_append, List.nil_append, e16, e15]; clear hb hd e16 e15 ht9 hp3
  go_wp2
  go_ret
  have h10 := heap_setCell_same _ px 0 _ _ (.pointer (some ⟨q9, 0, none⟩)) HP3.out; simp only [zS, zA, zB] at h10; exact ⟨rfl, fun _ => ⟨⟨q9, _, h10, tab_px HT9.out (fun k h => h.2.1) HP3.out, own_px (R4.yan HO.out HB3.out (zN _)) HP3.out⟩, HPB.out⟩, (HB3.out.mono HBW.out).setCell (by show B <= px; exact HPB.out.le) _, (Kp.of_below HB3.out).trans (Kp.px HP3.out)⟩
set_option maxHeartbeats 8000000 in
theorem zag {B : Nat} {w : World} {px : Nat} {L : List PE} {A : List Nat} (hT : TA U B w px ⟨L, some A⟩) (h8 : Anc A) {sv ev : Value} {s e : List Int} (hs : RdI anyB w sv s) (he : RdI anyB w ev e) (hI : I64 e) (hle : e.length <= 100) {l2 : List Nat} (hl2 : elsP L e = l2) {L' : List PE} {E : Int} (hE : withE L s (A ++ l2) = E) (hE0 : E ≠ 0) :
  Calls Tryz.prog 132 #[.pointer (some ⟨px, 0, none⟩), sv, ev] w (MovIs U B px ⟨L', some A⟩ E w) := by
 have HT := zH hT; obtain ⟨q, Aa, c, c0, c1, -, f0, -, -, hTab, hown, hrd⟩ := hT.cells (A := A) rfl
 have HLW : Hid (∀ x ∈ A ++ l2, x < 4294967296) := by
  intro x hx
  rcases List.mem_append.1 hx with hx | hx
  ·exact h8.2 x hx
  ·rw [<- hl2] at hx; exact els_lt hTab.good e x hx
 have HLL : Hid (A.length + l2.length <= 1000) := by
  have h1 := ykw hTab.good e; rw [hl2] at h1; have h2 := h8.1
  show _ <= _; omega
 have HBW := zH (Nat.le_trans hT.bel.le (Nat.le_of_lt hT.lt)); have HPB := zH hT.bel; obtain ⟨As, cs, rfl⟩ := hs.form; obtain ⟨Ae, ce, rfl⟩ := he.form; have HS := zH hs; have HEX := zH he; have HI := zH hI; have HLE := zH hle; have HL2 := zH hl2; have HRD := zH hrd; have HC0 := zH c0; have HC1 := zH c1; have HTab := zH hTab; have HO := zH hown; have HWE := zH hE; have HE0 := zH hE0
 have hEn : (E != 0) = true := by simpa using hE0
 clear hE0; obtain ⟨n, hn⟩ : ∃ n, A.length = n := ⟨_, rfl⟩; obtain ⟨ns, hns⟩ : ∃ n, s.length = n := ⟨_, rfl⟩; obtain ⟨ne, hne⟩ : ∃ n, e.length = n := ⟨_, rfl⟩; rw [hn] at HC1 HRD HO HTab; rw [hns] at HS |-; rw [hne] at HEX |-
 have HFB : Hid (∀ (w' : World), Below w.heap.size w w' -> ∀ k, w'.heap.size <= k -> (Value.slice Aa n c).ownBlock ≠ some k /\ (k ≠ px /\ U k)) := by
  intro w' hb k hk'; have h2 := HT.out.lt; have h3 := hb.size; refine ⟨fun e => ?_, by omega, hT.bel.nu k (by have := hT.bel.le; omega)⟩
  have := (World.ownsRow.lt HO.out k e).2
  omega
 clear hT h8 hs he hI hle hl2 c0 c1 f0 hTab hown hrd hn hns hne hE
 go_enter Tryz.func132, Tryz.ntmps132
 go_upto_region 1 with (fail)
 refine ydq (m := 18) 17 [10, 11, 12, 13, 14, 15, 16, 17, 18, 19, 20, 21, 22, 23, 24, 9, 25, 26] [SV.eq (.pointer (some ⟨px, 0, none⟩)), SV.eq (.pointer (some ⟨px, 0, none⟩)), SV.eq (.pointer (some ⟨px, 0, none⟩)), SV.eq (.pointer (some ⟨q, 0, none⟩)), SV.eq (.slice As ns cs), SV.eq (.pointer (some ⟨px, 0, none⟩)), SV.eq (.pointer (some ⟨px, 0, none⟩)), SV.eq (.pointer (some ⟨px, 1, none⟩)), SV.eq (.slice Aa n c), SV.eq (.pointer (some ⟨px, 0, none⟩)), SV.eq (.slice Ae ne ce), SV.els l2, SV.two (.slice Aa n c) l2, SV.els (A ++ l2), SV.eq (.tuple #[.pointer none, .int .i64 E]), SV.eq (.tuple #[.pointer none, .int .i64 E]), SV.eq (.pointer none), SV.eq (.int .i64 E)] (by kernel_rfl) (by kernel_rfl) ?_ ?_ ?_
 ·refine ⟨⟨⟨⟨⟨⟨⟨⟨⟨⟨⟨⟨⟨⟨⟨⟨⟨⟨trivial, ?_⟩, ?_⟩, ?_⟩, ?_⟩, ?_⟩, ?_⟩, ?_⟩, ?_⟩, ?_⟩, ?_⟩, ?_⟩, ?_⟩, ?_⟩, ?_⟩, ?_⟩, ?_⟩, ?_⟩, ?_⟩
  all_goals (refine OpIs.mk rfl ?_; intro vs w1 hb hd K hK; simp only [frameV, zS, zA, zB, zC, zD] at hK |-)
  ·have HK := zH hK; clear hK; go_simp; exact HK.out _ _ rfl (zR _ _)
  ·have d0 : vs 0 = .pointer (some ⟨px, 0, none⟩) := hd 0 (by kernel_rfl)
   simp only [d0] at hK |-; have HK := zH hK; clear hK; go_simp; exact HK.out _ _ rfl (zR _ _)
  ·have d1 : vs 1 = .pointer (some ⟨px, 0, none⟩) := hd 1 (by kernel_rfl)
   simp only [d1] at hK |-; have HK := zH hK; clear hK; go_simp; exact HK.out _ _ rfl (zR _ _)
  ·have d2 : vs 2 = .pointer (some ⟨px, 0, none⟩) := hd 2 (by kernel_rfl)
   have c0 := yab hb HC0.out; simp only [d2] at hK |-; have HK := zH hK; clear hK; go_simp; exact HK.out _ _ rfl (zR _ _)
  iterate 2 (·have HK := zH hK; clear hK; go_simp; exact HK.out _ _ rfl (zR _ _))
  ·have d5 : vs 5 = .pointer (some ⟨px, 0, none⟩) := hd 5 (by kernel_rfl)
   simp only [d5] at hK |-; have HK := zH hK; clear hK; go_simp; exact HK.out _ _ rfl (zR _ _)
  ·have d6 : vs 6 = .pointer (some ⟨px, 0, none⟩) := hd 6 (by kernel_rfl)
   simp only [d6] at hK |-; have HK := zH hK; clear hK; go_simp; exact HK.out _ _ rfl (zR _ _)
  ·have d7 : vs 7 = .pointer (some ⟨px, 1, none⟩) := hd 7 (by kernel_rfl)
   have c0 := yab hb HC1.out; simp only [d7] at hK |-; have HK := zH hK; clear hK; go_simp; exact HK.out _ _ rfl (zR _ _)
  iterate 2 (·have HK := zH hK; clear hK; go_simp; exact HK.out _ _ rfl (zR _ _))
  ·have d9 : vs 9 = .pointer (some ⟨px, 0, none⟩) := hd 9 (by kernel_rfl)
   have d10 : vs 10 = .slice Ae ne ce := hd 10 (by kernel_rfl)
   simp only [d9, d10] at hK |-; have HK := zH hK; clear hK; go_simp
   go_at_call 175
   refine (yft (HT.out.below hb) rfl (by have h := HEX.out.below hb (zN _); exact h) HI.out (Nat.le_trans HLE.out (by omega))).mono ?_
   rintro r w3 ⟨v3, rfl, ho3, hb3⟩; refine HK.out _ _ ?_ hb3; have h3 := OwnE.rd (F := anyB) ho3 fun _ _ => trivial
   show RdE anyB w3 v3 l2
   rw [<- HL2.out]; exact h3
  ·have d8 : vs 8 = .slice Aa n c := hd 8 (by kernel_rfl)
   have d11 : RdE anyB w1 (vs 11) l2 := hd 11 (by kernel_rfl)
   have q1 := Exists.choose_spec (RdF.form d11); generalize Exists.choose (RdF.form d11) = A7 at q1; have q2 := Exists.choose_spec q1; generalize Exists.choose q1 = c7 at q2; clear q1
   have d11' : Hid (RdE anyB w1 (.slice A7 l2.length c7) l2) := (by show RdE _ _ _ _; rw [<- q2]; exact d11)
   clear d11; simp only [d8] at hK |-; simp only [q2] at hK |-; have HK := zH hK; clear hK; go_simp; exact HK.out _ _ (ysn d11'.out) (yaa w1 _)
  ·have d12 : (SV.two (.slice Aa n c) l2).p (vs 12) w1 := hd 12 (by kernel_rfl)
   have h7 := Exists.choose_spec (SV.two_get d12); generalize Exists.choose (SV.two_get d12) = q7 at h7; have e7 := h7.1; have hu7 := zH h7.2; clear h7 d12; simp only [e7] at hK |-; have HK := zH hK; clear hK; go_simp
   go_at_call 178
   have h8 := Exists.choose_spec hu7.out; refine (ypm (RdF.below HRD.out hb (zN _)) h8.2.2 h8.1 h8.2.1 HLL.out).mono ?_; rintro r w3 ⟨⟨v3, rfl, hr3⟩, hb3⟩; exact HK.out _ _ hr3 hb3
  ·have d3 : vs 3 = .pointer (some ⟨q, 0, none⟩) := hd 3 (by kernel_rfl)
   have d4 : vs 4 = .slice As ns cs := hd 4 (by kernel_rfl)
   have d13 : RdE anyB w1 (vs 13) (A ++ l2) := hd 13 (by kernel_rfl)
   have d13' := zH d13; clear d13; simp only [d3, d4] at hK |-; have HK := zH hK; clear hK; go_simp
   go_at_call 177
   refine (yoc (HFB.out w1 hb) (HTab.out.below hb (zN _)) (by have h := HS.out.below hb (zN _); exact h) d13'.out HLW.out).mono ?_
   rintro r w3 ⟨-, h1, hb3⟩; have h2 := h1 (by rw [HWE.out]; exact HE0.out)
   rw [HWE.out] at h2; subst h2; exact HK.out _ _ rfl hb3
  ·have d14 : vs 14 = .tuple #[.pointer none, .int .i64 E] := hd 14 (by kernel_rfl)
   simp only [d14] at hK |-; have HK := zH hK; clear hK; go_simp; exact HK.out _ _ rfl (zR _ _)
  ·have d15 : vs 15 = .tuple #[.pointer none, .int .i64 E] := hd 15 (by kernel_rfl)
   simp only [d15] at hK |-; have HK := zH hK; clear hK; go_simp; exact HK.out _ _ rfl (zR _ _)
  ·have d15 : vs 15 = .tuple #[.pointer none, .int .i64 E] := hd 15 (by kernel_rfl)
   simp only [d15] at hK |-; have HK := zH hK; clear hK; go_simp; exact HK.out _ _ rfl (zR _ _)
 ·intro vs w3 hb hd
  have e16 : vs 16 = .pointer none := hd 16 (by omega)
  have e15 : vs 17 = .int .i64 E := hd 17 (by omega)
  have HB3 := zH hb; simp only [frameV, zS, zA, zB, List.drop_succ_cons, List.drop_zero, List.take_succ_cons, List.take_zero, List.cons_append, List.nil_append, e16, e15]; clear hb hd e16 e15
  go_wp2
  go_ret
  exact MovIs.bad HB3.out HBW.out HE0.out
 ·intro vs w3 hb hd
  have e16 : vs 16 = .pointer none := hd 16 (by omega) (by omega)
  have e15 : vs 15 = .tuple #[.pointer none, .int .i64 E] := hd 15 (by omega) (by omega)
  have HB3 := zH hb; simp only [frameV, zS, zA, zB, List.drop_succ_cons, List.drop_zero, List.take_succ_cons, List.take_zero, List.cons_append, List.nil_append, e16, e15]; clear hb hd e16 e15
  go_wp2
  go_ret
  exact MovIs.bad HB3.out HBW.out HE0.out
theorem zah {B : Nat} {w : World} {px : Nat} {L : List PE} {A : List Nat} (hT : TA U B w px ⟨L, some A⟩) (h8 : Anc A) {sv ev : Value} {s e : List Int} (hs : RdI anyB w sv s) (he : RdI anyB w ev e) (hI : I64 e) (hle : e.length <= 100) {E : Int} (hE : withE L s (A ++ elsP L e) = E) :
  Calls Tryz.prog 132 #[.pointer (some ⟨px, 0, none⟩), sv, ev] w (MovIs U B px ⟨putP L (s, A ++ elsP L e), some A⟩ E w) := by
 by_cases hE0 : E = 0
 ·subst hE0; exact zaf hT h8 hs he hI hle rfl hE rfl
 ·exact zag hT h8 hs he hI hle rfl hE hE0
end Go.Proofs.YteibnfeokgibmaaGreat
end
namespace Go.Proofs.YteibnfeokgibmaaGreat
open Go.RowKit
set_option maxHeartbeats 8000000 in
theorem yyu {F : Nat -> Prop} {w : World} {p : Nat} {L : List PE} (h : TabAt F w p L) (b : ByteArray) (hb : b.size <= 100000) (k : Int) {n : Nat} (hn1 : 1 <= n) (hn : n <= 3) (sh bk : Bool) {R : List (List Int)} (hR : wsL sh bk (elsP L (T2.sgs b.data.toList)) n 1 = R) :
  Calls Tryz.prog 64 #[.agg #[.int .i64 k, .int .i64 (n : Nat), .bool sh, .bool bk, .pointer (some ⟨p, 0, none⟩)], .string b] w fun e w' => (∃ u, e = .returned (.agg #[.string ⟨#[]⟩, u]) /\ RdLL w' u R) /\ Below w.heap.size w w' := by
 have hel := els_lt h.good (T2.sgs b.data.toList); have hln := ykw h.good (T2.sgs b.data.toList); have hsl := T2.yeo b.data.toList; rw [T2.ba_len] at hsl; obtain ⟨E, hE⟩ : ∃ E, elsP L (T2.sgs b.data.toList) = E := ⟨_, rfl⟩; rw [hE] at hel hln hR
 have hELN : E.length <= 1000000 := by omega
 have HRG : Hid (∀ m, m < n -> R[m]? = some (wsP (m + 1) sh bk E)) := fun m hm => by rw [<- hR, ysc sh bk E n 1 m hm, Nat.add_comm 1 m]
 have HRL : Hid (R.length = n) := by rw [<- hR]; exact ymn _ _ _ _ _
 have HEL := zH hel; have hb1 := belAlloc w (.cells #[.int .i64 k, .int .i64 (n : Nat), .bool sh, .bool bk, .pointer (some ⟨p, 0, none⟩)] 25); have hb2 := belAlloc (w.alloc (.cells #[.int .i64 k, .int .i64 (n : Nat), .bool sh, .bool bk, .pointer (some ⟨p, 0, none⟩)] 25)) (.cells #[.string ⟨#[]⟩, .slice none 0 0] 63); have hx := heap_alloc_new (w.alloc (.cells #[.int .i64 k, .int .i64 (n : Nat), .bool sh, .bool bk, .pointer (some ⟨p, 0, none⟩)] 25)) (.cells #[.string ⟨#[]⟩, .slice none 0 0] 63); have hc := (hb2.block w.heap.size (by simp)).trans (heap_alloc_new w (.cells #[.int .i64 k, .int .i64 (n : Nat), .bool sh, .bool bk, .pointer (some ⟨p, 0, none⟩)] 25))
 have CE := zH (yla ((h.below hb1 (zN _)).below hb2 (zN _)) b hb k (n : Nat) sh bk hE); have HX := zH hx; have HC := zH hc; have HB := zH (hb1.trans (hb2.mono hb1.size))
 have HS : Hid ((w.alloc (.cells #[.int .i64 k, .int .i64 (n : Nat), .bool sh, .bool bk, .pointer (some ⟨p, 0, none⟩)] 25)).heap.size = w.heap.size + 1) := World.size_alloc _ _
 have HS2 : Hid (((w.alloc (.cells #[.int .i64 k, .int .i64 (n : Nat), .bool sh, .bool bk, .pointer (some ⟨p, 0, none⟩)] 25)).alloc (.cells #[.string ⟨#[]⟩, .slice none 0 0] 63)).heap.size = w.heap.size + 2) := by show _ = _; rw [World.size_alloc, World.size_alloc]
 obtain ⟨i0, hi0, hz0, hz1, hz2⟩ := info_parts yyg; have HI := zH hi0; have HZ0 := zH hz0; have HZ1 := zH hz1; have HZ2 := zH hz2; clear hb1 hb2 hx hc hel hln hsl hR hE hi0 hz0 hz1 hz2 h hb
 go_enter Tryz.func64, Tryz.ntmps64
 go_upto_region 1 with (fail)
 generalize hw1 : (w.alloc (.cells #[.int .i64 k, .int .i64 (n : Nat), .bool sh, .bool bk, .pointer (some ⟨p, 0, none⟩)] 25)) = w1 at HX HB HS HS2 HC CE |-; rw [HS.out] at HX; clear hw1; generalize (w1.alloc (.cells #[.string ⟨#[]⟩, .slice none 0 0] 63)) = w2 at HX HB HS2 HC CE |-; obtain ⟨bx, hbx⟩ : ∃ b, w.heap.size = b := ⟨_, rfl⟩; have HBX := zH hbx; rw [hbx] at HX HB HS2 HC; rw [show (({ block := w.heap.size + 1, off := 0 } : Addr)) = ⟨bx + 1, 0, none⟩ by rw [hbx], show (({ block := w.heap.size, off := 0 } : Addr)) = ⟨bx, 0, none⟩ by rw [hbx]]
 clear hbx; have c0 := cellAt (i := 0) (v := .int .i64 k) HC.out rfl; have c1 := cellAt (i := 1) (v := .int .i64 (n : Nat)) HC.out rfl; have c2 := cellAt (i := 2) (v := .bool sh) HC.out rfl; have c3 := cellAt (i := 3) (v := .bool bk) HC.out rfl; have c4 := cellAt (i := 4) (v := .pointer (some ⟨p, 0, none⟩)) HC.out rfl
 have ne : (n : Int) <= 3 := by omega
 go_upto_region 2 with (go_at_call 96; refine (CE.out).mono ?_; rintro e w3 ⟨⟨ve, rfl, hr⟩, hb⟩; have HE3 := zH hr; have hC3 := (hb.block bx (by rw [HS2.out]; omega)).trans HC.out; have hX3 := (hb.block (bx + 1) (by rw [HS2.out]; omega)).trans HX.out; have HC3 := zH hC3; have HX3 := zH hX3; have HB3 := zH (HB.out.trans (hb.mono (by rw [HS2.out]; omega))); have HS3 : Hid (bx + 2 <= w3.heap.size) := (by have := hb.size; rw [HS2.out] at this; exact this); clear c0 c1 c2 c3 c4 hr hb hC3 hX3)
 have c1 := cellAt (i := 1) (v := .int .i64 (n : Nat)) HC3.out rfl
 go_wp2_with (refine wpList_make_full _ rfl (.tmp 12) (.tmp 12) 61 rfl w3.heap.size 29 i0 _ 1 Tryz.underlying61 HI.out HZ0.out HZ1.out .i64 .i64 _ _ n rfl rfl rfl rfl (by rw [HZ2.out]; omega) (by simp only [maxLen]; omega) (zN _) ?_; intro w4 ho hg; have HT4 := zH (TabRows.new (rows := R) ho); have HB4 := zH ((zR w3.heap.size w3).grown hg (zN _) (by simp)); clear ho hg c1)
 obtain ⟨g, hg⟩ : ∃ g, w3.heap.size = g := ⟨_, rfl⟩; have HG := zH hg; rw [hg] at HT4 HB4 HS3 |-; clear hg
 go_loopw [16] (fun i wr => ∃ m : Nat, m <= n /\ i = .int .i64 (m : Nat) /\ Hid (TabRows g n R m wr) /\ Hid (Below g w3 wr)) (fun i _ => n - (intOf i).toNat)
 case atStart => exact ⟨0, Nat.zero_le _, rfl, HT4.out, HB4.out⟩
 case round =>
  clear HT4 HB4; obtain ⟨m, hm, rfl, HT, HB5⟩ := hrel; obtain ⟨wo, rfl⟩ : ∃ wo, wo = wr := ⟨_, rfl⟩; have HC5 := zH ((HB5.out.block bx (by have := HS3.out; omega)).trans HC3.out)
  have HX5 := zH ((HB5.out.block (bx + 1) (by have := HS3.out; omega)).trans HX3.out)
  have HGS : Hid (g < wo.heap.size) := by obtain ⟨vs, _, h2, _⟩ := HT.out; exact R4.yad h2
  by_cases hlt : m < n
  ·have hltI : (m : Int) < (n : Int) := by omega
   have hw1 : IntKind.i64.wrap ((m : Int) + 1) = ((m + 1 : Nat) : Int) := by rw [IntWalk.i64_in _ (by omega)]; omega
   have c0 := cellAt (i := 0) (v := .int .i64 k) HC5.out rfl; have c1 := cellAt (i := 1) (v := .int .i64 (n : Nat)) HC5.out rfl; have c2 := cellAt (i := 2) (v := .bool sh) HC5.out rfl; have c3 := cellAt (i := 3) (v := .bool bk) HC5.out rfl; have c4 := cellAt (i := 4) (v := .pointer (some ⟨p, 0, none⟩)) HC5.out rfl; have CW := zH (yxk (RdE.below HE3.out HB5.out (by rw [HG.out]; exact zN _)) hELN HEL.out (lv := m + 1) (by unfold Lv; omega) k (n : Nat) sh bk (.pointer (some ⟨p, 0, none⟩)) rfl)
   obtain ⟨m1, hm1⟩ : ∃ m1, m + 1 = m1 := ⟨_, rfl⟩; have HRM := zH (HRG.out m hlt); rw [hm1] at hw1 CW HRM; have HM1 := zH hm1; have HLT := zH hlt; clear hm1 hlt
   go_wp2_with (go_at_call 95; refine (CW.out).mono ?_; rintro e w5 ⟨⟨u5, rfl, hr⟩, hb⟩; obtain ⟨A5, k5, rfl⟩ := hr.form; have HT5 := zH (HT.out.below hb); have HR5 := zH (RdF.mono hr (fun j hj => Nat.lt_of_lt_of_le HGS.out hj)); have HB6 := zH (HB5.out.trans (hb.mono (Nat.le_of_lt HGS.out))); obtain ⟨⟨v0, y0⟩, y1⟩ := HT5.out.old HLT.out; clear hr hb c0 c1 c2 c3 c4)
   go_roundw
   case rel => exact ⟨m1, by have := HM1.out; have := HLT.out; omega, by have := HM1.out; go_num, by have h := HT5.out.put HLT.out HRM.out HR5.out; rw [HM1.out] at h; exact h, HB6.out.setCell (p := ⟨g, m, none⟩) (zN _) _⟩
   case measure => have := HM1.out; simp [intOf] <;> omega
  ·obtain rfl : m = n := by omega
   have hltI : ¬ (m : Int) < (m : Int) := by omega
   have x0 := cellAt (i := 0) (v := .string ⟨#[]⟩) HX5.out rfl; have x1 := cellAt (i := 1) (v := .slice none 0 0) HX5.out rfl; have x2 := frozen_of_row _ (bx + 1) 0 _ _ HX5.out; have x3 := frozen_of_row _ (bx + 1) 1 _ _ HX5.out; clear hlt
   go_wp2
   have h9 := set2 HX5.out (.string ⟨#[]⟩) (.slice (some ⟨g, 0, none⟩) m m); have z0 := cellAt (i := 0) (v := .string ⟨#[]⟩) h9 rfl; have z1 := cellAt (i := 1) (v := .slice (some ⟨g, 0, none⟩) m m) h9 rfl; have HLL := zH (HT.out.all HRL.out (zN _))
   have hgs : bx + 1 < g := by have := HS3.out; omega
   refine bodyPost_ret (v := .agg #[.string ⟨#[]⟩, .slice (some ⟨g, 0, none⟩) m m]) (by simp [results, Tryz.results64, go_sem, z0, z1]) rfl ⟨⟨_, rfl, ?_⟩, ?_⟩
   ·obtain ⟨vs, h1, h2, h3⟩ := HT.out
    have hk : ∀ j, j ≠ bx + 1 -> ((wo.setCell ⟨bx + 1, 0, none⟩ (.string ⟨#[]⟩)).setCell ⟨bx + 1, 1, none⟩ (.slice (some ⟨g, 0, none⟩) m m)).heap[j]? = wo.heap[j]? := fun j hj => (Below.heap_setCell _ _ _ _ (by simpa using hj)).trans (Below.heap_setCell _ _ _ _ (by simpa using hj))
    refine TabRows.all ⟨vs, h1, (hk g (by omega)).trans h2, fun i x hi hx => ?_⟩ HRL.out (zN _)
    obtain ⟨u, hu, hr⟩ := h3 i x hi hx; exact ⟨u, hu, RdF.frame hr fun j hj _ => hk j (by have hj : g < j := hj; omega)⟩
   ·rw [HBX.out]; exact ((HB3.out.trans (HB5.out.mono (by omega))).setCell (p := ⟨bx + 1, 0, none⟩) (by show bx <= bx + 1; omega) _).setCell (p := ⟨bx + 1, 1, none⟩) (by show bx <= bx + 1; omega) _
end Go.Proofs.YteibnfeokgibmaaGreat
