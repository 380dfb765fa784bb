/-
  PACKED for a claim.
-/
import Derived.Test.YtichfdjjbafeiaaGreatP40
set_option linter.unusedVariables false
set_option linter.unusedSimpArgs false
set_option maxRecDepth 100000
namespace Go.Proofs.YtichfdjjbafeiaaGreat
open Go.RowKit
def SV.two (V : Value) (l : List Nat) : SV := ⟨fun v w => ∃ (g : Nat) (u : Value), v = .slice (some ⟨g, 0, none⟩) 2 2 /\ w.cell? ⟨g, 0, none⟩ = some V /\ w.cell? ⟨g, 1, none⟩ = some u /\ RdE anyB w u l, fun v w w' h hb => by
 obtain ⟨g, u, h1, h2, h3, h4⟩ := h; exact ⟨g, u, h1, yae hb h2, yae hb h3, h4.below hb (zN _)⟩⟩
theorem SV.two_get {V : Value} {l : List Nat} {v : Value} {w : World} (h : (SV.two V l).p v w) : ∃ g : Nat, v = .slice (some ⟨g, 0, none⟩) 2 2 /\ ∃ u : Value, w.cell? ⟨g, 0, none⟩ = some V /\ w.cell? ⟨g, 1, none⟩ = some u /\ RdE anyB w u l := by
 obtain ⟨g, u, h1, h2, h3, h4⟩ := h; exact ⟨g, h1, u, h2, h3, h4⟩
theorem ypd {w : World} {V u : Value} {l : List Nat} (hu : RdE anyB w u l) {T : TypeId} : (SV.two V l).p (.slice (some ⟨w.heap.size, 0, none⟩) 2 2) (w.alloc (.cells #[V, u] T)) :=
 ⟨_, u, rfl, yan (heap_alloc_new w _) rfl, yan (heap_alloc_new w _) rfl, RdE.below hu (yab w _) (zN _)⟩
def SV.tbl (F : Nat -> Prop) (L : List PE) : SV := ⟨fun v w => ∃ q : Nat, v = .tuple #[.pointer (some ⟨q, 0, none⟩), .int .i64 0] /\ TabAt F w q L, fun _ _ _ ⟨q, e, h⟩ hb => ⟨q, e, h.below hb (zN _)⟩⟩
theorem SV.tbl_get {F : Nat -> Prop} {L : List PE} {v : Value} {w : World} (h : (SV.tbl F L).p v w) : ∃ q : Nat, v = .tuple #[.pointer (some ⟨q, 0, none⟩), .int .i64 0] /\ TabAt F w q L := h
def SV.tbp (F : Nat -> Prop) (L : List PE) : SV := ⟨fun v w => ∃ q : Nat, v = .pointer (some ⟨q, 0, none⟩) /\ TabAt F w q L, fun _ _ _ ⟨q, e, h⟩ hb => ⟨q, e, h.below hb (zN _)⟩⟩
theorem ymt {F G : Nat -> Prop} {w : World} {g : Nat} {u v : Value} {l m : List Nat} (hu : RdE F w u l) (hv : RdE G w v m) (c0 : w.cell? ⟨g, 0, none⟩ = some u) (c1 : w.cell? ⟨g, 1, none⟩ = some v) (hN : l.length + m.length <= 1000) :
  Calls Tryz.prog 124 #[.slice (some ⟨g, 0, none⟩) 2 2] w fun e w' => (∃ v, e = .returned v /\ RdE anyB w' v (l ++ m)) /\ Below w.heap.size w w' := by
 refine (yrz (F := anyB) (n := 2) (Ms := [l, m]) (vs := [u, v]) rfl rfl (by omega) ?_ ?_ (by simpa using hN)).mono ?_
 ·intro k x hk
  rcases k with _ | _ | k
  ·simp at hk; subst hk; exact c0
  ·simp at hk; subst hk; exact c1
  ·simp at hk
 ·intro k x M hk hM
  rcases k with _ | _ | k
  ·simp at hk hM; subst hk hM; exact RdF.any hu
  ·simp at hk hM; subst hk hM; exact RdF.any hv
  ·simp at hk
 ·rintro e w' ⟨⟨x, rfl, ho⟩, hb⟩; refine ⟨⟨x, rfl, ?_⟩, hb⟩
  have := OwnE.rd (F := anyB) ho fun _ _ => trivial
  simpa using this
theorem els_lt {L : List PE} (hg : GoodT L) (ss : List Int) : ∀ x ∈ elsP L ss, x < 4294967296 := yrv hg ss.length ss (zN _)
theorem yiw {L : List PE} (hg : GoodT L) (ss : List Int) : (elsP L ss).length <= 8 * ss.length := ymr hg ss.length ss (zN _)
theorem px_at {B : Nat} {w w' : World} {px n c : Nat} {L : List PE} {A : List Nat} {Aa : Option Addr} (hT : TA B w px ⟨L, some A⟩) (c1 : w.cell? ⟨px, 1, none⟩ = some (.slice Aa n c)) (hb : Below w.heap.size w w') : ∃ A0, w'.heap[px]? = some (.cells #[.pointer A0, .slice Aa n c, .bool true] 80 (0, 0)) := by
 obtain ⟨⟨q, va, h1, h2, h3⟩, h4⟩ := hT; rw [cell_of_row w px 1 _ _ _ h1] at c1
 cases c1
 exact ⟨_, (hb.block px (R4.yac h1)).trans h1⟩
set_option maxHeartbeats 8000000 in
theorem yux {B : Nat} {w : World} {px : Nat} {L : List PE} {A : List Nat} (hT : TA B w px ⟨L, some A⟩) (h8 : Anc A) {sv ev : Value} {s e : List Int} (hs : RdI anyB w sv s) (he : RdI anyB w ev e) (hI : I64 e) (hle : e.length <= 100) {l2 : List Nat} (hl2 : elsP L e = l2) {L' : List PE} (hE : withE L s (A ++ l2) = 0) (hL' : putP L (s, A ++ l2) = L') :
  Calls Tryz.prog 75 #[.pointer (some ⟨px, 0, none⟩), sv, ev] w (MovIs B px ⟨L', some A⟩ 0 w) := by
 have HT := zH hT; obtain ⟨q, Aa, c, c0, c1, -, f0, -, -, hTab, hown, hrd⟩ := hT.cells (A := A) rfl
 have HLW : Hid (∀ x ∈ A ++ l2, x < 4294967296) := by
  intro x hx
  rcases List.mem_append.1 hx with hx | hx
  ·exact h8.2 x hx
  ·rw [<- hl2] at hx; exact els_lt hTab.good e x hx
 have HLL : Hid (A.length + l2.length <= 1000) := by
  have h1 := yiw hTab.good e; rw [hl2] at h1; have h2 := h8.1
  show _ <= _; omega
 have HBW := zH (Nat.le_trans hT.bel (Nat.le_of_lt hT.lt)); have HPB := zH hT.bel; obtain ⟨As, cs, rfl⟩ := hs.form; obtain ⟨Ae, ce, rfl⟩ := he.form; have HS := zH hs; have HEX := zH he; have HI := zH hI; have HLE := zH hle; have HL2 := zH hl2; have HRD := zH hrd; have HC0 := zH c0; have HC1 := zH c1; have HTab := zH hTab; have HO := zH hown; have HWE := zH hE; have HPT := zH hL'; clear hL'; obtain ⟨n, hn⟩ : ∃ n, A.length = n := ⟨_, rfl⟩; obtain ⟨ns, hns⟩ : ∃ n, s.length = n := ⟨_, rfl⟩; obtain ⟨ne, hne⟩ : ∃ n, e.length = n := ⟨_, rfl⟩; rw [hn] at HC1 HRD HO HTab; rw [hns] at HS |-; rw [hne] at HEX |-
 have HFB : Hid (∀ (w' : World), Below w.heap.size w w' -> ∀ k, w'.heap.size <= k -> (Value.slice Aa n c).ownBlock ≠ some k /\ k ≠ px) := by
  intro w' hb k hk'; have h2 := HT.out.lt; have h3 := hb.size; refine ⟨fun e => ?_, by omega⟩
  have := (World.ownsRow.lt HO.out k e).2
  omega
 clear hT h8 hs he hI hle hl2 c0 c1 f0 hTab hown hrd hn hns hne hE
 go_enter Tryz.func75, Tryz.ntmps75
 go_upto_region 1 with (fail)
 refine yds (m := 18) 17 [10, 11, 12, 13, 14, 15, 16, 17, 18, 19, 20, 21, 22, 23, 24, 9, 25, 26] [SV.eq (.pointer (some ⟨px, 0, none⟩)), SV.eq (.pointer (some ⟨px, 0, none⟩)), SV.eq (.pointer (some ⟨px, 0, none⟩)), SV.eq (.pointer (some ⟨q, 0, none⟩)), SV.eq (.slice As ns cs), SV.eq (.pointer (some ⟨px, 0, none⟩)), SV.eq (.pointer (some ⟨px, 0, none⟩)), SV.eq (.pointer (some ⟨px, 1, none⟩)), SV.eq (.slice Aa n c), SV.eq (.pointer (some ⟨px, 0, none⟩)), SV.eq (.slice Ae ne ce), SV.els l2, SV.two (.slice Aa n c) l2, SV.els (A ++ l2), SV.tbl (fun k => (Value.slice Aa n c).ownBlock ≠ some k /\ k ≠ px) L', SV.tbl (fun k => (Value.slice Aa n c).ownBlock ≠ some k /\ k ≠ px) L', SV.tbp (fun k => (Value.slice Aa n c).ownBlock ≠ some k /\ k ≠ px) L', SV.eq (.int .i64 0)] (by kernel_rfl) (by kernel_rfl) ?_ ?_ ?_
 ·refine ⟨⟨⟨⟨⟨⟨⟨⟨⟨⟨⟨⟨⟨⟨⟨⟨⟨⟨trivial, ?_⟩, ?_⟩, ?_⟩, ?_⟩, ?_⟩, ?_⟩, ?_⟩, ?_⟩, ?_⟩, ?_⟩, ?_⟩, ?_⟩, ?_⟩, ?_⟩, ?_⟩, ?_⟩, ?_⟩, ?_⟩
  all_goals (refine OpIs.mk rfl ?_; intro vs w1 hb hd K hK; simp only [frameV, zS, zA, zB, zC, zD] at hK |-)
  ·have HK := zH hK; clear hK; go_simp; exact HK.out _ _ rfl (zR _ _)
  ·have d0 : vs 0 = .pointer (some ⟨px, 0, none⟩) := hd 0 (by kernel_rfl)
   simp only [d0] at hK |-; have HK := zH hK; clear hK; go_simp; exact HK.out _ _ rfl (zR _ _)
  ·have d1 : vs 1 = .pointer (some ⟨px, 0, none⟩) := hd 1 (by kernel_rfl)
   simp only [d1] at hK |-; have HK := zH hK; clear hK; go_simp; exact HK.out _ _ rfl (zR _ _)
  ·have d2 : vs 2 = .pointer (some ⟨px, 0, none⟩) := hd 2 (by kernel_rfl)
   have c0 := yae hb HC0.out; simp only [d2] at hK |-; have HK := zH hK; clear hK; go_simp; exact HK.out _ _ rfl (zR _ _)
  iterate 2 (·have HK := zH hK; clear hK; go_simp; exact HK.out _ _ rfl (zR _ _))
  ·have d5 : vs 5 = .pointer (some ⟨px, 0, none⟩) := hd 5 (by kernel_rfl)
   simp only [d5] at hK |-; have HK := zH hK; clear hK; go_simp; exact HK.out _ _ rfl (zR _ _)
  ·have d6 : vs 6 = .pointer (some ⟨px, 0, none⟩) := hd 6 (by kernel_rfl)
   simp only [d6] at hK |-; have HK := zH hK; clear hK; go_simp; exact HK.out _ _ rfl (zR _ _)
  ·have d7 : vs 7 = .pointer (some ⟨px, 1, none⟩) := hd 7 (by kernel_rfl)
   have c0 := yae hb HC1.out; simp only [d7] at hK |-; have HK := zH hK; clear hK; go_simp; exact HK.out _ _ rfl (zR _ _)
  iterate 2 (·have HK := zH hK; clear hK; go_simp; exact HK.out _ _ rfl (zR _ _))
  ·have d9 : vs 9 = .pointer (some ⟨px, 0, none⟩) := hd 9 (by kernel_rfl)
   have d10 : vs 10 = .slice Ae ne ce := hd 10 (by kernel_rfl)
   simp only [d9, d10] at hK |-; have HK := zH hK; clear hK; go_simp
   go_at_call 121
   refine (yep (HT.out.below hb) rfl (by have h := HEX.out.below hb (zN _); exact h) HI.out (Nat.le_trans HLE.out (by omega))).mono ?_
   rintro r w3 ⟨v3, rfl, ho3, hb3⟩; refine HK.out _ _ ?_ hb3; have h3 := OwnE.rd (F := anyB) ho3 fun _ _ => trivial
   show RdE anyB w3 v3 l2
   rw [<- HL2.out]; exact h3
  ·have d8 : vs 8 = .slice Aa n c := hd 8 (by kernel_rfl)
   have d11 : RdE anyB w1 (vs 11) l2 := hd 11 (by kernel_rfl)
   have q1 := Exists.choose_spec (RdF.form d11); generalize Exists.choose (RdF.form d11) = A7 at q1; have q2 := Exists.choose_spec q1; generalize Exists.choose q1 = c7 at q2; clear q1
   have d11' : Hid (RdE anyB w1 (.slice A7 l2.length c7) l2) := (by show RdE _ _ _ _; rw [<- q2]; exact d11)
   clear d11; simp only [d8] at hK |-; simp only [q2] at hK |-; have HK := zH hK; clear hK; go_simp; exact HK.out _ _ (ypd d11'.out) (yab w1 _)
  ·have d12 : (SV.two (.slice Aa n c) l2).p (vs 12) w1 := hd 12 (by kernel_rfl)
   have h7 := Exists.choose_spec (SV.two_get d12); generalize Exists.choose (SV.two_get d12) = q7 at h7; have e7 := h7.1; have hu7 := zH h7.2; clear h7 d12; simp only [e7] at hK |-; have HK := zH hK; clear hK; go_simp
   go_at_call 124
   have h8 := Exists.choose_spec hu7.out; refine (ymt (RdF.below HRD.out hb (zN _)) h8.2.2 h8.1 h8.2.1 HLL.out).mono ?_; rintro r w3 ⟨⟨v3, rfl, hr3⟩, hb3⟩; exact HK.out _ _ hr3 hb3
  ·have d3 : vs 3 = .pointer (some ⟨q, 0, none⟩) := hd 3 (by kernel_rfl)
   have d4 : vs 4 = .slice As ns cs := hd 4 (by kernel_rfl)
   have d13 : RdE anyB w1 (vs 13) (A ++ l2) := hd 13 (by kernel_rfl)
   have d13' := zH d13; clear d13; simp only [d3, d4] at hK |-; have HK := zH hK; clear hK; go_simp
   go_at_call 123
   refine (ylm (HFB.out w1 hb) (HTab.out.below hb (zN _)) (by have h := HS.out.below hb (zN _); exact h) d13'.out HLW.out).mono ?_
   rintro r w3 ⟨h1, -, hb3⟩; obtain ⟨q3, rfl, ht3⟩ := h1 HWE.out; exact HK.out _ _ ⟨q3, rfl, by rw [<- HPT.out]; exact ht3⟩ hb3
  ·have d14 : (SV.tbl (fun k => (Value.slice Aa n c).ownBlock ≠ some k /\ k ≠ px) L').p (vs 14) w1 := hd 14 (by kernel_rfl)
   have h7 := Exists.choose_spec (SV.tbl_get d14); generalize Exists.choose (SV.tbl_get d14) = q7 at h7; have e7 := h7.1; have hu7 := zH h7.2; clear h7 d14; simp only [e7] at hK |-; have HK := zH hK; clear hK; go_simp; exact HK.out _ _ ⟨_, rfl, hu7.out⟩ (zR _ _)
  ·have d15 : (SV.tbl (fun k => (Value.slice Aa n c).ownBlock ≠ some k /\ k ≠ px) L').p (vs 15) w1 := hd 15 (by kernel_rfl)
   have h7 := Exists.choose_spec (SV.tbl_get d15); generalize Exists.choose (SV.tbl_get d15) = q7 at h7; have e7 := h7.1; have hu7 := zH h7.2; clear h7 d15; simp only [e7] at hK |-; have HK := zH hK; clear hK; go_simp; exact HK.out _ _ ⟨_, rfl, hu7.out⟩ (zR _ _)
  ·have d15 : (SV.tbl (fun k => (Value.slice Aa n c).ownBlock ≠ some k /\ k ≠ px) L').p (vs 15) w1 := hd 15 (by kernel_rfl)
   have h7 := Exists.choose_spec (SV.tbl_get d15); generalize Exists.choose (SV.tbl_get d15) = q7 at h7; have e7 := h7.1; have hu7 := zH h7.2; clear h7 d15; simp only [e7] at hK |-; have HK := zH hK; clear hK; go_simp; exact HK.out _ _ rfl (zR _ _)
 ·intro vs w3 hb hd; obtain ⟨q9, e16, ht9⟩ : ∃ q : Nat, vs 16 = .pointer (some ⟨q, 0, none⟩) /\ TabAt (fun k => (Value.slice Aa n c).ownBlock ≠ some k /\ k ≠ px) w3 q L' := hd 16 (by omega)
  have e15 : vs 17 = .int .i64 0 := hd 17 (by omega)
  have HT9 := zH ht9
  have hp3 : ∃ A0, w3.heap[px]? = some (.cells #[.pointer A0, .slice Aa n c, .bool true] 80 (0, 0)) := px_at HT.out HC1.out hb
  obtain ⟨A0, hp3⟩ := hp3; have HP3 := zH hp3; have g0 := yan (i := 0) (v := .pointer A0) hp3 rfl; have g1 := frozen_of_row w3 px 0 _ _ hp3; have HB3 := zH hb; simp only [frameV, zS, zA, zB, List.drop_succ_cons, List.drop_zero, List.take_succ_cons, List.take_zero, List.cons_append, List.nil_append, e16, e15]; clear hb hd e16 e15 ht9 hp3
  go_wp2
  go_ret
  have h10 := heap_setCell_same _ px 0 _ _ (.pointer (some ⟨q9, 0, none⟩)) HP3.out; simp only [zS, zA, zB] at h10; exact ⟨rfl, fun _ => ⟨⟨q9, _, h10, tab_px HT9.out (fun k h => h.2) HP3.out, own_px (R4.yah HO.out HB3.out (zN _)) HP3.out⟩, HPB.out⟩, (HB3.out.mono HBW.out).setCell (by show B <= px; exact HPB.out) _, (Kp.of_below HB3.out).trans (Kp.px HP3.out)⟩
 ·intro vs w3 hb hd; obtain ⟨q9, e16, ht9⟩ : ∃ q : Nat, vs 16 = .pointer (some ⟨q, 0, none⟩) /\ TabAt (fun k => (Value.slice Aa n c).ownBlock ≠ some k /\ k ≠ px) w3 q L' := hd 16 (by omega) (by omega)
  obtain ⟨q8, e15, -⟩ : ∃ q : Nat, vs 15 = .tuple #[.pointer (some ⟨q, 0, none⟩), .int .i64 0] /\ TabAt (fun k => (Value.slice Aa n c).ownBlock ≠ some k /\ k ≠ px) w3 q L' := hd 15 (by omega) (by omega)
  have HT9 := zH ht9
  have hp3 : ∃ A0, w3.heap[px]? = some (.cells #[.pointer A0, .slice Aa n c, .bool true] 80 (0, 0)) := px_at HT.out HC1.out hb
  obtain ⟨A0, hp3⟩ := hp3; have HP3 := zH hp3; have g0 := yan (i := 0) (v := .pointer A0) hp3 rfl; have g1 := frozen_of_row w3 px 0 _ _ hp3; have HB3 := zH hb; simp only [frameV, zS, zA, zB, List.drop_succ_cons, List.drop_zero, List.take_succ_cons, List.take_zero, List.cons_append, List.nil_append, e16, e15]; clear hb hd e16 e15 ht9 hp3
  go_wp2
  go_ret
  have h10 := heap_setCell_same _ px 0 _ _ (.pointer (some ⟨q9, 0, none⟩)) HP3.out; simp only [zS, zA, zB] at h10; exact ⟨rfl, fun _ => ⟨⟨q9, _, h10, tab_px HT9.out (fun k h => h.2) HP3.out, own_px (R4.yah HO.out HB3.out (zN _)) HP3.out⟩, HPB.out⟩, (HB3.out.mono HBW.out).setCell (by show B <= px; exact HPB.out) _, (Kp.of_below HB3.out).trans (Kp.px HP3.out)⟩
set_option maxHeartbeats 8000000 in
theorem yuy {B : Nat} {w : World} {px : Nat} {L : List PE} {A : List Nat} (hT : TA B w px ⟨L, some A⟩) (h8 : Anc A) {sv ev : Value} {s e : List Int} (hs : RdI anyB w sv s) (he : RdI anyB w ev e) (hI : I64 e) (hle : e.length <= 100) {l2 : List Nat} (hl2 : elsP L e = l2) {L' : List PE} {E : Int} (hE : withE L s (A ++ l2) = E) (hE0 : E ≠ 0) :
  Calls Tryz.prog 75 #[.pointer (some ⟨px, 0, none⟩), sv, ev] w (MovIs B px ⟨L', some A⟩ E w) := by
 have HT := zH hT; obtain ⟨q, Aa, c, c0, c1, -, f0, -, -, hTab, hown, hrd⟩ := hT.cells (A := A) rfl
 have HLW : Hid (∀ x ∈ A ++ l2, x < 4294967296) := by
  intro x hx
  rcases List.mem_append.1 hx with hx | hx
  ·exact h8.2 x hx
  ·rw [<- hl2] at hx; exact els_lt hTab.good e x hx
 have HLL : Hid (A.length + l2.length <= 1000) := by
  have h1 := yiw hTab.good e; rw [hl2] at h1; have h2 := h8.1
  show _ <= _; omega
 have HBW := zH (Nat.le_trans hT.bel (Nat.le_of_lt hT.lt)); have HPB := zH hT.bel; obtain ⟨As, cs, rfl⟩ := hs.form; obtain ⟨Ae, ce, rfl⟩ := he.form; have HS := zH hs; have HEX := zH he; have HI := zH hI; have HLE := zH hle; have HL2 := zH hl2; have HRD := zH hrd; have HC0 := zH c0; have HC1 := zH c1; have HTab := zH hTab; have HO := zH hown; have HWE := zH hE; have HE0 := zH hE0
 have hEn : (E != 0) = true := by simpa using hE0
 clear hE0; obtain ⟨n, hn⟩ : ∃ n, A.length = n := ⟨_, rfl⟩; obtain ⟨ns, hns⟩ : ∃ n, s.length = n := ⟨_, rfl⟩; obtain ⟨ne, hne⟩ : ∃ n, e.length = n := ⟨_, rfl⟩; rw [hn] at HC1 HRD HO HTab; rw [hns] at HS |-; rw [hne] at HEX |-
 have HFB : Hid (∀ (w' : World), Below w.heap.size w w' -> ∀ k, w'.heap.size <= k -> (Value.slice Aa n c).ownBlock ≠ some k /\ k ≠ px) := by
  intro w' hb k hk'; have h2 := HT.out.lt; have h3 := hb.size; refine ⟨fun e => ?_, by omega⟩
  have := (World.ownsRow.lt HO.out k e).2
  omega
 clear hT h8 hs he hI hle hl2 c0 c1 f0 hTab hown hrd hn hns hne hE
 go_enter Tryz.func75, Tryz.ntmps75
 go_upto_region 1 with (fail)
 refine yds (m := 18) 17 [10, 11, 12, 13, 14, 15, 16, 17, 18, 19, 20, 21, 22, 23, 24, 9, 25, 26] [SV.eq (.pointer (some ⟨px, 0, none⟩)), SV.eq (.pointer (some ⟨px, 0, none⟩)), SV.eq (.pointer (some ⟨px, 0, none⟩)), SV.eq (.pointer (some ⟨q, 0, none⟩)), SV.eq (.slice As ns cs), SV.eq (.pointer (some ⟨px, 0, none⟩)), SV.eq (.pointer (some ⟨px, 0, none⟩)), SV.eq (.pointer (some ⟨px, 1, none⟩)), SV.eq (.slice Aa n c), SV.eq (.pointer (some ⟨px, 0, none⟩)), SV.eq (.slice Ae ne ce), SV.els l2, SV.two (.slice Aa n c) l2, SV.els (A ++ l2), SV.eq (.tuple #[.pointer none, .int .i64 E]), SV.eq (.tuple #[.pointer none, .int .i64 E]), SV.eq (.pointer none), SV.eq (.int .i64 E)] (by kernel_rfl) (by kernel_rfl) ?_ ?_ ?_
 ·refine ⟨⟨⟨⟨⟨⟨⟨⟨⟨⟨⟨⟨⟨⟨⟨⟨⟨⟨trivial, ?_⟩, ?_⟩, ?_⟩, ?_⟩, ?_⟩, ?_⟩, ?_⟩, ?_⟩, ?_⟩, ?_⟩, ?_⟩, ?_⟩, ?_⟩, ?_⟩, ?_⟩, ?_⟩, ?_⟩, ?_⟩
  all_goals (refine OpIs.mk rfl ?_; intro vs w1 hb hd K hK; simp only [frameV, zS, zA, zB, zC, zD] at hK |-)
  ·have HK := zH hK; clear hK; go_simp; exact HK.out _ _ rfl (zR _ _)
  ·have d0 : vs 0 = .pointer (some ⟨px, 0, none⟩) := hd 0 (by kernel_rfl)
   simp only [d0] at hK |-; have HK := zH hK; clear hK; go_simp; exact HK.out _ _ rfl (zR _ _)
  ·have d1 : vs 1 = .pointer (some ⟨px, 0, none⟩) := hd 1 (by kernel_rfl)
   simp only [d1] at hK |-; have HK := zH hK; clear hK; go_simp; exact HK.out _ _ rfl (zR _ _)
  ·have d2 : vs 2 = .pointer (some ⟨px, 0, none⟩) := hd 2 (by kernel_rfl)
   have c0 := yae hb HC0.out; simp only [d2] at hK |-; have HK := zH hK; clear hK; go_simp; exact HK.out _ _ rfl (zR _ _)
  iterate 2 (·have HK := zH hK; clear hK; go_simp; exact HK.out _ _ rfl (zR _ _))
  ·have d5 : vs 5 = .pointer (some ⟨px, 0, none⟩) := hd 5 (by kernel_rfl)
   simp only [d5] at hK |-; have HK := zH hK; clear hK; go_simp; exact HK.out _ _ rfl (zR _ _)
  ·have d6 : vs 6 = .pointer (some ⟨px, 0, none⟩) := hd 6 (by kernel_rfl)
   simp only [d6] at hK |-; have HK := zH hK; clear hK; go_simp; exact HK.out _ _ rfl (zR _ _)
  ·have d7 : vs 7 = .pointer (some ⟨px, 1, none⟩) := hd 7 (by kernel_rfl)
   have c0 := yae hb HC1.out; simp only [d7] at hK |-; have HK := zH hK; clear hK; go_simp; exact HK.out _ _ rfl (zR _ _)
  iterate 2 (·have HK := zH hK; clear hK; go_simp; exact HK.out _ _ rfl (zR _ _))
  ·have d9 : vs 9 = .pointer (some ⟨px, 0, none⟩) := hd 9 (by kernel_rfl)
   have d10 : vs 10 = .slice Ae ne ce := hd 10 (by kernel_rfl)
   simp only [d9, d10] at hK |-; have HK := zH hK; clear hK; go_simp
   go_at_call 121
   refine (yep (HT.out.below hb) rfl (by have h := HEX.out.below hb (zN _); exact h) HI.out (Nat.le_trans HLE.out (by omega))).mono ?_
   rintro r w3 ⟨v3, rfl, ho3, hb3⟩; refine HK.out _ _ ?_ hb3; have h3 := OwnE.rd (F := anyB) ho3 fun _ _ => trivial
   show RdE anyB w3 v3 l2
   rw [<- HL2.out]; exact h3
  ·have d8 : vs 8 = .slice Aa n c := hd 8 (by kernel_rfl)
   have d11 : RdE anyB w1 (vs 11) l2 := hd 11 (by kernel_rfl)
   have q1 := Exists.choose_spec (RdF.form d11); generalize Exists.choose (RdF.form d11) = A7 at q1; have q2 := Exists.choose_spec q1; generalize Exists.choose q1 = c7 at q2; clear q1
   have d11' : Hid (RdE anyB w1 (.slice A7 l2.length c7) l2) := (by show RdE _ _ _ _; rw [<- q2]; exact d11)
   clear d11; simp only [d8] at hK |-; simp only [q2] at hK |-; have HK := zH hK; clear hK; go_simp; exact HK.out _ _ (ypd d11'.out) (yab w1 _)
  ·have d12 : (SV.two (.slice Aa n c) l2).p (vs 12) w1 := hd 12 (by kernel_rfl)
   have h7 := Exists.choose_spec (SV.two_get d12); generalize Exists.choose (SV.two_get d12) = q7 at h7; have e7 := h7.1; have hu7 := zH h7.2; clear h7 d12; simp only [e7] at hK |-; have HK := zH hK; clear hK; go_simp
   go_at_call 124
   have h8 := Exists.choose_spec hu7.out; refine (ymt (RdF.below HRD.out hb (zN _)) h8.2.2 h8.1 h8.2.1 HLL.out).mono ?_; rintro r w3 ⟨⟨v3, rfl, hr3⟩, hb3⟩; exact HK.out _ _ hr3 hb3
  ·have d3 : vs 3 = .pointer (some ⟨q, 0, none⟩) := hd 3 (by kernel_rfl)
   have d4 : vs 4 = .slice As ns cs := hd 4 (by kernel_rfl)
   have d13 : RdE anyB w1 (vs 13) (A ++ l2) := hd 13 (by kernel_rfl)
   have d13' := zH d13; clear d13; simp only [d3, d4] at hK |-; have HK := zH hK; clear hK; go_simp
   go_at_call 123
   refine (ylm (HFB.out w1 hb) (HTab.out.below hb (zN _)) (by have h := HS.out.below hb (zN _); exact h) d13'.out HLW.out).mono ?_
   rintro r w3 ⟨-, h1, hb3⟩; have h2 := h1 (by rw [HWE.out]; exact HE0.out)
   rw [HWE.out] at h2; subst h2; exact HK.out _ _ rfl hb3
  ·have d14 : vs 14 = .tuple #[.pointer none, .int .i64 E] := hd 14 (by kernel_rfl)
   simp only [d14] at hK |-; have HK := zH hK; clear hK; go_simp; exact HK.out _ _ rfl (zR _ _)
  ·have d15 : vs 15 = .tuple #[.pointer none, .int .i64 E] := hd 15 (by kernel_rfl)
   simp only [d15] at hK |-; have HK := zH hK; clear hK; go_simp; exact HK.out _ _ rfl (zR _ _)
  ·have d15 : vs 15 = .tuple #[.pointer none, .int .i64 E] := hd 15 (by kernel_rfl)
   simp only [d15] at hK |-; have HK := zH hK; clear hK; go_simp; exact HK.out _ _ rfl (zR _ _)
 ·intro vs w3 hb hd
  have e16 : vs 16 = .pointer none := hd 16 (by omega)
  have e15 : vs 17 = .int .i64 E := hd 17 (by omega)
  have HB3 := zH hb; simp only [frameV, zS, zA, zB, List.drop_succ_cons, List.drop_zero, List.take_succ_cons, List.take_zero, List.cons_append, List.nil_append, e16, e15]; clear hb hd e16 e15
  go_wp2
  go_ret
  exact MovIs.bad HB3.out HBW.out HE0.out
 ·intro vs w3 hb hd
  have e16 : vs 16 = .pointer none := hd 16 (by omega) (by omega)
  have e15 : vs 15 = .tuple #[.pointer none, .int .i64 E] := hd 15 (by omega) (by omega)
  have HB3 := zH hb; simp only [frameV, zS, zA, zB, List.drop_succ_cons, List.drop_zero, List.take_succ_cons, List.take_zero, List.cons_append, List.nil_append, e16, e15]; clear hb hd e16 e15
  go_wp2
  go_ret
  exact MovIs.bad HB3.out HBW.out HE0.out
theorem yuz {B : Nat} {w : World} {px : Nat} {L : List PE} {A : List Nat} (hT : TA B w px ⟨L, some A⟩) (h8 : Anc A) {sv ev : Value} {s e : List Int} (hs : RdI anyB w sv s) (he : RdI anyB w ev e) (hI : I64 e) (hle : e.length <= 100) {E : Int} (hE : withE L s (A ++ elsP L e) = E) :
  Calls Tryz.prog 75 #[.pointer (some ⟨px, 0, none⟩), sv, ev] w (MovIs B px ⟨putP L (s, A ++ elsP L e), some A⟩ E w) := by
 by_cases hE0 : E = 0
 ·subst hE0; exact yux hT h8 hs he hI hle rfl hE rfl
 ·exact yuy hT h8 hs he hI hle rfl hE hE0
end Go.Proofs.YtichfdjjbafeiaaGreat
