/-
  PACKED for a claim.
-/
import Derived.Deep.CutRange
import Derived.Test.YteibnfeokgibmaaGreatP30
set_option linter.unusedVariables false
set_option linter.unusedSimpArgs false
set_option maxRecDepth 100000
namespace Go.Proofs.YteibnfeokgibmaaGreat
open Go.RowKit
structure Ok (L : List PE) (n : Nat) : Prop where
 seq : ∀ e ∈ L, 1 <= e.1.length /\ e.1.length <= 1000
 len : L.length <= n
theorem yto (R : List PE) (s : List Int) : (restR R s).length <= R.length := by
 cases R with
 | nil => exact zN _
 | cons e t => rw [ycy]; split <;> simp
theorem yyq (L : List PE) (x : PE) : (putR L x).length <= L.length + 1 := by
 unfold putR; have h1 := yto (L.dropWhile fun e => befB e.1 x.1) x.1
 have h2 := congrArg List.length (List.takeWhile_append_dropWhile (p := fun e : PE => befB e.1 x.1) (l := L))
 simp only [List.length_append, List.length_cons] at h2 |-
 omega
theorem yoq (L : List PE) (x : PE) : putR L x ≠ [] := by
 unfold putR
 simp
theorem Ok.put {L : List PE} {n : Nat} (h : Ok L n) {s : List Int} {l : List Nat} (h1 : 1 <= s.length) (h2 : s.length <= 1000) : Ok (putR L (s, l)) (n + 1) where
 seq := fun e he => by
  rcases ydk he with rfl | he
  ·exact ⟨h1, h2⟩
  ·exact h.seq e he
 len := by have := yyq L (s, l); have := h.len; omega
theorem putO {w : World} {v sv lv : Value} {L : List PE} {s : List Int} {l : List Nat} {G H : Nat -> Prop} {n : Nat} (h : RefT w v L) (ho : Ok L n) (hn : n <= 1000) (hz : L = [] -> v = .slice none 0 0) (hs : RdI G w sv s) (hl : RdQ H w lv l) (h1 : 1 <= s.length) (h3 : s.length <= 1000) (hll : l.length <= 1000) {R : List PE} (hR : putR L (s, l) = R) :
  Calls Tryz.prog 42 #[.agg #[v], sv, lv] w fun e w' => (∃ u, e = .returned (.agg #[u]) /\ RefT w' u R) /\ Below w.heap.size w w' :=
 yty (fun _ _ => trivial) h hs hl ho.seq h1 h3 hll (Nat.le_trans ho.len hn) hz hR
theorem q4_ex (x : Nat) : ∃ P S T V, q4 x = [.int .i64 P, .int .i64 S, .int .i64 T, .bool V] := ⟨_, _, _, _, rfl⟩
set_option maxHeartbeats 4000000 in
theorem yqy {w : World} {v : Value} {L : List PE} {n : Nat} {c x m : Int} {b : Nat} (h : RefT w v L) (ho : Ok L n) (hn : n <= 900) (hz : L ≠ []) (hb : 65 <= b /\ b <= 90) (hx : (b : Int) = x) (hm : m ∈ mkC) (hc : 0 <= c /\ c <= 1000) {R : List PE} (hR : putR (putR L ([c], [letW b, mkW m])) ([c + 32], [letW (b + 32), mkW m]) = R) :
  Calls Tryz.prog 45 #[.agg #[v], .int .i64 c, .int .i64 x, .int .i64 m] w fun e w' => (∃ u, e = .returned (.agg #[u]) /\ RefT w' u R) /\ Below w.heap.size w w' := by
 obtain ⟨P1, S1, T1, V1, hq1⟩ := q4_ex (letW b); obtain ⟨P2, S2, T2', V2, hq2⟩ := q4_ex (mkW m); obtain ⟨P3, S3, T3, V3, hq3⟩ := q4_ex (letW (b + 32)); have CL := zH (fun w => ybk (c := b) (x := x) (.inl hb) hx hq1 w)
 have CM := zH (fun w => ylj hm hq2 w)
 have CL2 := zH (fun w => ybk (c := b + 32) (x := x + 32) (.inr ⟨by omega, by omega⟩) (by omega) hq3 w)
 have HQ1 : Hid (qcells [letW b, mkW m] = [.int .i64 P1, .int .i64 S1, .int .i64 T1, .bool V1, .int .i64 P2, .int .i64 S2, .int .i64 T2', .bool V2]) := by show _ = _; rw [yam, yam, hq1, hq2]; rfl
 have HQ2 : Hid (qcells [letW (b + 32), mkW m] = [.int .i64 P3, .int .i64 S3, .int .i64 T3, .bool V3, .int .i64 P2, .int .i64 S2, .int .i64 T2', .bool V2]) := by show _ = _; rw [yam, yam, hq3, hq2]; rfl
 obtain ⟨l1, hl1⟩ : ∃ l, [letW b, mkW m] = l := ⟨_, rfl⟩; obtain ⟨l2, hl2⟩ : ∃ l, [letW (b + 32), mkW m] = l := ⟨_, rfl⟩
 have HL1 : Hid (l1.length = 2) := by show _ = _; rw [<- hl1]; rfl
 have HL2 : Hid (l2.length = 2) := by show _ = _; rw [<- hl2]; rfl
 rw [hl1] at hR HQ1; rw [hl2] at hR HQ2; obtain ⟨L1, hL1⟩ : ∃ L1, putR L ([c], l1) = L1 := ⟨_, rfl⟩; rw [hL1] at hR
 have HO1 : Hid (Ok L1 (n + 1)) := by rw [<- hL1]; exact ho.put (zN _) (by simp)
 have HL1N : Hid (L1 ≠ []) := by show _ ≠ _; rw [<- hL1]; exact yoq _ _
 have HT := zH h; have HO := zH ho; have HZ := zH hz; have HPU := zH hL1; have HPR := zH hR
 have r1 : IntKind.i64.wrap (c + 32) = c + 32 := IntWalk.i64_in _ (by omega)
 have r2 : IntKind.i64.wrap (x + 32) = x + 32 := IntWalk.i64_in _ (by omega)
 clear h ho hz hL1 hR hq1 hq2 hq3 hl1 hl2 hm
 go_enter Tryz.func45, Tryz.ntmps45
 go_wp2
 have H02 : Hid (Below w.heap.size w ((w.alloc (.cells #[v] 40)).alloc (.cells #[.slice none 0 0] 40))) := ((zR _ w).alloc (zN _) _).alloc (by simp) _
 have HB0 : Hid (((w.alloc (.cells #[v] 40)).alloc (.cells #[.slice none 0 0] 40)).heap[w.heap.size]? = some (.cells #[v] 40)) := by
  show _ = _
  rw [((zR (w.alloc (.cells #[v] 40)).heap.size (w.alloc (.cells #[v] 40))).alloc (zN _) (.cells #[.slice none 0 0] 40)).block w.heap.size (by simp)]
  exact heap_alloc_new w (.cells #[v] 40)
 have HB1 : Hid (((w.alloc (.cells #[v] 40)).alloc (.cells #[.slice none 0 0] 40)).heap[w.heap.size + 1]? = some (.cells #[.slice none 0 0] 40)) := by
  have := heap_alloc_new (w.alloc (.cells #[v] 40)) (.cells #[.slice none 0 0] 40)
  show _ = _
  simpa using this
 generalize ((w.alloc (.cells #[v] 40)).alloc (.cells #[.slice none 0 0] 40)) = w2 at H02 HB0 HB1 |-; have HT2 := zH (HT.out.below H02.out (zN _))
 have HC0 : Hid (w2.cell? ⟨w.heap.size, 0, none⟩ = some v) := by show _ = _; rw [cell_of_row _ _ 0 _ _ _ HB0.out]; rfl
 refine yag (m := 9) [9, 10, 11, 12, 13, 14, 15, 16, 17] [SV.eq (.agg #[v]), SV.eq (.int .i64 c), SV.ints [c], SV.eq (.int .i64 x), SV.eq (.agg #[.int .i64 P1, .int .i64 S1, .int .i64 T1, .bool V1]), SV.eq (.int .i64 m), SV.eq (.agg #[.int .i64 P2, .int .i64 S2, .int .i64 T2', .bool V2]), SV.qs l1, SV.ref L1] (by kernel_rfl) (by kernel_rfl) ?_ ?_
 ·refine ⟨⟨⟨⟨⟨⟨⟨⟨⟨trivial, ?_⟩, ?_⟩, ?_⟩, ?_⟩, ?_⟩, ?_⟩, ?_⟩, ?_⟩, ?_⟩
  all_goals (refine OpIs.mk rfl ?_; intro vs w1 hb hd K hK; simp only [frameV, zS, zA, zB, zC, zD] at hK |-)
  ·have c0 := yab hb HC0.out; have HK := zH hK; clear hK; go_simp; exact HK.out _ _ rfl (zR _ _)
  ·have HK := zH hK; clear hK; go_simp; exact HK.out _ _ rfl (zR _ _)
  ·have d1 : vs 1 = .int .i64 c := hd 1 (by kernel_rfl)
   simp only [d1] at hK |-; have HK := zH hK; clear hK; go_simp; exact HK.out _ _ (RdF.new w1 _ _ (zN _)) (yaa w1 _)
  ·have HK := zH hK; clear hK; go_simp; exact HK.out _ _ rfl (zR _ _)
  ·have d3 : vs 3 = .int .i64 x := hd 3 (by kernel_rfl)
   simp only [d3] at hK |-; have HK := zH hK; clear hK; go_simp
   go_at_call 43
   refine (CL.out _).mono ?_; rintro e w3 ⟨rfl, hb3⟩; exact HK.out _ _ rfl hb3
  ·have HK := zH hK; clear hK; go_simp; exact HK.out _ _ rfl (zR _ _)
  ·have d5 : vs 5 = .int .i64 m := hd 5 (by kernel_rfl)
   simp only [d5] at hK |-; have HK := zH hK; clear hK; go_simp
   go_at_call 44
   refine (CM.out _).mono ?_; rintro e w3 ⟨rfl, hb3⟩; exact HK.out _ _ rfl hb3
  ·have d4 : vs 4 = .agg #[.int .i64 P1, .int .i64 S1, .int .i64 T1, .bool V1] := hd 4 (by kernel_rfl)
   have d6 : vs 6 = .agg #[.int .i64 P2, .int .i64 S2, .int .i64 T2', .bool V2] := hd 6 (by kernel_rfl)
   simp only [d4, d6] at hK |-; have HK := zH hK; clear hK; go_simp; exact HK.out _ _ (by show RdF anyB _ _ l1.length (qcells l1); rw [HQ1.out, HL1.out]; exact RdF.new w1 _ _ (zN _)) (yaa w1 _)
  ·have d0 : vs 0 = .agg #[v] := hd 0 (by kernel_rfl)
   have d2 : RdI anyB w1 (vs 2) [c] := hd 2 (by kernel_rfl)
   have d7 : RdQ anyB w1 (vs 7) l1 := hd 7 (by kernel_rfl)
   simp only [d0] at hK |-; have HK := zH hK; clear hK; go_simp
   go_at_call 42
   refine (putO (HT2.out.below hb (zN _)) HO.out (by omega) (fun e => absurd e HZ.out) d2 d7 (zN _) (by simp) (by rw [HL1.out]; omega) HPU.out).mono ?_
   rintro e w3 ⟨⟨u, rfl, hu⟩, hb3⟩; exact HK.out _ _ ⟨u, rfl, hu⟩ hb3
 ·intro vs w3 hb hd; obtain ⟨u, d8, hu⟩ : ∃ u, vs 8 = .agg #[u] /\ RefT w3 u L1 := hd 8 (by omega)
  obtain ⟨A1, k1, rfl⟩ := hu.form; have HU := zH hu; simp only [frameV, zS, zA, zB, List.drop_succ_cons, List.drop_zero, d8]; have HB3 := zH (H02.out.trans (hb.mono H02.out.size))
  have h03 : w3.heap[w.heap.size]? = some (.cells #[v] 40) := (hb.block _ (R4.yad HB0.out)).trans HB0.out
  have h13 : w3.heap[w.heap.size + 1]? = some (.cells #[.slice none 0 0] 40) := (hb.block _ (R4.yad HB1.out)).trans HB1.out
  have c03 : w3.cell? ⟨w.heap.size, 0, none⟩ = some v := by rw [cell_of_row _ _ 0 _ _ _ h03]; rfl
  have f03 : w3.frozen? ⟨w.heap.size, 0, none⟩ = false := frozen_of_row _ _ 0 _ _ h03
  clear hu hb hd
  go_wp2
  have hg4 := R4.yae w3 ⟨w.heap.size, 0, none⟩ (.slice A1 L1.length k1)
  have HT4 : Hid (RefT (w3.setCell ⟨w.heap.size, 0, none⟩ (.slice A1 L1.length k1)) (.slice A1 L1.length k1) L1) := HU.out.off hg4 h03 (by decide) (by decide) (by decide)
  have HC4 : Hid ((w3.setCell ⟨w.heap.size, 0, none⟩ (.slice A1 L1.length k1)).cell? ⟨w.heap.size, 0, none⟩ = some (.slice A1 L1.length k1)) := by show _ = _; rw [cell_of_row _ _ 0 _ _ _ (heap_setCell_same w3 w.heap.size 0 _ _ _ h03)]; rfl
  have HH4 : Hid ((w3.setCell ⟨w.heap.size, 0, none⟩ (.slice A1 L1.length k1)).heap[w.heap.size + 1]? = some (.cells #[.slice none 0 0] 40)) := (hg4.block _ (R4.yad h13) (by simp)).trans h13
  have HB4 : Hid (Below w.heap.size w (w3.setCell ⟨w.heap.size, 0, none⟩ (.slice A1 L1.length k1))) := HB3.out.setCell (zN _) _
  clear hg4 c03 f03 h03 h13; generalize w3.setCell ⟨w.heap.size, 0, none⟩ (.slice A1 L1.length k1) = w4 at HT4 HC4 HH4 HB4 |-; refine yag (m := 11) [18, 19, 20, 21, 22, 23, 24, 25, 26, 27, 28] [SV.eq (.agg #[.slice A1 L1.length k1]), SV.eq (.int .i64 c), SV.eq (.int .i64 (c + 32)), SV.ints [c + 32], SV.eq (.int .i64 x), SV.eq (.int .i64 (x + 32)), SV.eq (.agg #[.int .i64 P3, .int .i64 S3, .int .i64 T3, .bool V3]), SV.eq (.int .i64 m), SV.eq (.agg #[.int .i64 P2, .int .i64 S2, .int .i64 T2', .bool V2]), SV.qs l2, SV.ref R] (by kernel_rfl) (by kernel_rfl) ?_ ?_
  ·refine ⟨⟨⟨⟨⟨⟨⟨⟨⟨⟨⟨trivial, ?_⟩, ?_⟩, ?_⟩, ?_⟩, ?_⟩, ?_⟩, ?_⟩, ?_⟩, ?_⟩, ?_⟩, ?_⟩
   all_goals (refine OpIs.mk rfl ?_; intro vs w1 hb hd K hK; simp only [frameV, zS, zA, zB, zC, zD] at hK |-)
   ·have c0 := yab hb HC4.out; have HK := zH hK; clear hK; go_simp; exact HK.out _ _ rfl (zR _ _)
   ·have HK := zH hK; clear hK; go_simp; exact HK.out _ _ rfl (zR _ _)
   ·have d1 : vs 1 = .int .i64 c := hd 1 (by kernel_rfl)
    simp only [d1] at hK |-; have HK := zH hK; clear hK; go_simp; exact HK.out _ _ rfl (zR _ _)
   ·have d2 : vs 2 = .int .i64 (c + 32) := hd 2 (by kernel_rfl)
    simp only [d2] at hK |-; have HK := zH hK; clear hK; go_simp; exact HK.out _ _ (RdF.new w1 _ _ (zN _)) (yaa w1 _)
   ·have HK := zH hK; clear hK; go_simp; exact HK.out _ _ rfl (zR _ _)
   ·have d4 : vs 4 = .int .i64 x := hd 4 (by kernel_rfl)
    simp only [d4] at hK |-; have HK := zH hK; clear hK; go_simp; exact HK.out _ _ rfl (zR _ _)
   ·have d5 : vs 5 = .int .i64 (x + 32) := hd 5 (by kernel_rfl)
    simp only [d5] at hK |-; have HK := zH hK; clear hK; go_simp
    go_at_call 43
    refine (CL2.out _).mono ?_; rintro e w3 ⟨rfl, hb3⟩; exact HK.out _ _ rfl hb3
   ·have HK := zH hK; clear hK; go_simp; exact HK.out _ _ rfl (zR _ _)
   ·have d7 : vs 7 = .int .i64 m := hd 7 (by kernel_rfl)
    simp only [d7] at hK |-; have HK := zH hK; clear hK; go_simp
    go_at_call 44
    refine (CM.out _).mono ?_; rintro e w3 ⟨rfl, hb3⟩; exact HK.out _ _ rfl hb3
   ·have d6 : vs 6 = .agg #[.int .i64 P3, .int .i64 S3, .int .i64 T3, .bool V3] := hd 6 (by kernel_rfl)
    have d8 : vs 8 = .agg #[.int .i64 P2, .int .i64 S2, .int .i64 T2', .bool V2] := hd 8 (by kernel_rfl)
    simp only [d6, d8] at hK |-; have HK := zH hK; clear hK; go_simp; exact HK.out _ _ (by show RdF anyB _ _ l2.length (qcells l2); rw [HQ2.out, HL2.out]; exact RdF.new w1 _ _ (zN _)) (yaa w1 _)
   ·have d0 : vs 0 = .agg #[.slice A1 L1.length k1] := hd 0 (by kernel_rfl)
    have d3 : RdI anyB w1 (vs 3) [c + 32] := hd 3 (by kernel_rfl)
    have d9 : RdQ anyB w1 (vs 9) l2 := hd 9 (by kernel_rfl)
    simp only [d0] at hK |-; have HK := zH hK; clear hK; go_simp
    go_at_call 42
    refine (putO (HT4.out.below hb (zN _)) HO1.out (by omega) (fun e => absurd e HL1N.out) d3 d9 (zN _) (by simp) (by rw [HL2.out]; omega) HPR.out).mono ?_
    rintro e w3 ⟨⟨u, rfl, hu⟩, hb3⟩; exact HK.out _ _ ⟨u, rfl, hu⟩ hb3
  ·intro vs2 w5 hb hd; obtain ⟨u, d10, hu⟩ : ∃ u, vs2 10 = .agg #[u] /\ RefT w5 u R := hd 10 (by omega)
   obtain ⟨A2, k2, rfl⟩ := hu.form; have HU5 := zH hu; simp only [frameV, zS, zA, zB, List.drop_succ_cons, List.drop_zero, d10]; have HB5 := zH (HB4.out.trans (hb.mono HB4.out.size))
   have h15 : w5.heap[w.heap.size + 1]? = some (.cells #[.slice none 0 0] 40) := (hb.block _ (R4.yad HH4.out)).trans HH4.out
   have c15 : w5.cell? ⟨w.heap.size + 1, 0, none⟩ = some (.slice none 0 0) := by rw [cell_of_row _ _ 0 _ _ _ h15]; rfl
   have f15 : w5.frozen? ⟨w.heap.size + 1, 0, none⟩ = false := frozen_of_row _ _ 0 _ _ h15
   clear hu hb hd
   go_wp2
   have d3 : (w5.setCell ⟨w.heap.size + 1, 0, none⟩ (.slice A2 R.length k2)).cell? ⟨w.heap.size + 1, 0, none⟩ = some (.slice A2 R.length k2) := by rw [cell_of_row _ _ 0 _ _ _ (heap_setCell_same w5 (w.heap.size + 1) 0 _ _ _ h15)]; rfl
   exact bodyPost_ret (v := .agg #[.slice A2 R.length k2]) (by simp [results, Tryz.results45, go_sem, d3]) rfl ⟨⟨_, rfl, HU5.out.off (R4.yae w5 ⟨w.heap.size + 1, 0, none⟩ _) h15 (by decide) (by decide) (by decide)⟩, HB5.out.setCell (Nat.le_succ _) _⟩
end Go.Proofs.YteibnfeokgibmaaGreat
namespace Go.Proofs.YteibnfeokgibmaaGreat
open Go.RowKit
def putL (xs : List PE) : List PE := xs.foldl putR []
def sixC : List Int := [768, 769, 770, 771, 776, 778]
def fourC : List Int := [768, 769, 770, 776]
def A1 : List PE := (List.range 6).map varE
def A2 : List PE := A1 ++ (List.range 10).map digE
def A3 : List PE := A2 ++ (List.range 26).flatMap letE
def A4 : List PE := A3 ++ (List.range 8).map mkE
def A5 : List PE := A4 ++ (List.range 6).flatMap (compE 192 65 sixC)
def A6 : List PE := A5 ++ compE 199 67 [807] 0
def ceiE (i : Nat) : List PE := compE 200 69 fourC i ++ (compE 204 73 fourC i ++ compE 217 85 fourC i)
def A7 : List PE := A6 ++ (List.range 4).flatMap ceiE
def A8 : List PE := A7 ++ compE 209 78 [771] 0
def A9 : List PE := A8 ++ (List.range 5).flatMap (compE 210 79 sixC)
def A10 : List PE := A9 ++ compE 221 89 [769] 0
def A11 : List PE := A10 ++ [([223], [E3.mk 400 32 4 0, E3.mk 400 32 4 0]), ([230], [E3.mk 256 32 4 0, E3.mk 288 32 4 0]), ([198], [E3.mk 256 32 10 0, E3.mk 288 32 10 0]), ([173], [])]
theorem yyn : putL A11 = rootP := by decide +kernel
theorem ykc (xs : List PE) (x : PE) : putL (xs ++ [x]) = putR (putL xs) x := by simp [putL]
theorem yyr (xs : List PE) (x y : PE) : putL (xs ++ [x, y]) = putR (putR (putL xs) x) y := by simp [putL]
theorem ynl {xs : List PE} (h : ∀ x ∈ xs, x.1.length = 1) : Ok (putL xs) xs.length := by
 have : ∀ (xs L : List PE) (n : Nat), Ok L n -> (∀ x ∈ xs, x.1.length = 1) -> Ok (xs.foldl putR L) (n + xs.length) := by
  intro xs
  induction xs with
  | nil => intro L n h _; exact h
  | cons x t ih =>
   intro L n h hx; have h1 := hx x (List.mem_cons_self ..)
   have := ih (putR L x) (n + 1) (h.put (s := x.1) (l := x.2) (by omega) (by omega)) (fun y hy => hx y (List.mem_cons_of_mem _ hy))
   rw [List.length_cons, show n + (t.length + 1) = n + 1 + t.length by omega]
   exact this
 have h2 := this xs [] 0 ⟨fun e he => absurd he (List.not_mem_nil), zN _⟩ h
 rwa [Nat.zero_add] at h2
theorem ynh {xs : List PE} (h : xs ≠ []) : putL xs ≠ [] := by
 obtain ⟨ys, y, rfl⟩ : ∃ ys y, xs = ys ++ [y] := ⟨_, _, (List.dropLast_concat_getLast h).symm⟩; rw [ykc]; exact yoq _ _
structure RS (w : World) (b0 b1 : Nat) (K : List (Nat × Obj)) (xs : List PE) (wr : World) : Prop where
 bel : Below w.heap.size w wr
 h0 : w.heap.size <= b0
 h1 : w.heap.size <= b1
 ne : b0 ≠ b1
 res : wr.heap[b0]? = some (.cells #[.slice none 0 0] 40)
 cur : ∃ A c, wr.heap[b1]? = some (.cells #[.slice A (putL xs).length c] 40) /\ RefT wr (.slice A (putL xs).length c) (putL xs) /\ (putL xs = [] -> Value.slice A (putL xs).length c = .slice none 0 0)
 kp : ∀ p ∈ K, p.1 ≠ b1 /\ wr.heap[p.1]? = some p.2
theorem RS.below {w wr wr' : World} {b0 b1 : Nat} {K : List (Nat × Obj)} {xs : List PE} (h : RS w b0 b1 K xs wr) (hb : Below wr.heap.size wr wr') : RS w b0 b1 K xs wr' := by
 obtain ⟨h1, h2, h3, h4, h5, ⟨A, c, h6, h7, h8⟩, h9⟩ := h; exact ⟨h1.trans (hb.mono h1.size), h2, h3, h4, (hb.block _ (R4.yad h5)).trans h5, ⟨A, c, (hb.block _ (R4.yad h6)).trans h6, h7.below hb (zN _), h8⟩, fun p hp => ⟨(h9 p hp).1, (hb.block _ (R4.yad (h9 p hp).2)).trans (h9 p hp).2⟩⟩
theorem RS.keep {w wr : World} {b0 b1 : Nat} {K : List (Nat × Obj)} {xs : List PE} (h : RS w b0 b1 K xs wr) {g : Nat} {o : Obj} (hg : g ≠ b1) (ho : wr.heap[g]? = some o) : RS w b0 b1 ((g, o) :: K) xs wr :=
 ⟨h.bel, h.h0, h.h1, h.ne, h.res, h.cur, fun p hp => by
  rcases List.mem_cons.1 hp with rfl | hp
  ·exact ⟨hg, ho⟩
  ·exact h.kp p hp⟩
theorem RS.store {w wr : World} {b0 b1 : Nat} {K : List (Nat × Obj)} {xs ys : List PE} {A : Option Addr} {c : Nat} (h : RS w b0 b1 K xs wr) (hu : RefT wr (.slice A (putL ys).length c) (putL ys)) (hy : ys ≠ []) : RS w b0 b1 K ys (wr.setCell ⟨b1, 0, none⟩ (.slice A (putL ys).length c)) := by
 obtain ⟨k1, k2, k3, k4, k5, ⟨A', c', k6, k7, k8⟩, k9⟩ := h; have hg := R4.yae wr ⟨b1, 0, none⟩ (.slice A (putL ys).length c); refine ⟨k1.setCell k3 _, k2, k3, k4, (hg.block _ (R4.yad k5) (by intro e; injection e with e; exact k4 e)).trans k5, ⟨A, c, heap_setCell_same wr b1 0 _ _ _ k6, hu.off hg k6 (by decide) (by decide) (by decide), fun e => absurd e (ynh hy)⟩, fun p hp => ⟨(k9 p hp).1, (hg.block _ (R4.yad (k9 p hp).2) (by intro e; injection e with e; exact (k9 p hp).1 e)).trans (k9 p hp).2⟩⟩
theorem RS.cell {w wr : World} {b0 b1 : Nat} {K : List (Nat × Obj)} {xs : List PE} (h : RS w b0 b1 K xs wr) : ∃ A c, wr.cell? ⟨b1, 0, none⟩ = some (.slice A (putL xs).length c) /\ wr.frozen? ⟨b1, 0, none⟩ = false /\ RefT wr (.slice A (putL xs).length c) (putL xs) /\ (putL xs = [] -> Value.slice A (putL xs).length c = .slice none 0 0) := by
 obtain ⟨A, c, h6, h7, h8⟩ := h.cur; exact ⟨A, c, by rw [cell_of_row _ _ 0 _ _ _ h6]; rfl, frozen_of_row _ _ 0 _ _ h6, h7, h8⟩
theorem RS.start (w : World) : RS w w.heap.size (w.heap.size + 1) [] [] ((w.alloc (.cells #[.slice none 0 0] 40)).alloc (.cells #[.slice none 0 0] 40)) := by
 have e1 : (w.alloc (.cells #[.slice none 0 0] 40)).heap.size = w.heap.size + 1 := by simp
 refine ⟨((zR _ w).alloc (zN _) _).alloc (by simp) _, zN _, Nat.le_succ _, by omega, ?_, ⟨none, 0, ?_, RefT.nil _, fun _ => rfl⟩, fun p hp => absurd hp (List.not_mem_nil)⟩
 ·rw [(yaa (w.alloc (.cells #[.slice none 0 0] 40)) (.cells #[.slice none 0 0] 40)).block _ (by simp)]
  exact heap_alloc_new w _
 ·have := heap_alloc_new (w.alloc (.cells #[.slice none 0 0] 40)) (.cells #[.slice none 0 0] 40)
  rw [e1] at this; exact this
theorem putS {wr : World} {xs : List PE} {A : Option Addr} {c : Nat} {sv lv : Value} {s : List Int} {l : List Nat} {G H : Nat -> Prop} (hT : RefT wr (.slice A (putL xs).length c) (putL xs)) (hz : putL xs = [] -> Value.slice A (putL xs).length c = .slice none 0 0) (hx : ∀ x ∈ xs, x.1.length = 1) (hl : xs.length <= 900) (hs : RdI G wr sv s) (hq : RdQ H wr lv l) (h1 : s.length = 1) (h2 : l.length <= 1000) {ys : List PE} (hy : xs ++ [(s, l)] = ys) :
  Calls Tryz.prog 42 #[.agg #[.slice A (putL xs).length c], sv, lv] wr fun e w' => (∃ A' c', e = .returned (.agg #[.slice A' (putL ys).length c']) /\ RefT w' (.slice A' (putL ys).length c') (putL ys)) /\ Below wr.heap.size wr w' := by
 subst hy; refine (putO hT (ynl hx) (by omega) hz hs hq (by omega) (by omega) h2 (R := putL (xs ++ [(s, l)])) (by rw [ykc])).mono fun e w' h => ?_
 obtain ⟨⟨u, he, hu⟩, hb⟩ := h; obtain ⟨A', c', rfl⟩ := hu.form; exact ⟨⟨A', c', he, hu⟩, hb⟩
theorem markedS {wr : World} {xs : List PE} {A : Option Addr} {cc : Nat} {c x m : Int} {b : Nat} (hT : RefT wr (.slice A (putL xs).length cc) (putL xs)) (hne : xs ≠ []) (hx : ∀ x ∈ xs, x.1.length = 1) (hl : xs.length <= 900) (hb : 65 <= b /\ b <= 90) (hbx : (b : Int) = x) (hm : m ∈ mkC) (hc : 0 <= c /\ c <= 1000) {ys : List PE} (hy : xs ++ [([c], [letW b, mkW m]), ([c + 32], [letW (b + 32), mkW m])] = ys) :
  Calls Tryz.prog 45 #[.agg #[.slice A (putL xs).length cc], .int .i64 c, .int .i64 x, .int .i64 m] wr fun e w' => (∃ A' c', e = .returned (.agg #[.slice A' (putL ys).length c']) /\ RefT w' (.slice A' (putL ys).length c') (putL ys)) /\ Below wr.heap.size wr w' := by
 subst hy; refine (yqy hT (ynl hx) (by omega) (ynh hne) hb hbx hm hc (R := putL (xs ++ [([c], [letW b, mkW m]), ([c + 32], [letW (b + 32), mkW m])])) (by rw [yyr])).mono fun e w' h => ?_
 obtain ⟨⟨u, he, hu⟩, hb⟩ := h; obtain ⟨A', c', rfl⟩ := hu.form; exact ⟨⟨A', c', he, hu⟩, hb⟩
theorem RS.kept {w wr : World} {b0 b1 : Nat} {K : List (Nat × Obj)} {xs : List PE} (h : RS w b0 b1 K xs wr) {g : Nat} {l : List Int} (hg : (g, Obj.cells (iv l).toArray 3) ∈ K) {k : Nat} {x : Int} (hk : l[k]? = some x) : wr.cell? ⟨g, k, none⟩ = some (.int .i64 x) := by
 rw [cell_of_row _ _ k _ _ _ (h.kp _ hg).2, List.getElem?_toArray]; exact iv_at hk
theorem RS.row {w wr : World} {b0 b1 : Nat} {K : List (Nat × Obj)} {xs : List PE} (h : RS w b0 b1 K xs wr) (l : List Int) : RS w b0 b1 ((wr.heap.size, .cells (iv l).toArray 3) :: K) xs (wr.alloc (.cells (iv l).toArray 3)) := by
 refine (h.below (yaa wr _)).keep ?_ (heap_alloc_new wr _); obtain ⟨A, c, h6, _⟩ := h.cur
 have := R4.yad h6
 omega
end Go.Proofs.YteibnfeokgibmaaGreat
namespace Go.Proofs.YteibnfeokgibmaaGreat
open Go.RowKit
theorem RdF.kmono {U V : Nat -> Prop} {w : World} {v : Value} {n : Nat} {xs : List Value} (h : RdF (KRU U w) w v n xs) (hV : ∀ k, U k -> k < w.heap.size -> V k) : RdF (KRU V w) w v n xs :=
 RdF.mono h fun k hk => by
  obtain ⟨hU, cs, T, fr, h1, h2⟩ := hk; exact ⟨hV k hU (R4.yad h1), cs, T, fr, h1, h2⟩
theorem RefU.mono {U V : Nat -> Prop} {w : World} {v : Value} {L : List PE} (h : RefU U w v L) (hV : ∀ k, U k -> k < w.heap.size -> V k) : RefU V w v L := by
 obtain ⟨M, e, h1, h2⟩ := h; exact ⟨M, e, RdF.kmono h1 hV, fun m hm => ⟨RdF.kmono (h2 m hm).1 hV, RdF.kmono (h2 m hm).2 hV⟩⟩
def Off3 (gS gA gE : Nat) (k : Nat) : Prop := k ≠ gS /\ k ≠ gA /\ k ≠ gE
def el4 (p t : Nat) : Array Value := #[.int .i64 (p : Int), .int .i64 32, .int .i64 (t : Int), .bool false]
structure RT (w : World) (b0 b1 gS gA gE : Nat) (t : Nat) (xs : List PE) (wr : World) : Prop where
 bel : Below w.heap.size w wr
 lo : w.heap.size <= b0 /\ w.heap.size <= b1 /\ w.heap.size <= gA /\ w.heap.size <= gE
 ne : b0 ≠ b1 /\ b0 ≠ gA /\ b0 ≠ gE /\ b0 ≠ gS /\ b1 ≠ gA /\ b1 ≠ gE /\ b1 ≠ gS /\ gA ≠ gE /\ gS ≠ gA /\ gS ≠ gE
 res : wr.heap[b0]? = some (.cells #[.slice none 0 0] 40)
 cur : ∃ A c, wr.heap[b1]? = some (.cells #[.slice A (putL xs).length c] 40) /\ RefU (Off3 gS gA gE) wr (.slice A (putL xs).length c) (putL xs) /\ (putL xs = [] -> Value.slice A (putL xs).length c = .slice none 0 0)
 hS : wr.heap[gS]? = some (.cells (el4 400 4) 77)
 hA : wr.heap[gA]? = some (.cells (el4 256 t) 77)
 hE : wr.heap[gE]? = some (.cells (el4 288 t) 77)
theorem RT.of {w wr : World} {b0 b1 : Nat} {K : List (Nat × Obj)} {xs : List PE} (h : RS w b0 b1 K xs wr) :
  RT w b0 b1 wr.heap.size (wr.heap.size + 1) (wr.heap.size + 1 + 1) 4 xs (((wr.alloc (.cells (el4 400 4) 77)).alloc (.cells (el4 256 4) 77)).alloc (.cells (el4 288 4) 77)) := by
 obtain ⟨A, c, h6, h7, h8⟩ := h.cur; have l0 := R4.yad h.res; have l1 := R4.yad h6; have hsz := h.bel.size; have B1 := yaa wr (.cells (el4 400 4) 77); have B2 := yaa (wr.alloc (.cells (el4 400 4) 77)) (.cells (el4 256 4) 77); have B3 := yaa ((wr.alloc (.cells (el4 400 4) 77)).alloc (.cells (el4 256 4) 77)) (.cells (el4 288 4) 77); have BB := B1.trans ((B2.trans (B3.mono B2.size)).mono B1.size); have n1 := heap_alloc_new wr (.cells (el4 400 4) 77); have n2 := heap_alloc_new (wr.alloc (.cells (el4 400 4) 77)) (.cells (el4 256 4) 77); have n3 := heap_alloc_new ((wr.alloc (.cells (el4 400 4) 77)).alloc (.cells (el4 256 4) 77)) (.cells (el4 288 4) 77)
 have s1 : (wr.alloc (.cells (el4 400 4) 77)).heap.size = wr.heap.size + 1 := World.size_alloc _ _
 have s2 : ((wr.alloc (.cells (el4 400 4) 77)).alloc (.cells (el4 256 4) 77)).heap.size = wr.heap.size + 1 + 1 := by rw [World.size_alloc, s1]
 rw [s1] at n2; rw [s2] at n3
 refine ⟨h.bel.trans (BB.mono h.bel.size), ⟨h.h0, h.h1, by omega, by omega⟩, ⟨h.ne, by omega, by omega, by omega, by omega, by omega, by omega, by omega, by omega, by omega⟩, (BB.block _ l0).trans h.res,
  ⟨A, c, (BB.block _ l1).trans h6, (h7.mono fun k _ hk => ?_).below BB (zN _), h8⟩, ?_, ?_, n3⟩
 ·exact ⟨by omega, by omega, by omega⟩
 ·exact ((B3.block _ (by omega)).trans ((B2.block _ (by omega)).trans n1))
 ·exact (B3.block _ (by omega)).trans n2
theorem RT.hU {w wr : World} {b0 b1 gS gA gE t : Nat} {xs : List PE} (h : RT w b0 b1 gS gA gE t xs wr) {wx : World} (hx : wr.heap.size <= wx.heap.size) : ∀ k, wx.heap.size <= k -> Off3 gS gA gE k := fun k hk => by
 have l1 := R4.yad h.hS; have l2 := R4.yad h.hA; have l3 := R4.yad h.hE; exact ⟨by omega, by omega, by omega⟩
theorem RT.below {w wr wr' : World} {b0 b1 gS gA gE t : Nat} {xs : List PE} (h : RT w b0 b1 gS gA gE t xs wr) (hb : Below wr.heap.size wr wr') : RT w b0 b1 gS gA gE t xs wr' := by
 obtain ⟨h1, h2, h3, h5, ⟨A, c, h6, h7, h8⟩, h9, h10, h11⟩ := h; exact ⟨h1.trans (hb.mono h1.size), h2, h3, (hb.block _ (R4.yad h5)).trans h5, ⟨A, c, (hb.block _ (R4.yad h6)).trans h6, h7.below hb (zN _), h8⟩, (hb.block _ (R4.yad h9)).trans h9, (hb.block _ (R4.yad h10)).trans h10, (hb.block _ (R4.yad h11)).trans h11⟩
theorem RT.store {w wr : World} {b0 b1 gS gA gE t : Nat} {xs ys : List PE} {A : Option Addr} {c : Nat} (h : RT w b0 b1 gS gA gE t xs wr) (hu : RefU (Off3 gS gA gE) wr (.slice A (putL ys).length c) (putL ys)) (hy : ys ≠ []) : RT w b0 b1 gS gA gE t ys (wr.setCell ⟨b1, 0, none⟩ (.slice A (putL ys).length c)) := by
 obtain ⟨k1, k2, k4, k5, ⟨A', c', k6, k7, k8⟩, k9, k10, k11⟩ := h; have hg := R4.yae wr ⟨b1, 0, none⟩ (.slice A (putL ys).length c)
 refine ⟨k1.setCell k2.2.1 _, k2, k4, (hg.block _ (R4.yad k5) (by simp; omega)).trans k5, ⟨A, c, heap_setCell_same wr b1 0 _ _ _ k6, hu.off hg k6 (by decide) (by decide) (by decide), fun e => absurd e (ynh hy)⟩,
  (hg.block _ (R4.yad k9) (by simp; omega)).trans k9, (hg.block _ (R4.yad k10) (by simp; omega)).trans k10, (hg.block _ (R4.yad k11) (by simp; omega)).trans k11⟩
theorem RT.cell {w wr : World} {b0 b1 gS gA gE t : Nat} {xs : List PE} (h : RT w b0 b1 gS gA gE t xs wr) : ∃ A c, wr.cell? ⟨b1, 0, none⟩ = some (.slice A (putL xs).length c) /\ wr.frozen? ⟨b1, 0, none⟩ = false /\ RefU (Off3 gS gA gE) wr (.slice A (putL xs).length c) (putL xs) /\ (putL xs = [] -> Value.slice A (putL xs).length c = .slice none 0 0) := by
 obtain ⟨A, c, h6, h7, h8⟩ := h.cur; exact ⟨A, c, by rw [cell_of_row _ _ 0 _ _ _ h6]; rfl, frozen_of_row _ _ 0 _ _ h6, h7, h8⟩
theorem ydp {w : World} {g p t : Nat} (h : w.heap[g]? = some (.cells (el4 p t) 77)) : w.cell? ⟨g, 0, none⟩ = some (.int .i64 (p : Int)) /\ w.cell? ⟨g, 1, none⟩ = some (.int .i64 32) /\ w.cell? ⟨g, 2, none⟩ = some (.int .i64 (t : Int)) /\ w.cell? ⟨g, 3, none⟩ = some (.bool false) :=
 ⟨by rw [cell_of_row _ _ 0 _ _ _ h]; rfl, by rw [cell_of_row _ _ 1 _ _ _ h]; rfl, by rw [cell_of_row _ _ 2 _ _ _ h]; rfl, by rw [cell_of_row _ _ 3 _ _ _ h]; rfl⟩
theorem RefU.miss {U : Nat -> Prop} {w w' : World} {v : Value} {L : List PE} {b : Nat} (h : RefU U w v L) (hg : w.grownBy w' (some b)) (hb : ¬ U b) : RefU U w' v L := h.step fun k hU _ hk => hg.block k hk (by intro e; injection e with e; subst e; exact hb hU)
theorem RT.poke {w wr : World} {b0 b1 gS gA gE t : Nat} {xs : List PE} (h : RT w b0 b1 gS gA gE t xs wr) (s : Nat) : RT w b0 b1 gS gA gE s xs ((wr.setCell ⟨gA, 2, none⟩ (.int .i64 (s : Int))).setCell ⟨gE, 2, none⟩ (.int .i64 (s : Int))) := by
 obtain ⟨k1, k2, k4, k5, ⟨A', c', k6, k7, k8⟩, k9, k10, k11⟩ := h; have g1 := R4.yae wr ⟨gA, 2, none⟩ (.int .i64 (s : Int)); have g2 := R4.yae (wr.setCell ⟨gA, 2, none⟩ (.int .i64 (s : Int))) ⟨gE, 2, none⟩ (.int .i64 (s : Int)); have sz := g1.size
 have keep : ∀ {k : Nat} {o : Obj}, wr.heap[k]? = some o -> k ≠ gA -> k ≠ gE -> ((wr.setCell ⟨gA, 2, none⟩ (.int .i64 (s : Int))).setCell ⟨gE, 2, none⟩ (.int .i64 (s : Int))).heap[k]? = some o := fun {k o} hk n1 n2 =>
  (g2.block k (by have := R4.yad hk; omega) (by simp; omega)).trans ((g1.block k (R4.yad hk) (by simp; omega)).trans hk)
 refine ⟨(k1.setCell k2.2.2.1 _).setCell k2.2.2.2 _, k2, k4, keep k5 (by omega) (by omega), ⟨A', c', keep k6 (by omega) (by omega), (k7.miss g1 (fun h => h.2.1 rfl)).miss g2 (fun h => h.2.2 rfl), k8⟩, keep k9 (by omega) (by omega), ?_, ?_⟩
 ·have e1 : (wr.setCell ⟨gA, 2, none⟩ (.int .i64 (s : Int))).heap[gA]? = some (.cells (el4 256 s) 77) := heap_setCell_same wr gA 2 _ _ _ k10
  exact (g2.block gA (R4.yad e1) (by simp; omega)).trans e1
 ·have e1 : (wr.setCell ⟨gA, 2, none⟩ (.int .i64 (s : Int))).heap[gE]? = some (.cells (el4 288 t) 77) := (g1.block gE (R4.yad k11) (by simp; omega)).trans k11
  exact heap_setCell_same _ gE 2 _ _ _ e1
theorem putT {U : Nat -> Prop} {wr : World} {xs : List PE} {A : Option Addr} {c : Nat} {sv lv : Value} {s : List Int} {l : List Nat} {G H : Nat -> Prop} (hU : ∀ k, wr.heap.size <= k -> U k) (hT : RefU U wr (.slice A (putL xs).length c) (putL xs)) (hz : putL xs = [] -> Value.slice A (putL xs).length c = .slice none 0 0) (hx : ∀ x ∈ xs, x.1.length = 1) (hl : xs.length <= 900) (hs : RdI G wr sv s) (hq : RdQ H wr lv l) (h1 : s.length = 1) (h2 : l.length <= 1000) {ys : List PE} (hy : xs ++ [(s, l)] = ys) :
  Calls Tryz.prog 42 #[.agg #[.slice A (putL xs).length c], sv, lv] wr fun e w' => (∃ A' c', e = .returned (.agg #[.slice A' (putL ys).length c']) /\ RefU U w' (.slice A' (putL ys).length c') (putL ys)) /\ Below wr.heap.size wr w' := by
 subst hy; have ho := ynl hx; refine (yty hU hT hs hq ho.seq (by omega) (by omega) h2 (Nat.le_trans ho.len (by omega)) hz (R := putL (xs ++ [(s, l)])) (by rw [ykc])).mono fun e w' h => ?_
 obtain ⟨⟨u, he, hu⟩, hb⟩ := h; obtain ⟨A', c', rfl⟩ := hu.form; exact ⟨⟨A', c', he, hu⟩, hb⟩
end Go.Proofs.YteibnfeokgibmaaGreat
namespace Go.Proofs.YteibnfeokgibmaaGreat
open Go.RowKit
theorem q4_mk1 {p s t : Nat} (hp : p < 65536) (hs : s < 256) (ht : t < 128) : q4 (E3.mk p s t 1) = [.int .i64 (p : Int), .int .i64 (s : Int), .int .i64 (t : Int), .bool true] := by
 unfold q4 E3.mk; rw [show (p * 65536 + s * 256 + t * 2 + 1) / 65536 = p by omega, show (p * 65536 + s * 256 + t * 2 + 1) / 256 % 256 = s by omega, show (p * 65536 + s * 256 + t * 2 + 1) / 2 % 128 = t by omega, show decide ((p * 65536 + s * 256 + t * 2 + 1) % 2 = 1) = true by simp; omega]
theorem yfv (s : ByteArray) {k : Nat} {c : UInt8} (h : s.data.toList[k]? = some c) (w : World) : (Instr.index 9 (.string s) (.int .i64 (k : Int))).run Tryz.prog w = .ok (.int .u8 (c.toNat : Int)) w := by
 obtain ⟨hk, hc⟩ := List.getElem?_eq_some_iff.1 h
 have hk' : k < s.size := hk
 have h' : 0 <= (k : Int) /\ (k : Int) < (s.size : Int) := ⟨by omega, by omega⟩
 rw [run_index_string w 9 s .i64 (k : Int) Tryz.underlying9, dif_pos h']; subst hc; rfl
theorem run_var (w : World) {k : Nat} (hk : k < 6) : (Instr.index 9 (.string ⟨#[32, 95, 45, 44, 46, 39]⟩) (.int .i64 (k : Int))).run Tryz.prog w = .ok (.int .u8 (varC.getD k 0)) w := by
 have h : k = 0 \/ k = 1 \/ k = 2 \/ k = 3 \/ k = 4 \/ k = 5 := by omega
 rcases h with rfl | rfl | rfl | rfl | rfl | rfl
 ·exact yfv ⟨#[32, 95, 45, 44, 46, 39]⟩ (k := 0) (c := 32) rfl w
 ·exact yfv ⟨#[32, 95, 45, 44, 46, 39]⟩ (k := 1) (c := 95) rfl w
 ·exact yfv ⟨#[32, 95, 45, 44, 46, 39]⟩ (k := 2) (c := 45) rfl w
 ·exact yfv ⟨#[32, 95, 45, 44, 46, 39]⟩ (k := 3) (c := 44) rfl w
 ·exact yfv ⟨#[32, 95, 45, 44, 46, 39]⟩ (k := 4) (c := 46) rfl w
 ·exact yfv ⟨#[32, 95, 45, 44, 46, 39]⟩ (k := 5) (c := 39) rfl w
theorem varC_bd {k : Nat} (hk : k < 6) : 0 <= varC.getD k 0 /\ varC.getD k 0 <= 255 := by
 have h : k = 0 \/ k = 1 \/ k = 2 \/ k = 3 \/ k = 4 \/ k = 5 := by omega
 rcases h with rfl | rfl | rfl | rfl | rfl | rfl <;> decide
theorem yas {a b : List PE} (ha : ∀ y ∈ a, y.1.length = 1) (hb : ∀ y ∈ b, y.1.length = 1) : ∀ y ∈ a ++ b, y.1.length = 1 := fun y hy => by
 rcases List.mem_append.1 hy with h | h
 ·exact ha y h
 ·exact hb y h
theorem ygf (f : Nat -> PE) (hf : ∀ i, (f i).1.length = 1) (k : Nat) : ∀ y ∈ (List.range k).map f, y.1.length = 1 := fun y hy => by
 obtain ⟨i, _, rfl⟩ := List.mem_map.1 hy; exact hf i
theorem ycr (f : Nat -> List PE) (hf : ∀ i, ∀ y ∈ f i, y.1.length = 1) (k : Nat) : ∀ y ∈ (List.range k).flatMap f, y.1.length = 1 := fun y hy => by
 obtain ⟨i, _, hi⟩ := List.mem_flatMap.1 hy; exact hf i y hi
theorem yuj (i : Nat) : ∀ y ∈ letE i, y.1.length = 1 := fun y hy => by
 simp [letE] at hy; rcases hy with rfl | rfl <;> rfl
theorem ybw (f l : Nat) (ms : List Int) (i : Nat) : ∀ y ∈ compE f l ms i, y.1.length = 1 := fun y hy => by
 simp [compE] at hy; rcases hy with rfl | rfl <;> rfl
theorem yuk (i : Nat) : ∀ y ∈ ceiE i, y.1.length = 1 := yas (ybw _ _ _ _) (yas (ybw _ _ _ _) (ybw _ _ _ _))
theorem one_A1 : ∀ y ∈ A1, y.1.length = 1 := ygf _ (fun _ => rfl) _
theorem one_A2 : ∀ y ∈ A2, y.1.length = 1 := yas one_A1 (ygf _ (fun _ => rfl) _)
theorem one_A3 : ∀ y ∈ A3, y.1.length = 1 := yas one_A2 (ycr _ yuj _)
theorem one_A4 : ∀ y ∈ A4, y.1.length = 1 := yas one_A3 (ygf _ (fun _ => rfl) _)
theorem one_A5 : ∀ y ∈ A5, y.1.length = 1 := yas one_A4 (ycr _ (ybw _ _ _) _)
theorem one_A6 : ∀ y ∈ A6, y.1.length = 1 := yas one_A5 (ybw _ _ _ _)
theorem one_A7 : ∀ y ∈ A7, y.1.length = 1 := yas one_A6 (ycr _ yuk _)
theorem one_A8 : ∀ y ∈ A8, y.1.length = 1 := yas one_A7 (ybw _ _ _ _)
theorem one_A9 : ∀ y ∈ A9, y.1.length = 1 := yas one_A8 (ycr _ (ybw _ _ _) _)
theorem yum : ∀ y ∈ A10, y.1.length = 1 := yas one_A9 (ybw _ _ _ _)
theorem nA1 : A1.length = 6 := by decide +kernel
theorem nA2 : A2.length = 16 := by decide +kernel
theorem nA3 : A3.length = 68 := by decide +kernel
theorem nA4 : A4.length = 76 := by decide +kernel
theorem nA5 : A5.length = 88 := by decide +kernel
theorem nA6 : A6.length = 90 := by decide +kernel
theorem nA7 : A7.length = 114 := by decide +kernel
theorem nA8 : A8.length = 116 := by decide +kernel
theorem nA9 : A9.length = 126 := by decide +kernel
theorem nA10 : A10.length = 128 := by decide +kernel
def A11a : List PE := A10 ++ [([223], [E3.mk 400 32 4 0, E3.mk 400 32 4 0])]
def A11b : List PE := A11a ++ [([230], [E3.mk 256 32 4 0, E3.mk 288 32 4 0])]
def A11c : List PE := A11b ++ [([198], [E3.mk 256 32 10 0, E3.mk 288 32 10 0])]
theorem ykl (x : PE) (h : x.1.length = 1) : ∀ y ∈ [x], y.1.length = 1 := fun y hy => by simp at hy; subst hy; exact h
theorem yoy : ∀ y ∈ A11a, y.1.length = 1 := yas yum (ykl _ rfl)
theorem yox : ∀ y ∈ A11b, y.1.length = 1 := yas yoy (ykl _ rfl)
theorem yzl : ∀ y ∈ A11c, y.1.length = 1 := yas yox (ykl _ rfl)
theorem nA11a : A11a.length = 129 := by decide +kernel
theorem nA11b : A11b.length = 130 := by decide +kernel
theorem nA11c : A11c.length = 131 := by decide +kernel
theorem nA11 : A11.length = 132 := by decide +kernel
theorem ne_len {xs : List PE} (h : 0 < xs.length) : xs ≠ [] := fun e => by rw [e] at h; exact absurd h (Nat.lt_irrefl _)
theorem ypa {k : Nat} {x : Int} (h : sixC[k]? = some x) : x ∈ mkC := by
 have := List.mem_of_getElem? h
 simp only [sixC, mkC, List.mem_cons, List.not_mem_nil, or_false] at this |-
 omega
theorem yuv {k : Nat} {x : Int} (h : fourC[k]? = some x) : x ∈ mkC := by
 have := List.mem_of_getElem? h
 simp only [fourC, mkC, List.mem_cons, List.not_mem_nil, or_false] at this |-
 omega
theorem ygs (w : World) (o : Obj) (ys : List Value) (T : TypeId) {n C : Nat} (hn : n <= C) : RdF anyB ((w.alloc o).alloc (.cells ys.toArray T)) (.slice (some ⟨w.heap.size + 1, 0, none⟩) n C) n ys := by
 have := RdF.new (w.alloc o) ys T hn
 rwa [World.size_alloc] at this
set_option maxHeartbeats 16000000 in
theorem ylg (w : World) : Calls Tryz.prog 26 #[] w fun e w' => (∃ u, e = .returned (.agg #[u]) /\ RefT w' u rootP) /\ Below w.heap.size w w' := by
 have HR := zH (RS.start w)
 go_enter Tryz.func26, Tryz.ntmps26
 go_wp2
 obtain ⟨b0, hb0⟩ : ∃ b, w.heap.size = b := ⟨_, rfl⟩; obtain ⟨b1, hb1⟩ : ∃ b, w.heap.size + 1 = b := ⟨_, rfl⟩; rw [show RS w w.heap.size (w.heap.size + 1) = RS w b0 b1 by rw [hb1, hb0]] at HR
 rw [hb1]; rw [show (({ block := w.heap.size, off := 0 } : Addr)) = ⟨b0, 0, none⟩ by rw [hb0]]
 clear hb0 hb1
 go_loopw [2] (fun i wr => ∃ k : Nat, k <= 6 /\ i = .int .i64 (k : Nat) /\ Hid (RS w b0 b1 [] ((List.range k).map varE) wr)) (fun i _ => 6 - (intOf i).toNat)
 case atStart => exact ⟨0, Nat.zero_le _, rfl, by have := HR.out; show RS _ _ _ _ _ _; simpa using this⟩
 case round =>
  clear HR; obtain ⟨k, hk, rfl, HR⟩ := hrel
  by_cases hlt : k < 6
  ·have hkI : (k : Int) < 6 := by omega
   have hxb := varC_bd hlt; have hix0 := fun W => run_var W hlt
   have HX : Hid (∀ y ∈ (List.range k).map varE, y.1.length = 1) := ygf _ (fun _ => rfl) k
   have hlx : ((List.range k).map varE).length <= 6 := by simp; omega
   obtain ⟨xs, hxs⟩ : ∃ xs, (List.range k).map varE = xs := ⟨_, rfl⟩; rw [hxs] at HX HR hlx; have HXS := zH hxs
   have HL : Hid (xs.length <= 900) := by show _ <= _; omega
   clear hxs; obtain ⟨x, hx⟩ : ∃ x, varC.getD k 0 = x := ⟨_, rfl⟩; obtain ⟨wd, hwd⟩ : ∃ wd, E3.mk (16 + 4 * k) 32 2 1 = wd := ⟨_, rfl⟩; rw [hx] at hxb hix0; have HIX := zH hix0
   have HQ : Hid (qcells [wd] = [.int .i64 (16 + 4 * (k : Int)), .int .i64 32, .int .i64 2, .bool true]) := by show _ = _; rw [yam, <- hwd, q4_mk1 (by omega) (by omega) (by omega)]; simp [qcells]
   obtain ⟨ys, hys⟩ : ∃ r, xs ++ [([x], [wd])] = r := ⟨_, rfl⟩; have HY := zH hys
   have HYN : Hid (ys ≠ []) := by show _ ≠ _; rw [<- hys]; simp
   have HX1 : Hid (∀ y ∈ ys, y.1.length = 1) := by show ∀ _, _; rw [<- hys]; exact yas HX.out (fun y hy => by simp at hy; rcases hy with rfl <;> rfl)
   have HL1 : Hid (ys.length <= 900) := by show _ <= _; rw [<- hys, List.length_append]; simp; omega
   have HN1 := HYN
   have HYS : Hid ((List.range (k + 1)).map varE = ys) := by show _ = _; rw [<- hys, <- HXS.out, List.range_succ, List.map_append, List.map_cons, List.map_nil]; unfold varE; rw [hx, hwd]
   have r0 : IntKind.i64.wrap x = x := IntWalk.i64_in _ (by omega)
   have r1 : IntKind.i64.wrap (4 * (k : Int)) = 4 * (k : Int) := IntWalk.i64_in _ (by omega)
   have r2 : IntKind.i64.wrap (16 + 4 * (k : Int)) = 16 + 4 * (k : Int) := IntWalk.i64_in _ (by omega)
   obtain ⟨A, c, c0, _, hT, hz⟩ := HR.out.cell; have HC := zH c0; have HT := zH hT; have HZ := zH hz; clear c0 hT hz; clear hys hx hwd hix0 hlt hlx HX1 HL1 HN1 HXS
   go_wp2
   refine yag (m := 11) [20, 21, 22, 23, 24, 25, 26, 27, 28, 29, 30] [SV.eq (.agg #[.slice A (putL xs).length c]), SV.eq (.int .i64 (k : Int)), SV.eq (.int .u8 x), SV.eq (.int .i64 x), SV.ints [x], SV.eq (.int .i64 (k : Int)), SV.eq (.int .i64 (4 * (k : Int))), SV.eq (.int .i64 (16 + 4 * (k : Int))), SV.eq (.agg #[.int .i64 (16 + 4 * (k : Int)), .int .i64 32, .int .i64 2, .bool true]), SV.qs [wd], SV.ref (putL ys)] (by kernel_rfl) (by kernel_rfl) ?_ ?_
   ·refine ⟨⟨⟨⟨⟨⟨⟨⟨⟨⟨⟨trivial, ?_⟩, ?_⟩, ?_⟩, ?_⟩, ?_⟩, ?_⟩, ?_⟩, ?_⟩, ?_⟩, ?_⟩, ?_⟩
    all_goals (refine OpIs.mk rfl ?_; intro vs w1 hb hd K hK; simp only [frameV, zS, zA, zB, zC, zD] at hK |-)
    ·have c0 := yab hb HC.out; have HK := zH hK; clear hK; go_simp; exact HK.out _ _ rfl (zR _ _)
    ·have HK := zH hK; clear hK; go_simp; exact HK.out _ _ rfl (zR _ _)
    ·have d1 : vs 1 = .int .i64 (k : Int) := hd 1 (by kernel_rfl)
     have hix := HIX.out w1; simp only [d1] at hK |-; have HK := zH hK; clear hK; go_simp; exact HK.out _ _ rfl (zR _ _)
    ·have d2 : vs 2 = .int .u8 x := hd 2 (by kernel_rfl)
     simp only [d2] at hK |-; have HK := zH hK; clear hK; go_simp; exact HK.out _ _ rfl (zR _ _)
    ·have d3 : vs 3 = .int .i64 x := hd 3 (by kernel_rfl)
     simp only [d3] at hK |-; have HK := zH hK; clear hK; go_simp; exact HK.out _ _ (RdF.new w1 _ _ (zN _)) (yaa w1 _)
    ·have HK := zH hK; clear hK; go_simp; exact HK.out _ _ rfl (zR _ _)
    ·have d5 : vs 5 = .int .i64 (k : Int) := hd 5 (by kernel_rfl)
     simp only [d5] at hK |-; have HK := zH hK; clear hK; go_simp; exact HK.out _ _ rfl (zR _ _)
    ·have d6 : vs 6 = .int .i64 (4 * (k : Int)) := hd 6 (by kernel_rfl)
     simp only [d6] at hK |-; have HK := zH hK; clear hK; go_simp; exact HK.out _ _ rfl (zR _ _)
    ·have d7 : vs 7 = .int .i64 (16 + 4 * (k : Int)) := hd 7 (by kernel_rfl)
     simp only [d7] at hK |-; have HK := zH hK; clear hK; go_simp; exact HK.out _ _ rfl (zR _ _)
    ·have d8 : vs 8 = .agg #[.int .i64 (16 + 4 * (k : Int)), .int .i64 32, .int .i64 2, .bool true] := hd 8 (by kernel_rfl)
     simp only [d8] at hK |-; have HK := zH hK; clear hK; go_simp; exact HK.out _ _ (by show RdF anyB _ _ 1 (qcells _); rw [HQ.out]; exact RdF.new w1 _ _ (zN _)) (yaa w1 _)
    ·have d0 : vs 0 = .agg #[.slice A (putL xs).length c] := hd 0 (by kernel_rfl)
     have d4 : RdI anyB w1 (vs 4) [x] := hd 4 (by kernel_rfl)
     have d9 : RdQ anyB w1 (vs 9) [wd] := hd 9 (by kernel_rfl)
     simp only [d0] at hK |-; have HK := zH hK; clear hK; go_simp
     go_at_call 42
     refine (putS (HT.out.below hb (zN _)) HZ.out HX.out HL.out d4 d9 rfl (by simp) HY.out).mono ?_
     rintro e w3 ⟨⟨A', c', rfl, hu⟩, hb3⟩; exact HK.out _ _ ⟨_, rfl, hu⟩ hb3
   ·intro vs w3 hb hd; obtain ⟨u, dm, hu⟩ : ∃ u, vs 10 = .agg #[u] /\ RefT w3 u (putL ys) := hd 10 (by omega)
    obtain ⟨Aa, k2, rfl⟩ := hu.form; obtain ⟨Ab, k3, c03, f03, _, _⟩ := (HR.out.below hb).cell; have HS3 := zH ((HR.out.below hb).store hu HYN.out); simp only [frameV, zS, zA, zB, List.drop_succ_cons, List.drop_zero, dm]; clear hu hb hd HR
    go_wp2
    clear c03 f03 dm HC HT; generalize (w3.setCell ⟨b1, 0, none⟩ (.slice Aa (putL ys).length k2)) = wr at HS3 |-; have HR := HS3; clear HS3
    go_roundw
    case rel => exact ⟨k + 1, by omega, by go_num, by rw [HYS.out]; exact HR.out⟩
    case measure => simp [intOf]; omega
  ·obtain rfl : k = 6 := by omega
   rw [show ((6 : Nat) : Int) = 6 from rfl]
   clear hlt; rw [show (List.range 6).map varE = A1 from rfl] at HR
   go_wp2
   go_loopw [3] (fun i wr => ∃ k : Nat, k <= 10 /\ i = .int .i64 (k : Nat) /\ Hid (RS w b0 b1 [] (A1 ++ (List.range k).map digE) wr)) (fun i _ => 10 - (intOf i).toNat)
   case atStart => exact ⟨0, Nat.zero_le _, rfl, by have := HR.out; show RS _ _ _ _ _ _; simpa using this⟩
   case round =>
    clear HR; obtain ⟨k, hk, rfl, HR⟩ := hrel
    by_cases hlt : k < 10
    ·have hkI : (k : Int) < 10 := by omega
     have HX : Hid (∀ y ∈ A1 ++ (List.range k).map digE, y.1.length = 1) := yas one_A1 (ygf _ (fun _ => rfl) k)
     have hlx : (A1 ++ (List.range k).map digE).length <= 16 := by rw [List.length_append, nA1]; simp; omega
     obtain ⟨xs, hxs⟩ : ∃ xs, A1 ++ (List.range k).map digE = xs := ⟨_, rfl⟩; rw [hxs] at HX HR hlx; have HXS := zH hxs
     have HL : Hid (xs.length <= 900) := by show _ <= _; omega
     clear hxs; obtain ⟨wd, hwd⟩ : ∃ wd, E3.mk (128 + 4 * k) 32 2 0 = wd := ⟨_, rfl⟩
     have HQ : Hid (qcells [wd] = [.int .i64 (128 + 4 * (k : Int)), .int .i64 32, .int .i64 2, .bool false]) := by show _ = _; rw [yam, <- hwd, q4_mk (by omega) (by omega) (by omega)]; simp [qcells]
     obtain ⟨ys, hys⟩ : ∃ r, xs ++ [([48 + (k : Int)], [wd])] = r := ⟨_, rfl⟩; have HY := zH hys
     have HYN : Hid (ys ≠ []) := by show _ ≠ _; rw [<- hys]; simp
     have HX1 : Hid (∀ y ∈ ys, y.1.length = 1) := by show ∀ _, _; rw [<- hys]; exact yas HX.out (fun y hy => by simp at hy; rcases hy with rfl <;> rfl)
     have HL1 : Hid (ys.length <= 900) := by show _ <= _; rw [<- hys, List.length_append]; simp; omega
     have HN1 := HYN
     have HYS : Hid (A1 ++ (List.range (k + 1)).map digE = ys) := by show _ = _; rw [<- hys, <- HXS.out, List.range_succ, List.map_append, List.map_cons, List.map_nil, List.append_assoc]; unfold digE; rw [hwd]
     have r0 : IntKind.i64.wrap (48 + (k : Int)) = 48 + (k : Int) := IntWalk.i64_in _ (by omega)
     have r1 : IntKind.i64.wrap (4 * (k : Int)) = 4 * (k : Int) := IntWalk.i64_in _ (by omega)
     have r2 : IntKind.i64.wrap (128 + 4 * (k : Int)) = 128 + 4 * (k : Int) := IntWalk.i64_in _ (by omega)
     obtain ⟨A, c, c0, _, hT, hz⟩ := HR.out.cell; have HC := zH c0; have HT := zH hT; have HZ := zH hz; clear c0 hT hz; clear hys hwd hlt hlx HX1 HL1 HN1 HXS; have c0 := HC.out
     have HWA : Hid (Below wr.heap.size wr ((wr.alloc (.cells #[.int .i64 (48 + (k : Int))] 3)).alloc (.cells #[.int .i64 (128 + 4 * (k : Int)), .int .i64 32, .int .i64 2, .bool false] 77))) := (yaa wr _).trans ((yaa (wr.alloc (.cells #[.int .i64 (48 + (k : Int))] 3)) _).mono (yaa wr _).size)
     have HSI : Hid (RdI anyB ((wr.alloc (.cells #[.int .i64 (48 + (k : Int))] 3)).alloc (.cells #[.int .i64 (128 + 4 * (k : Int)), .int .i64 32, .int .i64 2, .bool false] 77)) (.slice (some ⟨wr.heap.size, 0, none⟩) 1 1) [48 + (k : Int)]) := (RdF.new wr [.int .i64 (48 + (k : Int))] 3 (zN 1)).below (yaa (wr.alloc (.cells #[.int .i64 (48 + (k : Int))] 3)) _) (zN _)
     have HSQ : Hid (RdQ anyB ((wr.alloc (.cells #[.int .i64 (48 + (k : Int))] 3)).alloc (.cells #[.int .i64 (128 + 4 * (k : Int)), .int .i64 32, .int .i64 2, .bool false] 77)) (.slice (some ⟨wr.heap.size + 1, 0, none⟩) 1 1) [wd]) := by show RdF anyB _ _ 1 (qcells _); rw [HQ.out]; exact ygs wr _ _ _ (zN _)
     go_wp2_with (go_at_call 42; refine (putS (HT.out.below HWA.out (zN _)) HZ.out HX.out HL.out HSI.out HSQ.out rfl (by simp) HY.out).mono ?_; rintro e w3 ⟨⟨Aa, k2, rfl, hu⟩, hb3⟩; have hbw := HWA.out.trans (hb3.mono HWA.out.size); obtain ⟨Ab, k3, c03, f03, _, _⟩ := (HR.out.below hbw).cell; have HS3 := zH ((HR.out.below hbw).store hu HYN.out); clear hu hb3 hbw HT HR c0)
     clear c03 f03 HC HWA HSI HSQ; generalize (w3.setCell ⟨b1, 0, none⟩ (.slice Aa (putL ys).length k2)) = wr at HS3 |-; have HR := HS3; clear HS3
     go_roundw
     case rel => exact ⟨k + 1, by omega, by go_num, by rw [HYS.out]; exact HR.out⟩
     case measure => simp [intOf]; omega
    ·obtain rfl : k = 10 := by omega
     rw [show ((10 : Nat) : Int) = 10 from rfl]
     clear hlt; rw [show A1 ++ (List.range 10).map digE = A2 from rfl] at HR
     go_wp2
     go_loopw [4] (fun i wr => ∃ k : Nat, k <= 26 /\ i = .int .i64 (k : Nat) /\ Hid (RS w b0 b1 [] (A2 ++ (List.range k).flatMap letE) wr)) (fun i _ => 26 - (intOf i).toNat)
     case atStart => exact ⟨0, Nat.zero_le _, rfl, by have := HR.out; show RS _ _ _ _ _ _; simpa using this⟩
     case round =>
      clear HR; obtain ⟨k, hk, rfl, HR⟩ := hrel
      by_cases hlt : k < 26
      ·have hkI : (k : Int) < 26 := by omega
       have HX : Hid (∀ y ∈ A2 ++ (List.range k).flatMap letE, y.1.length = 1) := yas one_A2 (ycr _ yuj k)
       have hlx : (A2 ++ (List.range k).flatMap letE).length <= 70 := by have := yei letE 2 (fun k => by simp [letE]) k; simp only [List.length_append, nA2]; omega
       obtain ⟨xs, hxs⟩ : ∃ xs, A2 ++ (List.range k).flatMap letE = xs := ⟨_, rfl⟩; rw [hxs] at HX HR hlx; have HXS := zH hxs
       have HL : Hid (xs.length <= 900) := by show _ <= _; omega
       clear hxs; obtain ⟨P1, S1, T1, V1, hq1⟩ := q4_ex (letW (97 + k)); obtain ⟨P2, S2, T2', V2, hq2⟩ := q4_ex (letW (65 + k)); have CL1 := zH (fun w => ybk (c := 97 + k) (x := 97 + (k : Int)) (.inr ⟨by omega, by omega⟩) (by omega) hq1 w)
       have CL2 := zH (fun w => ybk (c := 65 + k) (x := 65 + (k : Int)) (.inl ⟨by omega, by omega⟩) (by omega) hq2 w)
       have HQ1 : Hid (qcells [letW (97 + k)] = [.int .i64 P1, .int .i64 S1, .int .i64 T1, .bool V1]) := by show _ = _; rw [yam, hq1]; rfl
       have HQ2 : Hid (qcells [letW (65 + k)] = [.int .i64 P2, .int .i64 S2, .int .i64 T2', .bool V2]) := by show _ = _; rw [yam, hq2]; rfl
       obtain ⟨wd1, hwd1⟩ : ∃ wd, letW (97 + k) = wd := ⟨_, rfl⟩; obtain ⟨wd2, hwd2⟩ : ∃ wd, letW (65 + k) = wd := ⟨_, rfl⟩; rw [hwd1] at HQ1; rw [hwd2] at HQ2; obtain ⟨ys, hys⟩ : ∃ r, xs ++ [([97 + (k : Int)], [wd1])] = r := ⟨_, rfl⟩; have HY := zH hys
       have HYN : Hid (ys ≠ []) := by show _ ≠ _; rw [<- hys]; simp
       have HX1 : Hid (∀ y ∈ ys, y.1.length = 1) := by show ∀ _, _; rw [<- hys]; exact yas HX.out (fun y hy => by simp at hy; rcases hy with rfl <;> rfl)
       have HL1 : Hid (ys.length <= 900) := by show _ <= _; rw [<- hys, List.length_append]; simp; omega
       have HN1 := HYN
       have hlys : ys.length <= 80 := by rw [<- hys, List.length_append]; simp; omega
       obtain ⟨zs, hzs⟩ : ∃ r, ys ++ [([65 + (k : Int)], [wd2])] = r := ⟨_, rfl⟩; have HY1 := zH hzs
       have HYN1 : Hid (zs ≠ []) := by show _ ≠ _; rw [<- hzs]; simp
       have HX2 : Hid (∀ y ∈ zs, y.1.length = 1) := by show ∀ _, _; rw [<- hzs]; exact yas HX1.out (fun y hy => by simp at hy; rcases hy with rfl <;> rfl)
       have HL2 : Hid (zs.length <= 900) := by show _ <= _; rw [<- hzs, List.length_append]; simp; omega
       have HN2 := HYN1
       have HYS : Hid (A2 ++ (List.range (k + 1)).flatMap letE = zs) := by show _ = _; rw [<- hzs, <- hys, <- HXS.out, yco, <- hwd1, <- hwd2, List.append_assoc, List.append_assoc]; rfl
       have r0 : IntKind.i64.wrap (97 + (k : Int)) = 97 + (k : Int) := IntWalk.i64_in _ (by omega)
       have r1 : IntKind.i64.wrap (65 + (k : Int)) = 65 + (k : Int) := IntWalk.i64_in _ (by omega)
       obtain ⟨A, c, c0, _, hT, hz⟩ := HR.out.cell; have HC := zH c0; have HT := zH hT; have HZ := zH hz; clear c0 hT hz; clear hys hzs hwd1 hwd2 hq1 hq2 hlt hlx hlys HX2 HL2 HN2 HXS
       go_wp2
       refine yag (m := 9) [49, 50, 51, 52, 53, 54, 55, 56, 57] [SV.eq (.agg #[.slice A (putL xs).length c]), SV.eq (.int .i64 (k : Int)), SV.eq (.int .i64 (97 + (k : Int))), SV.ints [97 + (k : Int)], SV.eq (.int .i64 (k : Int)), SV.eq (.int .i64 (97 + (k : Int))), SV.eq (.agg #[.int .i64 P1, .int .i64 S1, .int .i64 T1, .bool V1]), SV.qs [wd1], SV.ref (putL ys)] (by kernel_rfl) (by kernel_rfl) ?_ ?_
       ·refine ⟨⟨⟨⟨⟨⟨⟨⟨⟨trivial, ?_⟩, ?_⟩, ?_⟩, ?_⟩, ?_⟩, ?_⟩, ?_⟩, ?_⟩, ?_⟩
        all_goals (refine OpIs.mk rfl ?_; intro vs w1 hb hd K hK; simp only [frameV, zS, zA, zB, zC, zD] at hK |-)
        ·have c0 := yab hb HC.out; have HK := zH hK; clear hK; go_simp; exact HK.out _ _ rfl (zR _ _)
        ·have HK := zH hK; clear hK; go_simp; exact HK.out _ _ rfl (zR _ _)
        ·have d1 : vs 1 = .int .i64 (k : Int) := hd 1 (by kernel_rfl)
         simp only [d1] at hK |-; have HK := zH hK; clear hK; go_simp; exact HK.out _ _ rfl (zR _ _)
        ·have d2 : vs 2 = .int .i64 (97 + (k : Int)) := hd 2 (by kernel_rfl)
         simp only [d2] at hK |-; have HK := zH hK; clear hK; go_simp; exact HK.out _ _ (RdF.new w1 _ _ (zN _)) (yaa w1 _)
        ·have HK := zH hK; clear hK; go_simp; exact HK.out _ _ rfl (zR _ _)
        ·have d4 : vs 4 = .int .i64 (k : Int) := hd 4 (by kernel_rfl)
         simp only [d4] at hK |-; have HK := zH hK; clear hK; go_simp; exact HK.out _ _ rfl (zR _ _)
        ·have d5 : vs 5 = .int .i64 (97 + (k : Int)) := hd 5 (by kernel_rfl)
         simp only [d5] at hK |-; have HK := zH hK; clear hK; go_simp
         go_at_call 43
         refine (CL1.out _).mono ?_; rintro e w3 ⟨rfl, hb3⟩; exact HK.out _ _ rfl hb3
        ·have d6 : vs 6 = .agg #[.int .i64 P1, .int .i64 S1, .int .i64 T1, .bool V1] := hd 6 (by kernel_rfl)
         simp only [d6] at hK |-; have HK := zH hK; clear hK; go_simp; exact HK.out _ _ (by show RdF anyB _ _ 1 (qcells _); rw [HQ1.out]; exact RdF.new w1 _ _ (zN _)) (yaa w1 _)
        ·have d0 : vs 0 = .agg #[.slice A (putL xs).length c] := hd 0 (by kernel_rfl)
         have d3 : RdI anyB w1 (vs 3) [97 + (k : Int)] := hd 3 (by kernel_rfl)
         have d7 : RdQ anyB w1 (vs 7) [wd1] := hd 7 (by kernel_rfl)
         simp only [d0] at hK |-; have HK := zH hK; clear hK; go_simp
         go_at_call 42
         refine (putS (HT.out.below hb (zN _)) HZ.out HX.out HL.out d3 d7 rfl (by simp) HY.out).mono ?_
         rintro e w3 ⟨⟨A', c', rfl, hu⟩, hb3⟩; exact HK.out _ _ ⟨_, rfl, hu⟩ hb3
       ·intro vs w3 hb hd; obtain ⟨u, dm, hu⟩ : ∃ u, vs 8 = .agg #[u] /\ RefT w3 u (putL ys) := hd 8 (by omega)
        obtain ⟨Aa, k2, rfl⟩ := hu.form; obtain ⟨Ab, k3, c03, f03, _, _⟩ := (HR.out.below hb).cell; have HS3 := zH ((HR.out.below hb).store hu HYN.out); simp only [frameV, zS, zA, zB, List.drop_succ_cons, List.drop_zero, dm]; clear hu hb hd HR
        go_wp2
        clear c03 f03 dm HC HT; generalize (w3.setCell ⟨b1, 0, none⟩ (.slice Aa (putL ys).length k2)) = wr at HS3 |-; have HR := HS3; clear HS3; clear HZ; obtain ⟨A, c, c0, _, hT, hz⟩ := HR.out.cell; have HC := zH c0; have HT := zH hT; have HZ := zH hz; clear c0 hT hz; refine yag (m := 9) [58, 59, 60, 61, 62, 63, 64, 65, 66] [SV.eq (.agg #[.slice A (putL ys).length c]), SV.eq (.int .i64 (k : Int)), SV.eq (.int .i64 (65 + (k : Int))), SV.ints [65 + (k : Int)], SV.eq (.int .i64 (k : Int)), SV.eq (.int .i64 (65 + (k : Int))), SV.eq (.agg #[.int .i64 P2, .int .i64 S2, .int .i64 T2', .bool V2]), SV.qs [wd2], SV.ref (putL zs)] (by kernel_rfl) (by kernel_rfl) ?_ ?_
        ·refine ⟨⟨⟨⟨⟨⟨⟨⟨⟨trivial, ?_⟩, ?_⟩, ?_⟩, ?_⟩, ?_⟩, ?_⟩, ?_⟩, ?_⟩, ?_⟩
         all_goals (refine OpIs.mk rfl ?_; intro vs w1 hb hd K hK; simp only [frameV, zS, zA, zB, zC, zD] at hK |-)
         ·have c0 := yab hb HC.out; have HK := zH hK; clear hK; go_simp; exact HK.out _ _ rfl (zR _ _)
         ·have HK := zH hK; clear hK; go_simp; exact HK.out _ _ rfl (zR _ _)
         ·have d1 : vs 1 = .int .i64 (k : Int) := hd 1 (by kernel_rfl)
          simp only [d1] at hK |-; have HK := zH hK; clear hK; go_simp; exact HK.out _ _ rfl (zR _ _)
         ·have d2 : vs 2 = .int .i64 (65 + (k : Int)) := hd 2 (by kernel_rfl)
          simp only [d2] at hK |-; have HK := zH hK; clear hK; go_simp; exact HK.out _ _ (RdF.new w1 _ _ (zN _)) (yaa w1 _)
         ·have HK := zH hK; clear hK; go_simp; exact HK.out _ _ rfl (zR _ _)
         ·have d4 : vs 4 = .int .i64 (k : Int) := hd 4 (by kernel_rfl)
          simp only [d4] at hK |-; have HK := zH hK; clear hK; go_simp; exact HK.out _ _ rfl (zR _ _)
         ·have d5 : vs 5 = .int .i64 (65 + (k : Int)) := hd 5 (by kernel_rfl)
          simp only [d5] at hK |-; have HK := zH hK; clear hK; go_simp
          go_at_call 43
          refine (CL2.out _).mono ?_; rintro e w3 ⟨rfl, hb3⟩; exact HK.out _ _ rfl hb3
         ·have d6 : vs 6 = .agg #[.int .i64 P2, .int .i64 S2, .int .i64 T2', .bool V2] := hd 6 (by kernel_rfl)
          simp only [d6] at hK |-; have HK := zH hK; clear hK; go_simp; exact HK.out _ _ (by show RdF anyB _ _ 1 (qcells _); rw [HQ2.out]; exact RdF.new w1 _ _ (zN _)) (yaa w1 _)
         ·have d0 : vs 0 = .agg #[.slice A (putL ys).length c] := hd 0 (by kernel_rfl)
          have d3 : RdI anyB w1 (vs 3) [65 + (k : Int)] := hd 3 (by kernel_rfl)
          have d7 : RdQ anyB w1 (vs 7) [wd2] := hd 7 (by kernel_rfl)
          simp only [d0] at hK |-; have HK := zH hK; clear hK; go_simp
          go_at_call 42
          refine (putS (HT.out.below hb (zN _)) HZ.out HX1.out HL1.out d3 d7 rfl (by simp) HY1.out).mono ?_
          rintro e w3 ⟨⟨A', c', rfl, hu⟩, hb3⟩; exact HK.out _ _ ⟨_, rfl, hu⟩ hb3
        ·intro vs w3 hb hd; obtain ⟨u, dm, hu⟩ : ∃ u, vs 8 = .agg #[u] /\ RefT w3 u (putL zs) := hd 8 (by omega)
         obtain ⟨Aa, k2, rfl⟩ := hu.form; obtain ⟨Ab, k3, c03, f03, _, _⟩ := (HR.out.below hb).cell; have HS3 := zH ((HR.out.below hb).store hu HYN1.out); simp only [frameV, zS, zA, zB, List.drop_succ_cons, List.drop_zero, dm]; clear hu hb hd HR
         go_wp2
         clear c03 f03 dm HC HT; generalize (w3.setCell ⟨b1, 0, none⟩ (.slice Aa (putL zs).length k2)) = wr at HS3 |-; have HR := HS3; clear HS3; clear HZ
         go_roundw
         case rel => exact ⟨k + 1, by omega, by go_num, by rw [HYS.out]; exact HR.out⟩
         case measure => simp [intOf]; omega
      ·obtain rfl : k = 26 := by omega
       rw [show ((26 : Nat) : Int) = 26 from rfl]
       clear hlt; rw [show A2 ++ (List.range 26).flatMap letE = A3 from rfl] at HR
       go_wp2
       have HR4 : Hid (RS w b0 b1 [(wr.heap.size, .cells (iv mkC).toArray 3)] A3 (wr.alloc (.cells #[.int .i64 768, .int .i64 769, .int .i64 770, .int .i64 771, .int .i64 772, .int .i64 776, .int .i64 778, .int .i64 807] 3))) := HR.out.row mkC
       generalize wr.alloc (.cells #[.int .i64 768, .int .i64 769, .int .i64 770, .int .i64 771, .int .i64 772, .int .i64 776, .int .i64 778, .int .i64 807] 3) = wr4 at HR4 |-; obtain ⟨g5, hg5⟩ : ∃ g, wr.heap.size = g := ⟨_, rfl⟩; rw [hg5] at HR4 |-; clear hg5 HR; have HR := HR4; clear HR4
       go_loopw [6] (fun i wr => ∃ k : Nat, k <= 8 /\ i = .int .i64 (k : Nat) /\ Hid (RS w b0 b1 [(g5, .cells (iv mkC).toArray 3)] (A3 ++ (List.range k).map mkE) wr)) (fun i _ => 8 - (intOf i).toNat)
       case atStart => exact ⟨0, Nat.zero_le _, rfl, by have := HR.out; show RS _ _ _ _ _ _; simpa using this⟩
       case round =>
        clear HR; obtain ⟨k, hk, rfl, HR⟩ := hrel
        by_cases hlt : k < 8
        ·have hkI : (k : Int) < 8 := by omega
         obtain ⟨x, hx⟩ : ∃ x, mkC.getD k 0 = x := ⟨_, rfl⟩
         have hxm : mkC[k]? = some x := by rw [<- hx, List.getD_eq_getElem?_getD, List.getElem?_eq_getElem (show k < mkC.length from hlt)]; rfl
         have hmm := List.mem_of_getElem? hxm; have HCK := zH (HR.out.kept (List.mem_cons_self ..) hxm)
         have HX : Hid (∀ y ∈ A3 ++ (List.range k).map mkE, y.1.length = 1) := yas one_A3 (ygf _ (fun _ => rfl) k)
         have hlx : (A3 ++ (List.range k).map mkE).length <= 76 := by rw [List.length_append, nA3]; simp; omega
         obtain ⟨xs, hxs⟩ : ∃ xs, A3 ++ (List.range k).map mkE = xs := ⟨_, rfl⟩; rw [hxs] at HX HR hlx; have HXS := zH hxs
         have HL : Hid (xs.length <= 900) := by show _ <= _; omega
         clear hxs; obtain ⟨P1, S1, T1, V1, hq1⟩ := q4_ex (mkW x); have CM := zH (fun w => ylj hmm hq1 w)
         have HQ1 : Hid (qcells [mkW x] = [.int .i64 P1, .int .i64 S1, .int .i64 T1, .bool V1]) := by show _ = _; rw [yam, hq1]; rfl
         obtain ⟨wd, hwd⟩ : ∃ wd, mkW x = wd := ⟨_, rfl⟩; rw [hwd] at HQ1; obtain ⟨ys, hys⟩ : ∃ r, xs ++ [([x], [wd])] = r := ⟨_, rfl⟩; have HY := zH hys
         have HYN : Hid (ys ≠ []) := by show _ ≠ _; rw [<- hys]; simp
         have HX1 : Hid (∀ y ∈ ys, y.1.length = 1) := by show ∀ _, _; rw [<- hys]; exact yas HX.out (fun y hy => by simp at hy; rcases hy with rfl <;> rfl)
         have HL1 : Hid (ys.length <= 900) := by show _ <= _; rw [<- hys, List.length_append]; simp; omega
         have HN1 := HYN
         have HYS : Hid (A3 ++ (List.range (k + 1)).map mkE = ys) := by show _ = _; rw [<- hys, <- HXS.out, List.range_succ, List.map_append, List.map_cons, List.map_nil, List.append_assoc]; unfold mkE; rw [hx, hwd]
         obtain ⟨A, c, c0, _, hT, hz⟩ := HR.out.cell; have HC := zH c0; have HT := zH hT; have HZ := zH hz; clear c0 hT hz; clear hys hx hxm hmm hwd hq1 hlt hlx HX1 HL1 HN1 HXS
         go_wp2
         refine yag (m := 13) [74, 75, 76, 77, 78, 79, 80, 81, 82, 83, 84, 85, 86] [SV.eq (.agg #[.slice A (putL xs).length c]), SV.eq (.slice (some ⟨g5, 0, none⟩) 8 8), SV.eq (.int .i64 (k : Int)), SV.eq (.pointer (some ⟨g5, k, none⟩)), SV.eq (.int .i64 x), SV.ints [x], SV.eq (.slice (some ⟨g5, 0, none⟩) 8 8), SV.eq (.int .i64 (k : Int)), SV.eq (.pointer (some ⟨g5, k, none⟩)), SV.eq (.int .i64 x), SV.eq (.agg #[.int .i64 P1, .int .i64 S1, .int .i64 T1, .bool V1]), SV.qs [wd], SV.ref (putL ys)] (by kernel_rfl) (by kernel_rfl) ?_ ?_
         ·refine ⟨⟨⟨⟨⟨⟨⟨⟨⟨⟨⟨⟨⟨trivial, ?_⟩, ?_⟩, ?_⟩, ?_⟩, ?_⟩, ?_⟩, ?_⟩, ?_⟩, ?_⟩, ?_⟩, ?_⟩, ?_⟩, ?_⟩
          all_goals (refine OpIs.mk rfl ?_; intro vs w1 hb hd K hK; simp only [frameV, zS, zA, zB, zC, zD] at hK |-)
          ·have c0 := yab hb HC.out; have HK := zH hK; clear hK; go_simp; exact HK.out _ _ rfl (zR _ _)
          iterate 2 (·have HK := zH hK; clear hK; go_simp; exact HK.out _ _ rfl (zR _ _))
          ·have d1 : vs 1 = .slice (some ⟨g5, 0, none⟩) 8 8 := hd 1 (by kernel_rfl)
           have d2 : vs 2 = .int .i64 (k : Int) := hd 2 (by kernel_rfl)
           simp only [d1, d2] at hK |-; have HK := zH hK; clear hK; go_simp; exact HK.out _ _ rfl (zR _ _)
          ·have d3 : vs 3 = .pointer (some ⟨g5, k, none⟩) := hd 3 (by kernel_rfl)
           have c1 := yab hb HCK.out; simp only [d3] at hK |-; have HK := zH hK; clear hK; go_simp; exact HK.out _ _ rfl (zR _ _)
          ·have d4 : vs 4 = .int .i64 x := hd 4 (by kernel_rfl)
           simp only [d4] at hK |-; have HK := zH hK; clear hK; go_simp; exact HK.out _ _ (RdF.new w1 _ _ (zN _)) (yaa w1 _)
          iterate 2 (·have HK := zH hK; clear hK; go_simp; exact HK.out _ _ rfl (zR _ _))
          ·have d6 : vs 6 = .slice (some ⟨g5, 0, none⟩) 8 8 := hd 6 (by kernel_rfl)
           have d7 : vs 7 = .int .i64 (k : Int) := hd 7 (by kernel_rfl)
           simp only [d6, d7] at hK |-; have HK := zH hK; clear hK; go_simp; exact HK.out _ _ rfl (zR _ _)
          ·have d8 : vs 8 = .pointer (some ⟨g5, k, none⟩) := hd 8 (by kernel_rfl)
           have c1 := yab hb HCK.out; simp only [d8] at hK |-; have HK := zH hK; clear hK; go_simp; exact HK.out _ _ rfl (zR _ _)
          ·have d9 : vs 9 = .int .i64 x := hd 9 (by kernel_rfl)
           simp only [d9] at hK |-; have HK := zH hK; clear hK; go_simp
           go_at_call 44
           refine (CM.out _).mono ?_; rintro e w3 ⟨rfl, hb3⟩; exact HK.out _ _ rfl hb3
          ·have d10 : vs 10 = .agg #[.int .i64 P1, .int .i64 S1, .int .i64 T1, .bool V1] := hd 10 (by kernel_rfl)
           simp only [d10] at hK |-; have HK := zH hK; clear hK; go_simp; exact HK.out _ _ (by show RdF anyB _ _ 1 (qcells _); rw [HQ1.out]; exact RdF.new w1 _ _ (zN _)) (yaa w1 _)
          ·have d0 : vs 0 = .agg #[.slice A (putL xs).length c] := hd 0 (by kernel_rfl)
           have d5 : RdI anyB w1 (vs 5) [x] := hd 5 (by kernel_rfl)
           have d11 : RdQ anyB w1 (vs 11) [wd] := hd 11 (by kernel_rfl)
           simp only [d0] at hK |-; have HK := zH hK; clear hK; go_simp
           go_at_call 42
           refine (putS (HT.out.below hb (zN _)) HZ.out HX.out HL.out d5 d11 rfl (by simp) HY.out).mono ?_
           rintro e w3 ⟨⟨A', c', rfl, hu⟩, hb3⟩; exact HK.out _ _ ⟨_, rfl, hu⟩ hb3
         ·intro vs w3 hb hd; obtain ⟨u, dm, hu⟩ : ∃ u, vs 12 = .agg #[u] /\ RefT w3 u (putL ys) := hd 12 (by omega)
          obtain ⟨Aa, k2, rfl⟩ := hu.form; obtain ⟨Ab, k3, c03, f03, _, _⟩ := (HR.out.below hb).cell; have HS3 := zH ((HR.out.below hb).store hu HYN.out); simp only [frameV, zS, zA, zB, List.drop_succ_cons, List.drop_zero, dm]; clear hu hb hd HR
          go_wp2
          clear c03 f03 dm HC HT; generalize (w3.setCell ⟨b1, 0, none⟩ (.slice Aa (putL ys).length k2)) = wr at HS3 |-; have HR := HS3; clear HS3
          go_roundw
          case rel => exact ⟨k + 1, by omega, by go_num, by rw [HYS.out]; exact HR.out⟩
          case measure => simp [intOf]; omega
        ·obtain rfl : k = 8 := by omega
         rw [show ((8 : Nat) : Int) = 8 from rfl]
         clear hlt; rw [show A3 ++ (List.range 8).map mkE = A4 from rfl] at HR
         go_wp2
         have h7 := (HR.out.row sixC).row fourC; rw [World.size_alloc] at h7
         have HR5 : Hid (RS w b0 b1 [(wr.heap.size + 1, .cells (iv fourC).toArray 3), (wr.heap.size, .cells (iv sixC).toArray 3), (g5, .cells (iv mkC).toArray 3)] A4 ((wr.alloc (.cells #[.int .i64 768, .int .i64 769, .int .i64 770, .int .i64 771, .int .i64 776, .int .i64 778] 3)).alloc (.cells #[.int .i64 768, .int .i64 769, .int .i64 770, .int .i64 776] 3))) := h7
         clear h7; generalize ((wr.alloc (.cells #[.int .i64 768, .int .i64 769, .int .i64 770, .int .i64 771, .int .i64 776, .int .i64 778] 3)).alloc (.cells #[.int .i64 768, .int .i64 769, .int .i64 770, .int .i64 776] 3)) = wr5 at HR5 |-; obtain ⟨g8, hg8⟩ : ∃ g, wr.heap.size + 1 = g := ⟨_, rfl⟩; rw [hg8] at HR5 |-; obtain ⟨g7, hg7⟩ : ∃ g, wr.heap.size = g := ⟨_, rfl⟩; rw [hg7] at HR5 |-; clear hg8 hg7 HR; have HR := HR5; clear HR5
         go_loopw [9] (fun i wr => ∃ k : Nat, k <= 6 /\ i = .int .i64 (k : Nat) /\ Hid (RS w b0 b1 [(g8, .cells (iv fourC).toArray 3), (g7, .cells (iv sixC).toArray 3), (g5, .cells (iv mkC).toArray 3)] (A4 ++ (List.range k).flatMap (compE 192 65 sixC)) wr)) (fun i _ => 6 - (intOf i).toNat)
         case atStart => exact ⟨0, Nat.zero_le _, rfl, by have := HR.out; show RS _ _ _ _ _ _; simpa using this⟩
         case round =>
          clear HR; obtain ⟨k, hk, rfl, HR⟩ := hrel
          by_cases hlt : k < 6
          ·have hkI : (k : Int) < 6 := by omega
           obtain ⟨x, hx⟩ : ∃ x, sixC.getD k 0 = x := ⟨_, rfl⟩
           have hxm : sixC[k]? = some x := by rw [<- hx, List.getD_eq_getElem?_getD, List.getElem?_eq_getElem (show k < sixC.length from by show k < 6; omega)]; rfl
           have HCK := zH (HR.out.kept (List.mem_cons_of_mem _ (List.mem_cons_self ..)) hxm); have HM := zH (ypa hxm); have HXM := zH hxm
           have HX : Hid (∀ y ∈ A4 ++ (List.range k).flatMap (compE 192 65 sixC), y.1.length = 1) := yas one_A4 (ycr _ (ybw _ _ _) k)
           have hlx : (A4 ++ (List.range k).flatMap (compE 192 65 sixC)).length <= 90 := by have := yei (compE 192 65 sixC) 2 (fun k => by simp [compE]) k; simp only [List.length_append, nA4]; omega
           obtain ⟨xs, hxs⟩ : ∃ xs, A4 ++ (List.range k).flatMap (compE 192 65 sixC) = xs := ⟨_, rfl⟩; rw [hxs] at HX HR hlx; have HXS := zH hxs
           have HL : Hid (xs.length <= 900) := by show _ <= _; omega
           clear hxs
           have HN : Hid (xs ≠ []) := by show _ ≠ _; rw [<- HXS.out]; exact ne_len (by simp only [List.length_append, nA4, nA6, nA8]; omega)
           obtain ⟨ys, hys⟩ : ∃ r, xs ++ [([192 + (k : Int)], [letW 65, mkW x]), ([192 + (k : Int) + 32], [letW (65 + 32), mkW x])] = r := ⟨_, rfl⟩; have HY := zH hys
           have HYN : Hid (ys ≠ []) := by show _ ≠ _; rw [<- hys]; simp
           have HX1 : Hid (∀ y ∈ ys, y.1.length = 1) := by show ∀ _, _; rw [<- hys]; exact yas HX.out (fun y hy => by simp at hy; rcases hy with rfl | rfl <;> rfl)
           have HL1 : Hid (ys.length <= 900) := by show _ <= _; rw [<- hys, List.length_append]; simp; omega
           have HN1 := HYN
           have HYS : Hid (A4 ++ (List.range (k + 1)).flatMap (compE 192 65 sixC) = ys) := by show _ = _; rw [<- hys, <- HXS.out, yco, <- hx]; simp only [List.append_assoc]; rfl
           have q192 : IntKind.i64.wrap (192 + (k : Int)) = 192 + (k : Int) := IntWalk.i64_in _ (by omega)
           obtain ⟨A, c, c0, _, hT, hz⟩ := HR.out.cell; have HC := zH c0; have HT := zH hT; have HZ := zH hz; clear c0 hT hz; clear hys hx hxm hlt hlx  HX1 HL1 HN1 HXS
           go_wp2
           refine yag (m := 8) [93, 94, 95, 96, 97, 98, 99, 100] [SV.eq (.agg #[.slice A (putL xs).length c]), SV.eq (.int .i64 (k : Int)), SV.eq (.int .i64 (192 + (k : Int))), SV.eq (.slice (some ⟨g7, 0, none⟩) 6 6), SV.eq (.int .i64 (k : Int)), SV.eq (.pointer (some ⟨g7, k, none⟩)), SV.eq (.int .i64 x), SV.ref (putL ys)] (by kernel_rfl) (by kernel_rfl) ?_ ?_
           ·refine ⟨⟨⟨⟨⟨⟨⟨⟨trivial, ?_⟩, ?_⟩, ?_⟩, ?_⟩, ?_⟩, ?_⟩, ?_⟩, ?_⟩
            all_goals (refine OpIs.mk rfl ?_; intro vs w1 hb hd K hK; simp only [frameV, zS, zA, zB, zC, zD] at hK |-)
            ·have c0 := yab hb HC.out; have HK := zH hK; clear hK; go_simp; exact HK.out _ _ rfl (zR _ _)
            ·have HK := zH hK; clear hK; go_simp; exact HK.out _ _ rfl (zR _ _)
            ·have d1 : vs 1 = .int .i64 (k : Int) := hd 1 (by kernel_rfl)
             simp only [d1] at hK |-; have HK := zH hK; clear hK; go_simp; exact HK.out _ _ rfl (zR _ _)
            iterate 2 (·have HK := zH hK; clear hK; go_simp; exact HK.out _ _ rfl (zR _ _))
            ·have d3 : vs 3 = .slice (some ⟨g7, 0, none⟩) 6 6 := hd 3 (by kernel_rfl)
             have d4 : vs 4 = .int .i64 (k : Int) := hd 4 (by kernel_rfl)
             simp only [d3, d4] at hK |-; have HK := zH hK; clear hK; go_simp; exact HK.out _ _ rfl (zR _ _)
            ·have d5 : vs 5 = .pointer (some ⟨g7, k, none⟩) := hd 5 (by kernel_rfl)
             have c1 := yab hb HCK.out; simp only [d5] at hK |-; have HK := zH hK; clear hK; go_simp; exact HK.out _ _ rfl (zR _ _)
            ·have d0 : vs 0 = .agg #[.slice A (putL xs).length c] := hd 0 (by kernel_rfl)
             have d2 : vs 2 = .int .i64 (192 + (k : Int)) := hd 2 (by kernel_rfl)
             have d6 : vs 6 = .int .i64 x := hd 6 (by kernel_rfl)
             simp only [d0, d2, d6] at hK |-; have HK := zH hK; clear hK; go_simp
             go_at_call 45
             refine (markedS (b := 65) (HT.out.below hb (zN _)) HN.out HX.out HL.out (by omega) rfl HM.out (by omega) HY.out).mono ?_
             rintro e w3 ⟨⟨A', c', rfl, hu⟩, hb3⟩; exact HK.out _ _ ⟨_, rfl, hu⟩ hb3
           ·intro vs w3 hb hd; obtain ⟨u, dm, hu⟩ : ∃ u, vs 7 = .agg #[u] /\ RefT w3 u (putL ys) := hd 7 (by omega)
            obtain ⟨Aa, k2, rfl⟩ := hu.form; obtain ⟨Ab, k3, c03, f03, _, _⟩ := (HR.out.below hb).cell; have HS3 := zH ((HR.out.below hb).store hu HYN.out); simp only [frameV, zS, zA, zB, List.drop_succ_cons, List.drop_zero, dm]; clear hu hb hd HR
            go_wp2
            clear c03 f03 dm HC HT; generalize (w3.setCell ⟨b1, 0, none⟩ (.slice Aa (putL ys).length k2)) = wr at HS3 |-; have HR := HS3; clear HS3; clear HZ
            go_roundw
            case rel => exact ⟨k + 1, by omega, by go_num, by rw [HYS.out]; exact HR.out⟩
            case measure => simp [intOf]; omega
          ·obtain rfl : k = 6 := by omega
           rw [show ((6 : Nat) : Int) = 6 from rfl]
           clear hlt; rw [show A4 ++ (List.range 6).flatMap (compE 192 65 sixC) = A5 from rfl] at HR
           have HX : Hid (∀ y ∈ A5, y.1.length = 1) := one_A5
           have HL : Hid ((A5).length <= 900) := by show _ <= _; rw [nA5]; omega
           have HN : Hid (A5 ≠ []) := by show _ ≠ _; exact ne_len (by rw [nA5]; omega)
           have HYN : Hid (A6 ≠ []) := by show _ ≠ _; exact ne_len (by rw [nA6]; omega)
           have HY : Hid (A5 ++ [([199], [letW 67, mkW 807]), ([199 + 32], [letW (67 + 32), mkW 807])] = A6) := rfl
           have hm : (807 : Int) ∈ mkC := by decide
           have HM := zH hm; obtain ⟨xs, hxs⟩ : ∃ xs, A5 = xs := ⟨_, rfl⟩; obtain ⟨ys, hys⟩ : ∃ ys, A6 = ys := ⟨_, rfl⟩; rw [hxs] at HX HL HN HY HR; rw [hys] at HY HYN; have HYS := zH hys; obtain ⟨A, c, c0, f0, hT, hz⟩ := HR.out.cell; have HT := zH hT; clear hxs hys hT hz hm f0
           go_wp2_with (go_at_call 45; refine (markedS (b := 67) HT.out HN.out HX.out HL.out (by omega) rfl HM.out (by omega) HY.out).mono ?_; rintro e w3 ⟨⟨Aa, k2, rfl, hu⟩, hb3⟩; obtain ⟨Ab, k3, c03, f03, _, _⟩ := (HR.out.below hb3).cell; have HS3 := zH ((HR.out.below hb3).store hu HYN.out); clear hu hb3 HT HR c0)
           clear c03 f03 HX HL HN HY HM HYN; generalize (w3.setCell ⟨b1, 0, none⟩ (.slice Aa (putL ys).length k2)) = wr at HS3 |-; have HR := HS3; clear HS3; rw [<- HYS.out] at HR; clear HYS
           go_loopw [10] (fun i wr => ∃ k : Nat, k <= 4 /\ i = .int .i64 (k : Nat) /\ Hid (RS w b0 b1 [(g8, .cells (iv fourC).toArray 3), (g7, .cells (iv sixC).toArray 3), (g5, .cells (iv mkC).toArray 3)] (A6 ++ (List.range k).flatMap ceiE) wr)) (fun i _ => 4 - (intOf i).toNat)
           case atStart => exact ⟨0, Nat.zero_le _, rfl, by have := HR.out; show RS _ _ _ _ _ _; simpa using this⟩
           case round =>
            clear HR; obtain ⟨k, hk, rfl, HR⟩ := hrel
            by_cases hlt : k < 4
            ·have hkI : (k : Int) < 4 := by omega
             obtain ⟨x, hx⟩ : ∃ x, fourC.getD k 0 = x := ⟨_, rfl⟩
             have hxm : fourC[k]? = some x := by rw [<- hx, List.getD_eq_getElem?_getD, List.getElem?_eq_getElem (show k < fourC.length from by show k < 4; omega)]; rfl
             have HCK := zH (HR.out.kept (List.mem_cons_self ..) hxm); have HM := zH (yuv hxm); have HXM := zH hxm
             have HX : Hid (∀ y ∈ A6 ++ (List.range k).flatMap ceiE, y.1.length = 1) := yas one_A6 (ycr _ yuk k)
             have hlx : (A6 ++ (List.range k).flatMap ceiE).length <= 114 := by have := yei ceiE 6 (fun k => by simp [ceiE, compE]) k; simp only [List.length_append, nA6]; omega
             obtain ⟨xs, hxs⟩ : ∃ xs, A6 ++ (List.range k).flatMap ceiE = xs := ⟨_, rfl⟩; rw [hxs] at HX HR hlx; have HXS := zH hxs
             have HL : Hid (xs.length <= 900) := by show _ <= _; omega
             clear hxs
             have HN : Hid (xs ≠ []) := by show _ ≠ _; rw [<- HXS.out]; exact ne_len (by simp only [List.length_append, nA4, nA6, nA8]; omega)
             obtain ⟨ys, hys⟩ : ∃ r, xs ++ [([200 + (k : Int)], [letW 69, mkW x]), ([200 + (k : Int) + 32], [letW (69 + 32), mkW x])] = r := ⟨_, rfl⟩; have HY := zH hys
             have HYN : Hid (ys ≠ []) := by show _ ≠ _; rw [<- hys]; simp
             have HX1 : Hid (∀ y ∈ ys, y.1.length = 1) := by show ∀ _, _; rw [<- hys]; exact yas HX.out (fun y hy => by simp at hy; rcases hy with rfl | rfl <;> rfl)
             have HL1 : Hid (ys.length <= 900) := by show _ <= _; rw [<- hys, List.length_append]; simp; omega
             have HN1 := HYN
             have hlys : ys.length <= 116 := by rw [<- hys, List.length_append]; simp; omega
             obtain ⟨zs, hzs⟩ : ∃ r, ys ++ [([204 + (k : Int)], [letW 73, mkW x]), ([204 + (k : Int) + 32], [letW (73 + 32), mkW x])] = r := ⟨_, rfl⟩; have HY1 := zH hzs
             have HYN1 : Hid (zs ≠ []) := by show _ ≠ _; rw [<- hzs]; simp
             have HX2 : Hid (∀ y ∈ zs, y.1.length = 1) := by show ∀ _, _; rw [<- hzs]; exact yas HX1.out (fun y hy => by simp at hy; rcases hy with rfl | rfl <;> rfl)
             have HL2 : Hid (zs.length <= 900) := by show _ <= _; rw [<- hzs, List.length_append]; simp; omega
             have HN2 := HYN1
             have hlzs : zs.length <= 118 := by rw [<- hzs, List.length_append]; simp; omega
             obtain ⟨us, hus⟩ : ∃ r, zs ++ [([217 + (k : Int)], [letW 85, mkW x]), ([217 + (k : Int) + 32], [letW (85 + 32), mkW x])] = r := ⟨_, rfl⟩; have HY2 := zH hus
             have HYN2 : Hid (us ≠ []) := by show _ ≠ _; rw [<- hus]; simp
             have HX3 : Hid (∀ y ∈ us, y.1.length = 1) := by show ∀ _, _; rw [<- hus]; exact yas HX2.out (fun y hy => by simp at hy; rcases hy with rfl | rfl <;> rfl)
             have HL3 : Hid (us.length <= 900) := by show _ <= _; rw [<- hus, List.length_append]; simp; omega
             have HN3 := HYN2
             have HYS : Hid (A6 ++ (List.range (k + 1)).flatMap ceiE = us) := by show _ = _; rw [<- hus, <- hzs, <- hys, <- HXS.out, yco, <- hx]; simp only [List.append_assoc]; rfl
             have q200 : IntKind.i64.wrap (200 + (k : Int)) = 200 + (k : Int) := IntWalk.i64_in _ (by omega)
             have q204 : IntKind.i64.wrap (204 + (k : Int)) = 204 + (k : Int) := IntWalk.i64_in _ (by omega)
             have q217 : IntKind.i64.wrap (217 + (k : Int)) = 217 + (k : Int) := IntWalk.i64_in _ (by omega)
             obtain ⟨A, c, c0, _, hT, hz⟩ := HR.out.cell; have HC := zH c0; have HT := zH hT; have HZ := zH hz; clear c0 hT hz; clear hys hzs hus hx hxm hlt hlx hlys hlzs HX3 HL3 HN3 HXS
             go_wp2
             refine yag (m := 8) [107, 108, 109, 110, 111, 112, 113, 114] [SV.eq (.agg #[.slice A (putL xs).length c]), SV.eq (.int .i64 (k : Int)), SV.eq (.int .i64 (200 + (k : Int))), SV.eq (.slice (some ⟨g8, 0, none⟩) 4 4), SV.eq (.int .i64 (k : Int)), SV.eq (.pointer (some ⟨g8, k, none⟩)), SV.eq (.int .i64 x), SV.ref (putL ys)] (by kernel_rfl) (by kernel_rfl) ?_ ?_
             ·refine ⟨⟨⟨⟨⟨⟨⟨⟨trivial, ?_⟩, ?_⟩, ?_⟩, ?_⟩, ?_⟩, ?_⟩, ?_⟩, ?_⟩
              all_goals (refine OpIs.mk rfl ?_; intro vs w1 hb hd K hK; simp only [frameV, zS, zA, zB, zC, zD] at hK |-)
              ·have c0 := yab hb HC.out; have HK := zH hK; clear hK; go_simp; exact HK.out _ _ rfl (zR _ _)
              ·have HK := zH hK; clear hK; go_simp; exact HK.out _ _ rfl (zR _ _)
              ·have d1 : vs 1 = .int .i64 (k : Int) := hd 1 (by kernel_rfl)
               simp only [d1] at hK |-; have HK := zH hK; clear hK; go_simp; exact HK.out _ _ rfl (zR _ _)
              iterate 2 (·have HK := zH hK; clear hK; go_simp; exact HK.out _ _ rfl (zR _ _))
              ·have d3 : vs 3 = .slice (some ⟨g8, 0, none⟩) 4 4 := hd 3 (by kernel_rfl)
               have d4 : vs 4 = .int .i64 (k : Int) := hd 4 (by kernel_rfl)
               simp only [d3, d4] at hK |-; have HK := zH hK; clear hK; go_simp; exact HK.out _ _ rfl (zR _ _)
              ·have d5 : vs 5 = .pointer (some ⟨g8, k, none⟩) := hd 5 (by kernel_rfl)
               have c1 := yab hb HCK.out; simp only [d5] at hK |-; have HK := zH hK; clear hK; go_simp; exact HK.out _ _ rfl (zR _ _)
              ·have d0 : vs 0 = .agg #[.slice A (putL xs).length c] := hd 0 (by kernel_rfl)
               have d2 : vs 2 = .int .i64 (200 + (k : Int)) := hd 2 (by kernel_rfl)
               have d6 : vs 6 = .int .i64 x := hd 6 (by kernel_rfl)
               simp only [d0, d2, d6] at hK |-; have HK := zH hK; clear hK; go_simp
               go_at_call 45
               refine (markedS (b := 69) (HT.out.below hb (zN _)) HN.out HX.out HL.out (by omega) rfl HM.out (by omega) HY.out).mono ?_
               rintro e w3 ⟨⟨A', c', rfl, hu⟩, hb3⟩; exact HK.out _ _ ⟨_, rfl, hu⟩ hb3
             ·intro vs w3 hb hd; obtain ⟨u, dm, hu⟩ : ∃ u, vs 7 = .agg #[u] /\ RefT w3 u (putL ys) := hd 7 (by omega)
              obtain ⟨Aa, k2, rfl⟩ := hu.form; obtain ⟨Ab, k3, c03, f03, _, _⟩ := (HR.out.below hb).cell; have HS3 := zH ((HR.out.below hb).store hu HYN.out); simp only [frameV, zS, zA, zB, List.drop_succ_cons, List.drop_zero, dm]; clear hu hb hd HR
              go_wp2
              clear c03 f03 dm HC HT; generalize (w3.setCell ⟨b1, 0, none⟩ (.slice Aa (putL ys).length k2)) = wr at HS3 |-; have HR := HS3; clear HS3; clear HZ; clear HCK; have HCK := zH (HR.out.kept (List.mem_cons_self ..) HXM.out); obtain ⟨A, c, c0, _, hT, hz⟩ := HR.out.cell; have HC := zH c0; have HT := zH hT; have HZ := zH hz; clear c0 hT hz; refine yag (m := 8) [115, 116, 117, 118, 119, 120, 121, 122] [SV.eq (.agg #[.slice A (putL ys).length c]), SV.eq (.int .i64 (k : Int)), SV.eq (.int .i64 (204 + (k : Int))), SV.eq (.slice (some ⟨g8, 0, none⟩) 4 4), SV.eq (.int .i64 (k : Int)), SV.eq (.pointer (some ⟨g8, k, none⟩)), SV.eq (.int .i64 x), SV.ref (putL zs)] (by kernel_rfl) (by kernel_rfl) ?_ ?_
              ·refine ⟨⟨⟨⟨⟨⟨⟨⟨trivial, ?_⟩, ?_⟩, ?_⟩, ?_⟩, ?_⟩, ?_⟩, ?_⟩, ?_⟩
               all_goals (refine OpIs.mk rfl ?_; intro vs w1 hb hd K hK; simp only [frameV, zS, zA, zB, zC, zD] at hK |-)
               ·have c0 := yab hb HC.out; have HK := zH hK; clear hK; go_simp; exact HK.out _ _ rfl (zR _ _)
               ·have HK := zH hK; clear hK; go_simp; exact HK.out _ _ rfl (zR _ _)
               ·have d1 : vs 1 = .int .i64 (k : Int) := hd 1 (by kernel_rfl)
                simp only [d1] at hK |-; have HK := zH hK; clear hK; go_simp; exact HK.out _ _ rfl (zR _ _)
               iterate 2 (·have HK := zH hK; clear hK; go_simp; exact HK.out _ _ rfl (zR _ _))
               ·have d3 : vs 3 = .slice (some ⟨g8, 0, none⟩) 4 4 := hd 3 (by kernel_rfl)
                have d4 : vs 4 = .int .i64 (k : Int) := hd 4 (by kernel_rfl)
                simp only [d3, d4] at hK |-; have HK := zH hK; clear hK; go_simp; exact HK.out _ _ rfl (zR _ _)
               ·have d5 : vs 5 = .pointer (some ⟨g8, k, none⟩) := hd 5 (by kernel_rfl)
                have c1 := yab hb HCK.out; simp only [d5] at hK |-; have HK := zH hK; clear hK; go_simp; exact HK.out _ _ rfl (zR _ _)
               ·have d0 : vs 0 = .agg #[.slice A (putL ys).length c] := hd 0 (by kernel_rfl)
                have d2 : vs 2 = .int .i64 (204 + (k : Int)) := hd 2 (by kernel_rfl)
                have d6 : vs 6 = .int .i64 x := hd 6 (by kernel_rfl)
                simp only [d0, d2, d6] at hK |-; have HK := zH hK; clear hK; go_simp
                go_at_call 45
                refine (markedS (b := 73) (HT.out.below hb (zN _)) HN1.out HX1.out HL1.out (by omega) rfl HM.out (by omega) HY1.out).mono ?_
                rintro e w3 ⟨⟨A', c', rfl, hu⟩, hb3⟩; exact HK.out _ _ ⟨_, rfl, hu⟩ hb3
              ·intro vs w3 hb hd; obtain ⟨u, dm, hu⟩ : ∃ u, vs 7 = .agg #[u] /\ RefT w3 u (putL zs) := hd 7 (by omega)
               obtain ⟨Aa, k2, rfl⟩ := hu.form; obtain ⟨Ab, k3, c03, f03, _, _⟩ := (HR.out.below hb).cell; have HS3 := zH ((HR.out.below hb).store hu HYN1.out); simp only [frameV, zS, zA, zB, List.drop_succ_cons, List.drop_zero, dm]; clear hu hb hd HR
               go_wp2
               clear c03 f03 dm HC HT; generalize (w3.setCell ⟨b1, 0, none⟩ (.slice Aa (putL zs).length k2)) = wr at HS3 |-; have HR := HS3; clear HS3; clear HZ; clear HCK; have HCK := zH (HR.out.kept (List.mem_cons_self ..) HXM.out); obtain ⟨A, c, c0, _, hT, hz⟩ := HR.out.cell; have HC := zH c0; have HT := zH hT; have HZ := zH hz; clear c0 hT hz; refine yag (m := 8) [123, 124, 125, 126, 127, 128, 129, 130] [SV.eq (.agg #[.slice A (putL zs).length c]), SV.eq (.int .i64 (k : Int)), SV.eq (.int .i64 (217 + (k : Int))), SV.eq (.slice (some ⟨g8, 0, none⟩) 4 4), SV.eq (.int .i64 (k : Int)), SV.eq (.pointer (some ⟨g8, k, none⟩)), SV.eq (.int .i64 x), SV.ref (putL us)] (by kernel_rfl) (by kernel_rfl) ?_ ?_
               ·refine ⟨⟨⟨⟨⟨⟨⟨⟨trivial, ?_⟩, ?_⟩, ?_⟩, ?_⟩, ?_⟩, ?_⟩, ?_⟩, ?_⟩
                all_goals (refine OpIs.mk rfl ?_; intro vs w1 hb hd K hK; simp only [frameV, zS, zA, zB, zC, zD] at hK |-)
                ·have c0 := yab hb HC.out; have HK := zH hK; clear hK; go_simp; exact HK.out _ _ rfl (zR _ _)
                ·have HK := zH hK; clear hK; go_simp; exact HK.out _ _ rfl (zR _ _)
                ·have d1 : vs 1 = .int .i64 (k : Int) := hd 1 (by kernel_rfl)
                 simp only [d1] at hK |-; have HK := zH hK; clear hK; go_simp; exact HK.out _ _ rfl (zR _ _)
                iterate 2 (·have HK := zH hK; clear hK; go_simp; exact HK.out _ _ rfl (zR _ _))
                ·have d3 : vs 3 = .slice (some ⟨g8, 0, none⟩) 4 4 := hd 3 (by kernel_rfl)
                 have d4 : vs 4 = .int .i64 (k : Int) := hd 4 (by kernel_rfl)
                 simp only [d3, d4] at hK |-; have HK := zH hK; clear hK; go_simp; exact HK.out _ _ rfl (zR _ _)
                ·have d5 : vs 5 = .pointer (some ⟨g8, k, none⟩) := hd 5 (by kernel_rfl)
                 have c1 := yab hb HCK.out; simp only [d5] at hK |-; have HK := zH hK; clear hK; go_simp; exact HK.out _ _ rfl (zR _ _)
                ·have d0 : vs 0 = .agg #[.slice A (putL zs).length c] := hd 0 (by kernel_rfl)
                 have d2 : vs 2 = .int .i64 (217 + (k : Int)) := hd 2 (by kernel_rfl)
                 have d6 : vs 6 = .int .i64 x := hd 6 (by kernel_rfl)
                 simp only [d0, d2, d6] at hK |-; have HK := zH hK; clear hK; go_simp
                 go_at_call 45
                 refine (markedS (b := 85) (HT.out.below hb (zN _)) HN2.out HX2.out HL2.out (by omega) rfl HM.out (by omega) HY2.out).mono ?_
                 rintro e w3 ⟨⟨A', c', rfl, hu⟩, hb3⟩; exact HK.out _ _ ⟨_, rfl, hu⟩ hb3
               ·intro vs w3 hb hd; obtain ⟨u, dm, hu⟩ : ∃ u, vs 7 = .agg #[u] /\ RefT w3 u (putL us) := hd 7 (by omega)
                obtain ⟨Aa, k2, rfl⟩ := hu.form; obtain ⟨Ab, k3, c03, f03, _, _⟩ := (HR.out.below hb).cell; have HS3 := zH ((HR.out.below hb).store hu HYN2.out); simp only [frameV, zS, zA, zB, List.drop_succ_cons, List.drop_zero, dm]; clear hu hb hd HR
                go_wp2
                clear c03 f03 dm HC HT; generalize (w3.setCell ⟨b1, 0, none⟩ (.slice Aa (putL us).length k2)) = wr at HS3 |-; have HR := HS3; clear HS3; clear HZ
                go_roundw
                case rel => exact ⟨k + 1, by omega, by go_num, by rw [HYS.out]; exact HR.out⟩
                case measure => simp [intOf]; omega
            ·obtain rfl : k = 4 := by omega
             rw [show ((4 : Nat) : Int) = 4 from rfl]
             clear hlt; rw [show A6 ++ (List.range 4).flatMap ceiE = A7 from rfl] at HR
             have HX : Hid (∀ y ∈ A7, y.1.length = 1) := one_A7
             have HL : Hid ((A7).length <= 900) := by show _ <= _; rw [nA7]; omega
             have HN : Hid (A7 ≠ []) := by show _ ≠ _; exact ne_len (by rw [nA7]; omega)
             have HYN : Hid (A8 ≠ []) := by show _ ≠ _; exact ne_len (by rw [nA8]; omega)
             have HY : Hid (A7 ++ [([209], [letW 78, mkW 771]), ([209 + 32], [letW (78 + 32), mkW 771])] = A8) := rfl
             have hm : (771 : Int) ∈ mkC := by decide
             have HM := zH hm; obtain ⟨xs, hxs⟩ : ∃ xs, A7 = xs := ⟨_, rfl⟩; obtain ⟨ys, hys⟩ : ∃ ys, A8 = ys := ⟨_, rfl⟩; rw [hxs] at HX HL HN HY HR; rw [hys] at HY HYN; have HYS := zH hys; obtain ⟨A, c, c0, f0, hT, hz⟩ := HR.out.cell; have HT := zH hT; clear hxs hys hT hz hm f0
             go_wp2_with (go_at_call 45; refine (markedS (b := 78) HT.out HN.out HX.out HL.out (by omega) rfl HM.out (by omega) HY.out).mono ?_; rintro e w3 ⟨⟨Aa, k2, rfl, hu⟩, hb3⟩; obtain ⟨Ab, k3, c03, f03, _, _⟩ := (HR.out.below hb3).cell; have HS3 := zH ((HR.out.below hb3).store hu HYN.out); clear hu hb3 HT HR c0)
             clear c03 f03 HX HL HN HY HM HYN; generalize (w3.setCell ⟨b1, 0, none⟩ (.slice Aa (putL ys).length k2)) = wr at HS3 |-; have HR := HS3; clear HS3; rw [<- HYS.out] at HR; clear HYS
             go_loopw [11] (fun i wr => ∃ k : Nat, k <= 5 /\ i = .int .i64 (k : Nat) /\ Hid (RS w b0 b1 [(g8, .cells (iv fourC).toArray 3), (g7, .cells (iv sixC).toArray 3), (g5, .cells (iv mkC).toArray 3)] (A8 ++ (List.range k).flatMap (compE 210 79 sixC)) wr)) (fun i _ => 5 - (intOf i).toNat)
             case atStart => exact ⟨0, Nat.zero_le _, rfl, by have := HR.out; show RS _ _ _ _ _ _; simpa using this⟩
             case round =>
              clear HR; obtain ⟨k, hk, rfl, HR⟩ := hrel
              by_cases hlt : k < 5
              ·have hkI : (k : Int) < 5 := by omega
               have hkJ : (k : Int) < 6 := by omega
               obtain ⟨x, hx⟩ : ∃ x, sixC.getD k 0 = x := ⟨_, rfl⟩
               have hxm : sixC[k]? = some x := by rw [<- hx, List.getD_eq_getElem?_getD, List.getElem?_eq_getElem (show k < sixC.length from by show k < 6; omega)]; rfl
               have HCK := zH (HR.out.kept (List.mem_cons_of_mem _ (List.mem_cons_self ..)) hxm); have HM := zH (ypa hxm); have HXM := zH hxm
               have HX : Hid (∀ y ∈ A8 ++ (List.range k).flatMap (compE 210 79 sixC), y.1.length = 1) := yas one_A8 (ycr _ (ybw _ _ _) k)
               have hlx : (A8 ++ (List.range k).flatMap (compE 210 79 sixC)).length <= 126 := by have := yei (compE 210 79 sixC) 2 (fun k => by simp [compE]) k; simp only [List.length_append, nA8]; omega
               obtain ⟨xs, hxs⟩ : ∃ xs, A8 ++ (List.range k).flatMap (compE 210 79 sixC) = xs := ⟨_, rfl⟩; rw [hxs] at HX HR hlx; have HXS := zH hxs
               have HL : Hid (xs.length <= 900) := by show _ <= _; omega
               clear hxs
               have HN : Hid (xs ≠ []) := by show _ ≠ _; rw [<- HXS.out]; exact ne_len (by simp only [List.length_append, nA4, nA6, nA8]; omega)
               obtain ⟨ys, hys⟩ : ∃ r, xs ++ [([210 + (k : Int)], [letW 79, mkW x]), ([210 + (k : Int) + 32], [letW (79 + 32), mkW x])] = r := ⟨_, rfl⟩; have HY := zH hys
               have HYN : Hid (ys ≠ []) := by show _ ≠ _; rw [<- hys]; simp
               have HX1 : Hid (∀ y ∈ ys, y.1.length = 1) := by show ∀ _, _; rw [<- hys]; exact yas HX.out (fun y hy => by simp at hy; rcases hy with rfl | rfl <;> rfl)
               have HL1 : Hid (ys.length <= 900) := by show _ <= _; rw [<- hys, List.length_append]; simp; omega
               have HN1 := HYN
               have HYS : Hid (A8 ++ (List.range (k + 1)).flatMap (compE 210 79 sixC) = ys) := by show _ = _; rw [<- hys, <- HXS.out, yco, <- hx]; simp only [List.append_assoc]; rfl
               have q210 : IntKind.i64.wrap (210 + (k : Int)) = 210 + (k : Int) := IntWalk.i64_in _ (by omega)
               obtain ⟨A, c, c0, _, hT, hz⟩ := HR.out.cell; have HC := zH c0; have HT := zH hT; have HZ := zH hz; clear c0 hT hz; clear hys hx hxm hlt hlx  HX1 HL1 HN1 HXS
               go_wp2
               refine yag (m := 8) [137, 138, 139, 140, 141, 142, 143, 144] [SV.eq (.agg #[.slice A (putL xs).length c]), SV.eq (.int .i64 (k : Int)), SV.eq (.int .i64 (210 + (k : Int))), SV.eq (.slice (some ⟨g7, 0, none⟩) 6 6), SV.eq (.int .i64 (k : Int)), SV.eq (.pointer (some ⟨g7, k, none⟩)), SV.eq (.int .i64 x), SV.ref (putL ys)] (by kernel_rfl) (by kernel_rfl) ?_ ?_
               ·refine ⟨⟨⟨⟨⟨⟨⟨⟨trivial, ?_⟩, ?_⟩, ?_⟩, ?_⟩, ?_⟩, ?_⟩, ?_⟩, ?_⟩
                all_goals (refine OpIs.mk rfl ?_; intro vs w1 hb hd K hK; simp only [frameV, zS, zA, zB, zC, zD] at hK |-)
                ·have c0 := yab hb HC.out; have HK := zH hK; clear hK; go_simp; exact HK.out _ _ rfl (zR _ _)
                ·have HK := zH hK; clear hK; go_simp; exact HK.out _ _ rfl (zR _ _)
                ·have d1 : vs 1 = .int .i64 (k : Int) := hd 1 (by kernel_rfl)
                 simp only [d1] at hK |-; have HK := zH hK; clear hK; go_simp; exact HK.out _ _ rfl (zR _ _)
                iterate 2 (·have HK := zH hK; clear hK; go_simp; exact HK.out _ _ rfl (zR _ _))
                ·have d3 : vs 3 = .slice (some ⟨g7, 0, none⟩) 6 6 := hd 3 (by kernel_rfl)
                 have d4 : vs 4 = .int .i64 (k : Int) := hd 4 (by kernel_rfl)
                 simp only [d3, d4] at hK |-; have HK := zH hK; clear hK; go_simp; exact HK.out _ _ rfl (zR _ _)
                ·have d5 : vs 5 = .pointer (some ⟨g7, k, none⟩) := hd 5 (by kernel_rfl)
                 have c1 := yab hb HCK.out; simp only [d5] at hK |-; have HK := zH hK; clear hK; go_simp; exact HK.out _ _ rfl (zR _ _)
                ·have d0 : vs 0 = .agg #[.slice A (putL xs).length c] := hd 0 (by kernel_rfl)
                 have d2 : vs 2 = .int .i64 (210 + (k : Int)) := hd 2 (by kernel_rfl)
                 have d6 : vs 6 = .int .i64 x := hd 6 (by kernel_rfl)
                 simp only [d0, d2, d6] at hK |-; have HK := zH hK; clear hK; go_simp
                 go_at_call 45
                 refine (markedS (b := 79) (HT.out.below hb (zN _)) HN.out HX.out HL.out (by omega) rfl HM.out (by omega) HY.out).mono ?_
                 rintro e w3 ⟨⟨A', c', rfl, hu⟩, hb3⟩; exact HK.out _ _ ⟨_, rfl, hu⟩ hb3
               ·intro vs w3 hb hd; obtain ⟨u, dm, hu⟩ : ∃ u, vs 7 = .agg #[u] /\ RefT w3 u (putL ys) := hd 7 (by omega)
                obtain ⟨Aa, k2, rfl⟩ := hu.form; obtain ⟨Ab, k3, c03, f03, _, _⟩ := (HR.out.below hb).cell; have HS3 := zH ((HR.out.below hb).store hu HYN.out); simp only [frameV, zS, zA, zB, List.drop_succ_cons, List.drop_zero, dm]; clear hu hb hd HR
                go_wp2
                clear c03 f03 dm HC HT; generalize (w3.setCell ⟨b1, 0, none⟩ (.slice Aa (putL ys).length k2)) = wr at HS3 |-; have HR := HS3; clear HS3; clear HZ
                go_roundw
                case rel => exact ⟨k + 1, by omega, by go_num, by rw [HYS.out]; exact HR.out⟩
                case measure => simp [intOf]; omega
              ·obtain rfl : k = 5 := by omega
               rw [show ((5 : Nat) : Int) = 5 from rfl]
               clear hlt; rw [show A8 ++ (List.range 5).flatMap (compE 210 79 sixC) = A9 from rfl] at HR
               have CLS := zH (fun w => ybk (c := 115) (x := 115) (.inr ⟨by omega, by omega⟩) rfl (P := 400) (S := 32) (T := 2) (V := false) rfl w)
               have CLA := zH (fun w => ybk (c := 97) (x := 97) (.inr ⟨by omega, by omega⟩) rfl (P := 256) (S := 32) (T := 2) (V := false) rfl w)
               have CLE := zH (fun w => ybk (c := 101) (x := 101) (.inr ⟨by omega, by omega⟩) rfl (P := 288) (S := 32) (T := 2) (V := false) rfl w)
               have HX : Hid (∀ y ∈ A9, y.1.length = 1) := one_A9
               have HL : Hid ((A9).length <= 900) := by show _ <= _; rw [nA9]; omega
               have HN : Hid (A9 ≠ []) := by show _ ≠ _; exact ne_len (by rw [nA9]; omega)
               have HYN : Hid (A10 ≠ []) := by show _ ≠ _; exact ne_len (by rw [nA10]; omega)
               have HY : Hid (A9 ++ [([221], [letW 89, mkW 769]), ([221 + 32], [letW (89 + 32), mkW 769])] = A10) := rfl
               have hm : (769 : Int) ∈ mkC := by decide
               have HM := zH hm; obtain ⟨xs, hxs⟩ : ∃ xs, A9 = xs := ⟨_, rfl⟩; obtain ⟨ys, hys⟩ : ∃ ys, A10 = ys := ⟨_, rfl⟩; rw [hxs] at HX HL HN HY HR; rw [hys] at HY HYN; have HYS := zH hys; obtain ⟨A, c, c0, f0, hT, hz⟩ := HR.out.cell; have HT := zH hT; clear hxs hys hT hz hm f0
               go_upto_region 41 with (first | (go_at_call 45; refine (markedS (b := 89) HT.out HN.out HX.out HL.out (by omega) rfl HM.out (by omega) HY.out).mono ?_; rintro e w3 ⟨⟨Aa, k2, rfl, hu⟩, hb3⟩; obtain ⟨Ab, k3, c03, f03, _, _⟩ := (HR.out.below hb3).cell; have HS3 := zH ((HR.out.below hb3).store hu HYN.out); clear hu hb3 HT HR c0) | (go_at_call 43; generalize (w3.setCell ⟨b1, 0, none⟩ (.slice Aa (putL ys).length k2)) = wr at HS3 |-; have HR := HS3; clear HS3 c03 f03; (with_reducible refine (CLS.out _).mono ?_); rintro e w4 ⟨rfl, hb⟩; have HR4 := zH (HR.out.below hb); clear hb) | (go_at_call 43; (with_reducible refine (CLA.out _).mono ?_); rintro e w5 ⟨rfl, hb⟩; have HR5 := zH (HR4.out.below hb); clear hb HR4) | (go_at_call 43; (with_reducible refine (CLE.out _).mono ?_); rintro e w6 ⟨rfl, hb⟩; have HR6 := zH (HR5.out.below hb); clear hb HR5))
               clear HX HL HN HY HM HYN CLS CLA CLE HR
               have HT7 : Hid (RT w b0 b1 w6.heap.size (w6.heap.size + 1) (w6.heap.size + 1 + 1) 4 ys (((w6.alloc (.cells #[.int .i64 400, .int .i64 32, .int .i64 4, .bool false] 77)).alloc (.cells #[.int .i64 256, .int .i64 32, .int .i64 4, .bool false] 77)).alloc (.cells #[.int .i64 288, .int .i64 32, .int .i64 4, .bool false] 77))) := RT.of HR6.out
               clear HR6; generalize (((w6.alloc (.cells #[.int .i64 400, .int .i64 32, .int .i64 4, .bool false] 77)).alloc (.cells #[.int .i64 256, .int .i64 32, .int .i64 4, .bool false] 77)).alloc (.cells #[.int .i64 288, .int .i64 32, .int .i64 4, .bool false] 77)) = wr at HT7 |-; obtain ⟨gE, hgE⟩ : ∃ g, w6.heap.size + 1 + 1 = g := ⟨_, rfl⟩; obtain ⟨gA, hgA⟩ : ∃ g, w6.heap.size + 1 = g := ⟨_, rfl⟩; obtain ⟨gS, hgS⟩ : ∃ g, w6.heap.size = g := ⟨_, rfl⟩; rw [hgE, hgA, hgS] at HT7; rw [hgE, hgA, hgS]; clear hgE hgA hgS; rw [<- HYS.out] at HT7; clear HYS; have HR := HT7; clear HT7
               have HX : Hid (∀ y ∈ A10, y.1.length = 1) := yum
               have HL : Hid ((A10).length <= 900) := by show _ <= _; rw [nA10]; omega
               have HY : Hid (A10 ++ [([223], [E3.mk 400 32 4 0, E3.mk 400 32 4 0])] = A11a) := by show _ = _; rfl
               have HYN : Hid (A11a ≠ []) := by show _ ≠ _; exact ne_len (by rw [nA11a]; omega)
               have HQ : Hid (qcells [E3.mk 400 32 4 0, E3.mk 400 32 4 0] = [.int .i64 400, .int .i64 32, .int .i64 4, .bool false, .int .i64 400, .int .i64 32, .int .i64 4, .bool false]) := by show _ = _; rw [yam, yam, q4_mk (by omega) (by omega) (by omega)]; first | (rw [q4_mk (by omega) (by omega) (by omega)]; rfl) | rfl
               obtain ⟨xs, hxs⟩ : ∃ xs, A10 = xs := ⟨_, rfl⟩; obtain ⟨ys, hys⟩ : ∃ ys, A11a = ys := ⟨_, rfl⟩; rw [hxs] at HX HL HY HR; rw [hys] at HY HYN; have HYS := zH hys; obtain ⟨A, c, c0, f0, hT, hz⟩ := HR.out.cell; have HT := zH hT; have HZ := zH hz; clear hxs hys hT hz f0; obtain ⟨s0, s1, s2, s3⟩ := ydp HR.out.hS; have s0' := yah s0 (.cells #[.int .i64 223] 3); have s1' := yah s1 (.cells #[.int .i64 223] 3); have s2' := yah s2 (.cells #[.int .i64 223] 3); have s3' := yah s3 (.cells #[.int .i64 223] 3); clear s0 s1 s2 s3
               have HWA : Hid (Below wr.heap.size wr ((wr.alloc (.cells #[.int .i64 223] 3)).alloc (.cells #[.int .i64 400, .int .i64 32, .int .i64 4, .bool false, .int .i64 400, .int .i64 32, .int .i64 4, .bool false] 77))) := (yaa wr _).trans ((yaa (wr.alloc (.cells #[.int .i64 223] 3)) _).mono (yaa wr _).size)
               have HSI : Hid (RdI anyB ((wr.alloc (.cells #[.int .i64 223] 3)).alloc (.cells #[.int .i64 400, .int .i64 32, .int .i64 4, .bool false, .int .i64 400, .int .i64 32, .int .i64 4, .bool false] 77)) (.slice (some ⟨wr.heap.size, 0, none⟩) 1 1) [223]) := (RdF.new wr [.int .i64 223] 3 (zN 1)).below (yaa (wr.alloc (.cells #[.int .i64 223] 3)) _) (zN _)
               have HSQ : Hid (RdQ anyB ((wr.alloc (.cells #[.int .i64 223] 3)).alloc (.cells #[.int .i64 400, .int .i64 32, .int .i64 4, .bool false, .int .i64 400, .int .i64 32, .int .i64 4, .bool false] 77)) (.slice (some ⟨wr.heap.size + 1, 0, none⟩) 2 2) [E3.mk 400 32 4 0, E3.mk 400 32 4 0]) := by show RdF anyB _ _ 2 (qcells _); rw [HQ.out]; exact ygs wr _ _ _ (zN _)
               have HU := zH (HR.out.hU HWA.out.size)
               go_upto_region 42 with (go_at_call 42; refine (putT HU.out (HT.out.below HWA.out (zN _)) HZ.out HX.out HL.out HSI.out HSQ.out rfl (by simp) HY.out).mono ?_; rintro e w3 ⟨⟨Aa, k2, rfl, hu⟩, hb3⟩; have hbw := HWA.out.trans (hb3.mono HWA.out.size); obtain ⟨Ab, k3, c03, f03, _, _⟩ := (HR.out.below hbw).cell; have HU3 := zH hu; have HR3 := zH (HR.out.below hbw); have HS3 := zH ((HR.out.below hbw).store hu HYN.out); clear hu hb3 hbw HT HR c0)
               clear s0' s1' s2' s3' HQ; clear c03 f03 HX HL HY HYN HZ HWA HSI HSQ HU HU3 HR3; generalize (w3.setCell ⟨b1, 0, none⟩ (.slice Aa (putL ys).length k2)) = wr at HS3 |-; have HR := HS3; clear HS3; rw [<- HYS.out] at HR; clear HYS
               have HX : Hid (∀ y ∈ A11a, y.1.length = 1) := yoy
               have HL : Hid ((A11a).length <= 900) := by show _ <= _; rw [nA11a]; omega
               have HY : Hid (A11a ++ [([230], [E3.mk 256 32 4 0, E3.mk 288 32 4 0])] = A11b) := by show _ = _; rfl
               have HYN : Hid (A11b ≠ []) := by show _ ≠ _; exact ne_len (by rw [nA11b]; omega)
               have HQ : Hid (qcells [E3.mk 256 32 4 0, E3.mk 288 32 4 0] = [.int .i64 256, .int .i64 32, .int .i64 4, .bool false, .int .i64 288, .int .i64 32, .int .i64 4, .bool false]) := by show _ = _; rw [yam, yam, q4_mk (by omega) (by omega) (by omega)]; first | (rw [q4_mk (by omega) (by omega) (by omega)]; rfl) | rfl
               obtain ⟨xs, hxs⟩ : ∃ xs, A11a = xs := ⟨_, rfl⟩; obtain ⟨ys, hys⟩ : ∃ ys, A11b = ys := ⟨_, rfl⟩; rw [hxs] at HX HL HY HR; rw [hys] at HY HYN; have HYS := zH hys; obtain ⟨A, c, c0, f0, hT, hz⟩ := HR.out.cell; have HT := zH hT; have HZ := zH hz; clear hxs hys hT hz f0; obtain ⟨a0, a1, a2, a3⟩ := ydp HR.out.hA; have a0' := yah a0 (.cells #[.int .i64 230] 3); have a1' := yah a1 (.cells #[.int .i64 230] 3); have a2' := yah a2 (.cells #[.int .i64 230] 3); have a3' := yah a3 (.cells #[.int .i64 230] 3); clear a0 a1 a2 a3; obtain ⟨e0, e1, e2, e3⟩ := ydp HR.out.hE; have e0' := yah e0 (.cells #[.int .i64 230] 3); have e1' := yah e1 (.cells #[.int .i64 230] 3); have e2' := yah e2 (.cells #[.int .i64 230] 3); have e3' := yah e3 (.cells #[.int .i64 230] 3); clear e0 e1 e2 e3
               have HWA : Hid (Below wr.heap.size wr ((wr.alloc (.cells #[.int .i64 230] 3)).alloc (.cells #[.int .i64 256, .int .i64 32, .int .i64 4, .bool false, .int .i64 288, .int .i64 32, .int .i64 4, .bool false] 77))) := (yaa wr _).trans ((yaa (wr.alloc (.cells #[.int .i64 230] 3)) _).mono (yaa wr _).size)
               have HSI : Hid (RdI anyB ((wr.alloc (.cells #[.int .i64 230] 3)).alloc (.cells #[.int .i64 256, .int .i64 32, .int .i64 4, .bool false, .int .i64 288, .int .i64 32, .int .i64 4, .bool false] 77)) (.slice (some ⟨wr.heap.size, 0, none⟩) 1 1) [230]) := (RdF.new wr [.int .i64 230] 3 (zN 1)).below (yaa (wr.alloc (.cells #[.int .i64 230] 3)) _) (zN _)
               have HSQ : Hid (RdQ anyB ((wr.alloc (.cells #[.int .i64 230] 3)).alloc (.cells #[.int .i64 256, .int .i64 32, .int .i64 4, .bool false, .int .i64 288, .int .i64 32, .int .i64 4, .bool false] 77)) (.slice (some ⟨wr.heap.size + 1, 0, none⟩) 2 2) [E3.mk 256 32 4 0, E3.mk 288 32 4 0]) := by show RdF anyB _ _ 2 (qcells _); rw [HQ.out]; exact ygs wr _ _ _ (zN _)
               have HU := zH (HR.out.hU HWA.out.size)
               go_upto_region 43 with (go_at_call 42; refine (putT HU.out (HT.out.below HWA.out (zN _)) HZ.out HX.out HL.out HSI.out HSQ.out rfl (by simp) HY.out).mono ?_; rintro e w3 ⟨⟨Aa, k2, rfl, hu⟩, hb3⟩; have hbw := HWA.out.trans (hb3.mono HWA.out.size); obtain ⟨Ab, k3, c03, f03, _, _⟩ := (HR.out.below hbw).cell; have HU3 := zH hu; have HR3 := zH (HR.out.below hbw); have HS3 := zH ((HR.out.below hbw).store hu HYN.out); clear hu hb3 hbw HT HR c0)
               clear a0' a1' a2' a3' e0' e1' e2' e3' HQ; clear c03 f03 HX HL HY HYN HZ HWA HSI HSQ HU HU3 HR3; generalize (w3.setCell ⟨b1, 0, none⟩ (.slice Aa (putL ys).length k2)) = wr at HS3 |-; have HR := HS3; clear HS3; rw [<- HYS.out] at HR; clear HYS; obtain ⟨a0, a1, a2, a3⟩ := ydp HR.out.hA
               have fa2 : wr.frozen? ⟨gA, 2, none⟩ = false := frozen_of_row _ _ 2 _ _ HR.out.hA
               have hE1 : (wr.setCell ⟨gA, 2, none⟩ (.int .i64 10)).heap[gE]? = some (.cells (el4 288 4) 77) := ((R4.yae wr ⟨gA, 2, none⟩ (.int .i64 10)).block gE (R4.yad HR.out.hE) (by have := HR.out.ne; simp; omega)).trans HR.out.hE
               obtain ⟨e0, e1, e2, e3⟩ := ydp hE1
               have fe2 : (wr.setCell ⟨gA, 2, none⟩ (.int .i64 10)).frozen? ⟨gE, 2, none⟩ = false := frozen_of_row _ _ 2 _ _ hE1
               have HS3 : Hid (RT w b0 b1 gS gA gE 10 A11b ((wr.setCell ⟨gA, 2, none⟩ (.int .i64 10)).setCell ⟨gE, 2, none⟩ (.int .i64 10))) := HR.out.poke 10
               clear hE1 HR
               go_upto_region 44 with fail
               clear a0 a1 a2 a3 fa2 e0 e1 e2 e3 fe2; generalize ((wr.setCell ⟨gA, 2, none⟩ (.int .i64 10)).setCell ⟨gE, 2, none⟩ (.int .i64 10)) = wr at HS3 |-; have HR := HS3; clear HS3
               have HX : Hid (∀ y ∈ A11b, y.1.length = 1) := yox
               have HL : Hid ((A11b).length <= 900) := by show _ <= _; rw [nA11b]; omega
               have HY : Hid (A11b ++ [([198], [E3.mk 256 32 10 0, E3.mk 288 32 10 0])] = A11c) := by show _ = _; rfl
               have HYN : Hid (A11c ≠ []) := by show _ ≠ _; exact ne_len (by rw [nA11c]; omega)
               have HQ : Hid (qcells [E3.mk 256 32 10 0, E3.mk 288 32 10 0] = [.int .i64 256, .int .i64 32, .int .i64 10, .bool false, .int .i64 288, .int .i64 32, .int .i64 10, .bool false]) := by show _ = _; rw [yam, yam, q4_mk (by omega) (by omega) (by omega)]; first | (rw [q4_mk (by omega) (by omega) (by omega)]; rfl) | rfl
               obtain ⟨xs, hxs⟩ : ∃ xs, A11b = xs := ⟨_, rfl⟩; obtain ⟨ys, hys⟩ : ∃ ys, A11c = ys := ⟨_, rfl⟩; rw [hxs] at HX HL HY HR; rw [hys] at HY HYN; have HYS := zH hys; obtain ⟨A, c, c0, f0, hT, hz⟩ := HR.out.cell; have HT := zH hT; have HZ := zH hz; clear hxs hys hT hz f0; obtain ⟨a0, a1, a2, a3⟩ := ydp HR.out.hA; have a0' := yah a0 (.cells #[.int .i64 198] 3); have a1' := yah a1 (.cells #[.int .i64 198] 3); have a2' := yah a2 (.cells #[.int .i64 198] 3); have a3' := yah a3 (.cells #[.int .i64 198] 3); clear a0 a1 a2 a3; obtain ⟨e0, e1, e2, e3⟩ := ydp HR.out.hE; have e0' := yah e0 (.cells #[.int .i64 198] 3); have e1' := yah e1 (.cells #[.int .i64 198] 3); have e2' := yah e2 (.cells #[.int .i64 198] 3); have e3' := yah e3 (.cells #[.int .i64 198] 3); clear e0 e1 e2 e3
               have HWA : Hid (Below wr.heap.size wr ((wr.alloc (.cells #[.int .i64 198] 3)).alloc (.cells #[.int .i64 256, .int .i64 32, .int .i64 10, .bool false, .int .i64 288, .int .i64 32, .int .i64 10, .bool false] 77))) := (yaa wr _).trans ((yaa (wr.alloc (.cells #[.int .i64 198] 3)) _).mono (yaa wr _).size)
               have HSI : Hid (RdI anyB ((wr.alloc (.cells #[.int .i64 198] 3)).alloc (.cells #[.int .i64 256, .int .i64 32, .int .i64 10, .bool false, .int .i64 288, .int .i64 32, .int .i64 10, .bool false] 77)) (.slice (some ⟨wr.heap.size, 0, none⟩) 1 1) [198]) := (RdF.new wr [.int .i64 198] 3 (zN 1)).below (yaa (wr.alloc (.cells #[.int .i64 198] 3)) _) (zN _)
               have HSQ : Hid (RdQ anyB ((wr.alloc (.cells #[.int .i64 198] 3)).alloc (.cells #[.int .i64 256, .int .i64 32, .int .i64 10, .bool false, .int .i64 288, .int .i64 32, .int .i64 10, .bool false] 77)) (.slice (some ⟨wr.heap.size + 1, 0, none⟩) 2 2) [E3.mk 256 32 10 0, E3.mk 288 32 10 0]) := by show RdF anyB _ _ 2 (qcells _); rw [HQ.out]; exact ygs wr _ _ _ (zN _)
               have HU := zH (HR.out.hU HWA.out.size)
               go_upto_region 45 with (go_at_call 42; refine (putT HU.out (HT.out.below HWA.out (zN _)) HZ.out HX.out HL.out HSI.out HSQ.out rfl (by simp) HY.out).mono ?_; rintro e w3 ⟨⟨Aa, k2, rfl, hu⟩, hb3⟩; have hbw := HWA.out.trans (hb3.mono HWA.out.size); obtain ⟨Ab, k3, c03, f03, _, _⟩ := (HR.out.below hbw).cell; have HU3 := zH hu; have HR3 := zH (HR.out.below hbw); have HS3 := zH ((HR.out.below hbw).store hu HYN.out); clear hu hb3 hbw HT HR c0)
               clear a0' a1' a2' a3' e0' e1' e2' e3' HQ; clear c03 f03 HX HL HY HYN HZ HWA HSI HSQ HU HU3 HR3; generalize (w3.setCell ⟨b1, 0, none⟩ (.slice Aa (putL ys).length k2)) = wr at HS3 |-; have HR := HS3; clear HS3; rw [<- HYS.out] at HR; clear HYS
               have HX : Hid (∀ y ∈ A11c, y.1.length = 1) := yzl
               have HL : Hid ((A11c).length <= 900) := by show _ <= _; rw [nA11c]; omega
               have HY : Hid (A11c ++ [([173], [])] = A11) := by show _ = _; rfl
               have HYN : Hid (A11 ≠ []) := by show _ ≠ _; exact ne_len (by rw [nA11]; omega)
               obtain ⟨xs, hxs⟩ : ∃ xs, A11c = xs := ⟨_, rfl⟩; obtain ⟨ys, hys⟩ : ∃ ys, A11 = ys := ⟨_, rfl⟩; rw [hxs] at HX HL HY HR; rw [hys] at HY HYN; have HYS := zH hys; obtain ⟨A, c, c0, f0, hT, hz⟩ := HR.out.cell; have HT := zH hT; have HZ := zH hz; clear hxs hys hT hz f0
               have HWA : Hid (Below wr.heap.size wr (wr.alloc (.cells #[.int .i64 173] 3))) := yaa wr _
               have HSI : Hid (RdI anyB (wr.alloc (.cells #[.int .i64 173] 3)) (.slice (some ⟨wr.heap.size, 0, none⟩) 1 1) [173]) := RdF.new wr [.int .i64 173] 3 (zN 1)
               have HSQ : Hid (RdQ anyB (wr.alloc (.cells #[.int .i64 173] 3)) (.slice none 0 0) []) := RdF.nil _ _
               have HU := zH (HR.out.hU HWA.out.size)
               go_wp2_with (go_at_call 42; refine (putT HU.out (HT.out.below HWA.out (zN _)) HZ.out HX.out HL.out HSI.out HSQ.out rfl (by simp) HY.out).mono ?_; rintro e w3 ⟨⟨Aa, k2, rfl, hu⟩, hb3⟩; have hbw := HWA.out.trans (hb3.mono HWA.out.size); obtain ⟨Ab, k3, c03, f03, _, _⟩ := (HR.out.below hbw).cell; have HU3 := zH hu; have HR3 := zH (HR.out.below hbw); have HS3 := zH ((HR.out.below hbw).store hu HYN.out); have h05 := HR3.out.res; have c05 : w3.cell? ⟨b0, 0, none⟩ = some (.slice none 0 0) := (by rw [cell_of_row _ _ 0 _ _ _ h05]; rfl); have f05 : w3.frozen? ⟨b0, 0, none⟩ = false := frozen_of_row _ _ 0 _ _ h05; have H05 := zH h05; clear h05 c03 f03; clear hu hb3 hbw HT HR c0)
               have d3 : (w3.setCell ⟨b0, 0, none⟩ (.slice Aa (putL ys).length k2)).cell? ⟨b0, 0, none⟩ = some (.slice Aa (putL ys).length k2) := by rw [cell_of_row _ _ 0 _ _ _ (heap_setCell_same w3 b0 0 _ _ _ H05.out)]; rfl
               exact bodyPost_ret (v := .agg #[.slice Aa (putL ys).length k2]) (by simp [results, Tryz.results26, go_sem, d3]) rfl ⟨⟨_, rfl, by rw [<- yyn, HYS.out]; exact (HU3.out.mono (fun _ _ _ => trivial)).off (R4.yae w3 ⟨b0, 0, none⟩ _) H05.out (by decide) (by decide) (by decide)⟩, HR3.out.bel.setCell HR3.out.lo.1 _⟩
end Go.Proofs.YteibnfeokgibmaaGreat
