/-
  PACKED for a claim.
-/
import Derived.Test.YtichfdjjbafeiaaGreatO53
set_option linter.unusedVariables false
set_option linter.unusedSimpArgs false
set_option maxRecDepth 100000
namespace Go.Proofs.YtichfdjjbafeiaaGreat
open Go.RowKit
def trK (l : List Int) (j : Nat) : Nat := (l.getD j 0 % 65536).toNat % 4 + 1
theorem trK_ok (l : List Int) (j : Nat) : 1 <= trK l j /\ trK l j <= 4 := by unfold trK; omega
def kls (K : Nat -> Nat) (n : Nat) : List Int := (List.range n).map fun j => ((K j : Nat) : Int)
theorem yil (K : Nat -> Nat) (n : Nat) : (kls K n).length = n := by simp [kls]
theorem yvd (K : Nat -> Nat) (n : Nat) : kls K (n + 1) = kls K n ++ [((K n : Nat) : Int)] := by simp [kls, List.range_succ]
theorem kls_at (K : Nat -> Nat) {n i : Nat} (h : i < n) : (kls K n)[i]? = some ((K i : Nat) : Int) := by simp [kls, h]
def mkB (q : Nat) : ByteArray := if q = 0 then ⟨#[60]⟩ else if q = 1 then ⟨#[60, 60]⟩ else if q = 2 then ⟨#[60, 60, 60]⟩ else ⟨#[61]⟩
theorem mkB_mk {k : Nat} (h1 : 1 <= k) (h4 : k <= 4) : (mkB (k - 1)).data.toList = S6.mk (k + 1) /\ (mkB (k - 1)).size <= 3 := by
 have : k = 1 \/ k = 2 \/ k = 3 \/ k = 4 := by omega
 rcases this with rfl | rfl | rfl | rfl <;> exact ⟨rfl, by decide⟩
def digB (i : Nat) : ByteArray := ⟨#[UInt8.ofNat (49 + i)]⟩
def trB : Nat -> ByteArray
 | 0 => ⟨#[109]⟩
 | n + 1 => digB n
theorem ypq : ∀ i, i < 9 -> T2.sgs (trB i).data.toList = trP i /\ (trB i).size = 1 := by decide +kernel
theorem yvu : ∀ i, i < 8 -> T2.sgs (digB i).data.toList = trD i /\ (digB i).size = 1 := by decide +kernel
theorem ypp (K : Nat -> Nat) (hK : ∀ j, 1 <= K j /\ K j <= 4) : ∀ m i, (trT K i m).length <= 6 * m
 | 0, i => Nat.zero_le _
 | m + 1, i => by
  have ih := ypp K hK m (i + 1)
  have hm : (S6.mk (K i + 1)).length <= 3 := by
   rcases ykz (hK i).1 (hK i).2 with ⟨-, h⟩ | ⟨-, h⟩ | ⟨-, h⟩ | ⟨-, h⟩ <;> rw [h] <;> decide
  show (32 :: (S6.mk (K i + 1) ++ [32, UInt8.ofNat (49 + i)]) ++ trT K (i + 1) m).length <= _
  rw [List.length_append, List.length_cons, List.length_append]; simp only [List.length_cons, List.length_nil]
  omega
theorem yiz {K : Nat -> Nat} (hK : ∀ j, 1 <= K j /\ K j <= 4) {n : Nat} {S : ByteArray} (h : S.data.toList = trTx K n) : S.size <= 3 + 6 * n := by
 have h1 := congrArg List.length h; have h2 := ypp K hK n 0; unfold trTx at h1; rw [List.length_append] at h1
 have h3 : S.data.toList.length = S.size := Array.length_toList
 rw [h3] at h1; simp only [List.length_cons, List.length_nil] at h1
 omega
theorem ywr {K : Nat -> Nat} (hK : ∀ j, 1 <= K j /\ K j <= 4) {i : Nat} {S : ByteArray} (h : S.data.toList = trTx K i) : ((((S ++ ⟨#[32]⟩) ++ mkB (K i - 1)) ++ ⟨#[32]⟩) ++ digB i).data.toList = trTx K (i + 1) := by
 rw [ypo, <- h]; simp only [ByteArray.data_append, Array.toList_append, (mkB_mk (hK i).1 (hK i).2).1]; unfold digB trX
 simp
theorem yyn {w : World} {g d : Nat} (hd : d < 256) (h : w.cell? ⟨g, 0, none⟩ = some (.int .u8 (d : Int))) : (convert 24 9 (.slice (some ⟨g, 0, none⟩) 1 1)).run Tryz.prog w = .ok (.string ⟨#[UInt8.ofNat d]⟩) w := by
 have e : ((UInt8.ofNat d).toNat : Int) = (d : Int) := by rw [UInt8.toNat_ofNat']; omega
 refine T2.str_of (B := g + 1) (l := [UInt8.ofNat d]) ⟨some ⟨g, 0, none⟩, 1, rfl, fun _ => ⟨_, rfl, Nat.lt_succ_self _, fun j u hu => ?_⟩⟩
 cases j with
 | zero =>
  have hu : some (Value.int .u8 ((UInt8.ofNat d).toNat : Int)) = some u := hu
  rw [<- hu, e]; exact h
 | succ j => simp [T2.bv] at hu
def StrsV (v : Value) (w : World) : Prop := ∃ g : Nat, v = .slice (some ⟨g, 0, none⟩) 4 4 /\ ∀ j, j < 4 -> w.cell? ⟨g, j, none⟩ = some (.string (mkB j))
def SV.strs : SV := ⟨StrsV, fun v w w' h hb => by
 obtain ⟨g, h1, h2⟩ := h; exact ⟨g, h1, fun j hj => yae hb (h2 j hj)⟩⟩
theorem ypu (w : World) (T : TypeId) : StrsV (.slice (some ⟨w.heap.size, 0, none⟩) 4 4) (w.alloc (.cells #[.string ⟨#[60]⟩, .string ⟨#[60, 60]⟩, .string ⟨#[60, 60, 60]⟩, .string ⟨#[61]⟩] T)) := by
 have hx := heap_alloc_new w (.cells #[.string ⟨#[60]⟩, .string ⟨#[60, 60]⟩, .string ⟨#[60, 60, 60]⟩, .string ⟨#[61]⟩] T); refine ⟨_, rfl, fun j hj => ?_⟩
 have : j = 0 \/ j = 1 \/ j = 2 \/ j = 3 := by omega
 rcases this with rfl | rfl | rfl | rfl <;> exact yan hx rfl
def PtsV (q : Nat) (M : ByteArray) (v : Value) (w : World) : Prop := ∃ g : Nat, v = .pointer (some ⟨g, q, none⟩) /\ w.cell? ⟨g, q, none⟩ = some (.string M)
def SV.pts (q : Nat) (M : ByteArray) : SV := ⟨PtsV q M, fun v w w' h hb => by
 obtain ⟨g, h1, h2⟩ := h; exact ⟨g, h1, yae hb h2⟩⟩
def BytV (d : Nat) (v : Value) (w : World) : Prop := ∃ g : Nat, v = .slice (some ⟨g, 0, none⟩) 1 1 /\ w.cell? ⟨g, 0, none⟩ = some (.int .u8 (d : Int))
def SV.byt (d : Nat) : SV := ⟨BytV d, fun v w w' h hb => by
 obtain ⟨g, h1, h2⟩ := h; exact ⟨g, h1, yae hb h2⟩⟩
theorem yql {K : Nat -> Nat} (hK : ∀ j, 1 <= K j /\ K j <= 4) {n : Nat} (hn : n <= 8) {S : ByteArray} (hs : S.data.toList = trTx K n) {L : List PE} (hL : appL rootP (trL K n) = L) (w : World) :
  Calls Tryz.prog 9 #[.string S] w fun e w' => (∃ p : Nat, e = .returned (.tuple #[.pointer (some ⟨p, 0, none⟩), .int .i64 0, .int .i64 0]) /\ TabAt anyB w' p L) /\ Below w.heap.size w w' := by
 obtain ⟨r1, r2, r3⟩ := tr_rd hK hn hs; have hz := yiz hK hs; have h := ynm w (s := S) (by omega)
 rw [r1, r2, r3, hL] at h; exact h.mono fun e w' hh => ⟨hh.1 rfl, hh.2.2⟩
theorem ykp {F : Nat -> Prop} {w : World} {p : Nat} {L : List PE} (h : TabAt F w p L) {a b : ByteArray} {sa sb : List Int} (ha : T2.sgs a.data.toList = sa /\ a.size = 1) (hb : T2.sgs b.data.toList = sb /\ b.size = 1) {lv : Nat} (hl : Lv lv) {c : Int} (hc : trC L lv sa sb = c) :
  Calls Tryz.prog 10 #[.pointer (some ⟨p, 0, none⟩), .string a, .string b, .int .i64 (lv : Nat)] w fun e w' => e = .returned (.int .i64 c) /\ Below w.heap.size w w' := by
 have h1 := yva h a b (by omega) (by omega) hl
 rw [ha.1, hb.1] at h1; rw [<- hc]; exact h1
set_option maxHeartbeats 16000000 in
theorem yfs (v0 : Value) (l : List Int) (w : World) (h0 : RdI anyB w v0 l) (hw0 : I64 l) (hl0 : l.length <= maxLen) :
  Calls Tryz.prog 3 #[v0] w fun e w' => e = .returned (.bool true) /\ Below w.heap.size w w' := by
 obtain ⟨A, c, rfl⟩ := h0.form; obtain ⟨N, hN⟩ : ∃ n, l.length = n := ⟨_, rfl⟩; have hcap := (RdF.cap h0).1; rw [hN] at hl0 hcap |-; have HV := zH h0; rw [hN] at HV; have HN := zH hN; obtain ⟨K, hKd⟩ : ∃ K, trK l = K := ⟨_, rfl⟩
 have hKj : ∀ j, 1 <= K j /\ K j <= 4 := fun j => by rw [<- hKd]; exact trK_ok l j
 have HKJ := zH hKj; have HKD := zH hKd; have HAW := zH ype; simp only [maxLen] at hl0; obtain ⟨n, hn⟩ : ∃ n, min N 8 = n := ⟨_, rfl⟩
 have hn8 : n <= 8 := by omega
 have hnN : n <= N := by omega
 have hmin : (if (8 : Int) < (N : Int) then (8 : Int) else (N : Int)) = (n : Int) := by split <;> omega
 have hmin2 : min (N : Int) 8 = (n : Int) := by omega
 clear h0 hN hw0 hKd hKj hn
 go_enter Tryz.func3, Tryz.ntmps3
 go_wp2
 go_loopw [3, 5, 6] (fun sv lv iv wr => ∃ (i : Nat) (S : ByteArray), i <= n /\ sv = .string S /\ iv = .int .i64 (i : Nat) /\ Hid (S.data.toList = trTx K i) /\ Hid (T2.OwnI w.heap.size wr lv (kls K i)) /\ Hid (Below w.heap.size w wr)) (fun _ _ iv _ => n - (intOf iv).toNat)
 case atStart => exact ⟨0, _, Nat.zero_le _, rfl, rfl, rfl, World.ownsRow_nil _ _ _ _, zR _ _⟩
 case round =>
  obtain ⟨i, S, hi, rfl, rfl, HS, HO, HB⟩ := hrel; obtain ⟨wo, rfl⟩ : ∃ wo, wo = wr := ⟨_, rfl⟩
  by_cases hlt : i < n
  ·have hltI : (i : Int) < (n : Int) := by omega
   obtain ⟨y, hy⟩ : ∃ y, l[i]? = some y := ⟨_, List.getElem?_eq_getElem (by rw [HN.out]; omega)⟩
   obtain ⟨g, o, rfl, c0⟩ := (HV.out.below HB.out (zN _)).at hy
   have hic : (i : Int) < (c : Int) := by omega
   obtain ⟨m16, hm16⟩ : ∃ q : Nat, (q : Int) = y % 65536 := ⟨(y % 65536).toNat, by omega⟩
   have hand := and16 y; rw [<- hm16] at hand; obtain ⟨q, hq⟩ : ∃ q, m16 % 4 = q := ⟨_, rfl⟩
   have hrem : (m16 : Int).tmod 4 = (q : Int) := by rw [Int.tmod_eq_emod_of_nonneg (by omega)]; omega
   have hq4 : q < 4 := by omega
   have hq4I : (q : Int) < 4 := by omega
   obtain ⟨k, hk⟩ : ∃ k, q + 1 = k := ⟨_, rfl⟩
   have hwk : IntKind.i64.wrap ((q : Int) + 1) = (k : Int) := by rw [IntWalk.i64_in _ (by omega)]; omega
   have hwq : IntKind.i64.wrap ((k : Int) - 1) = (q : Int) := by rw [IntWalk.i64_in _ (by omega)]; omega
   have HKI : Hid (K i = k) := by
    show _ = _
    rw [<- HKD.out]; unfold trK
    rw [List.getD_eq_getElem?_getD, hy]
    show (y % 65536).toNat % 4 + 1 = k
    rw [<- hm16]; omega
   have HLN : Hid ((kls K i).length + 1 <= 10000000) := by show _ + 1 <= _; rw [yil]; omega
   have HBS := zH HB.out.size; have hst := ywr HKJ.out HS.out; have hSz := yiz HKJ.out HS.out; have hM3 := (mkB_mk (HKJ.out i).1 (HKJ.out i).2).2; rw [HKI.out] at hst hM3; rw [show k - 1 = q by omega] at hst hM3
   obtain ⟨M, hM⟩ : ∃ M, mkB q = M := ⟨_, rfl⟩; obtain ⟨d, hd⟩ : ∃ d, 49 + i = d := ⟨_, rfl⟩; obtain ⟨DB, hDB⟩ : ∃ M, digB i = M := ⟨_, rfl⟩
   have hDz : DB.size = 1 := by rw [<- hDB]; rfl
   have hDB2 : (⟨#[UInt8.ofNat d]⟩ : ByteArray) = DB := by rw [<- hDB, <- hd]; rfl
   have HDB := zH hDB2; have HM := zH hM; rw [hM, hDB] at hst; rw [hM] at hM3
   have hd256 : d < 256 := by omega
   have hwi : IntKind.u8.wrap (i : Int) = (i : Int) := IntWalk.u8_in _ (by omega)
   have hwd : IntKind.u8.wrap (49 + (i : Int)) = (d : Int) := by rw [IntWalk.u8_in _ (by omega)]; omega
   have z32 : (⟨#[32]⟩ : ByteArray).size = 1 := rfl
   obtain ⟨S1, hS1⟩ : ∃ M, S ++ ⟨#[32]⟩ = M := ⟨_, rfl⟩
   have zS1 : S1.size = S.size + 1 := by rw [<- hS1, ByteArray.size_append]; rfl
   obtain ⟨S2, hS2⟩ : ∃ Q, S1 ++ M = Q := ⟨_, rfl⟩
   have zS2 : S2.size = S1.size + M.size := by rw [<- hS2, ByteArray.size_append]
   obtain ⟨S3, hS3⟩ : ∃ Q, S2 ++ ⟨#[32]⟩ = Q := ⟨_, rfl⟩
   have zS3 : S3.size = S2.size + 1 := by rw [<- hS3, ByteArray.size_append]; rfl
   obtain ⟨S4, hS4⟩ : ∃ Q, S3 ++ DB = Q := ⟨_, rfl⟩; rw [hS1, hS2, hS3, hS4] at hst
   have b1 : ¬ (9223372036854775807 < S.size + 1) := by omega
   have b2 : ¬ (9223372036854775807 < S1.size + M.size) := by omega
   have b3 : ¬ (9223372036854775807 < S2.size + 1) := by omega
   have b4 : ¬ (9223372036854775807 < S3.size + DB.size) := by omega
   have HST := zH hst; have HB1 := zH b1; have HB2' := zH b2; have HB3' := zH b3; have HB4' := zH b4; have HS1 := zH hS1; have HS2 := zH hS2; have HS3 := zH hS3; have HS4 := zH hS4; clear hst hSz hM3 hM hd hDB hDB2 hDz zS1 zS2 zS3 hy hm16 hq hk b1 b2 b3 b4 hS1 hS2 hS3 hS4 z32
   go_upto_region 9 with (at_builtin; refine T2.pushI rfl (.tmp 31) (.tmp 33) rfl _ w.heap.size _ _ [(k : Int)] 1 rfl HO.out rfl HBS.out HLN.out ?_; intro v3 w3 ho3 hb3; have HO3 := zH ho3; have HB3 := zH (HB.out.trans hb3); clear ho3 hb3)
   refine ybb (m := 15) [35, 36, 37, 38, 39, 40, 41, 42, 43, 44, 45, 46, 47, 48, 49] [SV.eq (.string S), SV.eq (.string S1), SV.strs, SV.eq (.int .i64 (k : Int)), SV.eq (.int .i64 (q : Int)), SV.pts q M, SV.eq (.string M), SV.eq (.string S2), SV.eq (.string S3), SV.eq (.int .i64 (i : Int)), SV.eq (.int .u8 (i : Int)), SV.eq (.int .u8 (d : Int)), SV.byt d, SV.eq (.string DB), SV.eq (.string S4)] (by kernel_rfl) (by kernel_rfl) ?_ ?_
   ·refine ⟨⟨⟨⟨⟨⟨⟨⟨⟨⟨⟨⟨⟨⟨⟨trivial, ?_⟩, ?_⟩, ?_⟩, ?_⟩, ?_⟩, ?_⟩, ?_⟩, ?_⟩, ?_⟩, ?_⟩, ?_⟩, ?_⟩, ?_⟩, ?_⟩, ?_⟩
    all_goals (refine OpIs.mk rfl ?_; intro vs w1 hb hd K hK; simp only [frameV, zS, zA, zB, zC, zD] at hK |-)
    ·have HK := zH hK; clear hK; go_simp; exact HK.out _ _ rfl (zR _ _)
    ·have d0 : vs 0 = .string S := hd 0 (by kernel_rfl)
     have b1 := HB1.out; have hS1 := HS1.out; simp only [d0] at hK |-; have HK := zH hK; clear hK; go_simp; exact HK.out _ _ rfl (zR _ _)
    ·have HK := zH hK; clear hK; go_simp; exact HK.out _ _ (ypu w1 _) (yab w1 _)
    ·have HK := zH hK; clear hK; go_simp; exact HK.out _ _ rfl (zR _ _)
    ·have d3 : vs 3 = .int .i64 (k : Int) := hd 3 (by kernel_rfl)
     simp only [d3] at hK |-; have HK := zH hK; clear hK; go_simp; exact HK.out _ _ rfl (zR _ _)
    ·have d2 : StrsV (vs 2) w1 := hd 2 (by kernel_rfl)
     have d4 : vs 4 = .int .i64 (q : Int) := hd 4 (by kernel_rfl)
     have zh2 := Exists.choose_spec d2; generalize Exists.choose d2 = gh2 at zh2; have e2 := zh2.1; have h2 := zh2.2; clear zh2 d2; have hc := h2 q hq4; rw [HM.out] at hc; simp only [d4] at hK |-; simp only [e2] at hK |-; have HK := zH hK; clear hK; go_simp; exact HK.out _ _ ⟨_, rfl, hc⟩ (zR _ _)
    ·have d5 : PtsV q M (vs 5) w1 := hd 5 (by kernel_rfl)
     have zh5 := Exists.choose_spec d5; generalize Exists.choose d5 = gh5 at zh5; have e5 := zh5.1; have h5 := zh5.2; clear zh5 d5; simp only [e5] at hK |-; have HK := zH hK; clear hK; go_simp; exact HK.out _ _ rfl (zR _ _)
    ·have d1 : vs 1 = .string S1 := hd 1 (by kernel_rfl)
     have d6 : vs 6 = .string M := hd 6 (by kernel_rfl)
     have b2 := HB2'.out; have hS2 := HS2.out; simp only [d1, d6] at hK |-; have HK := zH hK; clear hK; go_simp; exact HK.out _ _ rfl (zR _ _)
    ·have d7 : vs 7 = .string S2 := hd 7 (by kernel_rfl)
     have b3 := HB3'.out; have hS3 := HS3.out; simp only [d7] at hK |-; have HK := zH hK; clear hK; go_simp; exact HK.out _ _ rfl (zR _ _)
    ·have HK := zH hK; clear hK; go_simp; exact HK.out _ _ rfl (zR _ _)
    ·have d9 : vs 9 = .int .i64 (i : Int) := hd 9 (by kernel_rfl)
     simp only [d9] at hK |-; have HK := zH hK; clear hK; go_simp; exact HK.out _ _ rfl (zR _ _)
    ·have d10 : vs 10 = .int .u8 (i : Int) := hd 10 (by kernel_rfl)
     simp only [d10] at hK |-; have HK := zH hK; clear hK; go_simp; exact HK.out _ _ rfl (zR _ _)
    ·have d11 : vs 11 = .int .u8 (d : Int) := hd 11 (by kernel_rfl)
     simp only [d11] at hK |-; have HK := zH hK; clear hK; go_simp; exact HK.out _ _ ⟨_, rfl, yan (heap_alloc_new w1 _) rfl⟩ (yab w1 _)
    ·have d12 : BytV d (vs 12) w1 := hd 12 (by kernel_rfl)
     have zh12 := Exists.choose_spec d12; generalize Exists.choose d12 = gh12 at zh12; have e12 := zh12.1; have h12 := zh12.2; clear zh12 d12; have kq := yyn hd256 h12; rw [HDB.out] at kq; simp only [e12] at hK |-; have HK := zH hK; clear hK; go_simp; exact HK.out _ _ rfl (zR _ _)
    ·have d8 : vs 8 = .string S3 := hd 8 (by kernel_rfl)
     have d13 : vs 13 = .string DB := hd 13 (by kernel_rfl)
     have b4 := HB4'.out; have hS4 := HS4.out; simp only [d8, d13] at hK |-; have HK := zH hK; clear hK; go_simp; exact HK.out _ _ rfl (zR _ _)
   ·intro vs w4 hb hd
    have d14 : vs 14 = .string S4 := hd 14 (by omega)
    obtain ⟨u0, f0⟩ : ∃ u, vs 0 = u := ⟨_, rfl⟩; obtain ⟨u1, f1⟩ : ∃ u, vs 1 = u := ⟨_, rfl⟩; obtain ⟨u2, f2⟩ : ∃ u, vs 2 = u := ⟨_, rfl⟩; obtain ⟨u3, f3⟩ : ∃ u, vs 3 = u := ⟨_, rfl⟩; obtain ⟨u4, f4⟩ : ∃ u, vs 4 = u := ⟨_, rfl⟩; obtain ⟨u5, f5⟩ : ∃ u, vs 5 = u := ⟨_, rfl⟩; obtain ⟨u6, f6⟩ : ∃ u, vs 6 = u := ⟨_, rfl⟩; obtain ⟨u7, f7⟩ : ∃ u, vs 7 = u := ⟨_, rfl⟩; obtain ⟨u8, f8⟩ : ∃ u, vs 8 = u := ⟨_, rfl⟩; obtain ⟨u9, f9⟩ : ∃ u, vs 9 = u := ⟨_, rfl⟩; obtain ⟨u10, f10⟩ : ∃ u, vs 10 = u := ⟨_, rfl⟩; obtain ⟨u11, f11⟩ : ∃ u, vs 11 = u := ⟨_, rfl⟩; obtain ⟨u12, f12⟩ : ∃ u, vs 12 = u := ⟨_, rfl⟩; obtain ⟨u13, f13⟩ : ∃ u, vs 13 = u := ⟨_, rfl⟩; have HB4 := zH (HB3.out.trans (hb.mono HB3.out.size)); have HO4 := zH (HO3.out.below hb (zN _)); simp only [frameV, f0, f1, f2, f3, f4, f5, f6, f7, f8, f9, f10, f11, f12, f13, zS, zA, zB, List.drop_succ_cons, List.drop_zero, d14]; clear hb hd f0 f1 f2 f3 f4 f5 f6 f7 f8 f9 f10 f11 f12 f13 d14
    go_wp2
    go_roundw
    case rel => exact ⟨i + 1, S4, by omega, rfl, by go_num, HST.out, by rw [yvd, HKI.out]; exact HO4.out, HB4.out⟩
    case measure => simp [intOf] <;> omega
  ·have hltI : ¬ (i : Int) < (n : Int) := by omega
   obtain rfl : i = n := by omega
   obtain ⟨L, hL⟩ : ∃ L, appL rootP (trL K i) = L := ⟨_, rfl⟩; obtain ⟨-, hchk, -⟩ := tr_all HKJ.out hn8; rw [hL] at hchk; obtain ⟨a1, a2, a3⟩ := ywu HKJ.out hn8 hL; have HA1 := zH a1; have HA2 := zH a2; have HA3 := zH a3; have CR := zH (yql HKJ.out hn8 HS.out hL); have CK := zH (fun (w1 : World) (p : Nat) (h : TabAt anyB w1 p L) => yjw h hchk)
   have HLV := zH (ybm (F := anyB) HO.out fun _ _ => trivial)
   obtain ⟨Al, cl, rfl⟩ := HLV.out.form; have hclc := (RdF.cap HLV.out).1; rw [yil] at HLV hclc |-
   have hlv : RdF anyB wo (.slice Al i cl) i (iv (kls K i)) := by have h := HLV.out; unfold RdI at h; rw [yil] at h; exact h
   have HLW := zH hlv; clear hlt hL hchk a1 a2 a3 hlv HO hmin hmin2
   go_wp2_with (go_at_call 9; refine (CR.out _).mono ?_; rintro e w2 ⟨⟨p, rfl, ht⟩, hb⟩; have HT2 := zH ht; have HB2 := zH (HB.out.trans (hb.mono HB.out.size)); have HL2 := zH (RdF.below HLW.out hb (zN _)); clear ht hb)
   go_loopw [11, 12] (fun sv zv wr => ∃ j : Nat, j <= i /\ sv = .string (trB j) /\ zv = .int .i64 (j : Nat) /\ Hid (TabAt anyB wr p L) /\ Hid (RdF anyB wr (.slice Al i cl) i (iv (kls K i))) /\ Hid (Below w.heap.size w wr)) (fun _ zv _ => i - (intOf zv).toNat)
   case atStart => exact ⟨0, Nat.zero_le _, rfl, rfl, HT2.out, HL2.out, HB2.out⟩
   case round =>
    obtain ⟨j, hj, rfl, rfl, HT, HL, HB5⟩ := hrel; obtain ⟨wo2, rfl⟩ : ∃ wo, wo = wr := ⟨_, rfl⟩; clear HT2 HL2 HB2 HLV HLW HB CR
    by_cases hlt : j < i
    ·have hltI : (j : Int) < (i : Int) := by omega
     have hjc : (j : Int) < (cl : Int) := by omega
     obtain ⟨d, hd⟩ : ∃ d, 49 + j = d := ⟨_, rfl⟩
     have hwj : IntKind.u8.wrap (j : Int) = (j : Int) := IntWalk.u8_in _ (by omega)
     have hwd : IntKind.u8.wrap (49 + (j : Int)) = (d : Int) := by rw [IntWalk.u8_in _ (by omega)]; omega
     have hkc := T2.conv_1 wo2 d (by omega)
     obtain ⟨DB, hDB⟩ : ∃ M, digB j = M := ⟨_, rfl⟩
     have hDB2 : (⟨#[UInt8.ofNat d]⟩ : ByteArray) = DB := by rw [<- hDB, <- hd]; rfl
     rw [hDB2] at hkc; have hsB := ypq j (by omega)
     have hsD := yvu j (by omega)
     rw [hDB] at hsD; obtain ⟨TB, hTB⟩ : ∃ M, trB j = M := ⟨_, rfl⟩; rw [hTB] at hsB |-
     have HTB1 : Hid (trB (j + 1) = DB) := hDB
     obtain ⟨k, hk⟩ : ∃ k, K j = k := ⟨_, rfl⟩; have hkk := HKJ.out j; have hA := HA1.out j hlt; rw [hk] at hkk hA; have HAJ := zH hA; have CC := zH (fun (w1 : World) (h : TabAt anyB w1 p L) (lv : Nat) (hl : Lv lv) (C : Int) (hC : trC L lv (trP j) (trD j) = C) => ykp h hsB hsD hl hC)
     have hbl := yab wo2 (.cells #[.int .u8 (d : Int)] 5)
     have hat : (kls K i)[j]? = some (k : Int) := by rw [kls_at K hlt, hk]
     have HAT := zH hat; have HT6 := zH (HT.out.below hbl (zN _)); have HL6 := zH (RdF.below HL.out hbl (zN _)); have HB6 := zH (HB5.out.trans (hbl.mono HB5.out.size)); clear hd hDB hDB2 hsB hsD hTB hk hA hbl hat hlt
     go_wp2
     go_loopw [14] (fun zv wr => ∃ lv : Nat, 1 <= lv /\ lv <= 4 /\ zv = .int .i64 (lv : Nat) /\ Hid (TabAt anyB wr p L) /\ Hid (RdF anyB wr (.slice Al i cl) i (iv (kls K i))) /\ Hid (Below w.heap.size w wr)) (fun zv _ => 4 - (intOf zv).toNat)
     case atStart => exact ⟨1, by omega, by omega, rfl, HT6.out, HL6.out, HB6.out⟩
     case round =>
      obtain ⟨lv, hl1, hl4, rfl, HT7, HL7, HB7⟩ := hrel; obtain ⟨wo3, rfl⟩ : ∃ wo, wo = wr := ⟨_, rfl⟩; clear HT6 HL6 HB6
      by_cases hlt : lv < 4
      ·have hlt3 : (lv : Int) <= 3 := by omega
       have hlv : Lv lv := by unfold Lv; omega
       obtain ⟨C, hC⟩ : ∃ C, trC L lv (trP j) (trD j) = C := ⟨_, rfl⟩; have CL := zH (CC.out wo3 HT7.out lv hlv C hC); have hA := HAJ.out lv hlv; rw [hC] at hA; obtain ⟨g, o, rfl, e0⟩ := RdI.at (F := anyB) (w := wo3) (l := kls K i) (n := i) (A := Al) (c := cl) (by unfold RdI; rw [yil]; exact HL7.out) HAT.out
       clear hlv hC hlt
       by_cases hlk : lv < k
       ·have hlkI : (lv : Int) < (k : Int) := by omega
        have hne : ((lv : Int) == (k : Int)) = false := by rw [beq_eq_false_iff_ne]; omega
        have hC0 := hA.1 hlk; subst hC0; clear hA hlk
        go_wp2_with (go_at_call 10; refine (CL.out).mono ?_; rintro e w8 ⟨rfl, hb⟩; have HT8 := zH (HT7.out.below hb (zN _)); have HL8 := zH (RdF.below HL7.out hb (zN _)); have HB8 := zH (HB7.out.trans (hb.mono HB7.out.size)); have e1 := yae hb e0; clear hb e0)
        go_roundw
        case rel => exact ⟨lv + 1, by omega, by omega, by go_num, HT8.out, HL8.out, HB8.out⟩
        case measure => simp [intOf] <;> omega
       ·by_cases hek : lv = k
        ·have hlkI : ¬ (lv : Int) < (k : Int) := by omega
         have hne : ((lv : Int) == (k : Int)) = true := by rw [beq_iff_eq]; omega
         have hC0 := hA.2 hek; subst hC0; clear hA hlk hek
         go_wp2_with (go_at_call 10; refine (CL.out).mono ?_; rintro e w8 ⟨rfl, hb⟩; have HT8 := zH (HT7.out.below hb (zN _)); have HL8 := zH (RdF.below HL7.out hb (zN _)); have HB8 := zH (HB7.out.trans (hb.mono HB7.out.size)); have e1 := yae hb e0; clear hb e0)
         go_roundw
         case rel => exact ⟨lv + 1, by omega, by omega, by go_num, HT8.out, HL8.out, HB8.out⟩
         case measure => simp [intOf] <;> omega
        ·have hlkI : ¬ (lv : Int) < (k : Int) := by omega
         have hne : ((lv : Int) == (k : Int)) = false := by rw [beq_eq_false_iff_ne]; omega
         clear hA hlk hek
         go_wp2_with (go_at_call 10; refine (CL.out).mono ?_; rintro e w8 ⟨rfl, hb⟩; have HT8 := zH (HT7.out.below hb (zN _)); have HL8 := zH (RdF.below HL7.out hb (zN _)); have HB8 := zH (HB7.out.trans (hb.mono HB7.out.size)); have e1 := yae hb e0; clear hb e0)
         go_roundw
         case rel => exact ⟨lv + 1, by omega, by omega, by go_num, HT8.out, HL8.out, HB8.out⟩
         case measure => simp [intOf] <;> omega
      ·have hlt3 : ¬ (lv : Int) <= 3 := by omega
       clear hlt
       go_wp2
       go_roundw
       case rel => exact ⟨j + 1, by omega, by rw [HTB1.out], by go_num, HT7.out, HL7.out, HB7.out⟩
       case measure => simp [intOf] <;> omega
    ·have hltI : ¬ (j : Int) < (i : Int) := by omega
     obtain rfl : j = i := by omega
     have hsB := ypq j (by omega)
     obtain ⟨TB, hTB⟩ : ∃ M, trB j = M := ⟨_, rfl⟩; rw [hTB] at hsB |-; have CN := zH (fun (w1 : World) (h : TabAt anyB w1 p L) => ykp h hsB (b := ⟨#[110]⟩) (sb := [110]) (by decide +kernel) (lv := 1) (.inl rfl) HA2.out)
     have tk1 : True := trivial
     clear hlt hsB hTB
     by_cases h0 : j = 0
     ·have h0b : ((j : Int) == 0) = true := by rw [h0]; rfl
      clear h0 HA3
      go_wp2_with (first
       | (go_at_call 10; have _t := tk1; refine (CN.out _ HT.out).mono ?_; rintro e w6 ⟨rfl, hb⟩; have HT6 := zH (HT.out.below hb (zN _)); have HB6 := zH (HB5.out.trans (hb.mono HB5.out.size)); clear hb _t tk1)
       | (go_at_call 11; refine (CK.out _ _ HT6.out).mono ?_; rintro e w8 ⟨rfl, hb⟩; have HB8 := zH (HB6.out.trans (hb.mono HB6.out.size)); clear hb)
       | (go_at_call 12; refine (HAW.out _).mono ?_; rintro e w9 ⟨rfl, hb⟩; have HB9 := zH (HB8.out.trans (hb.mono HB8.out.size)); clear hb))
      go_ret
      exact ⟨rfl, HB9.out⟩
     ·have h0b : ((j : Int) == 0) = false := by rw [beq_eq_false_iff_ne]; omega
      obtain ⟨C, hC⟩ : ∃ C, trC L 1 [108] [49] = C := ⟨_, rfl⟩; have hneg := HA3.out (by omega)
      rw [hC] at hneg; have C1 := zH (fun (w1 : World) (h : TabAt anyB w1 p L) => ykp h (a := ⟨#[108]⟩) (sa := [108]) (by decide +kernel) (b := ⟨#[49]⟩) (sb := [49]) (by decide +kernel) (lv := 1) (.inl rfl) hC)
      clear h0 HA3 hC
      go_wp2_with (first
       | (go_at_call 10; have _t := tk1; refine (CN.out _ HT.out).mono ?_; rintro e w6 ⟨rfl, hb⟩; have HT6 := zH (HT.out.below hb (zN _)); have HB6 := zH (HB5.out.trans (hb.mono HB5.out.size)); clear hb _t tk1)
       | (go_at_call 10; refine (C1.out _ HT6.out).mono ?_; rintro e w7 ⟨rfl, hb⟩; have HT7 := zH (HT6.out.below hb (zN _)); have HB7 := zH (HB6.out.trans (hb.mono HB6.out.size)); clear hb)
       | (go_at_call 11; refine (CK.out _ _ HT7.out).mono ?_; rintro e w8 ⟨rfl, hb⟩; have HB8 := zH (HB7.out.trans (hb.mono HB7.out.size)); clear hb)
       | (go_at_call 12; refine (HAW.out _).mono ?_; rintro e w9 ⟨rfl, hb⟩; have HB9 := zH (HB8.out.trans (hb.mono HB8.out.size)); clear hb))
      go_ret
      exact ⟨rfl, HB9.out⟩
end Go.Proofs.YtichfdjjbafeiaaGreat
