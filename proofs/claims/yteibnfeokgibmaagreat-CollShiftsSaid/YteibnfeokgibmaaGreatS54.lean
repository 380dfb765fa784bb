/-
  PACKED for a claim.
-/
import Derived.Laws.Concat
import Derived.Test.YteibnfeokgibmaaGreatS53
set_option linter.unusedVariables false
set_option linter.unusedSimpArgs false
set_option maxRecDepth 100000
namespace Go.Proofs.YteibnfeokgibmaaGreat
open Go.RowKit
def vaT : ByteArray := ⟨#[32, 95, 45, 44, 46, 39]⟩
def vaB (i : Nat) : UInt8 := vaT.data.toList.getD i 0
theorem ywz : ∀ i : Nat, i < 6 -> (⟨#[32, 95, 45, 44, 46, 39]⟩ : ByteArray).extract ((i : Int)).toNat ((i : Int) + 1).toNat = ⟨#[vaB i]⟩ := by decide
theorem run_va {K : Nat} (h : K < 6) (w : World) : (Instr.slice 9 (.string ⟨#[32, 95, 45, 44, 46, 39]⟩) (some (.int .i64 (K : Int))) (some (.int .i64 ((K : Int) + 1))) none).run Tryz.prog w = .ok (.string ⟨#[vaB K]⟩) w := by
 have := run_slice_string (P := Tryz.prog) w 9 ⟨#[32, 95, 45, 44, 46, 39]⟩ .i64 .i64 (K : Int) ((K : Int) + 1) Tryz.underlying9 (by omega) (by omega) (by show _ <= ((6 : Nat) : Int); omega)
 rw [this, ywz K h]
theorem sl_to (s : ByteArray) {p : Nat} (hp : p <= s.size) (w : World) : (Instr.slice 9 (.string s) none (some (.int .i64 (p : Int))) none).run Tryz.prog w = .ok (.string (s.extract 0 p)) w := by
 have h := run_slice_string_h (P := Tryz.prog) w 9 s Tryz.underlying9 .i64 (p : Int) (by omega) (by omega)
 rw [h]; rfl
theorem yxb (s : ByteArray) {p : Nat} (hp : p <= s.size) (w : World) : (Instr.slice 9 (.string s) (some (.int .i64 (p : Int))) none none).run Tryz.prog w = .ok (.string (s.extract p s.size)) w := by
 have h := run_slice_string_l (P := Tryz.prog) w 9 s Tryz.underlying9 .i64 (p : Int) (by omega) (by omega)
 rw [h]; rfl
theorem vaB_is : ∀ i, i < 6 -> (vaB i).toNat < 128 /\ (((vaB i).toNat : Nat) : Int) = vaS.getD i 0 := by decide
theorem yxc {s : ByteArray} (hs : s.data.toList.all letB8 = true) {p i : Nat} (hp : p <= s.size) (hi : i < 6) {V : ByteArray} (hV : V = ⟨#[vaB i]⟩) :
  T2.sgs (s.extract 0 p ++ V ++ s.extract p s.size).data.toList = ((s.data.toList.take p).map fun x => ((x.toNat : Nat) : Int)) ++ [vaS.getD i 0] ++ ((s.data.toList.drop p).map fun x => ((x.toNat : Nat) : Int)) /\ T2.sgs s.data.toList = ((s.data.toList.take p).map fun x => ((x.toNat : Nat) : Int)) ++ ((s.data.toList.drop p).map fun x => ((x.toNat : Nat) : Int)) := by
 have e : (s.extract 0 p ++ V ++ s.extract p s.size).data.toList = s.data.toList.take p ++ [vaB i] ++ s.data.toList.drop p := by
  subst hV
  have hl : s.data.toList.length = s.size := Array.length_toList
  have hl2 : s.data.size = s.size := rfl
  rw [ByteArray.data_append, ByteArray.data_append, ByteArray.data_extract, ByteArray.data_extract, Array.toList_append, Array.toList_append, Array.toList_extract, Array.toList_extract, List.extract_eq_take_drop, List.extract_eq_take_drop]; rw [List.drop_zero, Nat.sub_zero, List.take_of_length_le (l := s.data.toList.drop p) (by rw [List.length_drop, hl]; omega)]
 have ha := yyd hs; obtain ⟨v1, v2⟩ := vaB_is i hi
 constructor
 ·rw [e, yik]
  ·rw [List.map_append, List.map_append]
   show _ ++ [(((vaB i).toNat : Nat) : Int)] ++ _ = _
   rw [v2]
  ·rw [List.all_append, List.all_append, Bool.and_eq_true, Bool.and_eq_true]; refine ⟨⟨List.all_eq_true.2 fun c hc => List.all_eq_true.1 ha c (List.mem_of_mem_take hc), ?_⟩, List.all_eq_true.2 fun c hc => List.all_eq_true.1 ha c (List.mem_of_mem_drop hc)⟩
   rw [List.all_cons, List.all_nil, Bool.and_true]; exact decide_eq_true v1
 ·rw [yik ha, <- List.map_append, List.take_append_drop]
set_option maxHeartbeats 8000000 in
theorem yhc (s : ByteArray) (a0 k0 l0 : Int) (w : World) (hs : s.size <= reachBytes) :
  Calls Tryz.prog 3 #[.string s, .int .i64 a0, .int .i64 k0, .int .i64 l0] w fun e w' => e = .returned (.bool true) /\ Below w.heap.size w w' := by
 have hrb : reachBytes <= 1000000000000000 := by decide
 have HAW := zH ypb; obtain ⟨n, hn⟩ : ∃ n, s.size = n := ⟨_, rfl⟩; have HN := zH hn; rw [hn] at hs
 have hnl : s.data.toList.length = n := by rw [<- hn]; exact Array.length_toList
 have HNL := zH hnl
 have hnI : (n : Int) <= 1000000000000000 := by omega
 clear hn hnl hs hrb
 go_enter Tryz.func3, Tryz.ntmps3
 go_wp2
 go_loopw [9] (fun i wr => ∃ m : Nat, m <= n /\ i = .int .i64 (m : Nat) /\ Hid (∀ (j : Nat) (c : UInt8), j < m -> s.data.toList[j]? = some c -> letB8 c = true) /\ w = wr) (fun i _ => n - (intOf i).toNat)
 case atStart => exact ⟨0, Nat.zero_le _, rfl, fun j c hj => absurd hj (by omega), by first | rfl | trivial⟩
 case round =>
  obtain ⟨m, hm, rfl, HL, hwr⟩ := hrel
  replace hwr := hwr.symm
  subst hwr
  by_cases hlt : m < n
  ·have hltI : (m : Int) < (s.size : Int) := by rw [HN.out]; omega
   obtain ⟨c, hc⟩ : ∃ c, s.data.toList[m]? = some c := ⟨_, List.getElem?_eq_getElem (by rw [HNL.out]; exact hlt)⟩
   have hix := yxf s hc
   have hltN : (m : Int) < (n : Int) := by omega
   have h256 : c.toNat < 256 := c.toNat_lt
   by_cases h1 : c.toNat < 97
   ·have h1I : (c.toNat : Int) < 97 := by omega
    clear hlt hc
    go_wp2_with (go_at_call 13; refine (HAW.out _).mono ?_; rintro e wa ⟨rfl, hb⟩; have HBa := zH hb; clear hb)
    go_ret
    exact ⟨rfl, HBa.out⟩
   ·have h1I : ¬ (c.toNat : Int) < 97 := by omega
    by_cases h2 : 122 < c.toNat
    ·have h2I : (122 : Int) < (c.toNat : Int) := by omega
     clear hlt hc
     go_wp2_with (go_at_call 13; refine (HAW.out _).mono ?_; rintro e wa ⟨rfl, hb⟩; have HBa := zH hb; clear hb)
     go_ret
     exact ⟨rfl, HBa.out⟩
    ·have h2I : ¬ (122 : Int) < (c.toNat : Int) := by omega
     have HL2 : Hid (∀ (j : Nat) (c : UInt8), j < m + 1 -> s.data.toList[j]? = some c -> letB8 c = true) := fun j d hj hd => by
      by_cases e : j = m
      ·subst e; rw [hc] at hd; injection hd with hd; subst hd; unfold letB8; rw [Bool.and_eq_true, decide_eq_true_eq, decide_eq_true_eq]; omega
      ·exact HL.out j d (by omega) hd
     clear hlt hc
     go_wp2
     go_roundw
     case rel => exact ⟨m + 1, by omega, by go_num, HL2.out, by first | rfl | trivial⟩
     case measure => simp [intOf] <;> omega
  ·have hltI : ¬ (m : Int) < (s.size : Int) := by rw [HN.out]; omega
   have hall : s.data.toList.all letB8 = true := yrr fun j c hc => HL.out j c (by have := (List.getElem?_eq_some_iff.1 hc).1; rw [HNL.out] at this; omega) hc
   have HALL := zH hall; clear hall HL
   by_cases hl : n <= 100
   ·have hlI : ¬ (100 : Int) < (s.size : Int) := by rw [HN.out]; omega
    obtain ⟨N, hN⟩ : ∃ N : Int, (n : Int) + 1 = N := ⟨_, rfl⟩
    have r1 : IntKind.i64.wrap ((s.size : Int) + 1) = N := by rw [HN.out, IntWalk.i64_in _ (by omega)]; exact hN
    obtain ⟨q, hq⟩ : ∃ q, a0.tmod N = q := ⟨_, rfl⟩
    have hq1 : -N < q /\ q < N := by rw [<- hq]; constructor <;> have := Int.natAbs_tmod a0 N <;> have := Nat.mod_lt a0.natAbs (y := N.natAbs) (by omega) <;> omega
    have r2 : IntKind.i64.wrap (q + (s.size : Int)) = q + (n : Int) := by rw [HN.out, IntWalk.i64_in _ (by omega)]
    have r3 : IntKind.i64.wrap (q + (n : Int) + 1) = q + N := by rw [IntWalk.i64_in _ (by omega)]; omega
    have w1' : wrap64 ((s.size : Int) + 1) = N := by rw [HN.out]; unfold wrap64; omega
    have w2' : wrap64 (q + (s.size : Int)) = q + (n : Int) := by rw [HN.out]; unfold wrap64; omega
    have w3' : wrap64 (q + (n : Int) + 1) = q + N := by unfold wrap64; omega
    obtain ⟨p, hp, hpn⟩ : ∃ p : Nat, (q + N).tmod N = (p : Int) /\ p <= n := ⟨((q + N).tmod N).toNat, by have := Int.tmod_nonneg N (a := q + N) (by omega); omega, by have := Int.tmod_lt_of_pos (q + N) (b := N) (by omega); have := Int.tmod_nonneg N (a := q + N) (by omega); omega⟩
    have rq : IntKind.i64.wrap q = q := IntWalk.i64_in _ (by omega)
    have rp : IntKind.i64.wrap (p : Int) = (p : Int) := IntWalk.i64_in _ (by omega)
    have hN0 : (N == 0) = false := by rw [beq_eq_false_iff_ne]; omega
    have hNn : N ≠ 0 := by omega
    obtain ⟨k16, hk16⟩ : ∃ q : Nat, (q : Int) = k0 % 65536 := ⟨(k0 % 65536).toNat, by omega⟩
    have handk := and16 k0; rw [<- hk16] at handk; obtain ⟨K, hK⟩ : ∃ k, k16 % 6 = k := ⟨_, rfl⟩
    have hremk : (k16 : Int).tmod 6 = (K : Int) := by rw [Int.tmod_eq_emod_of_nonneg (by omega)]; omega
    have hwk : IntKind.i64.wrap ((K : Int) + 1) = (K : Int) + 1 := by rw [IntWalk.i64_in _ (by omega)]
    obtain ⟨l16, hl16⟩ : ∃ q : Nat, (q : Int) = l0 % 65536 := ⟨(l0 % 65536).toNat, by omega⟩
    have handl := and16 l0; rw [<- hl16] at handl; obtain ⟨J, hJ⟩ : ∃ k, l16 % 3 = k := ⟨_, rfl⟩
    have hreml : (l16 : Int).tmod 3 = (J : Int) := by rw [Int.tmod_eq_emod_of_nonneg (by omega)]; omega
    have hwl : IntKind.i64.wrap ((J : Int) + 1) = (J : Int) + 1 := by rw [IntWalk.i64_in _ (by omega)]
    have hK6 : K < 6 := by omega
    have hva := run_va hK6; obtain ⟨V, hV⟩ : ∃ V, (⟨#[vaB K]⟩ : ByteArray) = V := ⟨_, rfl⟩; rw [hV] at hva; have HV := zH hV; obtain ⟨L1, hL1⟩ : ∃ L1, J + 1 = L1 := ⟨_, rfl⟩
    have hl1 : 1 <= L1 := by omega
    have hl3 : L1 <= 3 := by omega
    have hLI : (J : Int) + 1 = (L1 : Int) := by omega
    rw [hLI] at hwl
    have w4' : wrap64 ((K : Int) + 1) = (K : Int) + 1 := by unfold wrap64; omega
    have w5' : wrap64 ((J : Int) + 1) = (L1 : Int) := by unfold wrap64; omega
    have hpI : (p : Int) <= (s.size : Int) := by rw [HN.out]; omega
    have hp0 : (0 : Int) <= (p : Int) := by omega
    have HP := zH hpn; have HK := zH hK6; have HL13 := zH (And.intro hl1 hl3); clear hV hK hJ hL1 hN hlt hK6 hl1 hl3 hLI hk16 hl16; have sA := fun w => sl_to s (p := p) (by rw [HN.out]; exact hpn) w
    have sB := fun w => yxb s (p := p) (by rw [HN.out]; exact hpn) w
    obtain ⟨t1, t2⟩ := yxc HALL.out (p := p) (i := K) (by rw [HN.out]; exact hpn) HK.out HV.out.symm
    have hdl : (s.data.toList.drop p).map (fun x => ((x.toNat : Nat) : Int)) = [] ↔ p = n := by rw [List.map_eq_nil_iff, List.drop_eq_nil_iff, HNL.out]; omega
    have hqs : ((s.data.toList.drop p).map (fun x => ((x.toNat : Nat) : Int))).all letS = true := yvh (List.all_eq_true.2 fun c hc => List.all_eq_true.1 HALL.out c (List.mem_of_mem_drop hc))
    obtain ⟨X, hX⟩ : ∃ X, (s.data.toList.take p).map (fun x => ((x.toNat : Nat) : Int)) = X := ⟨_, rfl⟩
    obtain ⟨Y, hY⟩ : ∃ X, (s.data.toList.drop p).map (fun x => ((x.toNat : Nat) : Int)) = X := ⟨_, rfl⟩
    rw [hX, hY] at t1 t2; rw [hY] at hdl hqs; obtain ⟨A, hA⟩ : ∃ A, s.extract 0 p = A := ⟨_, rfl⟩; obtain ⟨B, hB⟩ : ∃ A, s.extract p s.size = A := ⟨_, rfl⟩; rw [hA] at sA t1; rw [hB] at sB t1
    have hAV : A.size <= 100 := by rw [<- hA]; simp [ByteArray.size_extract]; have := HN.out; omega
    have hBV : B.size <= 100 := by rw [<- hB]; simp [ByteArray.size_extract]; have := HN.out; omega
    have hVV : V.size = 1 := by rw [<- HV.out]; rfl
    have hT1 : (A ++ V).size <= 101 := by rw [ByteArray.size_append]; omega
    have hT2 : (A ++ V ++ B).size <= 201 := by rw [ByteArray.size_append]; omega
    have hs1 : A.size + V.size <= 9223372036854775807 := by omega
    have hs3 : (A ++ V).size + B.size <= 9223372036854775807 := by omega
    have hs4 : A.size + V.size + B.size <= 9223372036854775807 := by omega
    have HQ1 : Hid (¬ 9223372036854775807 < A.size + V.size) := by show ¬ _; omega
    have HQ2 : Hid (¬ 9223372036854775807 < (A ++ V).size + B.size) := by show ¬ _; omega
    have HQ3 : Hid (¬ 9223372036854775807 < A.size + V.size + B.size) := by show ¬ _; omega
    clear hs1 hs3 hs4; obtain ⟨Z, hZ⟩ : ∃ Z, A ++ V ++ B = Z := ⟨_, rfl⟩; rw [hZ] at t1 hT2
    have cA : colK (.table L1 true false rootP) s.data.toList Z.data.toList = 0 := by rw [yfd, t1, t2]; exact ywy HK.out X Y L1
    have cB : colK (.table L1 false false rootP) Z.data.toList s.data.toList = if p = n then 1 else -1 := by rw [yfd, t1, t2, ytl HK.out HL13.out.1 X Y hqs]; simp only [hdl]
    have hv1 : T2.sgs V.data.toList = [vaS.getD K 0] := by rw [<- HV.out, yik (by show (decide _ && true) = true; rw [Bool.and_true]; exact decide_eq_true (vaB_is K HK.out).1)]; show [_] = _; exact congrArg (fun z => [z]) (vaB_is K HK.out).2
    have cC : colK (.table L1 false false rootP) V.data.toList (⟨#[48]⟩ : ByteArray).data.toList = -1 := by rw [yfd, hv1, show T2.sgs (⟨#[48]⟩ : ByteArray).data.toList = [48] by decide +kernel]; exact ytk HK.out HL13.out.1
    obtain ⟨R, hR⟩ : ∃ R, rootP = R := ⟨_, rfl⟩; rw [hR] at cA cB cC
    have hs2 : s.size <= 100000 := by rw [HN.out]; omega
    have CA : Hid (∀ (w1 : World) (v : Value), ColAt w1 v (.table L1 true false R) -> Calls Tryz.prog 15 #[v, .string s, .string Z] w1 fun e w' => e = .returned (.int .i64 0) /\ Below w1.heap.size w1 w') := fun w1 v h => ydw h hs2 (by omega) cA
    have CB : Hid (∀ (w1 : World) (v : Value), ColAt w1 v (.table L1 false false R) -> Calls Tryz.prog 15 #[v, .string Z, .string s] w1 fun e w' => e = .returned (.int .i64 (if p = n then 1 else -1)) /\ Below w1.heap.size w1 w') := fun w1 v h => ydw h (by omega) hs2 cB
    have CC : Hid (∀ (w1 : World) (v : Value), ColAt w1 v (.table L1 false false R) -> Calls Tryz.prog 15 #[v, .string V, .string ⟨#[48]⟩] w1 fun e w' => e = .returned (.int .i64 (-1)) /\ Below w1.heap.size w1 w') := fun w1 v h => ydw h (by omega) (by decide) cC
    have CR1 := zH (fun w => yjl L1 HL13.out.1 HL13.out.2 true false w)
    have CR2 := zH (fun w => yjl L1 HL13.out.1 HL13.out.2 false false w)
    rw [hR] at CR1 CR2; have HZ := zH hZ
    have hlII : ¬ (100 : Int) < (s.size : Int) := hlI
    clear hA hB hX hY t1 t2 hdl hqs cA cB cC hv1 hR hZ hT2 hs2 hAV hBV hVV hT1
    go_upto_region 10 with (fail)
    refine yaj (m := 9) [57, 58, 59, 60, 61, 62, 63, 64, 65] [SV.eq (.string s), SV.eq (.int .i64 (p : Int)), SV.eq (.string A), SV.eq (.string V), SV.eq (.string (A ++ V)), SV.eq (.string s), SV.eq (.int .i64 (p : Int)), SV.eq (.string B), SV.eq (.string Z)] (by kernel_rfl) (by kernel_rfl) ?_ ?_
    ·refine ⟨⟨⟨⟨⟨⟨⟨⟨⟨trivial, ?_⟩, ?_⟩, ?_⟩, ?_⟩, ?_⟩, ?_⟩, ?_⟩, ?_⟩, ?_⟩
     all_goals (refine OpIs.mk rfl ?_; intro vs w1 hb hd K hK; simp only [frameV, zS, zA, zB, zC, zD] at hK |-)
     iterate 2 (·have HK := zH hK; clear hK; go_simp; exact HK.out _ _ rfl (zR _ _))
     ·have d0 : vs 0 = .string s := hd 0 (by kernel_rfl)
      have d1 : vs 1 = .int .i64 (p : Int) := hd 1 (by kernel_rfl)
      simp only [d0, d1] at hK |-; have HK := zH hK; clear hK; go_simp; exact HK.out _ _ rfl (zR _ _)
     ·have HK := zH hK; clear hK; go_simp; exact HK.out _ _ rfl (zR _ _)
     ·have d2 : vs 2 = .string A := hd 2 (by kernel_rfl)
      have d3 : vs 3 = .string V := hd 3 (by kernel_rfl)
      simp only [d2, d3] at hK |-; have HK := zH hK; clear hK; go_simp; rw [if_neg HQ1.out]; exact HK.out _ _ rfl (zR _ _)
     iterate 2 (·have HK := zH hK; clear hK; go_simp; exact HK.out _ _ rfl (zR _ _))
     ·have d5 : vs 5 = .string s := hd 5 (by kernel_rfl)
      have d6 : vs 6 = .int .i64 (p : Int) := hd 6 (by kernel_rfl)
      simp only [d5, d6] at hK |-; have HK := zH hK; clear hK; go_simp; exact HK.out _ _ rfl (zR _ _)
     ·have d4 : vs 4 = .string (A ++ V) := hd 4 (by kernel_rfl)
      have d7 : vs 7 = .string B := hd 7 (by kernel_rfl)
      simp only [d4, d7] at hK |-; have HK := zH hK; clear hK; go_simp
      first | rw [if_neg HQ2.out] | rw [if_neg HQ3.out]
      rw [HZ.out]; exact HK.out _ _ rfl (zR _ _)
    ·intro vs w5 hb hd
     have d8 : vs 8 = .string Z := hd 8 (by omega)
     have HB5 := zH hb; simp only [frameV, zS, zA, zB, List.drop_succ_cons, List.drop_zero, d8]; clear hb hd d8
     go_upto_region 13 with (first
      | (go_at_call 14; (with_reducible refine (CR1.out _).mono ?_); rintro e w6 ⟨⟨p1, rfl, hc⟩, hb⟩; have HC6 := zH hc; have HB6 := zH (HB5.out.trans (hb.mono HB5.out.size)); clear hc hb)
      | (go_at_call 14; (with_reducible refine (CR2.out _).mono ?_); rintro e w7 ⟨⟨p2, rfl, hc⟩, hb⟩; have HC7 := zH (HC6.out.below hb (zN _)); have HD7 := zH hc; have HB7 := zH (HB6.out.trans (hb.mono HB6.out.size)); clear hc hb))
     have hba := belAlloc w7 (.cells #[.int .i64 3, .int .i64 (L1 : Int), .bool true, .bool false, .pointer (some ⟨p1, 0, none⟩)] 25); have hbb := belAlloc (w7.alloc (.cells #[.int .i64 3, .int .i64 (L1 : Int), .bool true, .bool false, .pointer (some ⟨p1, 0, none⟩)] 25)) (.cells #[.int .i64 3, .int .i64 (L1 : Int), .bool false, .bool false, .pointer (some ⟨p2, 0, none⟩)] 25); have hbc := hba.trans (hbb.mono hba.size); have HX := zH ((hbb.block w7.heap.size (by simp)).trans (heap_alloc_new w7 (.cells #[.int .i64 3, .int .i64 (L1 : Int), .bool true, .bool false, .pointer (some ⟨p1, 0, none⟩)] 25)))
     have hy := heap_alloc_new (w7.alloc (.cells #[.int .i64 3, .int .i64 (L1 : Int), .bool true, .bool false, .pointer (some ⟨p1, 0, none⟩)] 25)) (.cells #[.int .i64 3, .int .i64 (L1 : Int), .bool false, .bool false, .pointer (some ⟨p2, 0, none⟩)] 25); rw [World.size_alloc] at hy; have HY := zH hy; have HCA := zH (HC7.out.below hbc (zN _)); have HDA := zH (HD7.out.below hbc (zN _)); have HBZ := zH (HB7.out.trans (hbc.mono HB7.out.size)); clear hba hbb hbc hy HC6 HB5 HB6 HC7 HD7 HB7 CR1 CR2; generalize ((w7.alloc (.cells #[.int .i64 3, .int .i64 (L1 : Int), .bool true, .bool false, .pointer (some ⟨p1, 0, none⟩)] 25)).alloc (.cells #[.int .i64 3, .int .i64 (L1 : Int), .bool false, .bool false, .pointer (some ⟨p2, 0, none⟩)] 25)) = wz at HX HY HCA HDA HBZ |-; obtain ⟨bx, hbx⟩ : ∃ b, w7.heap.size = b := ⟨_, rfl⟩; rw [hbx] at HX HY |-; clear hbx; obtain ⟨cx, hcx⟩ : ∃ b, bx + 1 = b := ⟨_, rfl⟩; rw [hcx] at HY |-; clear hcx
     by_cases hpe : p = n
     ·rw [if_pos hpe] at CB
      have e1 : ((p : Int) == (s.size : Int)) = true := by rw [HN.out, beq_iff_eq]; omega
      clear hpe; have x0 := cellAt (i := 0) (v := .int .i64 3) HX.out rfl; have x1 := cellAt (i := 1) (v := .int .i64 (L1 : Int)) HX.out rfl; have x2 := cellAt (i := 2) (v := .bool true) HX.out rfl; have x3 := cellAt (i := 3) (v := .bool false) HX.out rfl; have x4 := cellAt (i := 4) (v := .pointer (some ⟨p1, 0, none⟩)) HX.out rfl; have HE := HDA
      go_wp2_with (first
       | (go_at_call 15; (with_reducible refine (CA.out _ _ HCA.out).mono ?_); rintro e v1 ⟨rfl, hb⟩; have HX1 := zH ((hb.block bx (R4.yad HX.out)).trans HX.out); have HY1 := zH ((hb.block cx (R4.yad HY.out)).trans HY.out); have HE1 := zH (HE.out.below hb (zN _)); have HBZ1 := zH (HBZ.out.trans (hb.mono HBZ.out.size)); clear hb x0 x1 x2 x3 x4; have y0 := cellAt (i := 0) (v := .int .i64 3) HY1.out rfl; have y1 := cellAt (i := 1) (v := .int .i64 (L1 : Int)) HY1.out rfl; have y2 := cellAt (i := 2) (v := .bool false) HY1.out rfl; have y3 := cellAt (i := 3) (v := .bool false) HY1.out rfl; have y4 := cellAt (i := 4) (v := .pointer (some ⟨p2, 0, none⟩)) HY1.out rfl)
       | (go_at_call 15; (with_reducible refine (CB.out _ _ HE1.out).mono ?_); rintro e v2 ⟨rfl, hb⟩; have HX2 := zH ((hb.block bx (R4.yad HX1.out)).trans HX1.out); have HY2 := zH ((hb.block cx (R4.yad HY1.out)).trans HY1.out); have HE2 := zH (HE1.out.below hb (zN _)); have HBZ2 := zH (HBZ1.out.trans (hb.mono HBZ1.out.size)); clear hb y0 y1 y2 y3 y4; have y0 := cellAt (i := 0) (v := .int .i64 3) HY2.out rfl; have y1 := cellAt (i := 1) (v := .int .i64 (L1 : Int)) HY2.out rfl; have y2 := cellAt (i := 2) (v := .bool false) HY2.out rfl; have y3 := cellAt (i := 3) (v := .bool false) HY2.out rfl; have y4 := cellAt (i := 4) (v := .pointer (some ⟨p2, 0, none⟩)) HY2.out rfl)
       | (go_at_call 15; (with_reducible refine (CC.out _ _ HE2.out).mono ?_); rintro e v3 ⟨rfl, hb⟩; have HX3 := zH ((hb.block bx (R4.yad HX2.out)).trans HX2.out); have HY3 := zH ((hb.block cx (R4.yad HY2.out)).trans HY2.out); have HE3 := zH (HE2.out.below hb (zN _)); have HBZ3 := zH (HBZ2.out.trans (hb.mono HBZ2.out.size)); clear hb y0 y1 y2 y3 y4; have y0 := cellAt (i := 0) (v := .int .i64 3) HY3.out rfl; have y1 := cellAt (i := 1) (v := .int .i64 (L1 : Int)) HY3.out rfl; have y2 := cellAt (i := 2) (v := .bool false) HY3.out rfl; have y3 := cellAt (i := 3) (v := .bool false) HY3.out rfl; have y4 := cellAt (i := 4) (v := .pointer (some ⟨p2, 0, none⟩)) HY3.out rfl)
       | (go_at_call 13; refine (HAW.out _).mono ?_; rintro e wa ⟨rfl, hb⟩; have HBa := zH (HBZ3.out.trans (hb.mono HBZ3.out.size)); clear hb))
      go_ret
      exact ⟨rfl, HBa.out⟩
     ·rw [if_neg hpe] at CB
      have e1 : ((p : Int) == (s.size : Int)) = false := by rw [HN.out, beq_eq_false_iff_ne]; omega
      clear hpe; have x0 := cellAt (i := 0) (v := .int .i64 3) HX.out rfl; have x1 := cellAt (i := 1) (v := .int .i64 (L1 : Int)) HX.out rfl; have x2 := cellAt (i := 2) (v := .bool true) HX.out rfl; have x3 := cellAt (i := 3) (v := .bool false) HX.out rfl; have x4 := cellAt (i := 4) (v := .pointer (some ⟨p1, 0, none⟩)) HX.out rfl; have HE := HDA
      go_wp2_with (first
       | (go_at_call 15; (with_reducible refine (CA.out _ _ HCA.out).mono ?_); rintro e v1 ⟨rfl, hb⟩; have HX1 := zH ((hb.block bx (R4.yad HX.out)).trans HX.out); have HY1 := zH ((hb.block cx (R4.yad HY.out)).trans HY.out); have HE1 := zH (HE.out.below hb (zN _)); have HBZ1 := zH (HBZ.out.trans (hb.mono HBZ.out.size)); clear hb x0 x1 x2 x3 x4; have y0 := cellAt (i := 0) (v := .int .i64 3) HY1.out rfl; have y1 := cellAt (i := 1) (v := .int .i64 (L1 : Int)) HY1.out rfl; have y2 := cellAt (i := 2) (v := .bool false) HY1.out rfl; have y3 := cellAt (i := 3) (v := .bool false) HY1.out rfl; have y4 := cellAt (i := 4) (v := .pointer (some ⟨p2, 0, none⟩)) HY1.out rfl)
       | (go_at_call 15; (with_reducible refine (CB.out _ _ HE1.out).mono ?_); rintro e v2 ⟨rfl, hb⟩; have HX2 := zH ((hb.block bx (R4.yad HX1.out)).trans HX1.out); have HY2 := zH ((hb.block cx (R4.yad HY1.out)).trans HY1.out); have HE2 := zH (HE1.out.below hb (zN _)); have HBZ2 := zH (HBZ1.out.trans (hb.mono HBZ1.out.size)); clear hb y0 y1 y2 y3 y4; have y0 := cellAt (i := 0) (v := .int .i64 3) HY2.out rfl; have y1 := cellAt (i := 1) (v := .int .i64 (L1 : Int)) HY2.out rfl; have y2 := cellAt (i := 2) (v := .bool false) HY2.out rfl; have y3 := cellAt (i := 3) (v := .bool false) HY2.out rfl; have y4 := cellAt (i := 4) (v := .pointer (some ⟨p2, 0, none⟩)) HY2.out rfl)
       | (go_at_call 15; (with_reducible refine (CC.out _ _ HE2.out).mono ?_); rintro e v3 ⟨rfl, hb⟩; have HX3 := zH ((hb.block bx (R4.yad HX2.out)).trans HX2.out); have HY3 := zH ((hb.block cx (R4.yad HY2.out)).trans HY2.out); have HE3 := zH (HE2.out.below hb (zN _)); have HBZ3 := zH (HBZ2.out.trans (hb.mono HBZ2.out.size)); clear hb y0 y1 y2 y3 y4; have y0 := cellAt (i := 0) (v := .int .i64 3) HY3.out rfl; have y1 := cellAt (i := 1) (v := .int .i64 (L1 : Int)) HY3.out rfl; have y2 := cellAt (i := 2) (v := .bool false) HY3.out rfl; have y3 := cellAt (i := 3) (v := .bool false) HY3.out rfl; have y4 := cellAt (i := 4) (v := .pointer (some ⟨p2, 0, none⟩)) HY3.out rfl)
       | (go_at_call 13; refine (HAW.out _).mono ?_; rintro e wa ⟨rfl, hb⟩; have HBa := zH (HBZ3.out.trans (hb.mono HBZ3.out.size)); clear hb))
      go_ret
      exact ⟨rfl, HBa.out⟩
   ·have hlI : (100 : Int) < (s.size : Int) := by rw [HN.out]; omega
    clear hlt hl
    go_wp2_with (go_at_call 13; refine (HAW.out _).mono ?_; rintro e wa ⟨rfl, hb⟩; have HBa := zH hb; clear hb)
    go_ret
    exact ⟨rfl, HBa.out⟩
end Go.Proofs.YteibnfeokgibmaaGreat
