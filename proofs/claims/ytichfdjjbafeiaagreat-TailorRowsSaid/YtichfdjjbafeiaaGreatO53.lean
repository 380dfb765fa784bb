/-
  PACKED for a claim.
-/
import Derived.Test.YtichfdjjbafeiaaGreatO52
set_option linter.unusedVariables false
set_option linter.unusedSimpArgs false
set_option maxRecDepth 100000
namespace Go.Proofs.YtichfdjjbafeiaaGreat
open S6 (parse parD relD seqD expD af blk endd wrd wr1 mk)
def trX (K : Nat -> Nat) (i : Nat) : List UInt8 := 32 :: (mk (K i + 1) ++ [32, UInt8.ofNat (49 + i)])
def trT (K : Nat -> Nat) : Nat -> Nat -> List UInt8
 | i, 0 => []
 | i, m + 1 => trX K i ++ trT K (i + 1) m
theorem yly (K : Nat -> Nat) : ∀ (m i : Nat), trT K i (m + 1) = trT K i m ++ trX K (i + m)
 | 0, i => by
  show trX K i ++ [] = [] ++ trX K (i + 0)
  simp
 | m + 1, i => by
  show trX K i ++ trT K (i + 1) (m + 1) = (trX K i ++ trT K (i + 1) m) ++ _
  rw [yly K m (i + 1), List.append_assoc, show i + 1 + m = i + (m + 1) by omega]
theorem ykz {k : Nat} (h1 : 1 <= k) (h4 : k <= 4) : (k = 1 /\ mk (k + 1) = [60]) \/ (k = 2 /\ mk (k + 1) = [60, 60]) \/ (k = 3 /\ mk (k + 1) = [60, 60, 60]) \/ (k = 4 /\ mk (k + 1) = [61]) := by
 have : k = 1 \/ k = 2 \/ k = 3 \/ k = 4 := by omega
 rcases this with rfl | rfl | rfl | rfl
 ·exact .inl ⟨rfl, rfl⟩
 ·exact .inr (.inl ⟨rfl, rfl⟩)
 ·exact .inr (.inr (.inl ⟨rfl, rfl⟩))
 ·exact .inr (.inr (.inr ⟨rfl, rfl⟩))
theorem rel_mk {k : Nat} (h1 : 1 <= k) (h4 : k <= 4) (R : List UInt8) : relD (mk (k + 1) ++ 32 :: R) = (k + 1, (mk (k + 1)).length) := by
 rcases ykz h1 h4 with ⟨rfl, h⟩ | ⟨rfl, h⟩ | ⟨rfl, h⟩ | ⟨rfl, h⟩ <;>
 ·rw [h]; unfold relD S6.lts; simp only [List.cons_append, List.nil_append, T2.yag, T2.ybj]
  rfl
theorem yjj {k : Nat} (h1 : 1 <= k) (h4 : k <= 4) : ∃ x t, mk (k + 1) = x :: t /\ (x = 60 \/ x = 61) := by
 rcases ykz h1 h4 with ⟨rfl, h⟩ | ⟨rfl, h⟩ | ⟨rfl, h⟩ | ⟨rfl, h⟩ <;> exact ⟨_, _, h, by decide⟩
theorem yym : ∀ i, i < 8 -> wrd [((49 + i : Nat) : Int)] = [UInt8.ofNat (49 + i)] /\ T2.isPt ((49 + i : Nat) : Int) = true := by decide +kernel
theorem yyr (l : List UInt8) : blk (l.drop (blk l)) = 0 := by
 induction l with
 | nil => rfl
 | cons x t ih =>
  rw [blk]
  split
  ·rw [List.drop_succ_cons]; exact ih
  ·rw [List.drop_zero, blk, if_neg (by assumption)]
theorem af_af (L : List UInt8) (k : Nat) : af L (af L k) = af L k := by
 show af L k + blk (L.drop (af L k)) = af L k
 have : L.drop (af L k) = (L.drop k).drop (blk (L.drop k)) := by rw [List.drop_drop]; rfl
 rw [this, yyr, Nat.add_zero]
theorem ylz (K : Nat -> Nat) (i m : Nat) : endd (trT K i m) = true := by
 cases m with
 | zero => rfl
 | succ m =>
  show endd (32 :: _) = true
  rw [S6.ysi]; rfl
theorem trT_af {L : List UInt8} {k : Nat} {K : Nat -> Nat} (hK : ∀ j, 1 <= K j /\ K j <= 4) {i m : Nat} (h : L.drop k = trT K i m) : T2.gb L (af L k) ≠ 47 := by
 cases m with
 | zero =>
  have hd : L.drop k = [] := h
  have hl : L.length <= k := by
   have := congrArg List.length hd
   rw [List.length_drop] at this; simp only [List.length_nil] at this
   omega
  rw [S6.ylo hl, S6.gb_out hl]; decide
 | succ m =>
  obtain ⟨x, t, hm, hx⟩ := yjj (hK i).1 (hK i).2
  have hd : L.drop k = 32 :: (x :: (t ++ [32, UInt8.ofNat (49 + i)] ++ trT K (i + 1) m)) := by
   rw [h]
   show 32 :: (mk (K i + 1) ++ [32, UInt8.ofNat (49 + i)]) ++ trT K (i + 1) m = _
   rw [hm]; simp
  have ha : af L k = k + 1 := by
   unfold af; rw [hd, S6.yln, S6.yfo (by rw [T2.yag]; rcases hx with rfl | rfl <;> rfl)]
  have hg := S6.ygj L k 1; rw [hd, T2.ybj, T2.yag] at hg; rw [ha, <- hg]
  rcases hx with rfl | rfl <;> decide
theorem tr_par {L : List UInt8} {K : Nat -> Nat} (hK : ∀ j, 1 <= K j /\ K j <= 4) : ∀ (m i f k : Nat) (out : List S6.RV), i + m <= 8 -> m + 1 <= f -> 1 <= out.length -> out.length + m <= 40 -> L.drop k = trT K i m -> k <= L.length →
  parD L f out (af L k) = (out ++ trRow K i m, 0, 0)
 | 0, i, f, k, out, hi, hf, h1, h40, hd, hk => by
  obtain ⟨f, rfl⟩ : ∃ g, f = g + 1 := ⟨f - 1, by omega⟩
  have hd : L.drop k = [] := hd
  have hl : L.length <= k := by
   have := congrArg List.length hd
   rw [List.length_drop] at this; simp only [List.length_nil] at this
   omega
  rw [S6.ylo hl, parD, if_pos hl, if_neg (by omega)]
  show _ = (out ++ [], 0, 0)
  rw [List.append_nil]
 | m + 1, i, f, k, out, hi, hf, h1, h40, hd, hk => by
  obtain ⟨f, rfl⟩ : ∃ g, f = g + 1 := ⟨f - 1, by omega⟩
  obtain ⟨x, t, hm, hx⟩ := yjj (hK i).1 (hK i).2
  have hd0 : L.drop k = [32] ++ (mk (K i + 1) ++ 32 :: ([UInt8.ofNat (49 + i)] ++ trT K (i + 1) m)) := by
   rw [hd]
   show 32 :: (mk (K i + 1) ++ [32, UInt8.ofNat (49 + i)]) ++ trT K (i + 1) m = _
   simp
  have ha : af L k = k + 1 := by
   unfold af; rw [hd0, List.singleton_append, S6.yln, S6.yfo (by rw [hm, List.cons_append, T2.yag]; rcases hx with rfl | rfl <;> rfl)]
  have hd1 : L.drop (k + 1) = mk (K i + 1) ++ 32 :: ([UInt8.ofNat (49 + i)] ++ trT K (i + 1) m) := S6.ybh (X := [32]) hd0
  have hlt : ¬ L.length <= k + 1 := by
   have := congrArg List.length hd1
   rw [List.length_drop, List.length_append, List.length_cons] at this
   omega
  have hr := rel_mk (hK i).1 (hK i).2 ([UInt8.ofNat (49 + i)] ++ trT K (i + 1) m); rw [<- hd1] at hr; obtain ⟨q, hq⟩ : ∃ q, (mk (K i + 1)).length = q := ⟨_, rfl⟩
  have hd2 : L.drop (k + 1 + q) = 32 :: ([UInt8.ofNat (49 + i)] ++ trT K (i + 1) m) := by rw [<- hq]; exact S6.ybh hd1
  rw [hq] at hr; obtain ⟨w1, w2⟩ := yym i (by omega)
  have hs := S6.ymd (L := L) (k := k + 1 + q) (R := trT K (i + 1) m) (ylz K (i + 1) m) (l := [((49 + i : Nat) : Int)]) (by simp) (by simp) (by simp only [List.all_cons, List.all_nil, Bool.and_true]; exact w2) (by rw [hd2, w1])
  rw [w1] at hs; obtain ⟨k2, hk2⟩ : ∃ k2, k + 1 + q + 1 + [UInt8.ofNat (49 + i)].length = k2 := ⟨_, rfl⟩; rw [hk2] at hs
  have hd3 : L.drop k2 = trT K (i + 1) m := by
   have h3 : L.drop (k + 1 + q + 1) = [UInt8.ofNat (49 + i)] ++ trT K (i + 1) m := S6.ybh (X := [32]) hd2
   rw [<- hk2]; exact S6.ybh h3
  have hk2l : k2 <= L.length := by
   have := congrArg List.length hd2
   rw [List.length_drop] at this; simp only [List.length_cons, List.length_append, List.length_nil] at this hk2
   omega
  have he : ∀ r, expD L r k2 = (true, [], af L k2) := fun r => by
   unfold expD; rw [if_neg (fun h => trT_af hK hd3 h.2)]
  rw [ha, parD, if_neg hlt, hr]; simp only [hs, he]; rw [if_neg (fun h => by (try dsimp only at h); omega), if_neg (by simp), if_neg (by simp), af_af]
  rw [tr_par hK m (i + 1) f k2 _ (by omega) (by omega) (by simp) (by simp; omega) hd3 hk2l, List.append_assoc]
  rfl
def trTx (K : Nat -> Nat) (n : Nat) : List UInt8 := [38, 32, 109] ++ trT K 0 n
theorem ypo (K : Nat -> Nat) (n : Nat) : trTx K (n + 1) = trTx K n ++ trX K n := by
 unfold trTx; rw [yly, Nat.zero_add, List.append_assoc]
theorem ytj {K : Nat -> Nat} (hK : ∀ j, 1 <= K j /\ K j <= 4) {n : Nat} (hn : n <= 8) : parse (trTx K n) = (trL K n, 0, 0) := by
 obtain ⟨L, hL⟩ : ∃ L, trTx K n = L := ⟨_, rfl⟩; rw [hL]
 have h0 : L.drop 0 = [38] ++ (32 :: ([109] ++ trT K 0 n)) := by rw [<- hL, List.drop_zero]; rfl
 have h1 : L.drop 1 = 32 :: ([109] ++ trT K 0 n) := S6.ybh (X := [38]) h0
 have hw : wrd [(109 : Int)] = [109] := by decide +kernel
 have hp : T2.isPt 109 = true := by decide
 have hs := S6.ymd (L := L) (k := 1) (R := trT K 0 n) (ylz K 0 n) (l := [109]) (by simp) (by simp) (by simp only [List.all_cons, List.all_nil, Bool.and_true]; exact hp) (by rw [h1, hw])
 rw [hw] at hs
 have hs : seqD L 1 = (true, [109], 3) := hs
 have h3 : L.drop 3 = trT K 0 n := by
  have h2 : L.drop 2 = [109] ++ trT K 0 n := S6.ybh (X := [32]) h1
  exact S6.ybh h2
 have hl : L.length = 3 + (trT K 0 n).length := by rw [<- hL]; unfold trTx; simp; omega
 have hn2 : ∀ m i, m <= (trT K i m).length := by
  intro m
  induction m with
  | zero => intro i; exact Nat.zero_le _
  | succ m ih =>
   intro i
   show m + 1 <= (trX K i ++ trT K (i + 1) m).length
   have := ih (i + 1)
   rw [List.length_append]
   show m + 1 <= (32 :: (mk (K i + 1) ++ [32, UInt8.ofNat (49 + i)])).length + _
   rw [List.length_cons]
   omega
 have hn3 := hn2 n 0
 have a0 : af L 0 = 0 := by unfold af; rw [h0]; exact congrArg _ (S6.yfo (by rw [List.cons_append, T2.yag]; rfl))
 have r0 : relD (L.drop 0) = (1, 1) := by rw [h0]; unfold relD; rw [List.cons_append, T2.yag]; rfl
 have e1 : expD L 1 3 = (true, [], af L 3) := by unfold expD; rw [if_neg (by simp)]
 unfold parse; rw [a0, show L.length + 2 = L.length + 1 + 1 from rfl, parD, if_neg (by omega), r0]
 simp only [Nat.zero_add, hs, e1]; rw [if_neg (by simp), if_neg (by simp), if_neg (by simp), af_af]
 rw [tr_par hK n 0 (L.length + 1) 3 _ (by omega) (by omega) (by simp) (by simp; omega) h3 (by omega)]
 rfl
theorem tr_rd {K : Nat -> Nat} (hK : ∀ j, 1 <= K j /\ K j <= 4) {n : Nat} (hn : n <= 8) {s : ByteArray} (hs : s.data.toList = trTx K n) : rdK s = 0 /\ rdE s = 0 /\ rdL s = appL rootP (trL K n) := by
 unfold rdK rdE rdL; rw [hs, ytj hK hn]; refine ⟨rfl, ?_, rfl⟩
 show Go.Proofs.YtichfdjjbafeiaaGreat.appE rootP (trL K n) = 0
 exact (tr_all hK hn).1
end Go.Proofs.YtichfdjjbafeiaaGreat
