/-
  PACKED for a claim.
-/
import Derived.Test.YtichfdjjbafeiaaGreatP52
set_option linter.unusedVariables false
set_option linter.unusedSimpArgs false
set_option maxRecDepth 100000
namespace Go.Proofs.YtichfdjjbafeiaaGreat
def oneT (L : List PE) : Prop := ∀ e ∈ L, e.1.length = 1
theorem yuf : oneT rootP := fun e he => of_decide_eq_true (List.all_eq_true.1 yft e he)
theorem yww {L : List PE} (h : oneT L) (f : Nat -> Nat) : oneT (mapP f L) := fun e he => by
 obtain ⟨g, hg, rfl⟩ := List.mem_map.1 he; exact h g hg
theorem ywv {L : List PE} (hs : Srt L) (h : oneT L) (c : Int) (l : List Nat) : oneT (putP L ([c], l)) := fun e he => by
 rw [put_eq hs] at he
 rcases yck he with rfl | he
 ·rfl
 ·exact h e he
theorem yqy : (List.range 26).all (fun k => decide (look rootP [((97 + k : Nat) : Int)] = some [E3.mk (256 + 8 * k) 32 2 0]) && decide (look rootP [((65 + k : Nat) : Int)] = some [E3.mk (256 + 8 * k) 32 8 0])) = true := by decide +kernel
theorem yfo {k : Nat} (h : k < 26) : look rootP [((97 + k : Nat) : Int)] = some [E3.mk (256 + 8 * k) 32 2 0] /\ look rootP [((65 + k : Nat) : Int)] = some [E3.mk (256 + 8 * k) 32 8 0] := by
 have := List.all_eq_true.1 yqy k (List.mem_range.2 h)
 simpa using this
theorem mk_wgt {p s t : Nat} (hp : p < 65536) (hs : s < 256) (ht : t < 128) : wgt 1 (E3.mk p s t 0) = p /\ wgt 2 (E3.mk p s t 0) = s /\ wgt 3 (E3.mk p s t 0) = t /\ E3.mk p s t 0 % 2 = 0 := by
 unfold wgt E3.mk
 simp
 omega
def lc (a : Nat) : Int := ((97 + a : Nat) : Int)
def le (a : Nat) : Nat := E3.mk (256 + 8 * a) 32 2 0
theorem le_w {a : Nat} (h : a < 26) : wgt 1 (le a) = 256 + 8 * a /\ wgt 2 (le a) = 32 /\ wgt 3 (le a) = 2 /\ le a % 2 = 0 /\ le a < 4294967296 /\ okW (le a) = true := by
 have h1 := mk_wgt (p := 256 + 8 * a) (s := 32) (t := 2) (by omega) (by omega) (by omega)
 refine ⟨h1.1, h1.2.1, h1.2.2.1, h1.2.2.2, by unfold le E3.mk; omega, ?_⟩
 unfold okW; rw [Bool.and_eq_true]; refine ⟨ygg.2 ?_, decide_eq_true ?_⟩
 ·unfold le; omega
 ·have : le a / 65536 = wgt 1 (le a) := by unfold wgt; rw [if_pos rfl]
  rw [this]; unfold le; omega
theorem lc_sg {a : Nat} (h : a < 26) : T2.isSg (lc a) = true := by
 unfold lc T2.isSg T2.isPt; simp; omega
theorem yvo (L : List PE) {s : List Int} (h : s.length = 1) : begs L s = true := by
 unfold begs; rw [h]; refine List.all_eq_true.2 fun k hk => ?_
 have : k = 0 := by have := List.mem_range.1 hk; omega
 subst this; rfl
theorem yth {a : Nat} (h : a < 26) : rulE ⟨rootP, none⟩ ⟨1, [lc a], []⟩ = 0 /\ rulS ⟨rootP, none⟩ ⟨1, [lc a], []⟩ = ⟨rootP, some [le a]⟩ := by
 have he : elsP rootP [lc a] = [le a] := lk_els (yfo h).1
 constructor
 ·unfold rulE; rw [if_pos rfl]
  show (if 8 < (elsP rootP [lc a]).length then (1 : Int) else 0) = 0
  rw [he]; rfl
 ·unfold rulS; rw [if_pos rfl]
  show ST.mk rootP (some (elsP rootP [lc a])) = _
  rw [he]
theorem ywe {a : Nat} (h : a < 26) {r : S6.RV} {L : List PE} (hE : rulE ⟨rootP, some [le a]⟩ r = 0) (hS : (rulS ⟨rootP, some [le a]⟩ r).L = L) (hc : checkP L = 0) : Go.Proofs.YtichfdjjbafeiaaGreat.appE rootP [⟨1, [lc a], []⟩, r] = 0 /\ appL rootP [⟨1, [lc a], []⟩, r] = L := by
 obtain ⟨r0, s0⟩ := yth h
 have e0 : rlsE ⟨rootP, none⟩ [⟨1, [lc a], []⟩, r] = 0 := by
  unfold rlsE; rw [if_neg (by simp [r0]), s0]
  unfold rlsE; rw [if_neg (by simp [hE])]
  rfl
 have s1 : (rlsS ⟨rootP, none⟩ [⟨1, [lc a], []⟩, r]).L = L := by
  show (rlsS (rulS ⟨rootP, none⟩ ⟨1, [lc a], []⟩) [r]).L = L
  rw [s0]; exact hS
 refine ⟨?_, s1⟩; unfold Go.Proofs.YtichfdjjbafeiaaGreat.appE; rw [if_neg (by simp [e0]), s1]
 exact hc
theorem lc_inj {a b : Nat} (h : lc a = lc b) : a = b := by unfold lc at h; omega
def plR (x y k : Nat) : List S6.RV := [⟨1, [lc x], []⟩, ⟨((1 + k : Nat) : Int), [lc y], []⟩]
def plC (L : List PE) (x y : Nat) (lv : Nat) : Int := cmpW (nzW lv (elsP L [lc x])) (nzW lv (elsP L [lc y]))
def plF (x k : Nat) : Nat := wgt k (le x)
def plM (x k : Nat) : List PE := mapP (up k (plF x k)) rootP
def plN (x k : Nat) : Nat := nxt k (le x)
theorem le_lo {x : Nat} (hx : x < 26) : Lo 0 (le x) := by
 have hw := le_w hx; exact ⟨by omega, by omega, by omega, ygg.2 (by omega)⟩
theorem pl_n {x k : Nat} (hx : x < 26) (hk : Lv k) : (∀ i, Lv i -> i < k -> wgt i (plN x k) = wgt i (le x)) /\ wgt k (plN x k) = wgt k (le x) + 1 /\ okW (plN x k) = true /\ plN x k < 4294967296 /\ plF x k ≠ 0 := by
 have hw := le_w hx; have hn := ywz (le_lo hx) (by omega) hw.2.2.2.2.1
 have hok : wgt 1 (plN x k) ≠ 0 /\ wgt 2 (plN x k) ≠ 0 /\ wgt 3 (plN x k) ≠ 0 /\ wgt 1 (plN x k) < 64256 := by
  unfold plN
  rcases hk with rfl | rfl | rfl <;> omega
 have hoW : okW (plN x k) = true := by
  unfold okW; rw [Bool.and_eq_true]; refine ⟨ygg.2 (by omega), decide_eq_true ?_⟩
  have : plN x k / 65536 = wgt 1 (plN x k) := by unfold wgt; rw [if_pos rfl]
  omega
 refine ⟨fun i hi hik => ?_, ?_, hoW, ?_, ?_⟩
 ·unfold plN
  rcases hk with rfl | rfl | rfl <;> rcases hi with rfl | rfl | rfl <;> omega
 ·unfold plN
  rcases hk with rfl | rfl | rfl <;> omega
 ·unfold plN
  rcases hk with rfl | rfl | rfl <;> omega
 ·unfold plF
  rcases hk with rfl | rfl | rfl <;> omega
theorem yku (x k : Nat) : GoodT (plM x k) := yfp (fun z hz => up_lt hz) root_good
theorem pl_mov {x k : Nat} (hx : x < 26) (hk : Lv k) : movE k rootP [le x] = 0 /\ movL k rootP [le x] = plM x k /\ movA k [le x] = [plN x k] := by
 have hw := le_w hx; have hp := pl_n hx hk
 have hl : lastW k [le x] = some 0 := yrb hp.2.2.2.2
 have hf : fullP k rootP = false := ydo (n := 0) (by omega) (ype (fun _ => 1)).lim hk
 have ht : ¬ topW k < wgt k (le x) := by
  have h1 : topW 1 = 64255 := rfl
  have h2 : topW 2 = 255 := rfl
  have h3 : topW 3 = 127 := rfl
  rcases hk with rfl | rfl | rfl <;> omega
 refine ⟨?_, ?_, ?_⟩
 ·unfold movE; rw [hl]
  show (if topW k < wgt k (le x) then (1 : Int) else if fullP k rootP then 60 else 0) = 0
  rw [if_neg ht, hf, if_neg (by simp)]
 ·unfold movL; rw [hl]; rfl
 ·unfold movA; rw [hl]; rfl
theorem pl_chg {x k : Nat} (hx : x < 26) (hk : Lv k) : chgE ((1 + k : Nat) : Int) rootP [le x] = 0 /\ chgL ((1 + k : Nat) : Int) rootP [le x] = plM x k /\ chgA ((1 + k : Nat) : Int) [le x] = [plN x k] := by
 have h := pl_mov hx hk; unfold chgE chgL chgA
 rcases hk with rfl | rfl | rfl
 ·simp only [if_pos (show (((1 + 1 : Nat) : Int) = 2) by omega)]; exact h
 ·simp only [if_neg (show ¬ (((1 + 2 : Nat) : Int) = 2) by omega), if_pos (show (((1 + 2 : Nat) : Int) = 3) by omega)]; exact h
 ·simp only [if_neg (show ¬ (((1 + 3 : Nat) : Int) = 2) by omega), if_neg (show ¬ (((1 + 3 : Nat) : Int) = 3) by omega), if_pos (show (((1 + 3 : Nat) : Int) = 4) by omega)]; exact h
theorem pl_app {x y k : Nat} (hx : x < 26) (hy : y < 26) (hk : Lv k) : Go.Proofs.YtichfdjjbafeiaaGreat.appE rootP (plR x y k) = 0 /\ appL rootP (plR x y k) = putP (plM x k) ([lc y], [plN x k]) := by
 have hne : ¬ ((1 + k : Nat) : Int) = 1 := by rcases hk with rfl | rfl | rfl <;> omega
 obtain ⟨m1, m2, m3⟩ := pl_chg hx hk; obtain ⟨-, -, n3, n4, n5⟩ := pl_n hx hk; have hgd := yku x k; refine ywe hx ?_ ?_ ?_
 ·rw [ykp (A := [le x]) hne rfl]
  show (if chgE ((1 + k : Nat) : Int) rootP [le x] ≠ 0 then chgE ((1 + k : Nat) : Int) rootP [le x] else withE (chgL ((1 + k : Nat) : Int) rootP [le x]) [lc y] (chgA ((1 + k : Nat) : Int) [le x] ++ elsP (chgL ((1 + k : Nat) : Int) rootP [le x]) [])) = 0
  rw [m1, m2, m3, if_neg (by simp), ycb, List.append_nil]
  unfold withE
  have hbad : badA [lc y] [plN x k] = false := by
   unfold badA sgsB; rw [List.all_cons, lc_sg hy]; rfl
  have hlen : rootP.length < 500 := by decide +kernel
  rw [if_neg (by rw [hbad]; simp), if_neg (fun hh => by have := hh.2; unfold plM at this; rw [ycm] at this; omega)]
 ·rw [yko (A := [le x]) hne rfl]
  show putP (chgL ((1 + k : Nat) : Int) rootP [le x]) ([lc y], chgA ((1 + k : Nat) : Int) [le x] ++ elsP (chgL ((1 + k : Nat) : Int) rootP [le x]) []) = _
  rw [m2, m3, ycb, List.append_nil]
 ·unfold checkP; rw [if_pos]; refine List.all_eq_true.2 fun f hf => ?_
  have h1 : f.1.length = 1 := ywv hgd.srt (yww yuf _) (lc y) [plN x k] f hf
  unfold goodE; rw [yvo _ h1, Bool.and_true]; rw [put_eq hgd.srt] at hf
  rcases yck hf with rfl | hf
  ·rw [List.all_cons, n3]; rfl
  ·obtain ⟨g, hg, rfl⟩ := List.mem_map.1 hf; refine List.all_eq_true.2 fun z hz => ?_
   obtain ⟨u, hu, rfl⟩ := List.mem_map.1 hz; have hlo := up_lo (fr := plF x k) ((ype (fun _ => 1)).lim g hg u hu) (by omega) hk n5 ((root_good.els g hg).2 u hu)
   unfold okW; rw [hlo.2.2.2, Bool.true_and]
   have : up k (plF x k) u / 65536 = wgt 1 (up k (plF x k) u) := by unfold wgt; rw [if_pos rfl]
   have := hlo.1
   exact decide_eq_true (by omega)
theorem pl_els {x y k o : Nat} (ho : o < 26) (hne : o ≠ y) : elsP (putP (plM x k) ([lc y], [plN x k])) [lc o] = [up k (plF x k) (le o)] := by
 refine lk_els ?_; rw [ydg (yku x k).srt (fun h => hne (lc_inj (by injection h)).symm)]
 unfold plM; rw [yee, show look rootP [lc o] = some [le o] from (yfo ho).1]
 rfl
theorem ywq {x y k : Nat} : elsP (putP (plM x k) ([lc y], [plN x k])) [lc y] = [plN x k] := lk_els (ycn (yku x k).srt _)
theorem pl_w1 {x k o : Nat} (hk : Lv k) (hx : x < 26) (ho : o < 26) : wgt 1 (up k (plF x k) (le o)) = if k = 1 /\ x < o then 257 + 8 * o else 256 + 8 * o := by
 have hw := le_w ho; have hwx := le_w hx
 have t1 : topW 1 = 64255 := rfl
 by_cases e : k = 1
 ·subst e; rw [wgt_up (by omega) hw.2.2.2.2.1]
  unfold plF; rw [hw.1, hwx.1]
  by_cases h : x < o
  ·rw [if_neg (by omega), if_pos ⟨rfl, h⟩]; omega
  ·rw [if_pos (by omega), if_neg (by omega)]
 ·rw [yar hk (.inl rfl) e hw.2.2.2.2.1, hw.1, if_neg (by omega)]
theorem ytt {x y k : Nat} (hx : x < 26) (hy : y < 26) (h1 : 1 <= k) (h3 : k <= 3) (hne : x ≠ y) {L : List PE} (hL : appL rootP (plR x y k) = L) :
  Go.Proofs.YtichfdjjbafeiaaGreat.appE rootP (plR x y k) = 0 /\ (∀ i, 1 <= i -> i < k -> plC L x y i = 0) /\ plC L x y k = -1 /\ ∀ z, z < 26 -> z ≠ x -> z ≠ y -> plC L z x 1 = plC rootP z x 1 /\ (plC rootP z x 1 < 0 ↔ plC L z y 1 < 0) := by
 have hk : Lv k := by unfold Lv; omega
 obtain ⟨a1, a2⟩ := pl_app hx hy hk; rw [a2] at hL; subst hL; have hw := le_w hx; obtain ⟨n1, n2, -, -, -⟩ := pl_n hx hk
 have hself : up k (plF x k) (le x) = le x := by unfold up plF; rw [if_pos (.inl (zN _))]
 have ex := pl_els (x := x) (y := y) (k := k) hx hne; rw [hself] at ex; have ey := ywq (x := x) (y := y) (k := k); refine ⟨a1, fun i hi hik => ?_, ?_, fun z hz hzx hzy => ?_⟩
 ·unfold plC; rw [ex, ey, ygu, if_pos (n1 i (by unfold Lv; omega) hik).symm]
 ·unfold plC; rw [ex, ey, ygu, if_neg (by omega), if_pos (by omega)]
 ·have ez := pl_els (x := x) (y := y) (k := k) hz hzy; have wz := pl_w1 hk hx hz; have wz0 := le_w hz
  have wn : wgt 1 (plN x k) = if k = 1 then 257 + 8 * x else 256 + 8 * x := by
   by_cases e : k = 1
   ·subst e; rw [n2, hw.1, if_pos rfl]; omega
   ·rw [n1 1 (.inl rfl) (by omega), hw.1, if_neg e]
  have rz : elsP rootP [lc z] = [le z] := lk_els (yfo hz).1
  have rx : elsP rootP [lc x] = [le x] := lk_els (yfo hx).1
  unfold plC; rw [ez, ex, ey, rz, rx, ygu, ygu, ygu, hw.1, wz0.1]; generalize wgt 1 (up k (plF x k) (le z)) = u at wz |-; generalize wgt 1 (plN x k) = v at wn |-
  rcases Nat.lt_or_ge z x with h | h
  ·have hu1 : u < 256 + 8 * x := by rw [wz]; split <;> omega
   have huv : u < v := by rw [wz, wn]; split <;> split <;> omega
   rw [if_neg (by omega : ¬ u = 256 + 8 * x), if_pos hu1, if_neg (by omega : ¬ 256 + 8 * z = 256 + 8 * x), if_pos (by omega : 256 + 8 * z < 256 + 8 * x), if_neg (by omega : ¬ u = v), if_pos huv]
   exact ⟨rfl, Iff.rfl⟩
  ·have hu1 : 256 + 8 * x < u := by rw [wz]; split <;> omega
   have huv : v < u := by rw [wz, wn]; split <;> split <;> omega
   rw [if_neg (by omega : ¬ u = 256 + 8 * x), if_neg (by omega : ¬ u < 256 + 8 * x), if_neg (by omega : ¬ 256 + 8 * z = 256 + 8 * x), if_neg (by omega : ¬ 256 + 8 * z < 256 + 8 * x), if_neg (by omega : ¬ u = v), if_neg (by omega : ¬ u < v)]
   exact ⟨rfl, Iff.rfl⟩
end Go.Proofs.YtichfdjjbafeiaaGreat
