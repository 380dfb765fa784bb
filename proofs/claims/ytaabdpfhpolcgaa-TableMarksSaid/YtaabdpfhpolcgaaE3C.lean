/-
  CARRIED by carry.py out of the templates of an earlier stage: XEText XEMem XEApp XEElem.
-/
import Derived.Test.YtaabdpfhpolcgaaE3B
import Derived.Below
import Derived.WalkLawsBesides
import Derived.Maps.AppendAt
import Derived.Deep.AppendLies
import Derived.Deep.DeepAppendRoom
import Derived.OwnWalk
import Derived.Laws.IdiomStrings
import Derived.Laws.OwnMore
namespace Go.Proofs.Ytaabdpfhpolcgaa.E3
open Go.RowKit
set_option linter.unusedVariables false
set_option linter.unusedSimpArgs false
set_option maxRecDepth 100000
def digB : ByteArray := ⟨#[48, 49, 50, 51, 52, 53, 54, 55, 56, 57, 97, 98, 99, 100, 101, 102]⟩
theorem dig_part {K : Nat} (h : K < 16) : (⟨#[48, 49, 50, 51, 52, 53, 54, 55, 56, 57, 97, 98, 99, 100, 101, 102]⟩ : ByteArray).extract K (K + 1) = ⟨#[hx K]⟩ := by
  have h : K = 0 ∨ K = 1 ∨ K = 2 ∨ K = 3 ∨ K = 4 ∨ K = 5 ∨ K = 6 ∨ K = 7 ∨ K = 8 ∨ K = 9 ∨ K = 10 ∨ K = 11 ∨ K = 12 ∨ K = 13 ∨ K = 14 ∨ K = 15 := by omega
  unfold hx
  rcases h with rfl | rfl | rfl | rfl | rfl | rfl | rfl | rfl | rfl | rfl | rfl | rfl | rfl | rfl | rfl | rfl <;> rfl
theorem run_dig {K : Nat} (h : K < 16) (w : World) : (Instr.slice 9 (.string ⟨#[48, 49, 50, 51, 52, 53, 54, 55, 56, 57, 97, 98, 99, 100, 101, 102]⟩) (some (.int .i64 (K : Int))) (some (.int .i64 ((K : Int) + 1))) none).run Try.prog w = .ok (.string ⟨#[hx K]⟩) w := by
  have := run_slice_string (P := Try.prog) w 9 ⟨#[48, 49, 50, 51, 52, 53, 54, 55, 56, 57, 97, 98, 99, 100, 101, 102]⟩ .i64 .i64 (K : Int) ((K : Int) + 1) Try.underlying9 (by omega) (by omega) (by show _ ≤ ((16 : Nat) : Int); omega)
  rw [this, ← dig_part h]; congr 2
theorem str_eq {b c : ByteArray} (h : b = c) : Ending.returned (.string b) = Ending.returned (.string c) := by rw [h]
theorem ba_app (a b : List UInt8) : (⟨a.toArray⟩ : ByteArray) ++ ⟨b.toArray⟩ = ⟨(a ++ b).toArray⟩ := by
  apply ByteArray.ext; simp [ByteArray.data_append]
theorem ba_cons (x : UInt8) (b : List UInt8) : (⟨#[x]⟩ : ByteArray) ++ ⟨b.toArray⟩ = ⟨(x :: b).toArray⟩ := ba_app [x] b
theorem ba_size (l : List UInt8) : (⟨l.toArray⟩ : ByteArray).size = l.length := by show l.toArray.size = _; simp
theorem nib (v k : Nat) : bits .and .i64 ((v : Int) / 2 ^ (4 * k)) 15 = ((v / 16 ^ k % 16 : Nat) : Int) := by
  have h : bits .and .i64 ((v : Int) / 2 ^ (4 * k)) 15 = (v : Int) / 2 ^ (4 * k) % 16 := and_i64_k 4 (by omega) _
  rw [h, Int.natCast_emod, Int.natCast_ediv, Int.natCast_pow, show (2 : Int) ^ (4 * k) = ((16 : Nat) : Int) ^ k by rw [Int.pow_mul]; rfl]; rfl
end Go.Proofs.Ytaabdpfhpolcgaa.E3
namespace Go.Proofs.Ytaabdpfhpolcgaa.E3
open Go.RowKit
set_option linter.unusedVariables false
set_option linter.unusedSimpArgs false
set_option maxRecDepth 100000
def bv (l : List UInt8) : List Value := l.map fun x => Value.int .u8 (x.toNat : Int)
def OwnB (B : Nat) (w : World) (v : Value) (l : List UInt8) : Prop := w.ownsRow B 5 1 v l.length (bv l)
/-- A slice whose elements are read: below block B. -/
def Rd (B : Nat) (w : World) (v : Value) (xs : List Value) : Prop :=
  ∃ A c, v = .slice A xs.length c ∧ (0 < xs.length → ∃ ad : Addr, A = some ad ∧ ad.block < B ∧ ∀ j u, xs[j]? = some u → w.cell? (ad.add j) = some u)
theorem bv_len (l : List UInt8) : (bv l).length = l.length := by simp [bv]
theorem bv_app (a b : List UInt8) : bv (a ++ b) = bv a ++ bv b := by simp [bv]
theorem bv_one (l : List UInt8) : ∀ u ∈ bv l, u.oneCell' = true := by
  intro u hu
  have := ints_oneCell .u8 (l.map fun x => (x.toNat : Int)) u
  rw [List.map_map] at this
  exact this hu
theorem add_block (a : Addr) (n : Nat) : (a.add n).block = a.block := by unfold Addr.add; split <;> rfl
theorem OwnB.below {B B' : Nat} {w w' : World} {v : Value} {l : List UInt8} (h : OwnB B w v l) (hb : Below B' w w') (hB : w.heap.size ≤ B') : OwnB B w' v l := by
  refine ⟨h.1, ?_⟩
  rcases h.2 with hn | ⟨g, cap, cur, rfl, hg, hgg, rest⟩
  · exact .inl hn
  · exact .inr ⟨g, cap, cur, rfl, hg, by rw [hb.block g (Nat.lt_of_lt_of_le (Array.getElem?_eq_some_iff.1 hgg).1 hB)]; exact hgg, rest⟩
theorem OwnB.nil (B : Nat) (w : World) : OwnB B w (.slice none 0 0) [] := World.ownsRow_nil w B _ 1
theorem rd_of {B : Nat} {e : TypeId} {w : World} {v : Value} {n : Nat} {xs : List Value} (h : w.ownsRow B e 1 v n xs) : Rd w.heap.size w v xs := by
  have hl : xs.length = n := by have := h.1; omega
  rcases Nat.eq_zero_or_pos n with h0 | h0
  · rcases h.2 with ⟨rfl, _⟩ | ⟨g, cap, cur, rfl, _⟩
    · exact ⟨none, 0, by rw [hl, h0], fun hx => by omega⟩
    · exact ⟨_, cap, by rw [hl], fun hx => by omega⟩
  · obtain ⟨g, cap, hv, _, hlt⟩ := h.form h0
    exact ⟨_, cap, by rw [hl, hv], fun _ => ⟨_, rfl, hlt, h.cells (g := g) (by rw [hv]; rfl)⟩⟩
theorem OwnB.rd {B : Nat} {w : World} {v : Value} {l : List UInt8} (h : OwnB B w v l) : Rd w.heap.size w v (bv l) := rd_of h
theorem Rd.below {B : Nat} {w w' : World} {v : Value} {xs : List Value} (h : Rd B w v xs) (hb : Below B w w') : Rd B w' v xs := by
  obtain ⟨A, c, rfl, h⟩ := h
  refine ⟨A, c, rfl, fun hn => ?_⟩
  obtain ⟨ad, e, hlt, hc⟩ := h hn
  exact ⟨ad, e, hlt, fun j u hu => (hb.cell (by rw [add_block]; exact hlt)).trans (hc j u hu)⟩
theorem Rd.more {B B' : Nat} {w : World} {v : Value} {xs : List Value} (h : Rd B w v xs) (hB : B ≤ B') : Rd B' w v xs := by
  obtain ⟨A, c, rfl, h⟩ := h
  refine ⟨A, c, rfl, fun hn => ?_⟩
  obtain ⟨ad, e, hlt, hc⟩ := h hn
  exact ⟨ad, e, by omega, hc⟩
theorem cells_new (w : World) (xs : List Value) (t : TypeId) : ∀ j u, xs[j]? = some u → (w.alloc (.cells xs.toArray t)).cell? ((⟨w.heap.size, 0, none⟩ : Addr).add j) = some u := by
  intro j u hu
  rw [Addr.add_lit, Nat.zero_add, World.cell?_alloc_mark, List.getElem?_toArray]
  exact hu
theorem u8_info : (Try.prog.info? 5).map (fun i => (i.zero, i.size, i.bytes)) = some (some (.int .u8 0), 1, 1) := by kernel_rfl
theorem pushB {ops : Array Oper} {rest : List Oper} {o : Oper} {a : Act} {Q : Exit → Act → World → Prop} (hgd : o.guard = none) (s x : Operand)
    (ho : o.op = .call { callee := .builtin .append, args := #[s, x], argTypes := #[27, 27] })
    (w0 : World) (B : Nat) (v : Value) (l m : List UInt8) (C : Nat) (hs : a.eval s = v) (hown : OwnB B w0 v l) (hx : a.eval x = .slice (some ⟨w0.heap.size, 0, none⟩) m.length C)
    (hB : B ≤ w0.heap.size) (hl : l.length + m.length ≤ 10000000)
    (h : ∀ v' w', OwnB B w' v' (l ++ m) → Below B w0 w' → wpList Try.prog ops Q rest (a.put o.dst v') w') : wpList Try.prog ops Q (o :: rest) a (w0.alloc (.cells (bv m).toArray 5)) := by
  obtain ⟨i0, hi0, hz0, hz1, hz2⟩ := info_parts u8_info
  have hb1 : Below B w0 (w0.alloc (.cells (bv m).toArray 5)) := (Below.refl B w0).alloc hB _
  have hb2 : B ≤ (w0.alloc (.cells (bv m).toArray 5)).heap.size := Nat.le_trans hB hb1.size
  refine wpList_append_own_at _ hgd s x _ ho B 5 i0 _ 1 1 Try.underlying27 hi0 hz0 hz1 hz2 rfl (by omega) v l.length (bv l) hs (hown.alloc _) _ m.length C (bv m) hx (by rw [bv_len]; omega)
    (cells_new w0 (bv m) _) (bv_one m) (by simp only [maxLen]; omega) (by omega) hb2 ?_
  intro v' w' h2 h3 _ _
  refine h v' w' ?_ ?_
  · unfold OwnB; rw [bv_app, List.length_append]; exact h2
  · exact hb1.grown h3 hb2 (fun k hk => (World.ownsRow.lt hown k hk).1)
/-- A row of bytes that is read, made a string. -/
theorem str_of {B : Nat} {w : World} {v : Value} {l : List UInt8} (h : Rd B w v (bv l)) : (convert 27 9 v).run Try.prog w = .ok (.string ⟨l.toArray⟩) w := by
  obtain ⟨A, c, rfl, h⟩ := h
  rw [bv_len] at h ⊢
  rcases A with _ | ad
  · have h0 : l = [] := by
      rcases Nat.eq_zero_or_pos l.length with h0 | h0
      · exact List.eq_nil_of_length_eq_zero h0
      · obtain ⟨_, e, _⟩ := h h0; cases e
    subst h0
    exact run_convert_bytes_nil (P := Try.prog) (w := w) 27 5 Try.underlying27 Try.underlying5 0 c 9 Try.underlying9
  · refine run_convert_bytes_back w _ _ _ ad c l Try.underlying27 Try.underlying5 Try.underlying9 ?_
    intro j hj
    obtain ⟨_, e, _, hc⟩ := h (by omega)
    cases e
    exact hc j _ (by simp [bv, List.getElem?_eq_getElem hj])
theorem OwnB.one (w : World) (B : Nat) (hB : B ≤ w.heap.size) (x : UInt8) : OwnB B (w.alloc (.cells #[.int .u8 (x.toNat : Int)] 5)) (.slice (some ⟨w.heap.size, 0, none⟩) 1 1) [x] :=
  World.ownsRow_lit w #[.int .u8 (x.toNat : Int)] 1 hB (by simp only [maxLen]; omega) rfl
/-- The call hands back bytes that it made itself (or that were made from B on); what stood below B stands. -/
def GotB (B : Nat) (w : World) (l : List UInt8) (e : Ending) (w' : World) : Prop := ∃ v, e = .returned v ∧ OwnB B w' v l ∧ Below B w w'
end Go.Proofs.Ytaabdpfhpolcgaa.E3
namespace Go.Proofs.Ytaabdpfhpolcgaa.E3
open Go.RowKit
set_option linter.unusedVariables false
set_option linter.unusedSimpArgs false
set_option maxRecDepth 100000
theorem run_ix {d : Nat} (h : d < 16) (w : World) : (Instr.index 9 (.string ⟨#[48, 49, 50, 51, 52, 53, 54, 55, 56, 57, 97, 98, 99, 100, 101, 102]⟩) (.int .i64 (d : Int))).run Try.prog w = .ok (.int .u8 ((hx d).toNat : Int)) w := by
  have h' : 0 ≤ (d : Int) ∧ (d : Int) < ((⟨#[48, 49, 50, 51, 52, 53, 54, 55, 56, 57, 97, 98, 99, 100, 101, 102]⟩ : ByteArray).size : Int) := ⟨by omega, by show _ < ((16 : Nat) : Int); omega⟩
  rw [run_index_string w 9 ⟨#[48, 49, 50, 51, 52, 53, 54, 55, 56, 57, 97, 98, 99, 100, 101, 102]⟩ .i64 (d : Int) Try.underlying9, dif_pos h']
  congr 3
  have h : d = 0 ∨ d = 1 ∨ d = 2 ∨ d = 3 ∨ d = 4 ∨ d = 5 ∨ d = 6 ∨ d = 7 ∨ d = 8 ∨ d = 9 ∨ d = 10 ∨ d = 11 ∨ d = 12 ∨ d = 13 ∨ d = 14 ∨ d = 15 := by omega
  unfold hx
  rcases h with rfl | rfl | rfl | rfl | rfl | rfl | rfl | rfl | rfl | rfl | rfl | rfl | rfl | rfl | rfl | rfl <;> rfl
theorem digits_any (a : Value) (v n : Nat) (l : List UInt8) (w : World) (B : Nat) (hv : v < 65536) (hn : n ≤ 4) (ho : OwnB B w a l) (hB : B ≤ w.heap.size) (hl : l.length ≤ 9000000) :
    Calls Try.prog 38 #[a, .int .i64 v, .int .i64 n] w (GotB B w (l ++ hexd v n)) := by
  have HO := Lib.hid ho
  clear ho
  go_enter Try.func38, Try.ntmps38
  go_wp2
  go_loopw [0, 2] (fun a i wr => ∃ (k : Nat) (l' : List UInt8), k ≤ n ∧ i = .int .i64 ((k : Int) - 1) ∧ Hid (OwnB B wr a l') ∧ Hid (l' ++ hexd v k = l ++ hexd v n) ∧ Hid (Below B w wr)) (fun _ i _ => (intOf i + 1).toNat)
  case atStart => exact ⟨n, l, Nat.le_refl _, rfl, HO.out, rfl, Below.refl _ _⟩
  case round =>
    obtain ⟨k, l', hk, rfl, HO2, HL, HW⟩ := hrel
    cases k with
    | succ j =>
      obtain ⟨d, hd⟩ : ∃ d, v / 16 ^ j % 16 = d := ⟨_, rfl⟩
      have hd16 : d < 16 := by omega
      have hnib := nib v j
      rw [hd] at hnib
      have HD := Lib.hid hd
      have hix := run_ix hd16
      have e1 : ((j + 1 : Nat) : Int) - 1 = (j : Int) := by omega
      have HLL : Hid (l'.length + [hx d].length ≤ 10000000) := by
        have := congrArg List.length HL.out
        rw [List.length_append, List.length_append, hexd_len, hexd_len] at this
        show l'.length + 1 ≤ 10000000; omega
      have HBB : Hid (B ≤ wr.heap.size) := Nat.le_trans hB HW.out.size
      clear hd
      rw [e1]
      clear e1
      go_wp2_with (at_builtin; refine pushB rfl (.tmp 13) (.tmp 20) rfl _ B _ _ [hx d] 1 rfl HO2.out rfl HBB.out HLL.out ?_; intro v2 w2 ho2 hb2)
      go_roundw
      case rel => exact ⟨j, l' ++ [hx d], by omega, rfl, ho2, by show _ = _; rw [← HL.out, ← HD.out]; simp [hexd], HW.out.trans hb2⟩
      case measure => simp [intOf]
    | zero =>
      have HL0 := HL.out
      have e1 : ((0 : Nat) : Int) - 1 = -1 := rfl
      rw [e1]
      go_wp2
      go_ret
      refine ⟨_, rfl, ?_, HW.out⟩
      have h := HO2.out
      rw [show l' = l ++ hexd v n by rw [← HL0]; simp [hexd]] at h
      exact h
theorem digits_4 (a : Value) (v : Nat) (l : List UInt8) (w : World) (B : Nat) (hv : v < 65536) (ho : OwnB B w a l) (hB : B ≤ w.heap.size) (hl : l.length ≤ 9000000) :
    Calls Try.prog 38 #[a, .int .i64 v, .int .i64 4] w (GotB B w (l ++ hexd v 4)) := digits_any a v 4 l w B hv (by omega) ho hB hl
theorem digits_2 (a : Value) (v : Nat) (l : List UInt8) (w : World) (B : Nat) (hv : v < 65536) (ho : OwnB B w a l) (hB : B ≤ w.heap.size) (hl : l.length ≤ 9000000) :
    Calls Try.prog 38 #[a, .int .i64 v, .int .i64 2] w (GotB B w (l ++ hexd v 2)) := digits_any a v 2 l w B hv (by omega) ho hB hl
end Go.Proofs.Ytaabdpfhpolcgaa.E3
namespace Go.Proofs.Ytaabdpfhpolcgaa.E3
open Go.RowKit
set_option linter.unusedVariables false
set_option linter.unusedSimpArgs false
set_option maxRecDepth 100000
theorem len4 (l : List UInt8) (v : Nat) : (l ++ hexd v 4).length = l.length + 4 := by rw [List.length_append, hexd_len]
theorem len2 (l : List UInt8) (v : Nat) : (l ++ hexd v 2).length = l.length + 2 := by rw [List.length_append, hexd_len]
set_option maxHeartbeats 1000000 in
theorem text_any (e p s t : Nat) (v : Bool) (he : e < 4294967296) (hp : Hid (e / 65536 = p)) (hs : Hid (e / 256 % 256 = s)) (ht : Hid (e / 2 % 128 = t)) (hv : Hid ((e % 2 = 1) = (v = true))) (w : World) :
    Calls Try.prog 17 #[.int .u32 e] w fun r w' => r = .returned (.string ⟨(91 :: ((if v then [42] else []) ++ body p s t)).toArray⟩) ∧ Below w.heap.size w w' := by
  have bp : p < 65536 := by have := hp.out; omega
  have bs : s < 65536 := by have := hs.out; omega
  have bt : t < 65536 := by have := ht.out; omega
  obtain ⟨B, hB⟩ : ∃ B, w.heap.size = B := ⟨_, rfl⟩
  have O1 := OwnB.one w B (by omega) 91
  have HB0 : Hid (B ≤ w.heap.size) := Nat.le_of_eq hB.symm
  have HB1 : Hid (B ≤ (w.alloc (.cells #[.int .u8 91] 5)).heap.size) := by rw [World.size_alloc]; exact Nat.le_succ_of_le HB0.out
  have HBW : Hid (Below B w (w.alloc (.cells #[.int .u8 91] 5))) := (Below.refl _ _).alloc HB0.out _
  have HB := Lib.hid hB
  have HO1 : Hid (OwnB B (w.alloc (.cells #[.int .u8 91] 5)) (.slice (some ⟨w.heap.size, 0, none⟩) 1 1) [91]) := O1
  rw [hB]
  clear O1 hB
  cases v
  · have L1O := HO1; have L1B := HB1; have L1W := HBW
    clear HO1 HB1 HBW
    have L1L : Hid (([91] : List UInt8).length ≤ 9000000) := by show _ ≤ 9000000; simp
    have L2 : Hid (([91] ++ hexd p 4).length + ([46] : List UInt8).length ≤ 10000000) := by show _ ≤ 10000000; simp [hexd_len]
    have L3 : Hid (([91] ++ hexd p 4 ++ [46]).length ≤ 9000000) := by show _ ≤ 9000000; simp [hexd_len]
    have L4 : Hid (([91] ++ hexd p 4 ++ [46] ++ hexd s 2).length + ([46] : List UInt8).length ≤ 10000000) := by show _ ≤ 10000000; simp [hexd_len]
    have L5 : Hid (([91] ++ hexd p 4 ++ [46] ++ hexd s 2 ++ [46]).length ≤ 9000000) := by show _ ≤ 9000000; simp [hexd_len]
    have L6 : Hid (([91] ++ hexd p 4 ++ [46] ++ hexd s 2 ++ [46] ++ hexd t 2).length + ([93] : List UInt8).length ≤ 10000000) := by show _ ≤ 10000000; simp [hexd_len]
    go_enter Try.func17, Try.ntmps17
    go_wp2_with (first
      | (go_at_call 37; refine (var_any _ false he hv.out _).mono ?_; rintro e w' ⟨rfl, rfl⟩)
      | (go_at_call 7; (with_reducible refine (weight_1' hp.out he _).mono ?_); rintro e w' ⟨rfl, rfl⟩)
      | (go_at_call 7; (with_reducible refine (weight_2' hs.out he _).mono ?_); rintro e w' ⟨rfl, rfl⟩)
      | (go_at_call 7; (with_reducible refine (weight_3' ht.out he _).mono ?_); rintro e w' ⟨rfl, rfl⟩)
      | (go_at_call 38; (with_reducible refine (digits_4 _ p _ _ B bp L1O.out L1B.out L1L.out).mono ?_); rintro e w2 ⟨v2, rfl, ho2, hb2⟩; have HO2 := Lib.hid ho2; have HB2 := Lib.hid (Nat.le_trans L1B.out hb2.size); have HW2 := Lib.hid (L1W.out.trans hb2); clear ho2 hb2)
      | (at_builtin; refine pushB rfl (.tmp 13) (.tmp 14) rfl _ B _ _ [46] 1 rfl HO2.out rfl HB2.out L2.out ?_; intro v3 w3 ho3 hb3; have HO3 := Lib.hid ho3; have HB3 := Lib.hid (Nat.le_trans HB2.out hb3.size); have HW3 := Lib.hid (HW2.out.trans hb3); clear ho3 hb3)
      | (go_at_call 38; (with_reducible refine (digits_2 _ s _ _ B bs HO3.out HB3.out L3.out).mono ?_); rintro e w4 ⟨v4, rfl, ho4, hb4⟩; have HO4 := Lib.hid ho4; have HB4 := Lib.hid (Nat.le_trans HB3.out hb4.size); have HW4 := Lib.hid (HW3.out.trans hb4); clear ho4 hb4)
      | (at_builtin; refine pushB rfl (.tmp 19) (.tmp 20) rfl _ B _ _ [46] 1 rfl HO4.out rfl HB4.out L4.out ?_; intro v5 w5 ho5 hb5; have HO5 := Lib.hid ho5; have HB5 := Lib.hid (Nat.le_trans HB4.out hb5.size); have HW5 := Lib.hid (HW4.out.trans hb5); clear ho5 hb5)
      | (go_at_call 38; (with_reducible refine (digits_2 _ t _ _ B bt HO5.out HB5.out L5.out).mono ?_); rintro e w6 ⟨v6, rfl, ho6, hb6⟩; have HO6 := Lib.hid ho6; have HB6 := Lib.hid (Nat.le_trans HB5.out hb6.size); have HW6 := Lib.hid (HW5.out.trans hb6); clear ho6 hb6)
      | (at_builtin; refine pushB rfl (.tmp 25) (.tmp 26) rfl _ B _ _ [93] 1 rfl HO6.out rfl HB6.out L6.out ?_; intro v7 w7 ho7 hb7; have kc := str_of ho7.rd; have HW7 := Lib.hid (HW6.out.trans hb7); clear ho7 hb7))
    go_ret
    exact ⟨str_eq (by simp [body]), HW7.out⟩
  · have L0 : Hid (([91] : List UInt8).length + ([42] : List UInt8).length ≤ 10000000) := by show _ ≤ 10000000; simp
    have L1L : Hid ((([91] ++ [42]) : List UInt8).length ≤ 9000000) := by show _ ≤ 9000000; simp
    have L2 : Hid ((([91] ++ [42]) ++ hexd p 4).length + ([46] : List UInt8).length ≤ 10000000) := by show _ ≤ 10000000; simp [hexd_len]
    have L3 : Hid ((([91] ++ [42]) ++ hexd p 4 ++ [46]).length ≤ 9000000) := by show _ ≤ 9000000; simp [hexd_len]
    have L4 : Hid ((([91] ++ [42]) ++ hexd p 4 ++ [46] ++ hexd s 2).length + ([46] : List UInt8).length ≤ 10000000) := by show _ ≤ 10000000; simp [hexd_len]
    have L5 : Hid ((([91] ++ [42]) ++ hexd p 4 ++ [46] ++ hexd s 2 ++ [46]).length ≤ 9000000) := by show _ ≤ 9000000; simp [hexd_len]
    have L6 : Hid ((([91] ++ [42]) ++ hexd p 4 ++ [46] ++ hexd s 2 ++ [46] ++ hexd t 2).length + ([93] : List UInt8).length ≤ 10000000) := by show _ ≤ 10000000; simp [hexd_len]
    go_enter Try.func17, Try.ntmps17
    go_wp2_with (first
      | (go_at_call 37; refine (var_any _ true he hv.out _).mono ?_; rintro e w' ⟨rfl, rfl⟩)
      | (at_builtin; refine pushB rfl (.tmp 7) (.tmp 8) rfl _ B _ _ [42] 1 rfl HO1.out (by show Value.slice (some ⟨w.heap.size + 1, 0, none⟩) 1 1 = _; rw [World.size_alloc]; rfl) HB1.out L0.out ?_; intro v1 w1 ho1 hb1; have L1O := Lib.hid ho1; have L1B := Lib.hid (Nat.le_trans HB1.out hb1.size); have L1W := Lib.hid (HBW.out.trans hb1); clear ho1 hb1)
      | (go_at_call 7; (with_reducible refine (weight_1' hp.out he _).mono ?_); rintro e w' ⟨rfl, rfl⟩)
      | (go_at_call 7; (with_reducible refine (weight_2' hs.out he _).mono ?_); rintro e w' ⟨rfl, rfl⟩)
      | (go_at_call 7; (with_reducible refine (weight_3' ht.out he _).mono ?_); rintro e w' ⟨rfl, rfl⟩)
      | (go_at_call 38; (with_reducible refine (digits_4 _ p _ _ B bp L1O.out L1B.out L1L.out).mono ?_); rintro e w2 ⟨v2, rfl, ho2, hb2⟩; have HO2 := Lib.hid ho2; have HB2 := Lib.hid (Nat.le_trans L1B.out hb2.size); have HW2 := Lib.hid (L1W.out.trans hb2); clear ho2 hb2)
      | (at_builtin; refine pushB rfl (.tmp 13) (.tmp 14) rfl _ B _ _ [46] 1 rfl HO2.out rfl HB2.out L2.out ?_; intro v3 w3 ho3 hb3; have HO3 := Lib.hid ho3; have HB3 := Lib.hid (Nat.le_trans HB2.out hb3.size); have HW3 := Lib.hid (HW2.out.trans hb3); clear ho3 hb3)
      | (go_at_call 38; (with_reducible refine (digits_2 _ s _ _ B bs HO3.out HB3.out L3.out).mono ?_); rintro e w4 ⟨v4, rfl, ho4, hb4⟩; have HO4 := Lib.hid ho4; have HB4 := Lib.hid (Nat.le_trans HB3.out hb4.size); have HW4 := Lib.hid (HW3.out.trans hb4); clear ho4 hb4)
      | (at_builtin; refine pushB rfl (.tmp 19) (.tmp 20) rfl _ B _ _ [46] 1 rfl HO4.out rfl HB4.out L4.out ?_; intro v5 w5 ho5 hb5; have HO5 := Lib.hid ho5; have HB5 := Lib.hid (Nat.le_trans HB4.out hb5.size); have HW5 := Lib.hid (HW4.out.trans hb5); clear ho5 hb5)
      | (go_at_call 38; (with_reducible refine (digits_2 _ t _ _ B bt HO5.out HB5.out L5.out).mono ?_); rintro e w6 ⟨v6, rfl, ho6, hb6⟩; have HO6 := Lib.hid ho6; have HB6 := Lib.hid (Nat.le_trans HB5.out hb6.size); have HW6 := Lib.hid (HW5.out.trans hb6); clear ho6 hb6)
      | (at_builtin; refine pushB rfl (.tmp 25) (.tmp 26) rfl _ B _ _ [93] 1 rfl HO6.out rfl HB6.out L6.out ?_; intro v7 w7 ho7 hb7; have kc := str_of ho7.rd; have HW7 := Lib.hid (HW6.out.trans hb7); clear ho7 hb7))
    go_ret
    exact ⟨str_eq (by simp [body]), HW7.out⟩
end Go.Proofs.Ytaabdpfhpolcgaa.E3
