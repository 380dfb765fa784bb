/-
  CARRIED by carry.py out of the templates of an earlier stage: XTApp XTFold XTRFold XTRText XTBytes.
-/
import Derived.Test.YtdodlppnjlmnaaaT2C
import Derived.Test.YtdodlppnjlmnaaaT2D
namespace Go.Proofs.Ytdodlppnjlmnaaa.T2
open Go.RowKit
set_option linter.unusedVariables false
set_option linter.unusedSimpArgs false
/-- The call hands back bytes that it made itself (or that were made from B on); what stood below B stands. -/
def GotB (B : Nat) (w : World) (l : List UInt8) (e : Ending) (w' : World) : Prop := ∃ v, e = .returned v ∧ OwnB B w' v l ∧ Below B w w'
theorem pushC {ops : Array Oper} {rest : List Oper} {o : Oper} {a : Act} {Q : Exit → Act → World → Prop} (hgd : o.guard = none) (s x : Operand)
    (ho : o.op = .call { callee := .builtin .append, args := #[s, x], argTypes := #[70, 70] })
    (w0 : World) (B : Nat) (v : Value) (l m : List UInt8) (n C : Nat) (cs : Array Value) (hcs : Hid (cs = (bv m).toArray ∧ n = m.length)) (hs : a.eval s = v) (hown : OwnB B w0 v l) (hx : a.eval x = .slice (some ⟨w0.heap.size, 0, none⟩) n C)
    (hB : B ≤ w0.heap.size) (hl : l.length + m.length ≤ 10000000)
    (h : ∀ v' w', OwnB B w' v' (l ++ m) → Below B w0 w' → wpList Try.prog ops Q rest (a.put o.dst v') w') : wpList Try.prog ops Q (o :: rest) a (w0.alloc (.cells cs 5)) := by
  obtain ⟨rfl, rfl⟩ := hcs.out
  exact pushB hgd s x ho w0 B v l m C hs hown hx hB hl h
theorem size_is {c n : Int} (h : Hid (szP c = n)) (w : World) : Calls Try.prog 57 #[.int .i64 c] w fun e w' => e = .returned (.int .i64 n) ∧ w = w' := by
  rw [← h.out]; exact size_any c w
theorem point_is {c : Int} {b : Bool} (h : Hid (isPt c = b)) (w : World) : Calls Try.prog 56 #[.int .i64 c] w fun e w' => e = .returned (.bool b) ∧ w = w' := by
  rw [← h.out]; exact point_any c w
theorem app_w1 (c : Int) (v : Value) (l m : List UInt8) (w : World) (B : Nat) (hp : Hid (isPt c = false)) (ho : Hid (OwnB B w v l)) (hB : B ≤ w.heap.size) (hl : l.length + m.length ≤ 10000000)
    (hc : Hid (#[Value.int .u8 (c % 256)] = (bv m).toArray ∧ 1 = m.length)) : Calls Try.prog 48 #[v, .int .i64 c] w (GotB B w (l ++ m)) := by
  go_enter Try.func48, Try.ntmps48
  go_wp2_with (first
    | (go_at_call 56; refine (point_is hp _).mono ?_; rintro e w' ⟨rfl, rfl⟩)
    | (at_builtin; refine pushC rfl (.tmp 8) (.tmp 11) rfl _ B _ _ m 1 1 _ hc rfl ho.out rfl hB hl ?_; intro v2 w2 ho2 hb2))
  go_ret
  exact ⟨_, rfl, ho2, hb2⟩
theorem app_w2 (c : Int) (v : Value) (l m : List UInt8) (w : World) (B : Nat) (hp : Hid (isPt c = true)) (hz : Hid (szP c = 1)) (h0 : 0 ≤ c) (h1 : c < 128) (ho : Hid (OwnB B w v l)) (hB : B ≤ w.heap.size) (hl : l.length + m.length ≤ 10000000)
    (hc : Hid (#[Value.int .u8 c] = (bv m).toArray ∧ 1 = m.length)) : Calls Try.prog 48 #[v, .int .i64 c] w (GotB B w (l ++ m)) := by
  go_enter Try.func48, Try.ntmps48
  go_wp2_with (first
    | (go_at_call 56; refine (point_is hp _).mono ?_; rintro e w' ⟨rfl, rfl⟩)
    | (go_at_call 57; refine (size_is hz _).mono ?_; rintro e w' ⟨rfl, rfl⟩)
    | (at_builtin; refine pushC rfl (.tmp 17) (.tmp 20) rfl _ B _ _ m 1 1 _ hc rfl ho.out rfl hB hl ?_; intro v2 w2 ho2 hb2))
  go_ret
  exact ⟨_, rfl, ho2, hb2⟩
theorem app_w3 (c : Int) (v : Value) (l m : List UInt8) (w : World) (B : Nat) (hp : Hid (isPt c = true)) (hz : Hid (szP c = 2)) (h0 : 128 ≤ c) (h1 : c < 2048) (ho : Hid (OwnB B w v l)) (hB : B ≤ w.heap.size) (hl : l.length + m.length ≤ 10000000)
    (hc : Hid (#[Value.int .u8 (192 + c / 64), .int .u8 (128 + c % 64)] = (bv m).toArray ∧ 2 = m.length)) : Calls Try.prog 48 #[v, .int .i64 c] w (GotB B w (l ++ m)) := by
  have e1 := or192 (b := c / 64) (by omega) (by omega)
  go_enter Try.func48, Try.ntmps48
  go_wp2_with (first
    | (go_at_call 56; refine (point_is hp _).mono ?_; rintro e w' ⟨rfl, rfl⟩)
    | (go_at_call 57; refine (size_is hz _).mono ?_; rintro e w' ⟨rfl, rfl⟩)
    | (go_at_call 58; refine (tail_any _ _).mono ?_; rintro e w' ⟨rfl, rfl⟩)
    | (at_builtin; refine pushC rfl (.tmp 24) (.tmp 31) rfl _ B _ _ m 2 2 _ hc rfl ho.out rfl hB hl ?_; intro v2 w2 ho2 hb2))
  go_ret
  exact ⟨_, rfl, ho2, hb2⟩
theorem app_w4 (c : Int) (v : Value) (l m : List UInt8) (w : World) (B : Nat) (hp : Hid (isPt c = true)) (hz : Hid (szP c = 3)) (h0 : 2048 ≤ c) (h1 : c < 65536) (ho : Hid (OwnB B w v l)) (hB : B ≤ w.heap.size) (hl : l.length + m.length ≤ 10000000)
    (hc : Hid (#[Value.int .u8 (224 + c / 4096), .int .u8 (128 + c / 64 % 64), .int .u8 (128 + c % 64)] = (bv m).toArray ∧ 3 = m.length)) : Calls Try.prog 48 #[v, .int .i64 c] w (GotB B w (l ++ m)) := by
  have e1 := or224 (b := c / 4096) (by omega) (by omega)
  go_enter Try.func48, Try.ntmps48
  go_wp2_with (first
    | (go_at_call 56; refine (point_is hp _).mono ?_; rintro e w' ⟨rfl, rfl⟩)
    | (go_at_call 57; refine (size_is hz _).mono ?_; rintro e w' ⟨rfl, rfl⟩)
    | (go_at_call 58; refine (tail_any _ _).mono ?_; rintro e w' ⟨rfl, rfl⟩)
    | (at_builtin; refine pushC rfl (.tmp 35) (.tmp 45) rfl _ B _ _ m 3 3 _ hc rfl ho.out rfl hB hl ?_; intro v2 w2 ho2 hb2))
  go_ret
  exact ⟨_, rfl, ho2, hb2⟩
theorem app_w5 (c : Int) (v : Value) (l m : List UInt8) (w : World) (B : Nat) (hp : Hid (isPt c = true)) (hz : Hid (szP c = 4)) (h0 : 65536 ≤ c) (h1 : c ≤ 1114111) (ho : Hid (OwnB B w v l)) (hB : B ≤ w.heap.size) (hl : l.length + m.length ≤ 10000000)
    (hc : Hid (#[Value.int .u8 (240 + c / 262144), .int .u8 (128 + c / 4096 % 64), .int .u8 (128 + c / 64 % 64), .int .u8 (128 + c % 64)] = (bv m).toArray ∧ 4 = m.length)) : Calls Try.prog 48 #[v, .int .i64 c] w (GotB B w (l ++ m)) := by
  have e1 := or240 (b := c / 262144) (by omega) (by omega)
  go_enter Try.func48, Try.ntmps48
  go_wp2_with (first
    | (go_at_call 56; refine (point_is hp _).mono ?_; rintro e w' ⟨rfl, rfl⟩)
    | (go_at_call 57; refine (size_is hz _).mono ?_; rintro e w' ⟨rfl, rfl⟩)
    | (go_at_call 58; refine (tail_any _ _).mono ?_; rintro e w' ⟨rfl, rfl⟩)
    | (at_builtin; refine pushC rfl (.tmp 47) (.tmp 60) rfl _ B _ _ m 4 4 _ hc rfl ho.out rfl hB hl ?_; intro v2 w2 ho2 hb2))
  go_ret
  exact ⟨_, rfl, ho2, hb2⟩
theorem int_u8 {a b : Int} (h : a = b) : Value.int .u8 a = .int .u8 b := by rw [h]
theorem app_any (c : Int) (v : Value) (l : List UInt8) (w : World) (B : Nat) (hs : isSg c = true) (ho : OwnB B w v l) (hB : B ≤ w.heap.size) (hl : l.length ≤ 9000000) :
    Calls Try.prog 48 #[v, .int .i64 c] w (GotB B w (l ++ one c.toNat)) := by
  have hlen := one_len_le c.toNat
  by_cases hp : isPt c = true
  · have hb := isPt_iff.1 hp
    obtain ⟨n, rfl⟩ := Int.eq_ofNat_of_zero_le hb.1
    have hz := sz_ways (n : Int)
    simp only [Int.toNat_natCast] at hlen ⊢
    by_cases h1 : n < 128
    · refine app_w2 n v l _ w B hp (show _ = _ by omega) hb.1 (by omega) ho hB (by omega) ?_
      rw [one_1 h1]
      exact ⟨by simp only [bv, List.map_cons, List.map_nil]; rw [to_ofNat (by omega)], rfl⟩
    by_cases h2 : n < 2048
    · refine app_w3 n v l _ w B hp (show _ = _ by omega) (by omega) (by omega) ho hB (by omega) ?_
      rw [one_2 h1 h2]
      exact ⟨by simp only [bv, List.map_cons, List.map_nil]; rw [to_ofNat (by omega), to_ofNat (by omega)]; rfl, rfl⟩
    by_cases h3 : n < 65536
    · refine app_w4 n v l _ w B hp (show _ = _ by omega) (by omega) (by omega) ho hB (by omega) ?_
      rw [one_3 h2 h3]
      exact ⟨by simp only [bv, List.map_cons, List.map_nil]; rw [to_ofNat (by omega), to_ofNat (by omega), to_ofNat (by omega)]; rfl, rfl⟩
    · refine app_w5 n v l _ w B hp (show _ = _ by omega) (by omega) (by omega) ho hB (by omega) ?_
      rw [one_4 h3 (by omega)]
      exact ⟨by simp only [bv, List.map_cons, List.map_nil]; rw [to_ofNat (by omega), to_ofNat (by omega), to_ofNat (by omega), to_ofNat (by omega)]; rfl, rfl⟩
  · have hb : 1114240 ≤ c ∧ c ≤ 1114367 := by simpa [isSg, hp] using hs
    obtain ⟨n, rfl⟩ := Int.eq_ofNat_of_zero_le (show 0 ≤ c by omega)
    simp only [Int.toNat_natCast] at hlen ⊢
    refine app_w1 n v l _ w B (Lib.hid (by simpa using hp)) ho hB (by omega) ?_
    rw [one_raw (by omega)]
    exact ⟨by simp only [bv, List.map_cons, List.map_nil]; rw [to_ofNat (by omega), int_u8 (show (n : Int) % 256 = ((n - 1114112 : Nat) : Int) by omega)], rfl⟩
end Go.Proofs.Ytdodlppnjlmnaaa.T2
namespace Go.Proofs.Ytdodlppnjlmnaaa.T2
open Go.RowKit
set_option linter.unusedVariables false
set_option linter.unusedSimpArgs false
theorem fold_sg {c : Int} (h : isSg c = true) : isSg (fold c) = true := by
  by_cases hp : isPt c = true
  · simp [isSg, fold_pt hp]
  · have hb : 1114240 ≤ c ∧ c ≤ 1114367 := by simpa [isSg, hp] using h
    rw [fold_hi (by omega)]; exact h
theorem ne_drop {l : List UInt8} {p : Nat} (h : p < l.length) : l.drop p ≠ [] := by
  intro e; have := congrArg List.length e; rw [List.length_drop, List.length_nil] at this; omega
theorem dec_sg_at {l : List UInt8} {p : Nat} {D : Nat × Nat} (h : p < l.length) (hD : dec (l.drop p) = D) : isSg (D.1 : Int) = true := by
  rw [← hD]; exact dec_sg (ne_drop h)
theorem ft_at {l : List UInt8} {k : Nat} {D : Nat × Nat} (hk : pos k l < l.length) (hD : dec (l.drop (pos k l)) = D) :
    joinS (((sgs l).take k).map fold) ++ one (fold (D.1 : Int)).toNat = joinS (((sgs l).take (k + 1)).map fold) := by
  rw [← take_at hk hD, List.map_append, joinS_app]; simp [joinS]
theorem ft_take_len (l : List UInt8) (k : Nat) : (joinS (((sgs l).take k).map fold)).length ≤ 4 * l.length := by
  have h1 := joinS_len (((sgs l).take k).map fold)
  have h2 := sgs_len l
  rw [List.length_map, List.length_take] at h1; omega
theorem ft_all {l : List UInt8} {k : Nat} (hk : ¬ pos k l < l.length) : joinS (((sgs l).take k).map fold) = ft l := by
  rw [List.take_of_length_le (by have := mt (pos_len k l).2 hk; omega)]; rfl
end Go.Proofs.Ytdodlppnjlmnaaa.T2
namespace Go.Proofs.Ytdodlppnjlmnaaa.T2
open Go.RowKit
set_option linter.unusedVariables false
set_option linter.unusedSimpArgs false
/-- Signs' bytes, one by one, are what they are together. -/
theorem join_at {l : List Int} {k : Nat} {c : Int} (hk : k < l.length) (hc : l[k] = c) : joinS (l.take k) ++ one c.toNat = joinS (l.take (k + 1)) := by
  rw [List.take_succ_eq_append_getElem hk, joinS_app, hc]; simp [joinS]
theorem join_take_len (l : List Int) (k : Nat) : (joinS (l.take k)).length ≤ 4 * l.length := by
  have h1 := joinS_len (l.take k)
  rw [List.length_take] at h1; omega
theorem ba_app (a b : List UInt8) : (⟨a.toArray⟩ : ByteArray) ++ ⟨b.toArray⟩ = ⟨(a ++ b).toArray⟩ := by
  apply ByteArray.ext; simp
theorem one_at {c : Int} {m : Nat} (h : c = m) (w : World) (hc : c ≤ 9223372036854775807) :
    Calls Try.prog 40 #[.int .i64 c] w fun e w' => e = .returned (.string ⟨(one c.toNat).toArray⟩) ∧ Below w.heap.size w w' := by
  subst h; exact one_any m w hc
end Go.Proofs.Ytdodlppnjlmnaaa.T2
namespace Go.Proofs.Ytdodlppnjlmnaaa.T2
open Go.RowKit
set_option linter.unusedVariables false
set_option linter.unusedSimpArgs false
/-- A list of the call's own as a value, and its cells. -/
theorem OwnI.shape {B : Nat} {w : World} {v : Value} {l : List Int} (h : OwnI B w v l) :
    ∃ A c, v = .slice A l.length c ∧ (0 < l.length → ∃ ad : Addr, A = some ad ∧ ad.block < w.heap.size ∧ ∀ j u, (iv l)[j]? = some u → w.cell? (ad.add j) = some u) := by
  obtain ⟨A, c, e, hr⟩ := h.rd
  rw [iv_len] at e hr
  exact ⟨A, c, e, hr⟩
theorem fjoin_at {l : List Int} {k : Nat} {c : Int} (hk : k < l.length) (hc : l[k] = c) : joinS ((l.take k).map fold) ++ one (fold c).toNat = joinS ((l.take (k + 1)).map fold) := by
  rw [List.take_succ_eq_append_getElem hk, List.map_append, joinS_app, hc]; simp [joinS]
end Go.Proofs.Ytdodlppnjlmnaaa.T2
namespace Go.Proofs.Ytdodlppnjlmnaaa.T2
open Go.RowKit
set_option linter.unusedVariables false
set_option linter.unusedSimpArgs false
theorem byt_arg {l : List Int} {k : Nat} (hk : k < l.length) (h : isSg l[k] = false) : bytL l = [] ∧ bytE l = 1 := by
  have : l.all isSg = false := by
    rw [List.all_eq_false]; exact ⟨_, List.getElem_mem hk, by simp [h]⟩
  unfold bytL bytE; rw [this]; exact ⟨rfl, rfl⟩
theorem byt_form {l : List Int} (ha : l.all isSg = true) (h : (sgs (joinS l) == l) = false) : bytL l = [] ∧ bytE l = 3 := by
  have : ¬ sgs (joinS l) = l := by simpa using h
  unfold bytL bytE; rw [ha, if_neg this, if_neg this]; exact ⟨rfl, rfl⟩
theorem byt_good {l : List Int} (ha : l.all isSg = true) (h : (sgs (joinS l) == l) = true) : bytL l = joinS l ∧ bytE l = 0 := by
  have : sgs (joinS l) = l := by simpa using h
  unfold bytL bytE; rw [ha, if_pos this, if_pos this]; exact ⟨rfl, rfl⟩
theorem all_step {l : List Int} {k : Nat} (hk : k < l.length) (ha : (l.take k).all isSg = true) (h : isSg l[k] = true) : (l.take (k + 1)).all isSg = true := by
  rw [List.take_succ_eq_append_getElem hk, List.all_append, ha, List.all_cons, h]; rfl
theorem rsign_is {c : Int} {b : Bool} (h : Hid (isSg c = b)) (w : World) : Calls Try.prog 13 #[.int .i64 c] w fun e w' => e = .returned (.bool b) ∧ w = w' := by
  rw [← h.out]; exact rsign_any c w
theorem sign_is {c : Int} {b : Bool} (h : Hid (isSg c = b)) (w : World) : Calls Try.prog 47 #[.int .i64 c] w fun e w' => e = .returned (.bool b) ∧ w = w' := by
  rw [← h.out]; exact sign_any c w
theorem Rd.mk {B : Nat} {w : World} {A : Option Addr} {n c : Nat} {xs : List Value} (hn : n = xs.length) (h : 0 < xs.length → ∃ ad : Addr, A = some ad ∧ ad.block < B ∧ ∀ j u, xs[j]? = some u → w.cell? (ad.add j) = some u) : Rd B w (.slice A n c) xs := ⟨A, c, by rw [hn], h⟩
theorem same_is {L : List UInt8} {t : ByteArray} {l : List Int} {b : Bool} (h : (sgs L == l) = b) (ht : t.data.toList = L) (u v : Value) (w : World) {B : Nat} (hu : Rd w.heap.size w u (iv (sgs t.data.toList))) (hv : Rd B w v (iv l)) (hB : B ≤ w.heap.size) (hm : L.length ≤ 10000000) :
    Calls Try.prog 14 #[u, v] w fun e w' => e = .returned (.bool b) ∧ Below w.heap.size w w' := by
  rw [ht] at hu
  rw [← h]; exact same_any u v _ l w hu (hv.more hB) (Nat.le_trans (sgs_len L) hm)
theorem equal_is {L : List UInt8} {t : ByteArray} {l : List Int} {b : Bool} (h : (sgs L == l) = b) (ht : t.data.toList = L) (u v : Value) (w : World) {B : Nat} (hu : Rd w.heap.size w u (iv (sgs t.data.toList))) (hv : Rd B w v (iv l)) (hB : B ≤ w.heap.size) (hm : L.length ≤ 10000000) :
    Calls Try.prog 39 #[u, v] w fun e w' => e = .returned (.bool b) ∧ Below w.heap.size w w' := by
  rw [ht] at hu
  rw [← h]; exact equal_any u v _ l w hu (hv.more hB) (Nat.le_trans (sgs_len L) hm)
set_option maxRecDepth 200000 in
theorem bytes_any (v : Value) (l : List Int) (w : World) (hr : Rd w.heap.size w v (iv l)) (hm : l.length ≤ 200000) :
    Calls Try.prog 34 #[v] w fun e w' => e = .returned (.tuple #[.string ⟨(bytL l).toArray⟩, .int .i64 (bytE l)]) ∧ Below w.heap.size w w' := by
  have HV := Lib.hid hr
  obtain ⟨A, c, rfl, hr⟩ := hr
  rw [iv_len] at hr HV ⊢
  have HR := Lib.hid hr
  have AR := Lib.hid (fun k => @byt_arg l k)
  have FO := Lib.hid (@byt_form l)
  have GO := Lib.hid (@byt_good l)
  have ST := Lib.hid (fun k => @all_step l k)
  have JL := Lib.hid (joinS_len l)
  have JT := Lib.hid (join_take_len l)
  have JA := Lib.hid (fun k c => @join_at l k c)
  obtain ⟨S, hS⟩ : ∃ S, bytL l = S := ⟨_, rfl⟩
  obtain ⟨E, hE⟩ : ∃ E, bytE l = E := ⟨_, rfl⟩
  rw [hS, hE] at AR FO GO ⊢
  clear hr hS hE
  go_enter Try.func34, Try.ntmps34
  go_wp2
  go_loopw [4, 10] (fun u i wr => ∃ (k : Nat), k ≤ l.length ∧ i = .int .i64 k ∧ Hid ((l.take k).all isSg = true) ∧ Hid (OwnB w.heap.size wr u (joinS (l.take k))) ∧ Hid (Below w.heap.size w wr)) (fun _ i _ => l.length - (intOf i).toNat)
  case atStart => exact ⟨0, by omega, rfl, rfl, OwnB.nil _ _, Below.refl _ _⟩
  case round =>
    obtain ⟨k, hk, rfl, HA, HO, HW⟩ := hrel
    by_cases hlt : k < l.length
    · obtain ⟨ad, rfl, hab, hc⟩ := HR.out (by omega)
      have c1 := hc k _ (iv_at hlt)
      have hst := ST.out k hlt HA.out
      have har := AR.out k hlt
      have hja := JA.out k _ hlt rfl
      obtain ⟨x, hx⟩ : ∃ x, l[k] = x := ⟨_, rfl⟩
      rw [hx] at c1 hst har hja
      have c2 := (HW.out.cell (p := ad.add k) (by rw [add_block]; exact hab)).trans c1
      obtain ⟨b, hb⟩ : ∃ b, isSg x = b := ⟨_, rfl⟩
      have HB := Lib.hid hb
      rw [hb] at hst har
      have HST := Lib.hid hst
      have HAR := Lib.hid har
      have HJA := Lib.hid hja
      have HJT : Hid ((joinS (l.take k)).length ≤ 9000000) := by have := JT.out k; show _ ≤ _; omega
      have i1 : (k : Int) < (l.length : Int) := by omega
      clear hc hx c1 hst har hb hja
      cases b
      · have HAR' := Lib.hid (HAR.out rfl)
        go_wp2_with (go_at_call 47; refine (sign_is HB _).mono ?_; rintro e w' ⟨rfl, rfl⟩)
        go_ret2
        exact ⟨by rw [HAR'.out.1, HAR'.out.2]; rfl, HW.out⟩
      · have HST' := Lib.hid (HST.out rfl)
        go_wp2_with (first
          | (go_at_call 47; refine (sign_is HB _).mono ?_; rintro e w' ⟨rfl, rfl⟩)
          | (go_at_call 48; refine (app_any _ _ _ _ _ HB.out HO.out HW.out.size HJT.out).mono ?_; rintro e w2 ⟨v2, rfl, ho2, hb2⟩))
        go_roundw
        case rel => exact ⟨k + 1, by omega, by go_num, HST'.out, by rw [← HJA.out]; exact ho2, HW.out.trans hb2⟩
        case measure => simp [intOf]; omega
    · obtain rfl : k = l.length := by omega
      have ha := HA.out
      have ho := HO.out
      rw [List.take_length] at ha ho
      have HA' := Lib.hid ha
      have hrd := HV.out.below HW.out
      have k1 := str_of ho.rd
      obtain ⟨t, ht⟩ : ∃ t : ByteArray, (⟨(joinS l).toArray⟩ : ByteArray) = t := ⟨_, rfl⟩
      have htl : t.data.toList = joinS l := by rw [← ht]
      have hts : t.size ≤ 1000000 := by rw [← ba_len, htl]; have := JL.out; omega
      rw [ht] at k1
      have FO' := FO.out ha
      have GO' := GO.out ha
      obtain ⟨b, hb⟩ : ∃ b, (sgs (joinS l) == l) = b := ⟨_, rfl⟩
      rw [hb] at FO' GO'
      have HB := Lib.hid hb
      have HF := Lib.hid FO'
      have HG := Lib.hid GO'
      have HT := Lib.hid ht
      have HTL := Lib.hid htl
      have HRD := Lib.hid hrd
      have CS := Lib.hid (fun w => signs_any t w hts)
      clear ha FO' GO' hb ht htl hrd ho
      have HJ : Hid ((joinS l).length ≤ 10000000) := by have := JL.out; show _ ≤ _; omega
      cases b
      · have HF' := Lib.hid (HF.out rfl)
        go_wp2_with (first
          | (go_at_call 49; refine (CS.out _).mono ?_; rintro e w2 ⟨v2, rfl, ho2, hb2⟩)
          | (go_at_call 39; refine (equal_is HB.out HTL.out _ _ _ ho2.rd (HRD.out.below (hb2.mono HW.out.size)) (Nat.le_trans HW.out.size hb2.size) HJ.out).mono ?_; rintro e w3 ⟨rfl, hb3⟩))
        go_ret2
        exact ⟨by rw [HF'.out.1, HF'.out.2]; rfl, HW.out.trans ((hb2.trans (hb3.mono hb2.size)).mono HW.out.size)⟩
      · have HG' := Lib.hid (HG.out rfl)
        go_wp2_with (first
          | (go_at_call 49; refine (CS.out _).mono ?_; rintro e w2 ⟨v2, rfl, ho2, hb2⟩)
          | (go_at_call 39; refine (equal_is HB.out HTL.out _ _ _ ho2.rd (HRD.out.below (hb2.mono HW.out.size)) (Nat.le_trans HW.out.size hb2.size) HJ.out).mono ?_; rintro e w3 ⟨rfl, hb3⟩))
        go_ret2
        exact ⟨by rw [HG'.out.1, HG'.out.2, HT.out]; rfl, HW.out.trans ((hb2.trans (hb3.mono hb2.size)).mono HW.out.size)⟩
end Go.Proofs.Ytdodlppnjlmnaaa.T2
