/-
  THE CONTRACT of a sign's bytes put behind a text of the call's own, by package utext.
-/
import Derived.Test.YtcoepmakajligaaTOne
import Derived.Test.YtcoepmakajligaaTSigs
namespace Go.Proofs.Ytcoepmakajligaa
open Go.RowKit
set_option linter.unusedVariables false
set_option linter.unusedSimpArgs false
/-- The call hands back bytes that it made itself (or that were made from B on); what stood below B stands. -/
def GotB (B : Nat) (w : World) (l : List UInt8) (e : Ending) (w' : World) : Prop := ∃ v, e = .returned v ∧ OwnB B w' v l ∧ Below B w w'
theorem pushC {ops : Array Oper} {rest : List Oper} {o : Oper} {a : Act} {Q : Exit → Act → World → Prop} (hgd : o.guard = none) (s x : Operand)
    (ho : o.op = .call { callee := .builtin .append, args := #[s, x], argTypes := #[41, 41] })
    (w0 : World) (B : Nat) (v : Value) (l m : List UInt8) (n C : Nat) (cs : Array Value) (hcs : Hid (cs = (bv m).toArray ∧ n = m.length)) (hs : a.eval s = v) (hown : OwnB B w0 v l) (hx : a.eval x = .slice (some ⟨w0.heap.size, 0, none⟩) n C)
    (hB : B ≤ w0.heap.size) (hl : l.length + m.length ≤ 10000000)
    (h : ∀ v' w', OwnB B w' v' (l ++ m) → Below B w0 w' → wpList Try.prog ops Q rest (a.put o.dst v') w') : wpList Try.prog ops Q (o :: rest) a (w0.alloc (.cells cs 5)) := by
  obtain ⟨rfl, rfl⟩ := hcs.out
  exact pushB hgd s x ho w0 B v l m C hs hown hx hB hl h
theorem size_is {c n : Int} (h : Hid (szP c = n)) (w : World) : Calls Try.prog 36 #[.int .i64 c] w fun e w' => e = .returned (.int .i64 n) ∧ w = w' := by
  rw [← h.out]; exact size_any c w
theorem point_is {c : Int} {b : Bool} (h : Hid (isPt c = b)) (w : World) : Calls Try.prog 35 #[.int .i64 c] w fun e w' => e = .returned (.bool b) ∧ w = w' := by
  rw [← h.out]; exact point_any c w
theorem app_w1 (c : Int) (v : Value) (l m : List UInt8) (w : World) (B : Nat) (hp : Hid (isPt c = false)) (ho : Hid (OwnB B w v l)) (hB : B ≤ w.heap.size) (hl : l.length + m.length ≤ 10000000)
    (hc : Hid (#[Value.int .u8 (c % 256)] = (bv m).toArray ∧ 1 = m.length)) : Calls Try.prog 26 #[v, .int .i64 c] w (GotB B w (l ++ m)) := by
  go_enter Try.func26, Try.ntmps26
  go_wp2_with (first
    | (go_at_call 35; refine (point_is hp _).mono ?_; rintro e w' ⟨rfl, rfl⟩)
    | (at_builtin; refine pushC rfl (.tmp 8) (.tmp 11) rfl _ B _ _ m 1 1 _ hc rfl ho.out rfl hB hl ?_; intro v2 w2 ho2 hb2))
  go_ret
  exact ⟨_, rfl, ho2, hb2⟩
theorem app_w2 (c : Int) (v : Value) (l m : List UInt8) (w : World) (B : Nat) (hp : Hid (isPt c = true)) (hz : Hid (szP c = 1)) (h0 : 0 ≤ c) (h1 : c < 128) (ho : Hid (OwnB B w v l)) (hB : B ≤ w.heap.size) (hl : l.length + m.length ≤ 10000000)
    (hc : Hid (#[Value.int .u8 c] = (bv m).toArray ∧ 1 = m.length)) : Calls Try.prog 26 #[v, .int .i64 c] w (GotB B w (l ++ m)) := by
  go_enter Try.func26, Try.ntmps26
  go_wp2_with (first
    | (go_at_call 35; refine (point_is hp _).mono ?_; rintro e w' ⟨rfl, rfl⟩)
    | (go_at_call 36; refine (size_is hz _).mono ?_; rintro e w' ⟨rfl, rfl⟩)
    | (at_builtin; refine pushC rfl (.tmp 17) (.tmp 20) rfl _ B _ _ m 1 1 _ hc rfl ho.out rfl hB hl ?_; intro v2 w2 ho2 hb2))
  go_ret
  exact ⟨_, rfl, ho2, hb2⟩
theorem app_w3 (c : Int) (v : Value) (l m : List UInt8) (w : World) (B : Nat) (hp : Hid (isPt c = true)) (hz : Hid (szP c = 2)) (h0 : 128 ≤ c) (h1 : c < 2048) (ho : Hid (OwnB B w v l)) (hB : B ≤ w.heap.size) (hl : l.length + m.length ≤ 10000000)
    (hc : Hid (#[Value.int .u8 (192 + c / 64), .int .u8 (128 + c % 64)] = (bv m).toArray ∧ 2 = m.length)) : Calls Try.prog 26 #[v, .int .i64 c] w (GotB B w (l ++ m)) := by
  have e1 := or192 (b := c / 64) (by omega) (by omega)
  go_enter Try.func26, Try.ntmps26
  go_wp2_with (first
    | (go_at_call 35; refine (point_is hp _).mono ?_; rintro e w' ⟨rfl, rfl⟩)
    | (go_at_call 36; refine (size_is hz _).mono ?_; rintro e w' ⟨rfl, rfl⟩)
    | (go_at_call 37; refine (tail_any _ _).mono ?_; rintro e w' ⟨rfl, rfl⟩)
    | (at_builtin; refine pushC rfl (.tmp 24) (.tmp 31) rfl _ B _ _ m 2 2 _ hc rfl ho.out rfl hB hl ?_; intro v2 w2 ho2 hb2))
  go_ret
  exact ⟨_, rfl, ho2, hb2⟩
theorem app_w4 (c : Int) (v : Value) (l m : List UInt8) (w : World) (B : Nat) (hp : Hid (isPt c = true)) (hz : Hid (szP c = 3)) (h0 : 2048 ≤ c) (h1 : c < 65536) (ho : Hid (OwnB B w v l)) (hB : B ≤ w.heap.size) (hl : l.length + m.length ≤ 10000000)
    (hc : Hid (#[Value.int .u8 (224 + c / 4096), .int .u8 (128 + c / 64 % 64), .int .u8 (128 + c % 64)] = (bv m).toArray ∧ 3 = m.length)) : Calls Try.prog 26 #[v, .int .i64 c] w (GotB B w (l ++ m)) := by
  have e1 := or224 (b := c / 4096) (by omega) (by omega)
  go_enter Try.func26, Try.ntmps26
  go_wp2_with (first
    | (go_at_call 35; refine (point_is hp _).mono ?_; rintro e w' ⟨rfl, rfl⟩)
    | (go_at_call 36; refine (size_is hz _).mono ?_; rintro e w' ⟨rfl, rfl⟩)
    | (go_at_call 37; refine (tail_any _ _).mono ?_; rintro e w' ⟨rfl, rfl⟩)
    | (at_builtin; refine pushC rfl (.tmp 35) (.tmp 45) rfl _ B _ _ m 3 3 _ hc rfl ho.out rfl hB hl ?_; intro v2 w2 ho2 hb2))
  go_ret
  exact ⟨_, rfl, ho2, hb2⟩
theorem app_w5 (c : Int) (v : Value) (l m : List UInt8) (w : World) (B : Nat) (hp : Hid (isPt c = true)) (hz : Hid (szP c = 4)) (h0 : 65536 ≤ c) (h1 : c ≤ 1114111) (ho : Hid (OwnB B w v l)) (hB : B ≤ w.heap.size) (hl : l.length + m.length ≤ 10000000)
    (hc : Hid (#[Value.int .u8 (240 + c / 262144), .int .u8 (128 + c / 4096 % 64), .int .u8 (128 + c / 64 % 64), .int .u8 (128 + c % 64)] = (bv m).toArray ∧ 4 = m.length)) : Calls Try.prog 26 #[v, .int .i64 c] w (GotB B w (l ++ m)) := by
  have e1 := or240 (b := c / 262144) (by omega) (by omega)
  go_enter Try.func26, Try.ntmps26
  go_wp2_with (first
    | (go_at_call 35; refine (point_is hp _).mono ?_; rintro e w' ⟨rfl, rfl⟩)
    | (go_at_call 36; refine (size_is hz _).mono ?_; rintro e w' ⟨rfl, rfl⟩)
    | (go_at_call 37; refine (tail_any _ _).mono ?_; rintro e w' ⟨rfl, rfl⟩)
    | (at_builtin; refine pushC rfl (.tmp 47) (.tmp 60) rfl _ B _ _ m 4 4 _ hc rfl ho.out rfl hB hl ?_; intro v2 w2 ho2 hb2))
  go_ret
  exact ⟨_, rfl, ho2, hb2⟩
theorem int_u8 {a b : Int} (h : a = b) : Value.int .u8 a = .int .u8 b := by rw [h]
theorem app_any (c : Int) (v : Value) (l : List UInt8) (w : World) (B : Nat) (hs : isSg c = true) (ho : OwnB B w v l) (hB : B ≤ w.heap.size) (hl : l.length ≤ 9000000) :
    Calls Try.prog 26 #[v, .int .i64 c] w (GotB B w (l ++ one c.toNat)) := by
  have hlen := one_len_le c.toNat
  by_cases hp : isPt c = true
  · have hb := isPt_iff.1 hp
    obtain ⟨n, rfl⟩ := Int.eq_ofNat_of_zero_le hb.1
    have hz := sz_ways (n : Int)
    simp only [Int.toNat_natCast] at hlen ⊢
    by_cases h1 : n < 128
    · refine app_w2 n v l _ w B hp (show _ = _ by omega) hb.1 (by omega) ho hB (by omega) ?_
      rw [one_1 h1]
      exact ⟨by simp only [bv, List.map_cons, List.map_nil]; rw [to_ofNat (by omega)], rfl⟩
    by_cases h2 : n < 2048
    · refine app_w3 n v l _ w B hp (show _ = _ by omega) (by omega) (by omega) ho hB (by omega) ?_
      rw [one_2 h1 h2]
      exact ⟨by simp only [bv, List.map_cons, List.map_nil]; rw [to_ofNat (by omega), to_ofNat (by omega)]; rfl, rfl⟩
    by_cases h3 : n < 65536
    · refine app_w4 n v l _ w B hp (show _ = _ by omega) (by omega) (by omega) ho hB (by omega) ?_
      rw [one_3 h2 h3]
      exact ⟨by simp only [bv, List.map_cons, List.map_nil]; rw [to_ofNat (by omega), to_ofNat (by omega), to_ofNat (by omega)]; rfl, rfl⟩
    · refine app_w5 n v l _ w B hp (show _ = _ by omega) (by omega) (by omega) ho hB (by omega) ?_
      rw [one_4 h3 (by omega)]
      exact ⟨by simp only [bv, List.map_cons, List.map_nil]; rw [to_ofNat (by omega), to_ofNat (by omega), to_ofNat (by omega), to_ofNat (by omega)]; rfl, rfl⟩
  · have hb : 1114240 ≤ c ∧ c ≤ 1114367 := by simpa [isSg, hp] using hs
    obtain ⟨n, rfl⟩ := Int.eq_ofNat_of_zero_le (show 0 ≤ c by omega)
    simp only [Int.toNat_natCast] at hlen ⊢
    refine app_w1 n v l _ w B (Lib.hid (by simpa using hp)) ho hB (by omega) ?_
    rw [one_raw (by omega)]
    exact ⟨by simp only [bv, List.map_cons, List.map_nil]; rw [to_ofNat (by omega), int_u8 (show (n : Int) % 256 = ((n - 1114112 : Nat) : Int) by omega)], rfl⟩
end Go.Proofs.Ytcoepmakajligaa
