/-
  WHAT THE DOCUMENT FIXES, OF THE TEXTS: the given example answers true.
-/
import Derived.Test.YtcoepmakajligaaTBytes
namespace Go.Proofs.Ytcoepmakajligaa
open Go.RowKit
set_option linter.unusedVariables false
set_option linter.unusedSimpArgs false
theorem signs_is {t : ByteArray} {l : List Int} (h : sgs t.data.toList = l) (ht : t.size ≤ 1000000) (w : World) : Calls Try.prog 10 #[.string t] w (GotI w.heap.size w l) := by
  rw [← h]; exact signs_any t w ht
theorem rsigns_is {t : ByteArray} {l : List Int} (h : sgs t.data.toList = l) (ht : t.size ≤ 1000000) (w : World) : Calls Try.prog 12 #[.string t] w (GotI w.heap.size w l) := by
  rw [← h]; exact rsigns_any t w ht
theorem bytes_is {l : List Int} {S : ByteArray} {E : Int} (h : (⟨(bytL l).toArray⟩ : ByteArray) = S ∧ bytE l = E) (hm : l.length ≤ 200000) (v : Value) (w : World) {B : Nat} (hr : Rd B w v (iv l)) (hB : B ≤ w.heap.size) :
    Calls Try.prog 11 #[v] w fun e w' => e = .returned (.tuple #[.string S, .int .i64 E]) ∧ Below w.heap.size w w' := by
  obtain ⟨rfl, rfl⟩ := h; exact bytes_any v l w (hr.more hB) hm
theorem rbytes_is {l : List Int} {S : ByteArray} {E : Int} (h : (⟨(bytL l).toArray⟩ : ByteArray) = S ∧ bytE l = E) (hm : l.length ≤ 200000) (v : Value) (w : World) {B : Nat} (hr : Rd B w v (iv l)) (hB : B ≤ w.heap.size) :
    Calls Try.prog 16 #[v] w fun e w' => e = .returned (.tuple #[.string S, .int .i64 E]) ∧ Below w.heap.size w w' := by
  obtain ⟨rfl, rfl⟩ := h; exact rbytes_any v l w (hr.more hB) hm
theorem rd_new (w : World) (l : List Int) : Rd (w.heap.size + 1) (w.alloc (.cells (iv l).toArray 3)) (.slice (some ⟨w.heap.size, 0, none⟩) l.length l.length) (iv l) :=
  ⟨_, _, by rw [iv_len], fun _ => ⟨_, rfl, Nat.lt_succ_self _, cells_new w (iv l) _⟩⟩
/-- A list of the call's own that is not empty, and its cells. -/
theorem OwnI.at_ {B : Nat} {w : World} {v : Value} {l : List Int} (h : OwnI B w v l) (h0 : 0 < l.length) :
    ∃ g c, v = .slice (some ⟨g, 0, none⟩) l.length c ∧ g < w.heap.size ∧ ∀ j u, (iv l)[j]? = some u → w.cell? ⟨g, j, none⟩ = some u := by
  have h' : w.ownsRow B 3 1 v l.length (iv l) := h
  obtain ⟨g, cap, hv, _, hlt⟩ := h'.form h0
  refine ⟨g, cap, hv, hlt, fun j u hu => ?_⟩
  have := h'.cells (g := g) (by rw [hv]; rfl) j u hu
  rw [Addr.add_lit, Nat.zero_add] at this; exact this
theorem aw_signs : sgs (⟨#[97, 195, 169, 255]⟩ : ByteArray).data.toList = [97, 233, 1114367] := by decide +kernel
theorem aw_bytes : (⟨(bytL [1114307, 1114281]).toArray⟩ : ByteArray) = ⟨#[]⟩ ∧ bytE [1114307, 1114281] = 3 := by
  have h : bytL [1114307, 1114281] = [] := by decide +kernel
  rw [h]; exact ⟨rfl, by decide +kernel⟩
set_option maxRecDepth 200000 in
theorem awake_any (w : World) : Calls Try.prog 9 #[] w fun e w' => e = .returned (.bool true) ∧ Below w.heap.size w w' := by
  have e1 : fold 65 = 97 := by decide +kernel
  go_enter Try.func9, Try.ntmps9
  go_wp2_with (first
    | (go_at_call 10; refine (signs_is aw_signs (by decide) _).mono ?_; rintro e w1 ⟨v, rfl, ho, hb⟩; obtain ⟨g, c, rfl, hbl, hc⟩ := ho.at_ (by decide); have c1 := hc 1 _ rfl; have c2 := hc 2 _ rfl; clear hc ho)
    | (go_at_call 11; refine (bytes_is aw_bytes (by decide) _ _ (rd_new w1 [1114307, 1114281]) (by simp)).mono ?_; rintro e w2 ⟨rfl, hb2⟩; have hb3 := ((Below.refl w1.heap.size w1).alloc (Nat.le_refl _) _).trans (hb2.mono (by simp)); have d1 := (hb3.cell (p := ⟨g, 1, none⟩) hbl).trans c1; have d2 := (hb3.cell (p := ⟨g, 2, none⟩) hbl).trans c2)
    | (go_at_call 18; refine (fold_any _ _).mono ?_; rintro e w3 ⟨rfl, rfl⟩))
  go_ret
  exact ⟨rfl, hb.trans (hb3.mono hb.size)⟩
end Go.Proofs.Ytcoepmakajligaa
