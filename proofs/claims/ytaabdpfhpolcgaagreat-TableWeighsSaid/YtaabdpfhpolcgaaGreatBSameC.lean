/-
  THE CONTRACT of Same: elements of the program's and the document's.
-/
import Derived.Test.YtaabdpfhpolcgaaGreatBSame
import Derived.Deep.RegionHeld3
import Derived.Deep.DrawnRows
namespace Go.Proofs.YtaabdpfhpolcgaaGreat
open Go.RowKit
set_option linter.unusedVariables false
set_option linter.unusedSimpArgs false
def SamS (g1 o1 g2 o2 : Nat) (x p s t : Int) (v : Bool) (wr w' : World) : Prop :=
  w'.cell? ⟨g1, o1, none⟩ = some (.int .u32 x) ∧ w'.cell? ⟨g2, o2, none⟩ = some (.int .i64 p) ∧ w'.cell? ⟨g2, o2 + 1, none⟩ = some (.int .i64 s) ∧ w'.cell? ⟨g2, o2 + 2, none⟩ = some (.int .i64 t) ∧ w'.cell? ⟨g2, o2 + 3, none⟩ = some (.bool v) ∧ Below wr.heap.size wr w'
theorem SamS.call {g1 o1 g2 o2 : Nat} {x p s t : Int} {v : Bool} {wr w1 w2 : World} (hb : Below w1.heap.size w1 w2) (h : SamS g1 o1 g2 o2 x p s t v wr w1) : SamS g1 o1 g2 o2 x p s t v wr w2 :=
  ⟨cell_call hb h.1, cell_call hb h.2.1, cell_call hb h.2.2.1, cell_call hb h.2.2.2.1, cell_call hb h.2.2.2.2.1, h.2.2.2.2.2.trans (hb.mono h.2.2.2.2.2.size)⟩
theorem take_eq_succ {l m : List Nat} {k x : Nat} (hl : l[k]? = some x) (hm : m[k]? = some x) (h : l.take k = m.take k) : l.take (k + 1) = m.take (k + 1) := by
  rw [List.take_add_one, List.take_add_one, hl, hm, h]
attribute [local go_sem ↓] Go.wp_at_zero Go.wp_at_succ
set_option maxHeartbeats 1000000 in
set_option maxRecDepth 100000 in
theorem same_any {F G : Nat → Prop} {w : World} {u v : Value} {l m : List Nat} (hu : RdE F w u l) (hv : RdQ G w v m) (hl : l.length ≤ 10000000) (hm : m.length ≤ 10000000) (hw : ∀ x ∈ m, x < 4294967296) {b : Bool} (hb : (l == m) = b) :
    Calls Tryz.prog 24 #[u, v] w fun e w' => e = .returned (.bool b) ∧ Below w.heap.size w w' := by
  obtain ⟨A, c, rfl⟩ := hu.form
  obtain ⟨A', c', rfl⟩ := hv.form
  by_cases hlen : l.length = m.length
  · have HU := Lib.hid hu
    have HV := Lib.hid hv
    have HW := Lib.hid hw
    have HB := Lib.hid hb
    have HLN := Lib.hid hlen
    have hlI : (l.length : Int) ≤ 10000000 := by omega
    rw [← hlen] at hv HV ⊢
    clear hu hv hw hb
    go_enter Tryz.func24, Tryz.ntmps24
    clear hlen
    go_wp2
    go_loopw [5] (fun i wr => ∃ k : Nat, k ≤ l.length ∧ i = .int .i64 (k : Nat) ∧ Hid (l.take k = m.take k) ∧ Hid (Below w.heap.size w wr)) (fun i _ => l.length - (intOf i).toNat)
    case atStart => exact ⟨0, Nat.zero_le _, rfl, rfl, Below.refl _ _⟩
    case round =>
      obtain ⟨k, hk, rfl, HE, HBl⟩ := hrel
      by_cases hlt : k < l.length
      · obtain ⟨x, hx⟩ : ∃ x, l[k]? = some x := ⟨_, List.getElem?_eq_getElem hlt⟩
        obtain ⟨y, hy⟩ : ∃ y, m[k]? = some y := ⟨_, List.getElem?_eq_getElem (by have := HLN.out; omega)⟩
        obtain ⟨g1, o1, rfl, c0⟩ := (HU.out.below HBl.out (Nat.le_refl _)).at hx
        obtain ⟨g2, o2, rfl, d0, d1, d2, d3⟩ := (HV.out.below HBl.out (Nat.le_refl _)).at hy
        have HWd := Lib.hid (fun w => word_is (HW.out y (List.mem_of_getElem? hy)) w)
        obtain ⟨P, hP⟩ : ∃ P : Int, ((y / 65536 : Nat) : Int) = P := ⟨_, rfl⟩
        obtain ⟨S, hS⟩ : ∃ S : Int, ((y / 256 % 256 : Nat) : Int) = S := ⟨_, rfl⟩
        obtain ⟨T, hT⟩ : ∃ T : Int, ((y / 2 % 128 : Nat) : Int) = T := ⟨_, rfl⟩
        obtain ⟨V, hV⟩ : ∃ V : Bool, decide (y % 2 = 1) = V := ⟨_, rfl⟩
        rw [hP, hS, hT, hV] at HWd
        rw [hP] at d0
        rw [hS] at d1
        rw [hT] at d2
        rw [hV] at d3
        have HK : Hid (SamS g1 (o1 + k) g2 (o2 + k * 4) (x : Int) P S T V wr wr.drew) := ⟨c0, d0, d1, d2, d3, (Below.refl _ _).drew⟩
        have hkI : (k : Int) < (l.length : Int) := by omega
        have hk0 : (0 : Int) ≤ (k : Int) := by omega
        have hkN : k < l.length := hlt
        clear hP hS hT hV c0 d0 d1 d2 d3
        by_cases exy : x = y
        · subst exy
          have HN := Lib.hid (take_eq_succ hx hy HE.out)
          clear hx hy hlt
          go_wp2
          go_region_held3 (fun w' => w'.cell? ⟨g1, o1 + k, none⟩ = some (.int .u32 (x : Int)) ∧ w'.cell? ⟨g2, o2 + k * 4, none⟩ = some (.int .i64 P) ∧ w'.cell? ⟨g2, o2 + k * 4 + 1, none⟩ = some (.int .i64 S) ∧ w'.cell? ⟨g2, o2 + k * 4 + 2, none⟩ = some (.int .i64 T) ∧ w'.cell? ⟨g2, o2 + k * 4 + 3, none⟩ = some (.bool V) ∧ Below wr.heap.size wr w')
            (first
              | exact HK.out
              | (refine SamS.call hb2 ?_; assumption)
              | assumption)
            (first
              | (go_at_call 32; refine (HWd.out _).mono ?_; rintro e w2 ⟨rfl, hb2⟩; have HX := Lib.hid (SamS.call hb2 HK.out)))
          go_wp2
          have HB2 : Hid (Below w.heap.size w w2) := HBl.out.trans (HX.out.2.2.2.2.2.mono HBl.out.size)
          go_roundw
          case rel => exact ⟨k + 1, by omega, by go_num, HN.out, HB2.out⟩
          case measure => simp [intOf]; omega
        · have HN : Hid (b = false) := by
            show _ = _
            rw [← HB.out, beq_eq_false_iff_ne]
            intro e
            subst e
            rw [hx] at hy
            exact exy (Option.some.inj hy)
          have ne : ((x : Int) == (y : Int)) = false := by rw [beq_eq_false_iff_ne]; omega
          have ne2 : (x == y) = false := by rw [beq_eq_false_iff_ne]; exact exy
          clear hx hy hlt exy
          go_wp2
          go_region_held3 (fun w' => w'.cell? ⟨g1, o1 + k, none⟩ = some (.int .u32 (x : Int)) ∧ w'.cell? ⟨g2, o2 + k * 4, none⟩ = some (.int .i64 P) ∧ w'.cell? ⟨g2, o2 + k * 4 + 1, none⟩ = some (.int .i64 S) ∧ w'.cell? ⟨g2, o2 + k * 4 + 2, none⟩ = some (.int .i64 T) ∧ w'.cell? ⟨g2, o2 + k * 4 + 3, none⟩ = some (.bool V) ∧ Below wr.heap.size wr w')
            (first
              | exact HK.out
              | (refine SamS.call hb2 ?_; assumption)
              | assumption)
            (first
              | (go_at_call 32; refine (HWd.out _).mono ?_; rintro e w2 ⟨rfl, hb2⟩; have HX := Lib.hid (SamS.call hb2 HK.out)))
          go_wp2
          have HB2 : Hid (Below w.heap.size w w2) := HBl.out.trans (HX.out.2.2.2.2.2.mono HBl.out.size)
          go_ret
          exact ⟨by rw [HN.out]; rfl, HB2.out⟩
      · have HN : Hid (b = true) := by
          show _ = _
          have h1 := HE.out
          rw [List.take_of_length_le (by omega), List.take_of_length_le (by have := HLN.out; omega)] at h1
          rw [← HB.out, h1]; simp
        have hkI : ¬ (k : Int) < (l.length : Int) := by omega
        clear hlt
        go_wp2
        go_ret
        exact ⟨by rw [HN.out]; rfl, HBl.out⟩
  · have hbb : b = false := by
      rw [← hb, beq_eq_false_iff_ne]
      intro e; exact hlen (by rw [e])
    subst hbb
    have hne : ((l.length : Int) == (m.length : Int)) = false := by rw [beq_eq_false_iff_ne]; omega
    have hne2 : (l.length == m.length) = false := by rw [beq_eq_false_iff_ne]; exact hlen
    clear hu hv hw hb hlen
    go_enter Tryz.func24, Tryz.ntmps24
    go_wp2
    go_ret
    exact ⟨rfl, Below.refl _ _⟩
end Go.Proofs.YtaabdpfhpolcgaaGreat
