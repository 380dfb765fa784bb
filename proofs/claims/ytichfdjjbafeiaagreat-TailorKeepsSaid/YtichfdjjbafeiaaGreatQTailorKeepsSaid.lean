/-
  THE LAW TailorKeeps HOLDS: for every input its call returns true, and each argument reads behind it as before. CONDITIONS: none.
-/
import Derived.Test.YtichfdjjbafeiaaGreatRows
import Derived.HandedShaped
import Derived.ShutString
import Derived.Test.YtichfdjjbafeiaaGreatQ54
set_option linter.unusedVariables false
set_option linter.unusedSimpArgs false
set_option maxRecDepth 100000
namespace Go.Proofs.YtichfdjjbafeiaaGreat.tailorKeeps
open Go.ChangeShapes Go.WideShapes Go.ChangeAt Go.RowKit
open Go.ChangeMaps (open_string shut_string)
theorem own : ownKnob Tryz.prog.godebug = none := by kernel_rfl
theorem laidOut : laidOutB Tryz.prog = true := by kernel_rfl
theorem lifted (os : Os) (started : os.Started) (H : Type) (enc : TypeId × Value -> H) :
  ReturnsInHanded {} Tryz.checked os 7 .any (Rows.tailorKeepsSpec.pre6 enc Tryz.prog Tryz.f7 Rows.tailorKeepsRow.domain false) (Rows.tailorKeepsSpec.post enc Tryz.prog Tryz.f7 false true false false) := by
 refine returnsInHanded_of_change_shaped (C := Tryz.checked) own started (by kernel_rfl) Tryz.func7
  (ChangeSpec.witness6 (enc := enc) (C := Tryz.checked) false ⟨#[], #[.slice none 0 0, .string ByteArray.empty, .string ByteArray.empty], []⟩ 8 (by kernel_rfl) (by kernel_rfl) (by kernel_rfl) (by kernel_rfl)) ?_
 intro W base args ds gs before hval0 hW _ hwe hsh _
 have hval : ∀ (j : Nat) t v, Tryz.f7.params[j]? = some t -> args[j]? = some v -> Value.okWide Tryz.prog W .any base t v := hval0
 have hW' := hW; obtain ⟨p, q, hA0, hV, rfl, hfz, hnd⟩ := hW
 have hA : DataW.TrodAll enc Tryz.prog W 0 (fun _ => true) true Tryz.f7.params.toList args.toList ds p := hA0
 rw [Tryz.params7] at hA hval; obtain ⟨v0, vs0, d0, ds0, p0, q0, hargs, rfl, rfl, h0, r0⟩ := trodAll_cons hA; obtain ⟨v1, vs1, d1, ds1, p1, q1, rfl, rfl, rfl, h1, r1⟩ := trodAll_cons r0; obtain ⟨v2, vs2, d2, ds2, p2, q2, rfl, rfl, rfl, h2, r2⟩ := trodAll_cons r1; obtain ⟨rfl, rfl, rfl⟩ := trodAll_nil r2; obtain rfl : args = #[v0, v1, v2] := by cases args; simp_all
 obtain ⟨rfl, rfl⟩ := trodVars_none hV
 have hz0 : ∀ z ∈ d0.weights Tryz.prog 40, z <= reachBytes := fun z hq => by simpa using List.all_eq_true.1 hwe z (DataW.weights_mem_each (j := 0) (t := 40) (d := d0) (by kernel_rfl) rfl z hq)
 obtain ⟨l0, hr0, hw0, w0⟩ := S6.yno (hval 0 40 v0 rfl rfl) h0 hz0; obtain ⟨a1, rfl, rfl, rfl, w1⟩ := open_string Tryz.underlying9 (hval 1 9 v1 rfl rfl) h1; obtain ⟨a2, rfl, rfl, rfl, w2⟩ := open_string Tryz.underlying9 (hval 2 9 v2 rfl rfl) h2
 have y1 : a1.size <= reachBytes := by
  have e : a1.data.toList.length = a1.size := Array.length_toList
  have h := List.all_eq_true.1 hwe a1.data.toList.length (DataW.weights_mem_each (j := 1) (t := 9) (d := .lit (.string a1.data.toList)) (by kernel_rfl) rfl _ (by simp [DataW.weights]))
  rw [e] at h
  simpa using h
 have y2 : a2.size <= reachBytes := by
  have e : a2.data.toList.length = a2.size := Array.length_toList
  have h := List.all_eq_true.1 hwe a2.data.toList.length (DataW.weights_mem_each (j := 2) (t := 9) (d := .lit (.string a2.data.toList)) (by kernel_rfl) rfl _ (by simp [DataW.weights]))
  rw [e] at h
  simpa using h
 clear hA0 hval0; refine (yfa v0 l0 a1 a2 W hr0 hw0 w0 y1 y2).mono fun e W' ⟨he, bel⟩ => ?_
 subst he; exact ⟨_, rfl, _, _, _, [], _, [], hW', trodAll_mk1 (shut_bool Tryz.underlying4 _), (trodAll_cons_mk (Below.trod laidOut (by kernel_rfl) (of_decide_eq_true (by kernel_rfl)) h0 bel (fun x hx => by simpa using hW'.lt x (by simp [hx]))) (trodAll_cons_mk (shut_string Tryz.underlying9 w1) (trodAll_cons_mk (shut_string Tryz.underlying9 w2) trodAll_mk0))), rfl, bel.frame _, fun h => by cases h⟩
theorem said : Rows.TailorKeepsSaid :=
 OpenClaim.holds_of_wide 7 Tryz.f7 rfl rfl rfl rfl rfl rfl rfl ⟨rfl, rfl, rfl, rfl, rfl⟩ rfl rfl rfl rfl rfl (by kernel_rfl) Tryz.func7 (by kernel_rfl)
  (of_decide_eq_true (by kernel_rfl)) (by unfold Func.isWrapper; first | (rw [if_pos (by decide +kernel)]; kernel_rfl) | (rw [if_neg (by decide +kernel)]; exact ⟨rfl, rfl⟩))
  (fun os started H enc _ => lifted os started H enc)
end Go.Proofs.YtichfdjjbafeiaaGreat.tailorKeeps
