/-
  THE CONTRACT of Root.
-/
import Derived.Test.YtaabdpfhpolcgaaBBuild
namespace Go.Proofs.Ytaabdpfhpolcgaa
open Go.RowKit
set_option linter.unusedVariables false
set_option linter.unusedSimpArgs false
theorem sorted_root {M M' : List ME} (hp : M.Perm M') (e : pls M = rawP) (hs : SortedM M') : pls M' = rootP := by
  have h1 : (pls M').Perm rootP := ((hp.symm.map ME.pl).trans (by unfold pls at e; rw [e])).trans root_perm
  refine srt_perm h1 ?_ root_srt
  have h2 : (pls M').Pairwise fun a b => a.1 ≠ b.1 := (List.Perm.pairwise_iff (R := fun a b : PE => a.1 ≠ b.1) (fun {x y} h => h.symm) h1).2 (root_srt.imp fun {a b} h => ord_ne h)
  have h3 : (pls M').Pairwise fun a b => ¬ ord b.1 a.1 < 0 := by
    unfold pls
    rw [List.pairwise_map]
    exact hs
  exact (h2.and h3).imp fun {a b} h => ord_pos h.2 (fun c => h.1 c.symm)
def RootIs (w : World) (e : Ending) (w' : World) : Prop := ∃ p, e = .returned (.pointer (some ⟨p, 0, none⟩)) ∧ TabAt (fun k => w.heap.size ≤ k) w' p rootP ∧ Below w.heap.size w w'
theorem sort_raw {w w1 : World} {e : Ending} (h : RawIs w e w1) : ∃ A n c, e = .returned (.slice A n c) ∧ Calls Try.prog 10 #[.slice A n c, .func (.func 11) #[] #[]] w1 fun e w' => e = .returned (.tuple #[]) ∧ RdT (fun k => w.heap.size ≤ k) w' (.slice A n c) rootP ∧ Below w.heap.size w w' := by
  obtain ⟨v, M, B, rfl, e, ho, hM, h1, h2, hb⟩ := h
  obtain ⟨A, c, rfl⟩ := ho.form
  refine ⟨A, M.length, c, rfl, ?_⟩
  have hl : M.length = 132 := by rw [← pls_len, e]; exact raw_len
  have hmem : ∀ m ∈ M, EntOk (fun g => g < B) w1 m ∧ 1 ≤ m.s.length ∧ m.s.length ≤ 3 := fun m hm => by
    refine ⟨(hM m hm).mono fun k hk => hk.2, ?_⟩
    have h3 : m.pl ∈ rawP := by rw [← e]; exact List.mem_map.2 ⟨m, hm, rfl⟩
    have h4 := root_good.seq m.pl ((root_perm.mem_iff).1 h3)
    exact ⟨h4.1, h4.2.1⟩
  refine (sort_any ho (by omega) (by omega) h2 hmem).mono fun e' w' => ?_
  rintro ⟨he, M', hp, hs, hr, hb2⟩
  refine ⟨he, ⟨M', sorted_root hp e hs, ?_⟩, hb.trans (hb2.mono h1)⟩
  refine ⟨?_, fun m hm => ?_⟩
  · exact hr
  · have hk := hM m ((hp.mem_iff).2 hm)
    exact (hk.frame fun g hg hlt => hb2.block g hg.2).mono fun k hk => hk.1
theorem root_any (w : World) : Calls Try.prog 4 #[] w (RootIs w) := by
  go_enter Try.func4, Try.ntmps4
  go_wp2_with (first
    | (go_at_call 9; refine (rootEntries_any _).mono ?_; rintro e w1 h; obtain ⟨A, n, c, rfl, hs⟩ := sort_raw h; have HS := Lib.hid hs; clear h hs)
    | (go_at_call 10; refine (HS.out).mono ?_; rintro e w2 ⟨rfl, hr, hb⟩; have HR := Lib.hid hr; have HB := Lib.hid hb; clear hr hb)
    | (go_at_call 12; refine (build_any HR.out root_good).mono ?_; rintro e w3 ⟨p, rfl, ht, hb⟩; have HT := Lib.hid ht; have HB3 := Lib.hid (HB.out.trans (hb.mono HB.out.size)); clear ht hb))
  go_ret
  exact ⟨p, rfl, HT.out, HB3.out⟩
end Go.Proofs.Ytaabdpfhpolcgaa
