/-
  No cell of these rows narrows 'for every input' (looked for: loops, veiled, ifaces, maps, wideKeys, modest, calm, conditions, laid).
  DERIVED. THE GIVEN ROWS OF THIS SEAT. 6 by the template 'for every input the law returns true; each argument reads behind the call as it read before'; 0 by the template 'total and deterministic' (their statements: YtichfdjjbafeiaaGreatTotals.lean).
  GIVEN WITH THE SEED: the statements are not yours to turn. If you find one false, say at which input.
  Laid BY PROGRAM, IN A SANDBOX (cutbox-rows.mjs): the forced cells as the released guide's own fill.sh prints them over the translation 2797ccf33347d0fb… (all of the seat's roots in one cut). By AI agents, Wed Nov 11 2026. No macro, syntax, notation, axiom, sorry.
-/
import Derived.Test.YtichfdjjbafeiaaGreatChecked
import GoSem.Claim
import GoSem.ClaimJoined
import GoSem.ClaimMapViews
import Derived.JoinedTies
import Derived.KernelRfl
namespace Go.Proofs.YtichfdjjbafeiaaGreat
/- THE CELL 'sum', in the pinned program and in every row, IS THE sha256 OF THE DUMP (.gsa) THAT YtichfdjjbafeiaaGreatProg.lean LOADS. Nothing in Lean hashes anything: it is a label: what it is worth is what the hold of that sum in a sandbox is worth. -/
noncomputable def Tryz.pinned : Pinned := { name := "ytichfdjjbafeiaagreat", sum := "2797ccf33347d0fb03c95af8403bc34876d435ba74237661c68f0fbb3d9054e8", checked := Tryz.checked }
namespace Rows
def none {H : Type} : Left H := { results := [], args := [] }

/-- 'umlautlaw7.TailorRows': WHATEVER THE INPUT: true; the input reads as it did. -/
def tailorRowsSpec : ChangeSpec := { name := "tailorRows", fn := fun _ => fun
  | [d] => { results := [.lit (.bool true)], args := [d] }
  | _ => none }
def tailorRowsRow : OpenClaim := { program := "ytichfdjjbafeiaagreat", sum := "2797ccf33347d0fb03c95af8403bc34876d435ba74237661c68f0fbb3d9054e8", func := "umlaut/umlautlaw7.TailorRows", spec := "tailorRows", inPlace := ["internal/bytealg.IndexByteString", "slices.overlaps[umlaut/table.Entry]"], unfollowed := true, recurses := true, plainKeys := false, apart := false }
def TailorRowsSaid : Prop := tailorRowsRow.holds Tryz.pinned (OpenSpec.ofChange tailorRowsSpec)

/-- ITS FALSE NEIGHBOUR: 'it returns false'. Refute it at one input. -/
def tailorRowsWrong : ChangeSpec := { name := "tailorRows", fn := fun _ => fun
  | [d] => { results := [.lit (.bool false)], args := [d] }
  | _ => none }
def TailorRowsWrongFalsely : Prop := tailorRowsRow.holds Tryz.pinned (OpenSpec.ofChange tailorRowsWrong)

/-- 'umlautlaw7.TailorFull': WHATEVER THE INPUT: true; the input reads as it did. -/
def tailorFullSpec : ChangeSpec := { name := "tailorFull", fn := fun _ => fun
  | [d] => { results := [.lit (.bool true)], args := [d] }
  | _ => none }
def tailorFullRow : OpenClaim := { program := "ytichfdjjbafeiaagreat", sum := "2797ccf33347d0fb03c95af8403bc34876d435ba74237661c68f0fbb3d9054e8", func := "umlaut/umlautlaw7.TailorFull", spec := "tailorFull", inPlace := ["slices.overlaps[umlaut/table.Entry]", "internal/bytealg.IndexByteString"], unfollowed := true, recurses := true, plainKeys := false, apart := false }
def TailorFullSaid : Prop := tailorFullRow.holds Tryz.pinned (OpenSpec.ofChange tailorFullSpec)

/-- ITS FALSE NEIGHBOUR: 'it returns false'. Refute it at one input. -/
def tailorFullWrong : ChangeSpec := { name := "tailorFull", fn := fun _ => fun
  | [d] => { results := [.lit (.bool false)], args := [d] }
  | _ => none }
def TailorFullWrongFalsely : Prop := tailorFullRow.holds Tryz.pinned (OpenSpec.ofChange tailorFullWrong)

/-- 'umlautlaw7.TailorApplies': WHATEVER THE INPUT: true; the input reads as it did. -/
def tailorAppliesSpec : ChangeSpec := { name := "tailorApplies", fn := fun _ => fun
  | [d1, d2] => { results := [.lit (.bool true)], args := [d1, d2] }
  | _ => none }
def tailorAppliesRow : OpenClaim := { program := "ytichfdjjbafeiaagreat", sum := "2797ccf33347d0fb03c95af8403bc34876d435ba74237661c68f0fbb3d9054e8", func := "umlaut/umlautlaw7.TailorApplies", spec := "tailorApplies", inPlace := ["internal/bytealg.IndexByteString", "slices.overlaps[umlaut/table.Entry]"], unfollowed := true, recurses := true, plainKeys := false, apart := false }
def TailorAppliesSaid : Prop := tailorAppliesRow.holds Tryz.pinned (OpenSpec.ofChange tailorAppliesSpec)

/-- ITS FALSE NEIGHBOUR: 'it returns false'. Refute it at one input. -/
def tailorAppliesWrong : ChangeSpec := { name := "tailorApplies", fn := fun _ => fun
  | [d1, d2] => { results := [.lit (.bool false)], args := [d1, d2] }
  | _ => none }
def TailorAppliesWrongFalsely : Prop := tailorAppliesRow.holds Tryz.pinned (OpenSpec.ofChange tailorAppliesWrong)

/-- 'umlautlaw7.TailorReads': WHATEVER THE INPUT: true; the input reads as it did. -/
def tailorReadsSpec : ChangeSpec := { name := "tailorReads", fn := fun _ => fun
  | [d] => { results := [.lit (.bool true)], args := [d] }
  | _ => none }
def tailorReadsRow : OpenClaim := { program := "ytichfdjjbafeiaagreat", sum := "2797ccf33347d0fb03c95af8403bc34876d435ba74237661c68f0fbb3d9054e8", func := "umlaut/umlautlaw7.TailorReads", spec := "tailorReads", inPlace := ["internal/bytealg.IndexByteString", "slices.overlaps[umlaut/table.Entry]"], unfollowed := true, recurses := true, plainKeys := false, apart := false }
def TailorReadsSaid : Prop := tailorReadsRow.holds Tryz.pinned (OpenSpec.ofChange tailorReadsSpec)

/-- ITS FALSE NEIGHBOUR: 'it returns false'. Refute it at one input. -/
def tailorReadsWrong : ChangeSpec := { name := "tailorReads", fn := fun _ => fun
  | [d] => { results := [.lit (.bool false)], args := [d] }
  | _ => none }
def TailorReadsWrongFalsely : Prop := tailorReadsRow.holds Tryz.pinned (OpenSpec.ofChange tailorReadsWrong)

/-- 'umlautlaw7.TailorKeeps': WHATEVER THE INPUT: true; the input reads as it did. -/
def tailorKeepsSpec : ChangeSpec := { name := "tailorKeeps", fn := fun _ => fun
  | [d1, d2, d3] => { results := [.lit (.bool true)], args := [d1, d2, d3] }
  | _ => none }
def tailorKeepsRow : OpenClaim := { program := "ytichfdjjbafeiaagreat", sum := "2797ccf33347d0fb03c95af8403bc34876d435ba74237661c68f0fbb3d9054e8", func := "umlaut/umlautlaw7.TailorKeeps", spec := "tailorKeeps", inPlace := ["internal/bytealg.IndexByteString", "slices.overlaps[umlaut/table.Entry]"], unfollowed := true, recurses := true, plainKeys := false, apart := false }
def TailorKeepsSaid : Prop := tailorKeepsRow.holds Tryz.pinned (OpenSpec.ofChange tailorKeepsSpec)

/-- ITS FALSE NEIGHBOUR: 'it returns false'. Refute it at one input. -/
def tailorKeepsWrong : ChangeSpec := { name := "tailorKeeps", fn := fun _ => fun
  | [d1, d2, d3] => { results := [.lit (.bool false)], args := [d1, d2, d3] }
  | _ => none }
def TailorKeepsWrongFalsely : Prop := tailorKeepsRow.holds Tryz.pinned (OpenSpec.ofChange tailorKeepsWrong)

/-- 'umlautlaw7.TailorPlaces': WHATEVER THE INPUT: true; the input reads as it did. -/
def tailorPlacesSpec : ChangeSpec := { name := "tailorPlaces", fn := fun _ => fun
  | [d1, d2, d3, d4] => { results := [.lit (.bool true)], args := [d1, d2, d3, d4] }
  | _ => none }
def tailorPlacesRow : OpenClaim := { program := "ytichfdjjbafeiaagreat", sum := "2797ccf33347d0fb03c95af8403bc34876d435ba74237661c68f0fbb3d9054e8", func := "umlaut/umlautlaw7.TailorPlaces", spec := "tailorPlaces", inPlace := ["internal/bytealg.IndexByteString", "slices.overlaps[umlaut/table.Entry]"], unfollowed := true, recurses := true, plainKeys := false, apart := false }
def TailorPlacesSaid : Prop := tailorPlacesRow.holds Tryz.pinned (OpenSpec.ofChange tailorPlacesSpec)

/-- ITS FALSE NEIGHBOUR: 'it returns false'. Refute it at one input. -/
def tailorPlacesWrong : ChangeSpec := { name := "tailorPlaces", fn := fun _ => fun
  | [d1, d2, d3, d4] => { results := [.lit (.bool false)], args := [d1, d2, d3, d4] }
  | _ => none }
def TailorPlacesWrongFalsely : Prop := tailorPlacesRow.holds Tryz.pinned (OpenSpec.ofChange tailorPlacesWrong)

/- THE SECOND FORM. 'bulk': how many values and letters a reading holds, each counted each time it is reached (what is shared counts as often as it is met; a slice's spare places count too). A statement '..UptoSaid' is the law's where the arguments, and the package variables that the reading takes, are together of bulk at most 1048576: NARROWER than '..Said'. Prove '..Said' where nothing that the law and all that it calls make is longer than what came in: it says more and counts as full. Else prove '..UptoSaid'. A law counts once. -/
mutual
def uptoBulk {H : Type} : DataW H → Nat
  | .lit (.string bytes) => bytes.length + 1
  | .lit _ => 1
  | .nil => 1
  | .ptr d => uptoBulk d + 1
  | .slice elems spare => uptoBulkAll elems + uptoBulkAll spare + 1
  | .agg parts => uptoBulkAll parts + 1
  | .iface _ d => uptoBulk d + 1
  | .map entries => uptoBulkEntries entries + 1
  | .held _ => 1
def uptoBulkAll {H : Type} : List (DataW H) → Nat
  | [] => 0
  | d :: r => uptoBulk d + uptoBulkAll r
def uptoBulkEntries {H : Type} : List (Lit × DataW H) → Nat
  | [] => 0
  | x :: r => uptoBulkEntry x + uptoBulkEntries r
def uptoBulkEntry {H : Type} : Lit × DataW H → Nat
  | (.string bytes, d) => bytes.length + uptoBulk d + 1
  | (_, d) => uptoBulk d + 1
 end
def uptoSmall : (H : Type) → List (DataW H) → Bool := fun _ ds => decide (uptoBulkAll ds ≤ 1048576)
def OpenSpec.upto (s : _root_.Go.ChangeSpec) : _root_.Go.OpenSpec := { _root_.Go.OpenSpec.ofChange s with cond := some uptoSmall }

/-- 'umlautlaw7.TailorRows', WHERE WHAT IT READS IS OF BULK AT MOST 1048576: true; the input reads as it did. -/
def tailorRowsUptoRow : OpenClaim := { program := "ytichfdjjbafeiaagreat", sum := "2797ccf33347d0fb03c95af8403bc34876d435ba74237661c68f0fbb3d9054e8", func := "umlaut/umlautlaw7.TailorRows", spec := "tailorRows", inPlace := ["internal/bytealg.IndexByteString", "slices.overlaps[umlaut/table.Entry]"], unfollowed := true, recurses := true, plainKeys := false, apart := false, narrowed := true }
def TailorRowsUptoSaid : Prop := tailorRowsUptoRow.holds Tryz.pinned (OpenSpec.upto tailorRowsSpec)

/-- 'umlautlaw7.TailorFull', WHERE WHAT IT READS IS OF BULK AT MOST 1048576: true; the input reads as it did. -/
def tailorFullUptoRow : OpenClaim := { program := "ytichfdjjbafeiaagreat", sum := "2797ccf33347d0fb03c95af8403bc34876d435ba74237661c68f0fbb3d9054e8", func := "umlaut/umlautlaw7.TailorFull", spec := "tailorFull", inPlace := ["slices.overlaps[umlaut/table.Entry]", "internal/bytealg.IndexByteString"], unfollowed := true, recurses := true, plainKeys := false, apart := false, narrowed := true }
def TailorFullUptoSaid : Prop := tailorFullUptoRow.holds Tryz.pinned (OpenSpec.upto tailorFullSpec)

/-- 'umlautlaw7.TailorApplies', WHERE WHAT IT READS IS OF BULK AT MOST 1048576: true; the input reads as it did. -/
def tailorAppliesUptoRow : OpenClaim := { program := "ytichfdjjbafeiaagreat", sum := "2797ccf33347d0fb03c95af8403bc34876d435ba74237661c68f0fbb3d9054e8", func := "umlaut/umlautlaw7.TailorApplies", spec := "tailorApplies", inPlace := ["internal/bytealg.IndexByteString", "slices.overlaps[umlaut/table.Entry]"], unfollowed := true, recurses := true, plainKeys := false, apart := false, narrowed := true }
def TailorAppliesUptoSaid : Prop := tailorAppliesUptoRow.holds Tryz.pinned (OpenSpec.upto tailorAppliesSpec)

/-- 'umlautlaw7.TailorReads', WHERE WHAT IT READS IS OF BULK AT MOST 1048576: true; the input reads as it did. -/
def tailorReadsUptoRow : OpenClaim := { program := "ytichfdjjbafeiaagreat", sum := "2797ccf33347d0fb03c95af8403bc34876d435ba74237661c68f0fbb3d9054e8", func := "umlaut/umlautlaw7.TailorReads", spec := "tailorReads", inPlace := ["internal/bytealg.IndexByteString", "slices.overlaps[umlaut/table.Entry]"], unfollowed := true, recurses := true, plainKeys := false, apart := false, narrowed := true }
def TailorReadsUptoSaid : Prop := tailorReadsUptoRow.holds Tryz.pinned (OpenSpec.upto tailorReadsSpec)

/-- 'umlautlaw7.TailorKeeps', WHERE WHAT IT READS IS OF BULK AT MOST 1048576: true; the input reads as it did. -/
def tailorKeepsUptoRow : OpenClaim := { program := "ytichfdjjbafeiaagreat", sum := "2797ccf33347d0fb03c95af8403bc34876d435ba74237661c68f0fbb3d9054e8", func := "umlaut/umlautlaw7.TailorKeeps", spec := "tailorKeeps", inPlace := ["internal/bytealg.IndexByteString", "slices.overlaps[umlaut/table.Entry]"], unfollowed := true, recurses := true, plainKeys := false, apart := false, narrowed := true }
def TailorKeepsUptoSaid : Prop := tailorKeepsUptoRow.holds Tryz.pinned (OpenSpec.upto tailorKeepsSpec)

/-- 'umlautlaw7.TailorPlaces', WHERE WHAT IT READS IS OF BULK AT MOST 1048576: true; the input reads as it did. -/
def tailorPlacesUptoRow : OpenClaim := { program := "ytichfdjjbafeiaagreat", sum := "2797ccf33347d0fb03c95af8403bc34876d435ba74237661c68f0fbb3d9054e8", func := "umlaut/umlautlaw7.TailorPlaces", spec := "tailorPlaces", inPlace := ["internal/bytealg.IndexByteString", "slices.overlaps[umlaut/table.Entry]"], unfollowed := true, recurses := true, plainKeys := false, apart := false, narrowed := true }
def TailorPlacesUptoSaid : Prop := tailorPlacesUptoRow.holds Tryz.pinned (OpenSpec.upto tailorPlacesSpec)

end Rows
end Go.Proofs.YtichfdjjbafeiaaGreat
