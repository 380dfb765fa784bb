/-
  No cell of these rows narrows 'for every input' (looked for: loops, veiled, ifaces, maps, wideKeys, modest, calm, conditions, laid).
  DERIVED. THE GIVEN ROWS OF THIS SEAT. 6 by the template 'for every input the law returns true; each argument reads behind the call as it read before'; 0 by the template 'total and deterministic' (their statements: YtaabdpfhpolcgaaGreatTotals.lean).
  GIVEN WITH THE SEED: the statements are not yours to turn. If you find one false, say at which input.
  Laid BY PROGRAM, IN A SANDBOX (cutbox-rows.mjs): the forced cells as the released guide's own fill.sh prints them over the translation 454d9c1f8d13a3f0… (all of the seat's roots in one cut). By AI agents, Wed Nov 11 2026. No macro, syntax, notation, axiom, sorry.
-/
import Derived.Test.YtaabdpfhpolcgaaGreatChecked
import GoSem.Claim
import GoSem.ClaimJoined
import GoSem.ClaimMapViews
import Derived.JoinedTies
import Derived.KernelRfl
namespace Go.Proofs.YtaabdpfhpolcgaaGreat
/- THE CELL 'sum', in the pinned program and in every row, IS THE sha256 OF THE DUMP (.gsa) THAT YtaabdpfhpolcgaaGreatProg.lean LOADS. Nothing in Lean hashes anything: it is a label: what it is worth is what the hold of that sum in a sandbox is worth. -/
noncomputable def Tryz.pinned : Pinned := { name := "ytaabdpfhpolcgaagreat", sum := "454d9c1f8d13a3f0d29944a838ed26dab3ca8059da03005550684da11d7c112c", checked := Tryz.checked }
namespace Rows
def none {H : Type} : Left H := { results := [], args := [] }

/-- 'umlautlaw5.TableLongest': WHATEVER THE INPUT: true; the input reads as it did. -/
def tableLongestSpec : ChangeSpec := { name := "tableLongest", fn := fun _ => fun
  | [d1, d2, d3] => { results := [.lit (.bool true)], args := [d1, d2, d3] }
  | _ => none }
def tableLongestRow : OpenClaim := { program := "ytaabdpfhpolcgaagreat", sum := "454d9c1f8d13a3f0d29944a838ed26dab3ca8059da03005550684da11d7c112c", func := "umlaut/umlautlaw5.TableLongest", spec := "tableLongest", inPlace := ["slices.overlaps[umlaut/table.Entry]"], unfollowed := true, recurses := true, plainKeys := false, apart := false }
def TableLongestSaid : Prop := tableLongestRow.holds Tryz.pinned (OpenSpec.ofChange tableLongestSpec)

/-- ITS FALSE NEIGHBOUR: 'it returns false'. Refute it at one input. -/
def tableLongestWrong : ChangeSpec := { name := "tableLongest", fn := fun _ => fun
  | [d1, d2, d3] => { results := [.lit (.bool false)], args := [d1, d2, d3] }
  | _ => none }
def TableLongestWrongFalsely : Prop := tableLongestRow.holds Tryz.pinned (OpenSpec.ofChange tableLongestWrong)

/-- 'umlautlaw5.TableRoot': WHATEVER THE INPUT: true; the input reads as it did. -/
def tableRootSpec : ChangeSpec := { name := "tableRoot", fn := fun _ => fun
  | [] => { results := [.lit (.bool true)], args := [] }
  | _ => none }
def tableRootRow : OpenClaim := { program := "ytaabdpfhpolcgaagreat", sum := "454d9c1f8d13a3f0d29944a838ed26dab3ca8059da03005550684da11d7c112c", func := "umlaut/umlautlaw5.TableRoot", spec := "tableRoot", unfollowed := true, recurses := true, plainKeys := false, apart := false }
def TableRootSaid : Prop := tableRootRow.holds Tryz.pinned (OpenSpec.ofChange tableRootSpec)

/-- ITS FALSE NEIGHBOUR: 'it returns false'. Refute it at one input. -/
def tableRootWrong : ChangeSpec := { name := "tableRoot", fn := fun _ => fun
  | [] => { results := [.lit (.bool false)], args := [] }
  | _ => none }
def TableRootWrongFalsely : Prop := tableRootRow.holds Tryz.pinned (OpenSpec.ofChange tableRootWrong)

/-- 'umlautlaw5.TableWeighs': WHATEVER THE INPUT: true; the input reads as it did. -/
def tableWeighsSpec : ChangeSpec := { name := "tableWeighs", fn := fun _ => fun
  | [d1, d2, d3] => { results := [.lit (.bool true)], args := [d1, d2, d3] }
  | _ => none }
def tableWeighsRow : OpenClaim := { program := "ytaabdpfhpolcgaagreat", sum := "454d9c1f8d13a3f0d29944a838ed26dab3ca8059da03005550684da11d7c112c", func := "umlaut/umlautlaw5.TableWeighs", spec := "tableWeighs", inPlace := ["slices.overlaps[umlaut/table.Entry]"], unfollowed := true, recurses := true, plainKeys := false, apart := false }
def TableWeighsSaid : Prop := tableWeighsRow.holds Tryz.pinned (OpenSpec.ofChange tableWeighsSpec)

/-- ITS FALSE NEIGHBOUR: 'it returns false'. Refute it at one input. -/
def tableWeighsWrong : ChangeSpec := { name := "tableWeighs", fn := fun _ => fun
  | [d1, d2, d3] => { results := [.lit (.bool false)], args := [d1, d2, d3] }
  | _ => none }
def TableWeighsWrongFalsely : Prop := tableWeighsRow.holds Tryz.pinned (OpenSpec.ofChange tableWeighsWrong)

/-- 'umlautlaw5.TablePuts': WHATEVER THE INPUT: true; the input reads as it did. -/
def tablePutsSpec : ChangeSpec := { name := "tablePuts", fn := fun _ => fun
  | [d1, d2] => { results := [.lit (.bool true)], args := [d1, d2] }
  | _ => none }
def tablePutsRow : OpenClaim := { program := "ytaabdpfhpolcgaagreat", sum := "454d9c1f8d13a3f0d29944a838ed26dab3ca8059da03005550684da11d7c112c", func := "umlaut/umlautlaw5.TablePuts", spec := "tablePuts", inPlace := ["slices.overlaps[umlaut/table.Entry]"], unfollowed := true, recurses := true, plainKeys := false, apart := false }
def TablePutsSaid : Prop := tablePutsRow.holds Tryz.pinned (OpenSpec.ofChange tablePutsSpec)

/-- ITS FALSE NEIGHBOUR: 'it returns false'. Refute it at one input. -/
def tablePutsWrong : ChangeSpec := { name := "tablePuts", fn := fun _ => fun
  | [d1, d2] => { results := [.lit (.bool false)], args := [d1, d2] }
  | _ => none }
def TablePutsWrongFalsely : Prop := tablePutsRow.holds Tryz.pinned (OpenSpec.ofChange tablePutsWrong)

/-- 'umlautlaw5.TableMaps': WHATEVER THE INPUT: true; the input reads as it did. -/
def tableMapsSpec : ChangeSpec := { name := "tableMaps", fn := fun _ => fun
  | [d] => { results := [.lit (.bool true)], args := [d] }
  | _ => none }
def tableMapsRow : OpenClaim := { program := "ytaabdpfhpolcgaagreat", sum := "454d9c1f8d13a3f0d29944a838ed26dab3ca8059da03005550684da11d7c112c", func := "umlaut/umlautlaw5.TableMaps", spec := "tableMaps", unfollowed := true, recurses := true, plainKeys := false, apart := false }
def TableMapsSaid : Prop := tableMapsRow.holds Tryz.pinned (OpenSpec.ofChange tableMapsSpec)

/-- ITS FALSE NEIGHBOUR: 'it returns false'. Refute it at one input. -/
def tableMapsWrong : ChangeSpec := { name := "tableMaps", fn := fun _ => fun
  | [d] => { results := [.lit (.bool false)], args := [d] }
  | _ => none }
def TableMapsWrongFalsely : Prop := tableMapsRow.holds Tryz.pinned (OpenSpec.ofChange tableMapsWrong)

/-- 'umlautlaw5.TableImplicit': WHATEVER THE INPUT: true; the input reads as it did. -/
def tableImplicitSpec : ChangeSpec := { name := "tableImplicit", fn := fun _ => fun
  | [d1, d2] => { results := [.lit (.bool true)], args := [d1, d2] }
  | _ => none }
def tableImplicitRow : OpenClaim := { program := "ytaabdpfhpolcgaagreat", sum := "454d9c1f8d13a3f0d29944a838ed26dab3ca8059da03005550684da11d7c112c", func := "umlaut/umlautlaw5.TableImplicit", spec := "tableImplicit", unfollowed := true, recurses := true, plainKeys := false, apart := false }
def TableImplicitSaid : Prop := tableImplicitRow.holds Tryz.pinned (OpenSpec.ofChange tableImplicitSpec)

/-- ITS FALSE NEIGHBOUR: 'it returns false'. Refute it at one input. -/
def tableImplicitWrong : ChangeSpec := { name := "tableImplicit", fn := fun _ => fun
  | [d1, d2] => { results := [.lit (.bool false)], args := [d1, d2] }
  | _ => none }
def TableImplicitWrongFalsely : Prop := tableImplicitRow.holds Tryz.pinned (OpenSpec.ofChange tableImplicitWrong)

/- THE SECOND FORM. 'bulk': how many values and letters a reading holds, each counted each time it is reached (what is shared counts as often as it is met; a slice's spare places count too). A statement '..UptoSaid' is the law's where the arguments, and the package variables that the reading takes, are together of bulk at most 1048576: NARROWER than '..Said'. Prove '..Said' where nothing that the law and all that it calls make is longer than what came in: it says more and counts as full. Else prove '..UptoSaid'. A law counts once. -/
mutual
def uptoBulk {H : Type} : DataW H → Nat
  | .lit (.string bytes) => bytes.length + 1
  | .lit _ => 1
  | .nil => 1
  | .ptr d => uptoBulk d + 1
  | .slice elems spare => uptoBulkAll elems + uptoBulkAll spare + 1
  | .agg parts => uptoBulkAll parts + 1
  | .iface _ d => uptoBulk d + 1
  | .map entries => uptoBulkEntries entries + 1
  | .held _ => 1
def uptoBulkAll {H : Type} : List (DataW H) → Nat
  | [] => 0
  | d :: r => uptoBulk d + uptoBulkAll r
def uptoBulkEntries {H : Type} : List (Lit × DataW H) → Nat
  | [] => 0
  | x :: r => uptoBulkEntry x + uptoBulkEntries r
def uptoBulkEntry {H : Type} : Lit × DataW H → Nat
  | (.string bytes, d) => bytes.length + uptoBulk d + 1
  | (_, d) => uptoBulk d + 1
 end
def uptoSmall : (H : Type) → List (DataW H) → Bool := fun _ ds => decide (uptoBulkAll ds ≤ 1048576)
def OpenSpec.upto (s : _root_.Go.ChangeSpec) : _root_.Go.OpenSpec := { _root_.Go.OpenSpec.ofChange s with cond := some uptoSmall }

/-- 'umlautlaw5.TableLongest', WHERE WHAT IT READS IS OF BULK AT MOST 1048576: true; the input reads as it did. -/
def tableLongestUptoRow : OpenClaim := { program := "ytaabdpfhpolcgaagreat", sum := "454d9c1f8d13a3f0d29944a838ed26dab3ca8059da03005550684da11d7c112c", func := "umlaut/umlautlaw5.TableLongest", spec := "tableLongest", inPlace := ["slices.overlaps[umlaut/table.Entry]"], unfollowed := true, recurses := true, plainKeys := false, apart := false, narrowed := true }
def TableLongestUptoSaid : Prop := tableLongestUptoRow.holds Tryz.pinned (OpenSpec.upto tableLongestSpec)

/-- 'umlautlaw5.TableRoot', WHERE WHAT IT READS IS OF BULK AT MOST 1048576: true; the input reads as it did. -/
def tableRootUptoRow : OpenClaim := { program := "ytaabdpfhpolcgaagreat", sum := "454d9c1f8d13a3f0d29944a838ed26dab3ca8059da03005550684da11d7c112c", func := "umlaut/umlautlaw5.TableRoot", spec := "tableRoot", unfollowed := true, recurses := true, plainKeys := false, apart := false, narrowed := true }
def TableRootUptoSaid : Prop := tableRootUptoRow.holds Tryz.pinned (OpenSpec.upto tableRootSpec)

/-- 'umlautlaw5.TableWeighs', WHERE WHAT IT READS IS OF BULK AT MOST 1048576: true; the input reads as it did. -/
def tableWeighsUptoRow : OpenClaim := { program := "ytaabdpfhpolcgaagreat", sum := "454d9c1f8d13a3f0d29944a838ed26dab3ca8059da03005550684da11d7c112c", func := "umlaut/umlautlaw5.TableWeighs", spec := "tableWeighs", inPlace := ["slices.overlaps[umlaut/table.Entry]"], unfollowed := true, recurses := true, plainKeys := false, apart := false, narrowed := true }
def TableWeighsUptoSaid : Prop := tableWeighsUptoRow.holds Tryz.pinned (OpenSpec.upto tableWeighsSpec)

/-- 'umlautlaw5.TablePuts', WHERE WHAT IT READS IS OF BULK AT MOST 1048576: true; the input reads as it did. -/
def tablePutsUptoRow : OpenClaim := { program := "ytaabdpfhpolcgaagreat", sum := "454d9c1f8d13a3f0d29944a838ed26dab3ca8059da03005550684da11d7c112c", func := "umlaut/umlautlaw5.TablePuts", spec := "tablePuts", inPlace := ["slices.overlaps[umlaut/table.Entry]"], unfollowed := true, recurses := true, plainKeys := false, apart := false, narrowed := true }
def TablePutsUptoSaid : Prop := tablePutsUptoRow.holds Tryz.pinned (OpenSpec.upto tablePutsSpec)

/-- 'umlautlaw5.TableMaps', WHERE WHAT IT READS IS OF BULK AT MOST 1048576: true; the input reads as it did. -/
def tableMapsUptoRow : OpenClaim := { program := "ytaabdpfhpolcgaagreat", sum := "454d9c1f8d13a3f0d29944a838ed26dab3ca8059da03005550684da11d7c112c", func := "umlaut/umlautlaw5.TableMaps", spec := "tableMaps", unfollowed := true, recurses := true, plainKeys := false, apart := false, narrowed := true }
def TableMapsUptoSaid : Prop := tableMapsUptoRow.holds Tryz.pinned (OpenSpec.upto tableMapsSpec)

/-- 'umlautlaw5.TableImplicit', WHERE WHAT IT READS IS OF BULK AT MOST 1048576: true; the input reads as it did. -/
def tableImplicitUptoRow : OpenClaim := { program := "ytaabdpfhpolcgaagreat", sum := "454d9c1f8d13a3f0d29944a838ed26dab3ca8059da03005550684da11d7c112c", func := "umlaut/umlautlaw5.TableImplicit", spec := "tableImplicit", unfollowed := true, recurses := true, plainKeys := false, apart := false, narrowed := true }
def TableImplicitUptoSaid : Prop := tableImplicitUptoRow.holds Tryz.pinned (OpenSpec.upto tableImplicitSpec)

end Rows
end Go.Proofs.YtaabdpfhpolcgaaGreat
