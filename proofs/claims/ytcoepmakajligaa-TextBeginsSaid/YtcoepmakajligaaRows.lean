/-
  No cell of these rows narrows 'for every input' (looked for: loops, veiled, ifaces, maps, wideKeys, modest, calm, conditions, laid).
  DERIVED. THE GIVEN ROWS OF THIS SEAT. 6 by the template 'for every input the law returns true; each argument reads behind the call as it read before'; 0 by the template 'total and deterministic' (their statements: YtcoepmakajligaaTotals.lean).
  GIVEN WITH THE SEED: the statements are not yours to turn. If you find one false, say at which input.
  Laid BY PROGRAM, IN A SANDBOX (cutbox-rows.mjs): the forced cells as the released guide's own fill.sh prints them over the translation 15e8c1ceee5eef09… (all of the seat's roots in one cut). By AI agents, Wed Nov 11 2026. No macro, syntax, notation, axiom, sorry.
-/
import Derived.Test.YtcoepmakajligaaChecked
import GoSem.Claim
import GoSem.ClaimJoined
import GoSem.ClaimMapViews
import Derived.JoinedTies
import Derived.KernelRfl
namespace Go.Proofs.Ytcoepmakajligaa
/- THE CELL 'sum', in the pinned program and in every row, IS THE sha256 OF THE DUMP (.gsa) THAT YtcoepmakajligaaProg.lean LOADS. Nothing in Lean hashes anything: it is a label: what it is worth is what the hold of that sum in a sandbox is worth. -/
noncomputable def Try.pinned : Pinned := { name := "ytcoepmakajligaa", sum := "15e8c1ceee5eef091e9919dd1c01bb1069a4ed9d007b096e688cae3475941060", checked := Try.checked }
namespace Rows
def none {H : Type} : Left H := { results := [], args := [] }

/-- 'umlautlaw2.TextSigns': WHATEVER THE INPUT: true; the input reads as it did. -/
def textSignsSpec : ChangeSpec := { name := "textSigns", fn := fun _ => fun
  | [d] => { results := [.lit (.bool true)], args := [d] }
  | _ => none }
def textSignsRow : OpenClaim := { program := "ytcoepmakajligaa", sum := "15e8c1ceee5eef091e9919dd1c01bb1069a4ed9d007b096e688cae3475941060", func := "umlaut/umlautlaw2.TextSigns", spec := "textSigns", apart := false }
def TextSignsSaid : Prop := textSignsRow.holds Try.pinned (OpenSpec.ofChange textSignsSpec)

/-- ITS FALSE NEIGHBOUR: 'it returns false'. Refute it at one input. -/
def textSignsWrong : ChangeSpec := { name := "textSigns", fn := fun _ => fun
  | [d] => { results := [.lit (.bool false)], args := [d] }
  | _ => none }
def TextSignsWrongFalsely : Prop := textSignsRow.holds Try.pinned (OpenSpec.ofChange textSignsWrong)

/-- 'umlautlaw2.TextBytes': WHATEVER THE INPUT: true; the input reads as it did. -/
def textBytesSpec : ChangeSpec := { name := "textBytes", fn := fun _ => fun
  | [d] => { results := [.lit (.bool true)], args := [d] }
  | _ => none }
def textBytesRow : OpenClaim := { program := "ytcoepmakajligaa", sum := "15e8c1ceee5eef091e9919dd1c01bb1069a4ed9d007b096e688cae3475941060", func := "umlaut/umlautlaw2.TextBytes", spec := "textBytes", apart := false }
def TextBytesSaid : Prop := textBytesRow.holds Try.pinned (OpenSpec.ofChange textBytesSpec)

/-- ITS FALSE NEIGHBOUR: 'it returns false'. Refute it at one input. -/
def textBytesWrong : ChangeSpec := { name := "textBytes", fn := fun _ => fun
  | [d] => { results := [.lit (.bool false)], args := [d] }
  | _ => none }
def TextBytesWrongFalsely : Prop := textBytesRow.holds Try.pinned (OpenSpec.ofChange textBytesWrong)

/-- 'umlautlaw2.TextFolds': WHATEVER THE INPUT: true; the input reads as it did. -/
def textFoldsSpec : ChangeSpec := { name := "textFolds", fn := fun _ => fun
  | [d1, d2] => { results := [.lit (.bool true)], args := [d1, d2] }
  | _ => none }
def textFoldsRow : OpenClaim := { program := "ytcoepmakajligaa", sum := "15e8c1ceee5eef091e9919dd1c01bb1069a4ed9d007b096e688cae3475941060", func := "umlaut/umlautlaw2.TextFolds", spec := "textFolds", apart := false }
def TextFoldsSaid : Prop := textFoldsRow.holds Try.pinned (OpenSpec.ofChange textFoldsSpec)

/-- ITS FALSE NEIGHBOUR: 'it returns false'. Refute it at one input. -/
def textFoldsWrong : ChangeSpec := { name := "textFolds", fn := fun _ => fun
  | [d1, d2] => { results := [.lit (.bool false)], args := [d1, d2] }
  | _ => none }
def TextFoldsWrongFalsely : Prop := textFoldsRow.holds Try.pinned (OpenSpec.ofChange textFoldsWrong)

/-- 'umlautlaw2.TextBegins': WHATEVER THE INPUT: true; the input reads as it did. -/
def textBeginsSpec : ChangeSpec := { name := "textBegins", fn := fun _ => fun
  | [d1, d2] => { results := [.lit (.bool true)], args := [d1, d2] }
  | _ => none }
def textBeginsRow : OpenClaim := { program := "ytcoepmakajligaa", sum := "15e8c1ceee5eef091e9919dd1c01bb1069a4ed9d007b096e688cae3475941060", func := "umlaut/umlautlaw2.TextBegins", spec := "textBegins", apart := false }
def TextBeginsSaid : Prop := textBeginsRow.holds Try.pinned (OpenSpec.ofChange textBeginsSpec)

/-- ITS FALSE NEIGHBOUR: 'it returns false'. Refute it at one input. -/
def textBeginsWrong : ChangeSpec := { name := "textBegins", fn := fun _ => fun
  | [d1, d2] => { results := [.lit (.bool false)], args := [d1, d2] }
  | _ => none }
def TextBeginsWrongFalsely : Prop := textBeginsRow.holds Try.pinned (OpenSpec.ofChange textBeginsWrong)

/-- 'umlautlaw2.TextNext': WHATEVER THE INPUT: true; the input reads as it did. -/
def textNextSpec : ChangeSpec := { name := "textNext", fn := fun _ => fun
  | [d1, d2] => { results := [.lit (.bool true)], args := [d1, d2] }
  | _ => none }
def textNextRow : OpenClaim := { program := "ytcoepmakajligaa", sum := "15e8c1ceee5eef091e9919dd1c01bb1069a4ed9d007b096e688cae3475941060", func := "umlaut/umlautlaw2.TextNext", spec := "textNext", apart := false }
def TextNextSaid : Prop := textNextRow.holds Try.pinned (OpenSpec.ofChange textNextSpec)

/-- ITS FALSE NEIGHBOUR: 'it returns false'. Refute it at one input. -/
def textNextWrong : ChangeSpec := { name := "textNext", fn := fun _ => fun
  | [d1, d2] => { results := [.lit (.bool false)], args := [d1, d2] }
  | _ => none }
def TextNextWrongFalsely : Prop := textNextRow.holds Try.pinned (OpenSpec.ofChange textNextWrong)

/-- 'umlautlaw2.TextOne': WHATEVER THE INPUT: true; the input reads as it did. -/
def textOneSpec : ChangeSpec := { name := "textOne", fn := fun _ => fun
  | [d1, d2] => { results := [.lit (.bool true)], args := [d1, d2] }
  | _ => none }
def textOneRow : OpenClaim := { program := "ytcoepmakajligaa", sum := "15e8c1ceee5eef091e9919dd1c01bb1069a4ed9d007b096e688cae3475941060", func := "umlaut/umlautlaw2.TextOne", spec := "textOne", apart := false }
def TextOneSaid : Prop := textOneRow.holds Try.pinned (OpenSpec.ofChange textOneSpec)

/-- ITS FALSE NEIGHBOUR: 'it returns false'. Refute it at one input. -/
def textOneWrong : ChangeSpec := { name := "textOne", fn := fun _ => fun
  | [d1, d2] => { results := [.lit (.bool false)], args := [d1, d2] }
  | _ => none }
def TextOneWrongFalsely : Prop := textOneRow.holds Try.pinned (OpenSpec.ofChange textOneWrong)

/- THE SECOND FORM. 'bulk': how many values and letters a reading holds, each counted each time it is reached (what is shared counts as often as it is met; a slice's spare places count too). A statement '..UptoSaid' is the law's where the arguments, and the package variables that the reading takes, are together of bulk at most 1048576: NARROWER than '..Said'. Prove '..Said' where nothing that the law and all that it calls make is longer than what came in: it says more and counts as full. Else prove '..UptoSaid'. A law counts once. -/
mutual
def uptoBulk {H : Type} : DataW H → Nat
  | .lit (.string bytes) => bytes.length + 1
  | .lit _ => 1
  | .nil => 1
  | .ptr d => uptoBulk d + 1
  | .slice elems spare => uptoBulkAll elems + uptoBulkAll spare + 1
  | .agg parts => uptoBulkAll parts + 1
  | .iface _ d => uptoBulk d + 1
  | .map entries => uptoBulkEntries entries + 1
  | .held _ => 1
def uptoBulkAll {H : Type} : List (DataW H) → Nat
  | [] => 0
  | d :: r => uptoBulk d + uptoBulkAll r
def uptoBulkEntries {H : Type} : List (Lit × DataW H) → Nat
  | [] => 0
  | x :: r => uptoBulkEntry x + uptoBulkEntries r
def uptoBulkEntry {H : Type} : Lit × DataW H → Nat
  | (.string bytes, d) => bytes.length + uptoBulk d + 1
  | (_, d) => uptoBulk d + 1
 end
def uptoSmall : (H : Type) → List (DataW H) → Bool := fun _ ds => decide (uptoBulkAll ds ≤ 1048576)
def OpenSpec.upto (s : _root_.Go.ChangeSpec) : _root_.Go.OpenSpec := { _root_.Go.OpenSpec.ofChange s with cond := some uptoSmall }

/-- 'umlautlaw2.TextSigns', WHERE WHAT IT READS IS OF BULK AT MOST 1048576: true; the input reads as it did. -/
def textSignsUptoRow : OpenClaim := { program := "ytcoepmakajligaa", sum := "15e8c1ceee5eef091e9919dd1c01bb1069a4ed9d007b096e688cae3475941060", func := "umlaut/umlautlaw2.TextSigns", spec := "textSigns", apart := false, narrowed := true }
def TextSignsUptoSaid : Prop := textSignsUptoRow.holds Try.pinned (OpenSpec.upto textSignsSpec)

/-- 'umlautlaw2.TextBytes', WHERE WHAT IT READS IS OF BULK AT MOST 1048576: true; the input reads as it did. -/
def textBytesUptoRow : OpenClaim := { program := "ytcoepmakajligaa", sum := "15e8c1ceee5eef091e9919dd1c01bb1069a4ed9d007b096e688cae3475941060", func := "umlaut/umlautlaw2.TextBytes", spec := "textBytes", apart := false, narrowed := true }
def TextBytesUptoSaid : Prop := textBytesUptoRow.holds Try.pinned (OpenSpec.upto textBytesSpec)

/-- 'umlautlaw2.TextFolds', WHERE WHAT IT READS IS OF BULK AT MOST 1048576: true; the input reads as it did. -/
def textFoldsUptoRow : OpenClaim := { program := "ytcoepmakajligaa", sum := "15e8c1ceee5eef091e9919dd1c01bb1069a4ed9d007b096e688cae3475941060", func := "umlaut/umlautlaw2.TextFolds", spec := "textFolds", apart := false, narrowed := true }
def TextFoldsUptoSaid : Prop := textFoldsUptoRow.holds Try.pinned (OpenSpec.upto textFoldsSpec)

/-- 'umlautlaw2.TextBegins', WHERE WHAT IT READS IS OF BULK AT MOST 1048576: true; the input reads as it did. -/
def textBeginsUptoRow : OpenClaim := { program := "ytcoepmakajligaa", sum := "15e8c1ceee5eef091e9919dd1c01bb1069a4ed9d007b096e688cae3475941060", func := "umlaut/umlautlaw2.TextBegins", spec := "textBegins", apart := false, narrowed := true }
def TextBeginsUptoSaid : Prop := textBeginsUptoRow.holds Try.pinned (OpenSpec.upto textBeginsSpec)

/-- 'umlautlaw2.TextNext', WHERE WHAT IT READS IS OF BULK AT MOST 1048576: true; the input reads as it did. -/
def textNextUptoRow : OpenClaim := { program := "ytcoepmakajligaa", sum := "15e8c1ceee5eef091e9919dd1c01bb1069a4ed9d007b096e688cae3475941060", func := "umlaut/umlautlaw2.TextNext", spec := "textNext", apart := false, narrowed := true }
def TextNextUptoSaid : Prop := textNextUptoRow.holds Try.pinned (OpenSpec.upto textNextSpec)

/-- 'umlautlaw2.TextOne', WHERE WHAT IT READS IS OF BULK AT MOST 1048576: true; the input reads as it did. -/
def textOneUptoRow : OpenClaim := { program := "ytcoepmakajligaa", sum := "15e8c1ceee5eef091e9919dd1c01bb1069a4ed9d007b096e688cae3475941060", func := "umlaut/umlautlaw2.TextOne", spec := "textOne", apart := false, narrowed := true }
def TextOneUptoSaid : Prop := textOneUptoRow.holds Try.pinned (OpenSpec.upto textOneSpec)

end Rows
end Go.Proofs.Ytcoepmakajligaa
