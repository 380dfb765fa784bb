/-
  No cell of these rows narrows 'for every input' (looked for: loops, veiled, ifaces, maps, wideKeys, modest, calm, conditions, laid).
  DERIVED. THE GIVEN ROWS OF THIS SEAT. 4 by the template 'for every input the law returns true; each argument reads behind the call as it read before'; 0 by the template 'total and deterministic' (their statements: YtobfcinnggbkcaaTotals.lean).
  GIVEN WITH THE SEED: the statements are not yours to turn. If you find one false, say at which input.
  Laid BY PROGRAM, IN A SANDBOX (cutbox-rows.mjs): the forced cells as the released guide's own fill.sh prints them over the translation 660f95eb3a66fe3c… (all of the seat's roots in one cut). By AI agents, Wed Nov 11 2026. No macro, syntax, notation, axiom, sorry.
-/
import Derived.Test.YtobfcinnggbkcaaChecked
import GoSem.Claim
import GoSem.ClaimJoined
import GoSem.ClaimMapViews
import Derived.JoinedTies
import Derived.KernelRfl
namespace Go.Proofs.Ytobfcinnggbkcaa
/- THE CELL 'sum', in the pinned program and in every row, IS THE sha256 OF THE DUMP (.gsa) THAT YtobfcinnggbkcaaProg.lean LOADS. Nothing in Lean hashes anything: it is a label: what it is worth is what the hold of that sum in a sandbox is worth. -/
noncomputable def Try.pinned : Pinned := { name := "ytobfcinnggbkcaa", sum := "660f95eb3a66fe3c7a9889b693741a5014e223541c8d1f1d897d6efddfa896b5", checked := Try.checked }
namespace Rows
def none {H : Type} : Left H := { results := [], args := [] }

/-- 'umlautlaw3.ElemMakes': WHATEVER THE INPUT: true; the input reads as it did. -/
def elemMakesSpec : ChangeSpec := { name := "elemMakes", fn := fun _ => fun
  | [d1, d2, d3, d4] => { results := [.lit (.bool true)], args := [d1, d2, d3, d4] }
  | _ => none }
def elemMakesRow : OpenClaim := { program := "ytobfcinnggbkcaa", sum := "660f95eb3a66fe3c7a9889b693741a5014e223541c8d1f1d897d6efddfa896b5", func := "umlaut/umlautlaw3.ElemMakes", spec := "elemMakes", apart := false }
def ElemMakesSaid : Prop := elemMakesRow.holds Try.pinned (OpenSpec.ofChange elemMakesSpec)

/-- ITS FALSE NEIGHBOUR: 'it returns false'. Refute it at one input. -/
def elemMakesWrong : ChangeSpec := { name := "elemMakes", fn := fun _ => fun
  | [d1, d2, d3, d4] => { results := [.lit (.bool false)], args := [d1, d2, d3, d4] }
  | _ => none }
def ElemMakesWrongFalsely : Prop := elemMakesRow.holds Try.pinned (OpenSpec.ofChange elemMakesWrong)

/-- 'umlautlaw3.ElemWords': WHATEVER THE INPUT: true; the input reads as it did. -/
def elemWordsSpec : ChangeSpec := { name := "elemWords", fn := fun _ => fun
  | [d] => { results := [.lit (.bool true)], args := [d] }
  | _ => none }
def elemWordsRow : OpenClaim := { program := "ytobfcinnggbkcaa", sum := "660f95eb3a66fe3c7a9889b693741a5014e223541c8d1f1d897d6efddfa896b5", func := "umlaut/umlautlaw3.ElemWords", spec := "elemWords", inPlace := ["internal/bytealg.IndexByteString"], apart := false }
def ElemWordsSaid : Prop := elemWordsRow.holds Try.pinned (OpenSpec.ofChange elemWordsSpec)

/-- ITS FALSE NEIGHBOUR: 'it returns false'. Refute it at one input. -/
def elemWordsWrong : ChangeSpec := { name := "elemWords", fn := fun _ => fun
  | [d] => { results := [.lit (.bool false)], args := [d] }
  | _ => none }
def ElemWordsWrongFalsely : Prop := elemWordsRow.holds Try.pinned (OpenSpec.ofChange elemWordsWrong)

/-- 'umlautlaw3.ElemChanges': WHATEVER THE INPUT: true; the input reads as it did. -/
def elemChangesSpec : ChangeSpec := { name := "elemChanges", fn := fun _ => fun
  | [d1, d2, d3] => { results := [.lit (.bool true)], args := [d1, d2, d3] }
  | _ => none }
def elemChangesRow : OpenClaim := { program := "ytobfcinnggbkcaa", sum := "660f95eb3a66fe3c7a9889b693741a5014e223541c8d1f1d897d6efddfa896b5", func := "umlaut/umlautlaw3.ElemChanges", spec := "elemChanges", apart := false }
def ElemChangesSaid : Prop := elemChangesRow.holds Try.pinned (OpenSpec.ofChange elemChangesSpec)

/-- ITS FALSE NEIGHBOUR: 'it returns false'. Refute it at one input. -/
def elemChangesWrong : ChangeSpec := { name := "elemChanges", fn := fun _ => fun
  | [d1, d2, d3] => { results := [.lit (.bool false)], args := [d1, d2, d3] }
  | _ => none }
def ElemChangesWrongFalsely : Prop := elemChangesRow.holds Try.pinned (OpenSpec.ofChange elemChangesWrong)

/-- 'umlautlaw3.ElemReads': WHATEVER THE INPUT: true; the input reads as it did. -/
def elemReadsSpec : ChangeSpec := { name := "elemReads", fn := fun _ => fun
  | [d1, d2, d3, d4] => { results := [.lit (.bool true)], args := [d1, d2, d3, d4] }
  | _ => none }
def elemReadsRow : OpenClaim := { program := "ytobfcinnggbkcaa", sum := "660f95eb3a66fe3c7a9889b693741a5014e223541c8d1f1d897d6efddfa896b5", func := "umlaut/umlautlaw3.ElemReads", spec := "elemReads", inPlace := ["internal/bytealg.IndexByteString"], apart := false }
def ElemReadsSaid : Prop := elemReadsRow.holds Try.pinned (OpenSpec.ofChange elemReadsSpec)

/-- ITS FALSE NEIGHBOUR: 'it returns false'. Refute it at one input. -/
def elemReadsWrong : ChangeSpec := { name := "elemReads", fn := fun _ => fun
  | [d1, d2, d3, d4] => { results := [.lit (.bool false)], args := [d1, d2, d3, d4] }
  | _ => none }
def ElemReadsWrongFalsely : Prop := elemReadsRow.holds Try.pinned (OpenSpec.ofChange elemReadsWrong)

/- THE SECOND FORM. 'bulk': how many values and letters a reading holds, each counted each time it is reached (what is shared counts as often as it is met; a slice's spare places count too). A statement '..UptoSaid' is the law's where the arguments, and the package variables that the reading takes, are together of bulk at most 1048576: NARROWER than '..Said'. Prove '..Said' where nothing that the law and all that it calls make is longer than what came in: it says more and counts as full. Else prove '..UptoSaid'. A law counts once. -/
mutual
def uptoBulk {H : Type} : DataW H → Nat
  | .lit (.string bytes) => bytes.length + 1
  | .lit _ => 1
  | .nil => 1
  | .ptr d => uptoBulk d + 1
  | .slice elems spare => uptoBulkAll elems + uptoBulkAll spare + 1
  | .agg parts => uptoBulkAll parts + 1
  | .iface _ d => uptoBulk d + 1
  | .map entries => uptoBulkEntries entries + 1
  | .held _ => 1
def uptoBulkAll {H : Type} : List (DataW H) → Nat
  | [] => 0
  | d :: r => uptoBulk d + uptoBulkAll r
def uptoBulkEntries {H : Type} : List (Lit × DataW H) → Nat
  | [] => 0
  | x :: r => uptoBulkEntry x + uptoBulkEntries r
def uptoBulkEntry {H : Type} : Lit × DataW H → Nat
  | (.string bytes, d) => bytes.length + uptoBulk d + 1
  | (_, d) => uptoBulk d + 1
 end
def uptoSmall : (H : Type) → List (DataW H) → Bool := fun _ ds => decide (uptoBulkAll ds ≤ 1048576)
def OpenSpec.upto (s : _root_.Go.ChangeSpec) : _root_.Go.OpenSpec := { _root_.Go.OpenSpec.ofChange s with cond := some uptoSmall }

/-- 'umlautlaw3.ElemMakes', WHERE WHAT IT READS IS OF BULK AT MOST 1048576: true; the input reads as it did. -/
def elemMakesUptoRow : OpenClaim := { program := "ytobfcinnggbkcaa", sum := "660f95eb3a66fe3c7a9889b693741a5014e223541c8d1f1d897d6efddfa896b5", func := "umlaut/umlautlaw3.ElemMakes", spec := "elemMakes", apart := false, narrowed := true }
def ElemMakesUptoSaid : Prop := elemMakesUptoRow.holds Try.pinned (OpenSpec.upto elemMakesSpec)

/-- 'umlautlaw3.ElemWords', WHERE WHAT IT READS IS OF BULK AT MOST 1048576: true; the input reads as it did. -/
def elemWordsUptoRow : OpenClaim := { program := "ytobfcinnggbkcaa", sum := "660f95eb3a66fe3c7a9889b693741a5014e223541c8d1f1d897d6efddfa896b5", func := "umlaut/umlautlaw3.ElemWords", spec := "elemWords", inPlace := ["internal/bytealg.IndexByteString"], apart := false, narrowed := true }
def ElemWordsUptoSaid : Prop := elemWordsUptoRow.holds Try.pinned (OpenSpec.upto elemWordsSpec)

/-- 'umlautlaw3.ElemChanges', WHERE WHAT IT READS IS OF BULK AT MOST 1048576: true; the input reads as it did. -/
def elemChangesUptoRow : OpenClaim := { program := "ytobfcinnggbkcaa", sum := "660f95eb3a66fe3c7a9889b693741a5014e223541c8d1f1d897d6efddfa896b5", func := "umlaut/umlautlaw3.ElemChanges", spec := "elemChanges", apart := false, narrowed := true }
def ElemChangesUptoSaid : Prop := elemChangesUptoRow.holds Try.pinned (OpenSpec.upto elemChangesSpec)

/-- 'umlautlaw3.ElemReads', WHERE WHAT IT READS IS OF BULK AT MOST 1048576: true; the input reads as it did. -/
def elemReadsUptoRow : OpenClaim := { program := "ytobfcinnggbkcaa", sum := "660f95eb3a66fe3c7a9889b693741a5014e223541c8d1f1d897d6efddfa896b5", func := "umlaut/umlautlaw3.ElemReads", spec := "elemReads", inPlace := ["internal/bytealg.IndexByteString"], apart := false, narrowed := true }
def ElemReadsUptoSaid : Prop := elemReadsUptoRow.holds Try.pinned (OpenSpec.upto elemReadsSpec)

end Rows
end Go.Proofs.Ytobfcinnggbkcaa
