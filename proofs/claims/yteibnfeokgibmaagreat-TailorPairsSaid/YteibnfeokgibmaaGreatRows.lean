/-
  No cell of these rows narrows 'for every input' (looked for: loops, veiled, ifaces, maps, wideKeys, modest, calm, conditions, laid).
  DERIVED. THE GIVEN ROWS OF THIS SEAT. 10 by the template 'for every input the law returns true; each argument reads behind the call as it read before'; 0 by the template 'total and deterministic' (their statements: YteibnfeokgibmaaGreatTotals.lean).
  GIVEN WITH THE SEED: the statements are not yours to turn. If you find one false, say at which input.
  Laid BY PROGRAM, IN A SANDBOX (cutbox-rows.mjs): the forced cells as the released guide's own fill.sh prints them over the translation a34081459e2bf25f… (all of the seat's roots in one cut). By AI agents, Wed Nov 11 2026. No macro, syntax, notation, axiom, sorry.
-/
import Derived.Test.YteibnfeokgibmaaGreatChecked
import GoSem.Claim
import GoSem.ClaimJoined
import GoSem.ClaimMapViews
import Derived.JoinedTies
import Derived.KernelRfl
namespace Go.Proofs.YteibnfeokgibmaaGreat
/- THE CELL 'sum', in the pinned program and in every row, IS THE sha256 OF THE DUMP (.gsa) THAT YteibnfeokgibmaaGreatProg.lean LOADS. Nothing in Lean hashes anything: it is a label: what it is worth is what the hold of that sum in a sandbox is worth. -/
noncomputable def Tryz.pinned : Pinned := { name := "yteibnfeokgibmaagreat", sum := "a34081459e2bf25f8d52e1294f60bff7233461eefe2293c71c56b3a9b7ab8d89", checked := Tryz.checked }
namespace Rows
def none {H : Type} : Left H := { results := [], args := [] }

/-- 'umlautlaw8.CollShifts': WHATEVER THE INPUT: true; the input reads as it did. -/
def collShiftsSpec : ChangeSpec := { name := "collShifts", fn := fun _ => fun
  | [d1, d2, d3, d4] => { results := [.lit (.bool true)], args := [d1, d2, d3, d4] }
  | _ => none }
def collShiftsRow : OpenClaim := { program := "yteibnfeokgibmaagreat", sum := "a34081459e2bf25f8d52e1294f60bff7233461eefe2293c71c56b3a9b7ab8d89", func := "umlaut/umlautlaw8.CollShifts", spec := "collShifts", inPlace := ["internal/bytealg.IndexByteString", "slices.overlaps[umlaut/table.Entry]", "internal/bytealg.abigen_runtime_cmpstring"], unfollowed := true, recurses := true, plainKeys := false, apart := false }
def CollShiftsSaid : Prop := collShiftsRow.holds Tryz.pinned (OpenSpec.ofChange collShiftsSpec)

/-- ITS FALSE NEIGHBOUR: 'it returns false'. Refute it at one input. -/
def collShiftsWrong : ChangeSpec := { name := "collShifts", fn := fun _ => fun
  | [d1, d2, d3, d4] => { results := [.lit (.bool false)], args := [d1, d2, d3, d4] }
  | _ => none }
def CollShiftsWrongFalsely : Prop := collShiftsRow.holds Tryz.pinned (OpenSpec.ofChange collShiftsWrong)

/-- 'umlautlaw8.CollBacks': WHATEVER THE INPUT: true; the input reads as it did. -/
def collBacksSpec : ChangeSpec := { name := "collBacks", fn := fun _ => fun
  | [d1, d2] => { results := [.lit (.bool true)], args := [d1, d2] }
  | _ => none }
def collBacksRow : OpenClaim := { program := "yteibnfeokgibmaagreat", sum := "a34081459e2bf25f8d52e1294f60bff7233461eefe2293c71c56b3a9b7ab8d89", func := "umlaut/umlautlaw8.CollBacks", spec := "collBacks", inPlace := ["internal/bytealg.abigen_runtime_cmpstring", "internal/bytealg.IndexByteString", "slices.overlaps[umlaut/table.Entry]"], unfollowed := true, recurses := true, plainKeys := false, apart := false }
def CollBacksSaid : Prop := collBacksRow.holds Tryz.pinned (OpenSpec.ofChange collBacksSpec)

/-- ITS FALSE NEIGHBOUR: 'it returns false'. Refute it at one input. -/
def collBacksWrong : ChangeSpec := { name := "collBacks", fn := fun _ => fun
  | [d1, d2] => { results := [.lit (.bool false)], args := [d1, d2] }
  | _ => none }
def CollBacksWrongFalsely : Prop := collBacksRow.holds Tryz.pinned (OpenSpec.ofChange collBacksWrong)

/-- 'umlautlaw8.CollCases': WHATEVER THE INPUT: true; the input reads as it did. -/
def collCasesSpec : ChangeSpec := { name := "collCases", fn := fun _ => fun
  | [d1, d2, d3] => { results := [.lit (.bool true)], args := [d1, d2, d3] }
  | _ => none }
def collCasesRow : OpenClaim := { program := "yteibnfeokgibmaagreat", sum := "a34081459e2bf25f8d52e1294f60bff7233461eefe2293c71c56b3a9b7ab8d89", func := "umlaut/umlautlaw8.CollCases", spec := "collCases", inPlace := ["internal/bytealg.IndexByteString", "slices.overlaps[umlaut/table.Entry]", "internal/bytealg.abigen_runtime_cmpstring"], unfollowed := true, recurses := true, plainKeys := false, apart := false }
def CollCasesSaid : Prop := collCasesRow.holds Tryz.pinned (OpenSpec.ofChange collCasesSpec)

/-- ITS FALSE NEIGHBOUR: 'it returns false'. Refute it at one input. -/
def collCasesWrong : ChangeSpec := { name := "collCases", fn := fun _ => fun
  | [d1, d2, d3] => { results := [.lit (.bool false)], args := [d1, d2, d3] }
  | _ => none }
def CollCasesWrongFalsely : Prop := collCasesRow.holds Tryz.pinned (OpenSpec.ofChange collCasesWrong)

/-- 'umlautlaw8.TailorSame': WHATEVER THE INPUT: true; the input reads as it did. -/
def tailorSameSpec : ChangeSpec := { name := "tailorSame", fn := fun _ => fun
  | [d1, d2, d3, d4] => { results := [.lit (.bool true)], args := [d1, d2, d3, d4] }
  | _ => none }
def tailorSameRow : OpenClaim := { program := "yteibnfeokgibmaagreat", sum := "a34081459e2bf25f8d52e1294f60bff7233461eefe2293c71c56b3a9b7ab8d89", func := "umlaut/umlautlaw8.TailorSame", spec := "tailorSame", inPlace := ["internal/bytealg.IndexByteString", "slices.overlaps[umlaut/table.Entry]", "internal/bytealg.abigen_runtime_cmpstring"], unfollowed := true, recurses := true, plainKeys := false, apart := false }
def TailorSameSaid : Prop := tailorSameRow.holds Tryz.pinned (OpenSpec.ofChange tailorSameSpec)

/-- ITS FALSE NEIGHBOUR: 'it returns false'. Refute it at one input. -/
def tailorSameWrong : ChangeSpec := { name := "tailorSame", fn := fun _ => fun
  | [d1, d2, d3, d4] => { results := [.lit (.bool false)], args := [d1, d2, d3, d4] }
  | _ => none }
def TailorSameWrongFalsely : Prop := tailorSameRow.holds Tryz.pinned (OpenSpec.ofChange tailorSameWrong)

/-- 'umlautlaw8.TailorPairs': WHATEVER THE INPUT: true; the input reads as it did. -/
def tailorPairsSpec : ChangeSpec := { name := "tailorPairs", fn := fun _ => fun
  | [d1, d2, d3, d4] => { results := [.lit (.bool true)], args := [d1, d2, d3, d4] }
  | _ => none }
def tailorPairsRow : OpenClaim := { program := "yteibnfeokgibmaagreat", sum := "a34081459e2bf25f8d52e1294f60bff7233461eefe2293c71c56b3a9b7ab8d89", func := "umlaut/umlautlaw8.TailorPairs", spec := "tailorPairs", inPlace := ["internal/bytealg.IndexByteString", "slices.overlaps[umlaut/table.Entry]", "internal/bytealg.abigen_runtime_cmpstring"], unfollowed := true, recurses := true, plainKeys := false, apart := false }
def TailorPairsSaid : Prop := tailorPairsRow.holds Tryz.pinned (OpenSpec.ofChange tailorPairsSpec)

/-- ITS FALSE NEIGHBOUR: 'it returns false'. Refute it at one input. -/
def tailorPairsWrong : ChangeSpec := { name := "tailorPairs", fn := fun _ => fun
  | [d1, d2, d3, d4] => { results := [.lit (.bool false)], args := [d1, d2, d3, d4] }
  | _ => none }
def TailorPairsWrongFalsely : Prop := tailorPairsRow.holds Tryz.pinned (OpenSpec.ofChange tailorPairsWrong)

/-- 'umlautlaw8.CollTells': WHATEVER THE INPUT: true; the input reads as it did. -/
def collTellsSpec : ChangeSpec := { name := "collTells", fn := fun _ => fun
  | [d1, d2, d3, d4, d5, d6, d7, d8] => { results := [.lit (.bool true)], args := [d1, d2, d3, d4, d5, d6, d7, d8] }
  | _ => none }
def collTellsRow : OpenClaim := { program := "yteibnfeokgibmaagreat", sum := "a34081459e2bf25f8d52e1294f60bff7233461eefe2293c71c56b3a9b7ab8d89", func := "umlaut/umlautlaw8.CollTells", spec := "collTells", inPlace := ["internal/bytealg.IndexByteString", "slices.overlaps[umlaut/table.Entry]", "internal/bytealg.abigen_runtime_cmpstring"], unfollowed := true, recurses := true, plainKeys := false, apart := false }
def CollTellsSaid : Prop := collTellsRow.holds Tryz.pinned (OpenSpec.ofChange collTellsSpec)

/-- ITS FALSE NEIGHBOUR: 'it returns false'. Refute it at one input. -/
def collTellsWrong : ChangeSpec := { name := "collTells", fn := fun _ => fun
  | [d1, d2, d3, d4, d5, d6, d7, d8] => { results := [.lit (.bool false)], args := [d1, d2, d3, d4, d5, d6, d7, d8] }
  | _ => none }
def CollTellsWrongFalsely : Prop := collTellsRow.holds Tryz.pinned (OpenSpec.ofChange collTellsWrong)

/-- 'umlautlaw8.CollChains': WHATEVER THE INPUT: true; the input reads as it did. -/
def collChainsSpec : ChangeSpec := { name := "collChains", fn := fun _ => fun
  | [d1, d2, d3, d4, d5, d6, d7, d8] => { results := [.lit (.bool true)], args := [d1, d2, d3, d4, d5, d6, d7, d8] }
  | _ => none }
def collChainsRow : OpenClaim := { program := "yteibnfeokgibmaagreat", sum := "a34081459e2bf25f8d52e1294f60bff7233461eefe2293c71c56b3a9b7ab8d89", func := "umlaut/umlautlaw8.CollChains", spec := "collChains", inPlace := ["internal/bytealg.IndexByteString", "slices.overlaps[umlaut/table.Entry]", "internal/bytealg.abigen_runtime_cmpstring"], unfollowed := true, recurses := true, plainKeys := false, apart := false }
def CollChainsSaid : Prop := collChainsRow.holds Tryz.pinned (OpenSpec.ofChange collChainsSpec)

/-- ITS FALSE NEIGHBOUR: 'it returns false'. Refute it at one input. -/
def collChainsWrong : ChangeSpec := { name := "collChains", fn := fun _ => fun
  | [d1, d2, d3, d4, d5, d6, d7, d8] => { results := [.lit (.bool false)], args := [d1, d2, d3, d4, d5, d6, d7, d8] }
  | _ => none }
def CollChainsWrongFalsely : Prop := collChainsRow.holds Tryz.pinned (OpenSpec.ofChange collChainsWrong)

/-- 'umlautlaw8.CollSorts': WHATEVER THE INPUT: true; the input reads as it did. -/
def collSortsSpec : ChangeSpec := { name := "collSorts", fn := fun _ => fun
  | [d1, d2, d3, d4] => { results := [.lit (.bool true)], args := [d1, d2, d3, d4] }
  | _ => none }
def collSortsRow : OpenClaim := { program := "yteibnfeokgibmaagreat", sum := "a34081459e2bf25f8d52e1294f60bff7233461eefe2293c71c56b3a9b7ab8d89", func := "umlaut/umlautlaw8.CollSorts", spec := "collSorts", inPlace := ["internal/bytealg.IndexByteString", "slices.overlaps[umlaut/table.Entry]", "internal/bytealg.abigen_runtime_cmpstring"], unfollowed := true, recurses := true, plainKeys := false, apart := false }
def CollSortsSaid : Prop := collSortsRow.holds Tryz.pinned (OpenSpec.ofChange collSortsSpec)

/-- ITS FALSE NEIGHBOUR: 'it returns false'. Refute it at one input. -/
def collSortsWrong : ChangeSpec := { name := "collSorts", fn := fun _ => fun
  | [d1, d2, d3, d4] => { results := [.lit (.bool false)], args := [d1, d2, d3, d4] }
  | _ => none }
def CollSortsWrongFalsely : Prop := collSortsRow.holds Tryz.pinned (OpenSpec.ofChange collSortsWrong)

/-- 'umlautlaw8.CollLevels': WHATEVER THE INPUT: true; the input reads as it did. -/
def collLevelsSpec : ChangeSpec := { name := "collLevels", fn := fun _ => fun
  | [d1, d2, d3, d4] => { results := [.lit (.bool true)], args := [d1, d2, d3, d4] }
  | _ => none }
def collLevelsRow : OpenClaim := { program := "yteibnfeokgibmaagreat", sum := "a34081459e2bf25f8d52e1294f60bff7233461eefe2293c71c56b3a9b7ab8d89", func := "umlaut/umlautlaw8.CollLevels", spec := "collLevels", inPlace := ["internal/bytealg.IndexByteString", "slices.overlaps[umlaut/table.Entry]", "internal/bytealg.abigen_runtime_cmpstring"], unfollowed := true, recurses := true, plainKeys := false, apart := false }
def CollLevelsSaid : Prop := collLevelsRow.holds Tryz.pinned (OpenSpec.ofChange collLevelsSpec)

/-- ITS FALSE NEIGHBOUR: 'it returns false'. Refute it at one input. -/
def collLevelsWrong : ChangeSpec := { name := "collLevels", fn := fun _ => fun
  | [d1, d2, d3, d4] => { results := [.lit (.bool false)], args := [d1, d2, d3, d4] }
  | _ => none }
def CollLevelsWrongFalsely : Prop := collLevelsRow.holds Tryz.pinned (OpenSpec.ofChange collLevelsWrong)

/-- 'umlautlaw8.CollWrong': WHATEVER THE INPUT: true; the input reads as it did. -/
def collWrongSpec : ChangeSpec := { name := "collWrong", fn := fun _ => fun
  | [d1, d2, d3, d4, d5] => { results := [.lit (.bool true)], args := [d1, d2, d3, d4, d5] }
  | _ => none }
def collWrongRow : OpenClaim := { program := "yteibnfeokgibmaagreat", sum := "a34081459e2bf25f8d52e1294f60bff7233461eefe2293c71c56b3a9b7ab8d89", func := "umlaut/umlautlaw8.CollWrong", spec := "collWrong", inPlace := ["internal/bytealg.IndexByteString", "slices.overlaps[umlaut/table.Entry]", "internal/bytealg.abigen_runtime_cmpstring"], unfollowed := true, recurses := true, plainKeys := false, apart := false }
def CollWrongSaid : Prop := collWrongRow.holds Tryz.pinned (OpenSpec.ofChange collWrongSpec)

/-- ITS FALSE NEIGHBOUR: 'it returns false'. Refute it at one input. -/
def collWrongWrong : ChangeSpec := { name := "collWrong", fn := fun _ => fun
  | [d1, d2, d3, d4, d5] => { results := [.lit (.bool false)], args := [d1, d2, d3, d4, d5] }
  | _ => none }
def CollWrongWrongFalsely : Prop := collWrongRow.holds Tryz.pinned (OpenSpec.ofChange collWrongWrong)

/- THE SECOND FORM. 'bulk': how many values and letters a reading holds, each counted each time it is reached (what is shared counts as often as it is met; a slice's spare places count too). A statement '..UptoSaid' is the law's where the arguments, and the package variables that the reading takes, are together of bulk at most 1048576: NARROWER than '..Said'. Prove '..Said' where nothing that the law and all that it calls make is longer than what came in: it says more and counts as full. Else prove '..UptoSaid'. A law counts once. -/
mutual
def uptoBulk {H : Type} : DataW H → Nat
  | .lit (.string bytes) => bytes.length + 1
  | .lit _ => 1
  | .nil => 1
  | .ptr d => uptoBulk d + 1
  | .slice elems spare => uptoBulkAll elems + uptoBulkAll spare + 1
  | .agg parts => uptoBulkAll parts + 1
  | .iface _ d => uptoBulk d + 1
  | .map entries => uptoBulkEntries entries + 1
  | .held _ => 1
def uptoBulkAll {H : Type} : List (DataW H) → Nat
  | [] => 0
  | d :: r => uptoBulk d + uptoBulkAll r
def uptoBulkEntries {H : Type} : List (Lit × DataW H) → Nat
  | [] => 0
  | x :: r => uptoBulkEntry x + uptoBulkEntries r
def uptoBulkEntry {H : Type} : Lit × DataW H → Nat
  | (.string bytes, d) => bytes.length + uptoBulk d + 1
  | (_, d) => uptoBulk d + 1
 end
def uptoSmall : (H : Type) → List (DataW H) → Bool := fun _ ds => decide (uptoBulkAll ds ≤ 1048576)
def OpenSpec.upto (s : _root_.Go.ChangeSpec) : _root_.Go.OpenSpec := { _root_.Go.OpenSpec.ofChange s with cond := some uptoSmall }

/-- 'umlautlaw8.CollShifts', WHERE WHAT IT READS IS OF BULK AT MOST 1048576: true; the input reads as it did. -/
def collShiftsUptoRow : OpenClaim := { program := "yteibnfeokgibmaagreat", sum := "a34081459e2bf25f8d52e1294f60bff7233461eefe2293c71c56b3a9b7ab8d89", func := "umlaut/umlautlaw8.CollShifts", spec := "collShifts", inPlace := ["internal/bytealg.IndexByteString", "slices.overlaps[umlaut/table.Entry]", "internal/bytealg.abigen_runtime_cmpstring"], unfollowed := true, recurses := true, plainKeys := false, apart := false, narrowed := true }
def CollShiftsUptoSaid : Prop := collShiftsUptoRow.holds Tryz.pinned (OpenSpec.upto collShiftsSpec)

/-- 'umlautlaw8.CollBacks', WHERE WHAT IT READS IS OF BULK AT MOST 1048576: true; the input reads as it did. -/
def collBacksUptoRow : OpenClaim := { program := "yteibnfeokgibmaagreat", sum := "a34081459e2bf25f8d52e1294f60bff7233461eefe2293c71c56b3a9b7ab8d89", func := "umlaut/umlautlaw8.CollBacks", spec := "collBacks", inPlace := ["internal/bytealg.abigen_runtime_cmpstring", "internal/bytealg.IndexByteString", "slices.overlaps[umlaut/table.Entry]"], unfollowed := true, recurses := true, plainKeys := false, apart := false, narrowed := true }
def CollBacksUptoSaid : Prop := collBacksUptoRow.holds Tryz.pinned (OpenSpec.upto collBacksSpec)

/-- 'umlautlaw8.CollCases', WHERE WHAT IT READS IS OF BULK AT MOST 1048576: true; the input reads as it did. -/
def collCasesUptoRow : OpenClaim := { program := "yteibnfeokgibmaagreat", sum := "a34081459e2bf25f8d52e1294f60bff7233461eefe2293c71c56b3a9b7ab8d89", func := "umlaut/umlautlaw8.CollCases", spec := "collCases", inPlace := ["internal/bytealg.IndexByteString", "slices.overlaps[umlaut/table.Entry]", "internal/bytealg.abigen_runtime_cmpstring"], unfollowed := true, recurses := true, plainKeys := false, apart := false, narrowed := true }
def CollCasesUptoSaid : Prop := collCasesUptoRow.holds Tryz.pinned (OpenSpec.upto collCasesSpec)

/-- 'umlautlaw8.TailorSame', WHERE WHAT IT READS IS OF BULK AT MOST 1048576: true; the input reads as it did. -/
def tailorSameUptoRow : OpenClaim := { program := "yteibnfeokgibmaagreat", sum := "a34081459e2bf25f8d52e1294f60bff7233461eefe2293c71c56b3a9b7ab8d89", func := "umlaut/umlautlaw8.TailorSame", spec := "tailorSame", inPlace := ["internal/bytealg.IndexByteString", "slices.overlaps[umlaut/table.Entry]", "internal/bytealg.abigen_runtime_cmpstring"], unfollowed := true, recurses := true, plainKeys := false, apart := false, narrowed := true }
def TailorSameUptoSaid : Prop := tailorSameUptoRow.holds Tryz.pinned (OpenSpec.upto tailorSameSpec)

/-- 'umlautlaw8.TailorPairs', WHERE WHAT IT READS IS OF BULK AT MOST 1048576: true; the input reads as it did. -/
def tailorPairsUptoRow : OpenClaim := { program := "yteibnfeokgibmaagreat", sum := "a34081459e2bf25f8d52e1294f60bff7233461eefe2293c71c56b3a9b7ab8d89", func := "umlaut/umlautlaw8.TailorPairs", spec := "tailorPairs", inPlace := ["internal/bytealg.IndexByteString", "slices.overlaps[umlaut/table.Entry]", "internal/bytealg.abigen_runtime_cmpstring"], unfollowed := true, recurses := true, plainKeys := false, apart := false, narrowed := true }
def TailorPairsUptoSaid : Prop := tailorPairsUptoRow.holds Tryz.pinned (OpenSpec.upto tailorPairsSpec)

/-- 'umlautlaw8.CollTells', WHERE WHAT IT READS IS OF BULK AT MOST 1048576: true; the input reads as it did. -/
def collTellsUptoRow : OpenClaim := { program := "yteibnfeokgibmaagreat", sum := "a34081459e2bf25f8d52e1294f60bff7233461eefe2293c71c56b3a9b7ab8d89", func := "umlaut/umlautlaw8.CollTells", spec := "collTells", inPlace := ["internal/bytealg.IndexByteString", "slices.overlaps[umlaut/table.Entry]", "internal/bytealg.abigen_runtime_cmpstring"], unfollowed := true, recurses := true, plainKeys := false, apart := false, narrowed := true }
def CollTellsUptoSaid : Prop := collTellsUptoRow.holds Tryz.pinned (OpenSpec.upto collTellsSpec)

/-- 'umlautlaw8.CollChains', WHERE WHAT IT READS IS OF BULK AT MOST 1048576: true; the input reads as it did. -/
def collChainsUptoRow : OpenClaim := { program := "yteibnfeokgibmaagreat", sum := "a34081459e2bf25f8d52e1294f60bff7233461eefe2293c71c56b3a9b7ab8d89", func := "umlaut/umlautlaw8.CollChains", spec := "collChains", inPlace := ["internal/bytealg.IndexByteString", "slices.overlaps[umlaut/table.Entry]", "internal/bytealg.abigen_runtime_cmpstring"], unfollowed := true, recurses := true, plainKeys := false, apart := false, narrowed := true }
def CollChainsUptoSaid : Prop := collChainsUptoRow.holds Tryz.pinned (OpenSpec.upto collChainsSpec)

/-- 'umlautlaw8.CollSorts', WHERE WHAT IT READS IS OF BULK AT MOST 1048576: true; the input reads as it did. -/
def collSortsUptoRow : OpenClaim := { program := "yteibnfeokgibmaagreat", sum := "a34081459e2bf25f8d52e1294f60bff7233461eefe2293c71c56b3a9b7ab8d89", func := "umlaut/umlautlaw8.CollSorts", spec := "collSorts", inPlace := ["internal/bytealg.IndexByteString", "slices.overlaps[umlaut/table.Entry]", "internal/bytealg.abigen_runtime_cmpstring"], unfollowed := true, recurses := true, plainKeys := false, apart := false, narrowed := true }
def CollSortsUptoSaid : Prop := collSortsUptoRow.holds Tryz.pinned (OpenSpec.upto collSortsSpec)

/-- 'umlautlaw8.CollLevels', WHERE WHAT IT READS IS OF BULK AT MOST 1048576: true; the input reads as it did. -/
def collLevelsUptoRow : OpenClaim := { program := "yteibnfeokgibmaagreat", sum := "a34081459e2bf25f8d52e1294f60bff7233461eefe2293c71c56b3a9b7ab8d89", func := "umlaut/umlautlaw8.CollLevels", spec := "collLevels", inPlace := ["internal/bytealg.IndexByteString", "slices.overlaps[umlaut/table.Entry]", "internal/bytealg.abigen_runtime_cmpstring"], unfollowed := true, recurses := true, plainKeys := false, apart := false, narrowed := true }
def CollLevelsUptoSaid : Prop := collLevelsUptoRow.holds Tryz.pinned (OpenSpec.upto collLevelsSpec)

/-- 'umlautlaw8.CollWrong', WHERE WHAT IT READS IS OF BULK AT MOST 1048576: true; the input reads as it did. -/
def collWrongUptoRow : OpenClaim := { program := "yteibnfeokgibmaagreat", sum := "a34081459e2bf25f8d52e1294f60bff7233461eefe2293c71c56b3a9b7ab8d89", func := "umlaut/umlautlaw8.CollWrong", spec := "collWrong", inPlace := ["internal/bytealg.IndexByteString", "slices.overlaps[umlaut/table.Entry]", "internal/bytealg.abigen_runtime_cmpstring"], unfollowed := true, recurses := true, plainKeys := false, apart := false, narrowed := true }
def CollWrongUptoSaid : Prop := collWrongUptoRow.holds Tryz.pinned (OpenSpec.upto collWrongSpec)

end Rows
end Go.Proofs.YteibnfeokgibmaaGreat
