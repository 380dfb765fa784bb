/-
  WHAT THE ROWS' LIST GIVES: the library's table of powers of ten holds its twenty numbers.
-/
import Derived.Test.YtlfiaompjbdcgaaDoorRows
import Derived.Test.YtlfiaompjbdcgaaDoorAwake
import Derived.LaidSub
import Derived.MakeChecks
namespace Go.Proofs.YtlfiaompjbdcgaaDoor
open Go.RowKit
theorem gTab : Tryd.prog.globalNamed "internal/strconv.uint64pow10" = some 0 := by kernel_rfl
theorem gTabType : (Tryd.prog.globals[0]?).map (·.type) = some 81 := by kernel_rfl
theorem cellsTab : Tryd.prog.cellsOf 81 = 20 := by kernel_rfl
theorem cellsU64 : Tryd.prog.cellsOf 22 = 1 := by kernel_rfl
theorem tabData_is : (Rows.laid_internal_strconv_uint64pow10 : DataW Unit) = Lib.tabData .u64 Lib.pow10Tab := by kernel_rfl
/-- Any list whose part of that name is the table's. -/
theorem tab_of {W : World} {l : List (String × DataW Unit)} (h : laidMetH Tryd.prog l W)
    (hf : (l.filter fun x => x.1 == "internal/strconv.uint64pow10") = [("internal/strconv.uint64pow10", Rows.laid_internal_strconv_uint64pow10)]) : Tab W := by
  have h1 := h.filter (fun x => x.1 == "internal/strconv.uint64pow10")
  rw [hf, MakeChecks.laidMetH_plain _ _ _ (by kernel_rfl), tabData_is] at h1
  exact Lib.tabIs_of_head (rest := []) gTab gTabType Tryd.underlying81 Tryd.underlying22 cellsU64 cellsTab h1
end Go.Proofs.YtlfiaompjbdcgaaDoor
