/-
  Texts that belong together, one behind the other: LexLaid. Conditions: as each says.
-/
import Derived.MakeChecks
import Derived.Stop.LaidErr
import Derived.Test.YtagkgneijdbkoaaDoorJn22
import Derived.Test.YtagkgneijdbkoaaDoorRows
/-
  What the rows list of the library's table of white space, as the walks want it (layer 7). Conditions: the listed variables read as the program's text lays them.
-/
namespace Go.Proofs.YtagkgneijdbkoaaDoor
open Go.RowKit
set_option linter.unusedVariables false

set_option maxRecDepth 100000 in
theorem laid_space : (Rows.laid_strings_asciiSpace : DataW Unit) = Lib.tabData .u8 Lib.asciiSpaceTab := by kernel_rfl
set_option maxRecDepth 100000 in
theorem tab7_of {W : World} (h : laidMetH Tryd.prog [("unicode.White_Space", Rows.laid_unicode_White_Space), ("strings.asciiSpace", Rows.laid_strings_asciiSpace)] W) : Tab7 W := by
  rw [MakeChecks.laidMetH_plain _ _ _ (by kernel_rfl)] at h
  have h2 := h.tail
  rw [laid_space] at h2
  exact Tab7.of (Lib.tabIs_of_head (g := 0) (t := 94) (e := 5) (n := 256) (by kernel_rfl) (by kernel_rfl) Tryd.underlying94 Tryd.underlying5 (by kernel_rfl) (by kernel_rfl) h2)
end Go.Proofs.YtagkgneijdbkoaaDoor
