/- What the row's list of tables gives to the walks of this seat. -/
import Derived.Test.YtcdkdgbdfamhnaaDoorAR
import Derived.Test.YtcdkdgbdfamhnaaDoorCards
import Derived.Test.YtcdkdgbdfamhnaaDoorTie
import Derived.Lib.LaidTab
import Derived.Lay
import Derived.Stop.LaidErr
import Derived.LaidOnce
import Derived.SevenTiedAt
namespace Go.Proofs.YtcdkdgbdfamhnaaDoor
open Go.Shelf Go.RowKit Go.Joins Go.ChangeShapes Go.WideShapes Go.ChangeAt
set_option linter.all false
theorem gPowType : (Tryd.prog.globals[1]?).map (·.type) = some 57 := by kernel_rfl
theorem cellsPow : Tryd.prog.cellsOf 57 = 20 := by kernel_rfl
theorem cellsU64 : Tryd.prog.cellsOf 47 = 1 := by kernel_rfl
/-- The three tables that each row of this seat lists. -/
def tables : List (String × DataW Unit) := [("math/bits.deBruijn32tab", Rows.laid_math_bits_deBruijn32tab), ("math/bits.deBruijn64tab", Rows.laid_math_bits_deBruijn64tab), ("internal/strconv.uint64pow10", Rows.laid_internal_strconv_uint64pow10)]
theorem pow_of_laid {W : World} (h : laidMetH Tryd.prog tables W) : Pow W := by
  rw [MakeChecks.laidMetH_plain _ _ _ (by kernel_rfl)] at h
  exact Lib.tabIs_of_head (rest := []) gPow gPowType Tryd.underlying57 Tryd.underlying47 cellsU64 cellsPow (laidMet.tail (laidMet.tail h))
end Go.Proofs.YtcdkdgbdfamhnaaDoor
