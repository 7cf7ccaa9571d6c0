/- What the laws of this seat share: 'alike' of two answers that are one; what the row's list of tables gives to the walks. -/
import Derived.Test.YtkbpjomkbelaaaaDoorKnown
import Derived.Test.YtkbpjomkbelaaaaDoorCards
import Derived.Test.YtkbpjomkbelaaaaDoorTie
import Derived.ProofKit
import Derived.OpenShut
import Derived.Lib.LaidTab
import Derived.Lay
import Derived.Stop.LaidErr
import Derived.LaidOnce
import Derived.SevenTiedAt
namespace Go.Proofs.YtkbpjomkbelaaaaDoor
open Go.Shelf Go.RowKit
set_option linter.unusedVariables false
theorem alike_same (a c : Int) (w : World) : Calls Tryd.prog 7 #[.int .i64 a, .int .i64 c, .int .i64 a, .int .i64 c] w fun e w' => e = .returned (.bool true) ∧ w' = w := by
  have h1 : (a == a) = true := by simp
  have h2 : (c == c) = true := by simp
  go_enter Tryd.func7, Tryd.ntmps7
  go_wp2
  go_ret
  exact ⟨rfl, rfl⟩
theorem i64_of {x : Int} (h : (Lit.int .i64 x).wf = true) : I64 x := by
  have : -9223372036854775808 ≤ x ∧ x ≤ 9223372036854775807 := by simpa [Lit.wf, IntKind.min, IntKind.max, IntKind.signed, IntKind.bits] using h
  exact this
theorem gPowType : (Tryd.prog.globals[2]?).map (·.type) = some 91 := by kernel_rfl
theorem cellsPow : Tryd.prog.cellsOf 91 = 20 := by kernel_rfl
theorem cellsU64 : Tryd.prog.cellsOf 34 = 1 := by kernel_rfl
/-- The five tables that each row of this seat lists. -/
def tables : List (String × DataW Unit) := [("math/bits.deBruijn32tab", Rows.laid_math_bits_deBruijn32tab), ("math/bits.deBruijn64tab", Rows.laid_math_bits_deBruijn64tab), ("internal/strconv.uint64pow10", Rows.laid_internal_strconv_uint64pow10), ("unicode/utf8.acceptRanges", Rows.laid_unicode_utf8_acceptRanges), ("unicode/utf8.first", Rows.laid_unicode_utf8_first)]
theorem pow_of_laid {W : World} (h : laidMetH Tryd.prog tables W) : Pow W := by
  rw [MakeChecks.laidMetH_plain _ _ _ (by kernel_rfl)] at h
  exact Lib.tabIs_of_head (rest := [("unicode/utf8.acceptRanges", Rows.laid_unicode_utf8_acceptRanges), ("unicode/utf8.first", Rows.laid_unicode_utf8_first)]) gPow gPowType Tryd.underlying91 Tryd.underlying34 cellsU64 cellsPow (laidMet.tail (laidMet.tail h))
theorem own : ownKnob Tryd.prog.godebug = none := by kernel_rfl
end Go.Proofs.YtkbpjomkbelaaaaDoor
