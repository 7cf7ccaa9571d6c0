/- The contract of In of package addr: of every rectangle and cell whether the cell is in it. New memory alone is made. No condition. -/
import Derived.Test.YtaafpfjmnhmalaaA1
namespace Go.Proofs.Ytaafpfjmnhmalaa
open Go.RowKit
set_option linter.all false
/-- A cell (x, y) in the rectangle (t, l, b, r). -/
def inB (t l b r x y : Int) : Bool := decide (t ≤ x ∧ x ≤ b ∧ l ≤ y ∧ y ≤ r)
theorem inB_t {t l b r x y : Int} (h : t ≤ x ∧ x ≤ b ∧ l ≤ y ∧ y ≤ r) : inB t l b r x y = true := by simpa [inB] using h
theorem inB_f {t l b r x y : Int} (h : ¬ (t ≤ x ∧ x ≤ b ∧ l ≤ y ∧ y ≤ r)) : inB t l b r x y = false := by simpa [inB] using h
theorem inB_is {t l b r x y : Int} (h : inB t l b r x y = true) : t ≤ x ∧ x ≤ b ∧ l ≤ y ∧ y ≤ r := by simpa [inB] using h
end Go.Proofs.Ytaafpfjmnhmalaa
