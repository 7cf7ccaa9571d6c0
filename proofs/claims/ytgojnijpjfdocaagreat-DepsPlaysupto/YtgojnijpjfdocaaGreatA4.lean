/- The contract of In of package addr: of every rectangle and cell whether the cell is in it. New memory alone is made. No condition. -/
import Derived.Test.YtgojnijpjfdocaaGreatA1
namespace Go.Proofs.YtgojnijpjfdocaaGreat
open Go.RowKit
set_option linter.all false
/-- A cell (x, y) in the rectangle (t, l, b, r). -/
def inB (t l b r x y : Int) : Bool := decide (t ≤ x ∧ x ≤ b ∧ l ≤ y ∧ y ≤ r)
theorem inB_t {t l b r x y : Int} (h : t ≤ x ∧ x ≤ b ∧ l ≤ y ∧ y ≤ r) : inB t l b r x y = true := by simpa [inB] using h
theorem inB_f {t l b r x y : Int} (h : ¬ (t ≤ x ∧ x ≤ b ∧ l ≤ y ∧ y ≤ r)) : inB t l b r x y = false := by simpa [inB] using h
theorem inB_is {t l b r x y : Int} (h : inB t l b r x y = true) : t ≤ x ∧ x ≤ b ∧ l ≤ y ∧ y ≤ r := by simpa [inB] using h
theorem in_any (t l b r x y : Int) (w : World) : Calls Tryz.prog 78 #[.agg #[.int .i64 t, .int .i64 l, .int .i64 b, .int .i64 r], .agg #[.int .i64 x, .int .i64 y]] w fun e w' => e = .returned (.bool (inB t l b r x y)) ∧ Below w.heap.size w w' := by
  go_enter Tryz.func78, Tryz.ntmps78
  go_wp2
  all_goals go_ret
  all_goals refine ⟨retB ?_, (bal _ _).alloc (by simp) _⟩
  all_goals first | (rw [inB_t (by omega)]; done) | (rw [inB_f (by omega)]; done) | (rw [Bool.eq_iff_iff]; simp only [inB, decide_eq_true_eq]; omega)
end Go.Proofs.YtgojnijpjfdocaaGreat
