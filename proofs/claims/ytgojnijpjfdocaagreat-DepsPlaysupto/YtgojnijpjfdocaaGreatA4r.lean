/- The contract of the document's In: of every rectangle and cell whether the cell is in it. New memory alone is made. No condition. -/
import Derived.Test.YtgojnijpjfdocaaGreatA4
namespace Go.Proofs.YtgojnijpjfdocaaGreat
open Go.RowKit
set_option linter.all false
theorem witB_in (t l b r x y : Int) : inB t l b r x y = (witB x t b && witB y l r) := by
  by_cases h : t ≤ x ∧ x ≤ b ∧ l ≤ y ∧ y ≤ r
  · rw [inB_t h, witB_t (by omega), witB_t (by omega)]; rfl
  · rw [inB_f h]
    by_cases k : t ≤ x ∧ x ≤ b
    · rw [witB_f (n := y) (by omega)]; simp
    · rw [witB_f (n := x) (by omega)]; simp
theorem rin_any (t l b r x y : Int) (w : World) : Calls Tryz.prog 21 #[(.agg #[.int .i64 (t), .int .i64 (l), .int .i64 (b), .int .i64 (r)]), (.agg #[.int .i64 (x), .int .i64 (y)])] w fun e w' => e = .returned (.bool (inB t l b r x y)) ∧ Below w.heap.size w w' := by
  rw [witB_in]
  go_enter Tryz.func21, Tryz.ntmps21
  cases h1 : witB x t b
  all_goals go_wp2_with (go_at_call 38; refine (within_any _ _ _ _).mono ?_; rintro e w5 ⟨rfl, rfl⟩)
  all_goals (try (go_quiet ((go_at_call 38; exact Calls.quiet_of_same (within_any _ _ _ _)))))
  all_goals go_wp2
  all_goals go_ret
  all_goals refine ⟨retB ?_, by with_reducible (repeat' first | assumption | exact Below.refl _ _ | refine Below.drew ?_ | refine Below.setCell ?_ (by first | exact Nat.le_refl _ | (simp; done) | (simp; omega) | omega) _ | refine Below.alloc ?_ (by first | exact Nat.le_refl _ | (simp; done) | (simp; omega) | omega) _)⟩
  all_goals simp
end Go.Proofs.YtgojnijpjfdocaaGreat
