/- The contracts of May (of package addr and of the document's answer): of every cell whether it may be. New memory alone is made. No condition. -/
import Derived.Test.YtmajbophgdimlaaAB
namespace Go.Proofs.Ytmajbophgdimlaa
open Go.RowKit
set_option linter.all false
theorem bdrewN {B : Nat} {a w : World} (h : Below B a w) (n : Nat) : Below B a (w.drewN n) := ⟨h.os, h.tape, h.output, h.size, h.block⟩
/-- A cell that may be. -/
def mayC (r c : Int) : Bool := decide (1 ≤ r ∧ r ≤ 4096 ∧ 1 ≤ c ∧ c ≤ 256)
theorem mayC_t {r c : Int} (h : 1 ≤ r ∧ r ≤ 4096 ∧ 1 ≤ c ∧ c ≤ 256) : mayC r c = true := by simpa [mayC] using h
theorem mayC_f {r c : Int} (h : ¬ (1 ≤ r ∧ r ≤ 4096 ∧ 1 ≤ c ∧ c ≤ 256)) : mayC r c = false := by simpa [mayC] using h
theorem mayC_is {r c : Int} (h : mayC r c = true) : 1 ≤ r ∧ r ≤ 4096 ∧ 1 ≤ c ∧ c ≤ 256 := by simpa [mayC] using h
theorem may_any (r c : Int) (w : World) : Calls Try.prog 17 #[.agg #[.int .i64 r, .int .i64 c]] w fun e w' => e = .returned (.bool (mayC r c)) ∧ Below w.heap.size w w' := by
  go_enter Try.func17, Try.ntmps17
  go_wp2
  all_goals go_ret
  all_goals refine ⟨retB ?_, bal _ _⟩
  all_goals first | (rw [mayC_t (by omega)]; done) | (rw [mayC_f (by omega)]; done) | (rw [Bool.eq_iff_iff]; simp only [mayC, decide_eq_true_eq]; omega)
/-- From low to high. -/
def witB (n a b : Int) : Bool := decide (a ≤ n ∧ n ≤ b)
theorem within_any (n a b : Int) (w : World) : Calls Try.prog 16 #[.int .i64 n, .int .i64 a, .int .i64 b] w fun e w' => e = .returned (.bool (witB n a b)) ∧ w' = w := by
  go_enter Try.func16, Try.ntmps16
  go_wp2
  all_goals go_ret
  all_goals refine ⟨retB ?_, rfl⟩
  all_goals (unfold witB; simp; try omega)
theorem witB_t {n a b : Int} (h : a ≤ n ∧ n ≤ b) : witB n a b = true := by simpa [witB] using h
theorem witB_f {n a b : Int} (h : ¬ (a ≤ n ∧ n ≤ b)) : witB n a b = false := by simpa [witB] using h
theorem witB_may (r c : Int) : mayC r c = (witB r 1 4096 && witB c 1 256) := by
  by_cases h : 1 ≤ r ∧ r ≤ 4096 ∧ 1 ≤ c ∧ c ≤ 256
  · rw [mayC_t h, witB_t (by omega), witB_t (by omega)]; rfl
  · rw [mayC_f h]
    by_cases k : 1 ≤ r ∧ r ≤ 4096
    · rw [witB_f (n := c) (by omega)]; simp
    · rw [witB_f (n := r) (by omega)]; simp
theorem rmay_any (r c : Int) (w : World) : Calls Try.prog 8 #[.agg #[.int .i64 r, .int .i64 c]] w fun e w' => e = .returned (.bool (mayC r c)) ∧ Below w.heap.size w w' := by
  rw [witB_may]
  go_enter Try.func8, Try.ntmps8
  cases h1 : witB r 1 4096
  all_goals go_wp2_with (go_at_call 16; refine (within_any _ _ _ _).mono ?_; rintro e w5 ⟨rfl, rfl⟩)
  all_goals go_ret
  all_goals refine ⟨retB ?_, bal _ _⟩
  all_goals simp
end Go.Proofs.Ytmajbophgdimlaa
