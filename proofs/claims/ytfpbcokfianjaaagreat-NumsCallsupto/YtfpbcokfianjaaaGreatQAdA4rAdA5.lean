/- The contract of the document's In: of every rectangle and cell whether the cell is in it. New memory alone is made. No condition. · The contracts of Before (of package addr and of the document's answer): of every two cells whether one stands ahead of the other. New memory alone is made. No condition. -/
import Derived.Test.YtfpbcokfianjaaaGreatQAdA3AdA4
import Derived.Test.YtfpbcokfianjaaaGreatQAdA1AdA2
namespace Go.Proofs.YtfpbcokfianjaaaGreat.Ad
open Go.RowKit
set_option linter.all false
theorem witB_in (t l b r x y : Int) : inB t l b r x y = (witB x t b && witB y l r) := by
  by_cases h : t ≤ x ∧ x ≤ b ∧ l ≤ y ∧ y ≤ r
  · rw [inB_t h, witB_t (by omega), witB_t (by omega)]; rfl
  · rw [inB_f h]
    by_cases k : t ≤ x ∧ x ≤ b
    · rw [witB_f (n := y) (by omega)]; simp
    · rw [witB_f (n := x) (by omega)]; simp
theorem rin_any (t l b r x y : Int) (w : World) : Calls Tryz.prog 71 #[(.agg #[.int .i64 (t), .int .i64 (l), .int .i64 (b), .int .i64 (r)]), (.agg #[.int .i64 (x), .int .i64 (y)])] w fun e w' => e = .returned (.bool (inB t l b r x y)) ∧ Below w.heap.size w w' := by
  rw [witB_in]
  go_enter Tryz.func71, Tryz.ntmps71
  cases h1 : witB x t b
  all_goals go_wp2_with (go_at_call 104; refine (within_any _ _ _ _).mono ?_; rintro e w5 ⟨rfl, rfl⟩)
  all_goals (try (go_quiet ((go_at_call 104; exact Calls.quiet_of_same (within_any _ _ _ _)))))
  all_goals go_wp2
  all_goals go_ret
  all_goals refine ⟨retB ?_, by with_reducible (repeat' first | assumption | exact Below.refl _ _ | refine Below.drew ?_ | refine Below.setCell ?_ (by first | exact Nat.le_refl _ | (simp; done) | (simp; omega) | omega) _ | refine Below.alloc ?_ (by first | exact Nat.le_refl _ | (simp; done) | (simp; omega) | omega) _)⟩
  all_goals simp
end Go.Proofs.YtfpbcokfianjaaaGreat.Ad
namespace Go.Proofs.YtfpbcokfianjaaaGreat.Ad
open Go.RowKit
set_option linter.all false
/-- One cell stands ahead of another. -/
def befB (a b a' b' : Int) : Bool := decide (a < a' ∨ (a = a' ∧ b < b'))
theorem befB_t {a b a' b' : Int} (h : a < a' ∨ (a = a' ∧ b < b')) : befB a b a' b' = true := by simpa [befB] using h
theorem befB_f {a b a' b' : Int} (h : ¬ (a < a' ∨ (a = a' ∧ b < b'))) : befB a b a' b' = false := by simpa [befB] using h
theorem befB_is (a b a' b' : Int) : (befB a b a' b' = true) = (a < a' ∨ (a = a' ∧ b < b')) := by simp [befB]
theorem rbef_any (a b a' b' : Int) (w : World) : Calls Tryz.prog 72 #[.agg #[.int .i64 a, .int .i64 b], .agg #[.int .i64 a', .int .i64 b']] w fun e w' => e = .returned (.bool (befB a b a' b')) ∧ Below w.heap.size w w' := by
  by_cases h1 : a < a'
  · rw [befB_t (.inl h1)]
    go_enter Tryz.func72, Tryz.ntmps72
    go_wp2
    go_ret
    exact ⟨rfl, (bal _ _).alloc (by simp) _⟩
  · have h1' : decide (a < a') = false := by simpa using h1
    by_cases h2 : (a == a') = true
    · have h2' : a = a' := by simpa using h2
      have e : befB a b a' b' = decide (b < b') := by rw [Bool.eq_iff_iff, befB_is, decide_eq_true_eq]; omega
      rw [e]
      clear h2'
      go_enter Tryz.func72, Tryz.ntmps72
      go_wp2
      all_goals go_ret
      all_goals exact ⟨rfl, (bal _ _).alloc (by simp) _⟩
    · have h2' : (a == a') = false := by simpa using h2
      have h3 : ¬ a = a' := by simpa using h2
      rw [befB_f (by omega)]
      clear h2
      go_enter Tryz.func72, Tryz.ntmps72
      go_wp2
      all_goals go_ret
      all_goals exact ⟨rfl, (bal _ _).alloc (by simp) _⟩
end Go.Proofs.YtfpbcokfianjaaaGreat.Ad
