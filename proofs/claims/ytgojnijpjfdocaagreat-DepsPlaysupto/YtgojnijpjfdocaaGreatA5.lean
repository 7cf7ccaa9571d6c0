/- The contracts of Before (of package addr and of the document's answer): of every two cells whether one stands ahead of the other. New memory alone is made. No condition. -/
import Derived.Test.YtgojnijpjfdocaaGreatA1
namespace Go.Proofs.YtgojnijpjfdocaaGreat
open Go.RowKit
set_option linter.all false
/-- One cell stands ahead of another. -/
def befB (a b a' b' : Int) : Bool := decide (a < a' ∨ (a = a' ∧ b < b'))
theorem befB_t {a b a' b' : Int} (h : a < a' ∨ (a = a' ∧ b < b')) : befB a b a' b' = true := by simpa [befB] using h
theorem befB_f {a b a' b' : Int} (h : ¬ (a < a' ∨ (a = a' ∧ b < b'))) : befB a b a' b' = false := by simpa [befB] using h
theorem befB_is (a b a' b' : Int) : (befB a b a' b' = true) = (a < a' ∨ (a = a' ∧ b < b')) := by simp [befB]
theorem rbef_any (a b a' b' : Int) (w : World) : Calls Tryz.prog 22 #[.agg #[.int .i64 a, .int .i64 b], .agg #[.int .i64 a', .int .i64 b']] w fun e w' => e = .returned (.bool (befB a b a' b')) ∧ Below w.heap.size w w' := by
  by_cases h1 : a < a'
  · rw [befB_t (.inl h1)]
    go_enter Tryz.func22, Tryz.ntmps22
    go_wp2
    go_ret
    exact ⟨rfl, (bal _ _).alloc (by simp) _⟩
  · have h1' : decide (a < a') = false := by simpa using h1
    by_cases h2 : (a == a') = true
    · have h2' : a = a' := by simpa using h2
      have e : befB a b a' b' = decide (b < b') := by rw [Bool.eq_iff_iff, befB_is, decide_eq_true_eq]; omega
      rw [e]
      clear h2'
      go_enter Tryz.func22, Tryz.ntmps22
      go_wp2
      all_goals go_ret
      all_goals exact ⟨rfl, (bal _ _).alloc (by simp) _⟩
    · have h2' : (a == a') = false := by simpa using h2
      have h3 : ¬ a = a' := by simpa using h2
      rw [befB_f (by omega)]
      clear h2
      go_enter Tryz.func22, Tryz.ntmps22
      go_wp2
      all_goals go_ret
      all_goals exact ⟨rfl, (bal _ _).alloc (by simp) _⟩
end Go.Proofs.YtgojnijpjfdocaaGreat
