/- The contracts of isLetter, isDigit and Parse of package addr: of every text the cell whose name it is, and whether it is one. New memory alone is made. The condition: the text is no longer than a text may be. -/
import Derived.Test.YtaamphdihmghhaaGreatDoorQA1
import Derived.Test.YtaamphdihmghhaaGreatDoorQAM
import Derived.Laws.RangeAny
import Derived.Laws.Cover1
namespace Go.Proofs.YtaamphdihmghhaaGreatDoor
open Go.RowKit
set_option linter.all false
/-- What is read out of a text: whether it is a name, the row, the column. -/
def pO (s : ByteArray) : Option (Nat × Nat) := pst s.data.toList 0 0
def pB (s : ByteArray) : Bool := (pO s).isSome
def pR (s : ByteArray) : Int := match pO s with | some (r, _) => r | none => 0
def pC (s : ByteArray) : Int := match pO s with | some (_, c) => c | none => 0
def ltB (n : Int) : Bool := decide (65 ≤ n ∧ n ≤ 90)
def dgB (n : Int) (b : Bool) : Bool := decide (48 ≤ n ∧ n ≤ 57 ∧ ¬ (b = true ∧ n = 48))
theorem ltB_t {n : Int} (h : 65 ≤ n ∧ n ≤ 90) : ltB n = true := by simpa [ltB] using h
theorem ltB_f {n : Int} (h : ¬ (65 ≤ n ∧ n ≤ 90)) : ltB n = false := by simpa [ltB] using h
def dg2 (n : Int) : Bool := decide (48 ≤ n ∧ n ≤ 57)
theorem dg2_t {n : Int} (h : 48 ≤ n ∧ n ≤ 57) : dg2 n = true := by simpa [dg2] using h
theorem dg2_f {n : Int} (h : ¬ (48 ≤ n ∧ n ≤ 57)) : dg2 n = false := by simpa [dg2] using h
theorem dgB_ne {n : Int} (b : Bool) (h : ¬ n = 48) : dgB n b = dg2 n := by
  unfold dgB dg2
  rw [Bool.eq_iff_iff]
  simp only [decide_eq_true_eq]
  constructor
  · rintro ⟨a, b, _⟩; exact ⟨a, b⟩
  · rintro ⟨a, b⟩; exact ⟨a, b, fun k => h k.2⟩
theorem dgB_t {n : Int} {b : Bool} (h : 48 ≤ n ∧ n ≤ 57 ∧ ¬ (b = true ∧ n = 48)) : dgB n b = true := by simp only [dgB, decide_eq_true_eq]; exact h
theorem dgB_f {n : Int} {b : Bool} (h : ¬ (48 ≤ n ∧ n ≤ 57 ∧ ¬ (b = true ∧ n = 48))) : dgB n b = false := by simp only [dgB, decide_eq_false_iff_not]; exact h
theorem letter_any (n : Int) (w : World) : Calls Tryz.prog 91 #[.int .i32 n] w fun e w' => e = .returned (.bool (ltB n)) ∧ w' = w := by
  go_enter Tryz.func91, Tryz.ntmps91
  go_wp2
  all_goals go_ret
  all_goals refine ⟨retB ?_, rfl⟩
  all_goals first | (rw [ltB_t (by omega)]; done) | (rw [ltB_f (by omega)]; done) | (rw [Bool.eq_iff_iff]; simp only [ltB, decide_eq_true_eq]; omega)
theorem digit_any (n : Int) (b : Bool) (w : World) : Calls Tryz.prog 92 #[.int .i32 n, .bool b] w fun e w' => e = .returned (.bool (dgB n b)) ∧ w' = w := by
  by_cases h : (n == 48) = true
  · have h' : n = 48 := by simpa using h
    subst h'
    clear h
    cases b
    all_goals
      go_enter Tryz.func92, Tryz.ntmps92
      go_wp2
      all_goals go_ret
      all_goals exact ⟨retB (by decide), rfl⟩
  · have h' : ¬ n = 48 := by simpa using h
    have h2 : (n == 48) = false := by simpa using h
    clear h
    rw [dgB_ne b h']
    cases b
    all_goals
      go_enter Tryz.func92, Tryz.ntmps92
      go_wp2
      all_goals go_ret
      all_goals refine ⟨retB ?_, rfl⟩
      all_goals first | (rw [dg2_t (by omega)]; done) | (rw [dg2_f (by omega)]; done) | (rw [Bool.eq_iff_iff]; simp only [dg2, decide_eq_true_eq]; omega)
end Go.Proofs.YtaamphdihmghhaaGreatDoor
