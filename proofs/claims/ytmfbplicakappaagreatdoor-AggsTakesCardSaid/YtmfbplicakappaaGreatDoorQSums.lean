/- Contracts of dec.May and of the document's May: of every int64 whether it may be. No condition but that the argument is an int64. -/
import Derived.Test.YtmfbplicakappaaGreatDoorRows
import Derived.WalkKit
import Derived.WalkSpells
import Derived.Outline
namespace Go.Proofs.YtmfbplicakappaaGreatDoor
open Go.RowKit
set_option linter.all false

/-- An int64. -/
def I64 (x : Int) : Prop := -9223372036854775808 ≤ x ∧ x ≤ 9223372036854775807
theorem may_t (x : Int) (w : World) (h : -9223372036854775807 ≤ x) : Calls Tryz.prog 141 #[.int .i64 x] w fun e w' => e = .returned (.bool true) ∧ w' = w := by
  have hx : (x != -9223372036854775808) = true := by simp; omega
  go_enter Tryz.func141, Tryz.ntmps141
  go_wp2
  go_ret
  exact ⟨rfl, rfl⟩
theorem may_f (x : Int) (w : World) (h : x = -9223372036854775808) : Calls Tryz.prog 141 #[.int .i64 x] w fun e w' => e = .returned (.bool false) ∧ w' = w := by
  subst h
  go_enter Tryz.func141, Tryz.ntmps141
  go_wp2
  go_ret
  exact ⟨rfl, rfl⟩
def mayOk (x : Int) : Bool := decide (x ≠ -9223372036854775808)
theorem mayOk_t {x : Int} (h : -9223372036854775807 ≤ x) : mayOk x = true := by simp [mayOk]; omega
theorem mayOk_f {x : Int} (h : x = -9223372036854775808) : mayOk x = false := by simp [mayOk, h]
theorem mayAny (x : Int) (w : World) (hx : I64 x) : Calls Tryz.prog 141 #[.int .i64 x] w fun e w' => e = .returned (.bool (mayOk x)) ∧ w' = w := by
  obtain ⟨hx1, hx2⟩ := hx
  by_cases hB : x = -9223372036854775808
  · rw [mayOk_f hB]; exact may_f x w hB
  · rw [mayOk_t (by omega)]; exact may_t x w (by omega)
end Go.Proofs.YtmfbplicakappaaGreatDoor
