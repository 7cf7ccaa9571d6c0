/- Contracts of dec.May and dec.Add for every pair of int64, and of the document's May. No condition but that the arguments are int64. -/
import Derived.Test.YtaamphdihmghhaaGreatDoorRows
import Derived.Test.YtaamphdihmghhaaGreatDoorQShelfX
import Derived.WalkKit
import Derived.WalkSpells
import Derived.Outline
namespace Go.Proofs.YtaamphdihmghhaaGreatDoor.Dc
open Go.RowKit Go.Shelf
set_option linter.unusedVariables false

/-- An int64. -/
def I64 (x : Int) : Prop := -9223372036854775808 ≤ x ∧ x ≤ 9223372036854775807
/-- The sum may be. -/
def addOk (a b : Int) : Bool := decide (a ≠ -9223372036854775808 ∧ b ≠ -9223372036854775808 ∧ -9223372036854775807 ≤ a + b ∧ a + b ≤ 9223372036854775807)
/-- A number where it may be, else 0. -/
def okV (ok : Bool) (x : Int) : Int := if ok then x else 0
/-- CodeNone where it may be, else CodeNum. -/
def okC (ok : Bool) : Int := if ok then 0 else 2

theorem wrapU (n : Int) : IntKind.u64.wrap n = n % 18446744073709551616 := by simp [IntKind.wrap, IntKind.bits, IntKind.signed]
theorem wrapU_neg (n : Int) (h : n < 0) (h' : -18446744073709551616 ≤ n) : IntKind.u64.wrap n = n + 18446744073709551616 := by rw [wrapU]; omega
theorem wrapI_big (n : Int) (h : 9223372036854775807 < n) (h' : n < 27670116110564327424) : IntKind.i64.wrap n = n - 18446744073709551616 := by rw [IntKind.wrap_i64]; omega
theorem wrapI_low (n : Int) (h : n < -9223372036854775808) (h' : -27670116110564327424 ≤ n) : IntKind.i64.wrap n = n + 18446744073709551616 := by rw [IntKind.wrap_i64]; omega
theorem ret2 {k k' : IntKind} {a b c d : Int} (h : a = b) (h' : c = d) : Ending.returned (.tuple #[.int k a, .int k' c]) = .returned (.tuple #[.int k b, .int k' d]) := by rw [h, h']
theorem ret1 {k : IntKind} {a b : Int} (h : a = b) : Ending.returned (.int k a) = .returned (.int k b) := by rw [h]
theorem okV_t {o : Bool} {x : Int} (h : o = true) : okV o x = x := by simp [okV, h]
theorem okV_f {o : Bool} {x : Int} (h : o = false) : okV o x = 0 := by simp [okV, h]
theorem okC_t {o : Bool} (h : o = true) : okC o = 0 := by simp [okC, h]
theorem okC_f {o : Bool} (h : o = false) : okC o = 2 := by simp [okC, h]
theorem addOk_t {a b : Int} (h : -9223372036854775808 < a) (h' : -9223372036854775808 < b) (h1 : -9223372036854775807 ≤ a + b) (h2 : a + b ≤ 9223372036854775807) : addOk a b = true := by
  simp [addOk]; omega
theorem addOk_f {a b : Int} (h : a = -9223372036854775808 ∨ b = -9223372036854775808 ∨ a + b < -9223372036854775807 ∨ 9223372036854775807 < a + b) : addOk a b = false := by
  simp [addOk]; omega
theorem wrap64_neg (b : Int) (h : -9223372036854775807 ≤ b) (h' : b ≤ 9223372036854775807) : wrap64 (-b) = -b := by unfold wrap64; omega
/-- The difference may be. -/
def subOk (a b : Int) : Bool := decide (a ≠ -9223372036854775808 ∧ b ≠ -9223372036854775808 ∧ -9223372036854775807 ≤ a - b ∧ a - b ≤ 9223372036854775807)
theorem subOk_t {a b : Int} (h : -9223372036854775808 < a) (h' : -9223372036854775808 < b) (h1 : -9223372036854775807 ≤ a - b) (h2 : a - b ≤ 9223372036854775807) : subOk a b = true := by
  simp [subOk]; omega
theorem subOk_f {a b : Int} (h : a = -9223372036854775808 ∨ b = -9223372036854775808 ∨ a - b < -9223372036854775807 ∨ 9223372036854775807 < a - b) : subOk a b = false := by
  simp [subOk]; omega
theorem subOk_add {a b : Int} (ha : -9223372036854775808 ≤ a) (hb : -9223372036854775807 ≤ b) (hb2 : b ≤ 9223372036854775807) : addOk a (-b) = subOk a b := by
  by_cases h : a = -9223372036854775808 ∨ b = -9223372036854775808 ∨ a - b < -9223372036854775807 ∨ 9223372036854775807 < a - b
  · rw [subOk_f h, addOk_f (by omega)]
  · rw [subOk_t (by omega) (by omega) (by omega) (by omega), addOk_t (by omega) (by omega) (by omega) (by omega)]
/-- A number may be. -/
def mayOk (x : Int) : Bool := decide (x ≠ -9223372036854775808)
theorem mayOk_t {x : Int} (h : -9223372036854775807 ≤ x) : mayOk x = true := by simp [mayOk]; omega
theorem mayOk_f {x : Int} (h : x = -9223372036854775808) : mayOk x = false := by simp [mayOk, h]
end Go.Proofs.YtaamphdihmghhaaGreatDoor.Dc
