/- The contract of orielref01.Mod, of any two int64: what is left of a when it is divided by b, with b's sign. Nothing is written. -/
import Derived.Test.YtfpbcokfianjaaaMod
import Derived.Test.YtfpbcokfianjaaaRSums
namespace Go.Proofs.Ytfpbcokfianjaaa
open Go.Shelf Go.RowKit
set_option linter.unusedVariables false
theorem rmay_t (x : Int) (w : World) (h : -9223372036854775807 ≤ x) : Calls Try.prog 21 #[.int .i64 x] w fun e w' => e = .returned (.bool true) ∧ w' = w := by
  go_enter Try.func21, Try.ntmps21
  go_wp2
  go_ret
  exact ⟨rfl, rfl⟩
theorem rmay_f (x : Int) (w : World) (h : x = -9223372036854775808) : Calls Try.prog 21 #[.int .i64 x] w fun e w' => e = .returned (.bool false) ∧ w' = w := by
  subst h
  go_enter Try.func21, Try.ntmps21
  go_wp2
  go_ret
  exact ⟨rfl, rfl⟩
end Go.Proofs.Ytfpbcokfianjaaa
