/- Contracts of the document's answers May, Neg, Add, Sub (package orielref01) in the same words as those of package dec. The arguments are int64. -/
import Derived.Test.YtfpbcokfianjaaaSums
namespace Go.Proofs.Ytfpbcokfianjaaa
open Go.RowKit Go.Shelf
set_option linter.unusedVariables false
theorem rmayAny (x : Int) (w : World) (hx : I64 x) : Calls Try.prog 21 #[.int .i64 x] w fun e w' => e = .returned (.bool (mayOk x)) ∧ w' = w := by
  obtain ⟨hx1, hx2⟩ := hx
  by_cases hB : x = -9223372036854775808
  · rw [mayOk_f hB]
    go_enter Try.func21, Try.ntmps21
    go_wp2
    go_ret
    exact ⟨rfl, rfl⟩
  · have hb3 : -9223372036854775807 ≤ x := by omega
    rw [mayOk_t hb3]
    go_enter Try.func21, Try.ntmps21
    go_wp2
    go_ret
    exact ⟨rfl, rfl⟩
end Go.Proofs.Ytfpbcokfianjaaa
