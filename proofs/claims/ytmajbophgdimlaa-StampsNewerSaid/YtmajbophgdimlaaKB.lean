/- Words of stamps: a cell. -/
import Derived.Test.YtmajbophgdimlaaBM
namespace Go.Proofs.Ytmajbophgdimlaa
open Go.RowKit
set_option linter.all false
structure Cl where
  r : Int
  c : Int
def Cl.cs (x : Cl) : List Value := [.int .i64 x.r, .int .i64 x.c]
theorem Cl.len (x : Cl) : x.cs.length = 2 := rfl
theorem Cl.one (x : Cl) : ∀ u ∈ x.cs, u.oneCell' = true := by
  intro u hu
  simp [Cl.cs] at hu
  rcases hu with rfl | rfl <;> rfl
end Go.Proofs.Ytmajbophgdimlaa
