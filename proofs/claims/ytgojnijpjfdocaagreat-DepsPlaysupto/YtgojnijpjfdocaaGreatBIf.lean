/- The contract of slices.Insert of one thing into a row of its own. The conditions: the place is none beyond the end; the new one lies in another block; no more than 3518437208883 of them. -/
import Derived.Test.YtgojnijpjfdocaaGreatEC
namespace Go.Proofs.YtgojnijpjfdocaaGreat
open Go.RowKit
set_option linter.all false
theorem app_tyf (ty : TypeId) (v x : Value) (w : World) : (Builtin.append_ #[30, 30] ty #[v, x]).run Tryz.prog w = (Builtin.append_ #[30, 30] ty #[v, x]).run Tryz.prog w := by
  unfold Builtin.append_
  have u1 := Tryz.underlying30
  have u2 := Tryz.underlying30
  cases v <;> simp [Sem.run_bind, Sem.run_pure, underlying, u1, u2, Result.andThen_ok]
end Go.Proofs.YtgojnijpjfdocaaGreat
