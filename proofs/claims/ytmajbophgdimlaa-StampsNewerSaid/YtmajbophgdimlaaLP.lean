/- StampsNewer's walk: every row of steps, every number. -/
import Derived.Test.YtmajbophgdimlaaLN
namespace Go.Proofs.Ytmajbophgdimlaa
open Go.RowKit
set_option linter.all false
theorem newer_walk (w : World) (v : Value) (l : List Op5) (most : Int) (hv : CV Op5.cells 5 w v l) (hok : ∀ x ∈ l, x.ok) (hz : l.length * 40 ≤ 140737488355327) (hm : I64 most) : Calls Try.prog 3 #[v, .int .i64 most] w fun e w' => e = .returned (.bool true) ∧ Below w.heap.size w w' := by
  obtain ⟨q, cap, rfl, hcap, _, h0⟩ := hv
  by_cases h : 2 ≤ most ∧ most ≤ 1099511627776
  · exact newer_good w q l l.length cap most rfl h0 hcap hok (by omega) h.1 h.2
  · exact newer_bad w q l.length cap most (by omega)
end Go.Proofs.Ytmajbophgdimlaa
