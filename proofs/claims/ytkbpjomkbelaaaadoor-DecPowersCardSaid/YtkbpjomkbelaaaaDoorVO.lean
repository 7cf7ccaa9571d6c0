/- Small laws of worlds: new memory alone is made. -/
import Derived.Test.YtkbpjomkbelaaaaDoorSums
namespace Go.Proofs.YtkbpjomkbelaaaaDoor
open Go.RowKit
set_option linter.all false
theorem bal (w : World) (o : Obj) : Below w.heap.size w (w.alloc o) := (Below.refl _ _).alloc (Nat.le_refl _) _
theorem bup {w W w1 : World} (h : Below w.heap.size w W) (hb : Below W.heap.size W w1) : Below w.heap.size w w1 := h.trans (hb.mono h.size)
end Go.Proofs.YtkbpjomkbelaaaaDoor
