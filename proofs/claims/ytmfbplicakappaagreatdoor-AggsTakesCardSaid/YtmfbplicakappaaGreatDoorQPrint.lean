/- The contract of dec.Print: for every int64 it returns the text of the number (nothing for the least one); new memory alone is made. The condition: the library's table of powers of ten lies as its initialiser lays it. -/
import Derived.Ground.NamesProg
import Derived.Shelf.Strings.Trim
import Derived.Shelf.Strconv.Itoa1
import Derived.Shelf.Strconv.Itoa2
import Derived.Test.YtmfbplicakappaaGreatDoorProg
import Derived.Test.YtmfbplicakappaaGreatDoorRows
import Derived.Lib.Walk
import Derived.Lib.ItoaMem
import Derived.WalkKit
import Derived.BigCall
import Derived.BigGuard
import Derived.Test.YtmfbplicakappaaGreatDoorQSums
import Derived.Lib.AppendIntMem
import Derived.Lib.SmallJoins
import Derived.WalkSpells
import Derived.Outline
namespace Go.Proofs.YtmfbplicakappaaGreatDoor
open Go.Shelf Go.RowKit Go.Sort Go.Lib Go.Joins
set_option linter.unusedVariables false
theorem gPow : Tryz.prog.globalNamed "internal/strconv.uint64pow10" = some 2 := by kernel_rfl
/-- The library's table of powers of ten lies as it is laid. -/
abbrev Pow (w : World) : Prop := Lib.TabIs Tryz.prog w "internal/strconv.uint64pow10" .u64 Lib.pow10Tab
theorem Pow.stays {w w' : World} (h : Pow w) (hb : Below w.heap.size w w') : Pow w' := tab_stays gPow h hb (Nat.le_refl _)

end Go.Proofs.YtmfbplicakappaaGreatDoor
