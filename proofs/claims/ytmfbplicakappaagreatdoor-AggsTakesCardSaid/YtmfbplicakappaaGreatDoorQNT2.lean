/- The contracts of package given: how many arguments a function takes, which of them may be, and of slices.Index and slices.Contains at truths. New memory alone is made. The condition: lists of at most 2^47 things. -/
import Derived.Test.YtmfbplicakappaaGreatDoorQNT1
import Derived.Test.YtmfbplicakappaaGreatDoorQV2
namespace Go.Proofs.YtmfbplicakappaaGreatDoor
open Go.RowKit
set_option linter.all false
/-- A slice of truths. -/
def bcell1 (b : Bool) : Array Value := #[.bool b]
abbrev BV (w : World) (v : Value) (l : List Bool) : Prop := View bcell1 1 w v l
end Go.Proofs.YtmfbplicakappaaGreatDoor
