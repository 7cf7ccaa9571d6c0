/- The contract of aggs.cellsWith: how many cells of a rectangle have just a value. New memory alone is made. -/
import Derived.Test.YtfikaamjnkmbdaaGreatDoorQGC5GR1
import Derived.Test.YtfikaamjnkmbdaaGreatDoorQAdA5GE
import Derived.Test.YtfikaamjnkmbdaaGreatDoorQV3V4
namespace Go.Proofs.YtfikaamjnkmbdaaGreatDoor
open Go.RowKit
set_option linter.all false
def smE (t k : Int) (s : ByteArray) (q : Bool) (d : Int) (x : En) : Bool := sameB x.t x.n x.s x.b x.c t k s q d
end Go.Proofs.YtfikaamjnkmbdaaGreatDoor
