/- The contract of strings.Cut at a point, for every text: what stands ahead of the first point, what behind it, whether there is one. Nothing is written (an order is drawn). The library's contract of strings.HasPrefix, laid at this program: the table of numbers and that the program bears this very body. No condition. -/
import Derived.Test.YtcgcnpcimfaecaaGreatDoorQDigits
import Derived.Lib.IndexLaws
import Derived.Ground.NamesProg
import Derived.Shelf.Strings.Prefix
import Derived.Shelf.Small.Strs
import Derived.Test.YtcgcnpcimfaecaaGreatDoorProg
namespace Go.Proofs.YtcgcnpcimfaecaaGreatDoor
open Go.Shelf Go.RowKit
set_option linter.unusedVariables false

/-- Where the first point stands; -1: nowhere. -/
def ptAt (d : ByteArray) : Int := Lib.indexByte d.data.toList 46
def cutF (d : ByteArray) : Bool := decide (0 ≤ ptAt d)
def cutA (d : ByteArray) : ByteArray := if 0 ≤ ptAt d then d.extract 0 (ptAt d).toNat else d
def cutB (d : ByteArray) : ByteArray := if 0 ≤ ptAt d then d.extract ((ptAt d).toNat + 1) d.size else ⟨#[]⟩
theorem ptAt_lt (d : ByteArray) (h : 0 ≤ ptAt d) : (ptAt d).toNat < d.size := by
  have e : Lib.indexByte d.data.toList 46 = ((ptAt d).toNat : Nat) := by show ptAt d = _; omega
  have h1 := (Lib.indexByte_some e).1
  have h2 := List.getElem?_eq_some_iff.1 h1
  obtain ⟨h3, _⟩ := h2
  simpa using h3
theorem ptAt_ge (d : ByteArray) : -1 ≤ ptAt d := Lib.indexByte_ge _ _
end Go.Proofs.YtcgcnpcimfaecaaGreatDoor
namespace Go.Proofs
open Go.Shelf
end Go.Proofs
