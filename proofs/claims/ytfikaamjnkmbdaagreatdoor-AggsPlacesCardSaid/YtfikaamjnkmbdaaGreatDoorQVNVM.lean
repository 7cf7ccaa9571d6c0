/- The names of the codes: what the row's list of tables gives to the walks; the contracts of Name (of package value and of the document's answer): of every code the same name. The condition: the program's own table of names lies as its initialiser lays it. · The contracts of Name and Named (of package value and of the document's answer): of every code the same name, of every text the same code and truth; new memory alone is made. The condition: the program's own table of names lies as its initialiser lays it. -/
import Derived.Test.YtfikaamjnkmbdaaGreatDoorQSumsV1
import Derived.Lib.LaidTab
import Derived.Lib.SmallJoins
import Derived.WalkSmall
import Derived.Lib.Walk
import Derived.Lib.ItoaMem
namespace Go.Proofs.YtfikaamjnkmbdaaGreatDoor
open Go.RowKit
set_option linter.all false
/-- A code's name. -/
def nameB (c : Int) : ByteArray := if c = 1 then ⟨#[35, 67, 89, 67, 76, 69, 33]⟩ else if c = 2 then ⟨#[35, 78, 85, 77, 33]⟩ else if c = 3 then ⟨#[35, 68, 73, 86, 33]⟩ else if c = 4 then ⟨#[35, 84, 89, 80, 69, 33]⟩ else if c = 5 then ⟨#[35, 82, 65, 78, 71, 69, 33]⟩ else if c = 6 then ⟨#[35, 77, 73, 83, 83, 33]⟩ else if c = 7 then ⟨#[35, 76, 79, 78, 71, 33]⟩ else if c = 8 then ⟨#[35, 65, 82, 71, 33]⟩ else ⟨#[]⟩
end Go.Proofs.YtfikaamjnkmbdaaGreatDoor
namespace Go.Proofs.YtfikaamjnkmbdaaGreatDoor
open Go.RowKit
set_option linter.all false
/-- The document's list of names. -/
def rn : Array Value := #[.string (nameB 1), .string (nameB 2), .string (nameB 3), .string (nameB 4), .string (nameB 5), .string (nameB 6), .string (nameB 7), .string (nameB 8)]
end Go.Proofs.YtfikaamjnkmbdaaGreatDoor
