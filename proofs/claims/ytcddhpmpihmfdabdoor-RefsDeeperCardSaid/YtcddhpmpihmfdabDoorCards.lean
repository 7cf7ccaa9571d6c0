/-
  DERIVED. GIVEN WITH THE SEED: THE CARDS: each row of YtcddhpmpihmfdabDoorRows.lean that lists a variable, with what it lists TIED to the program's text (the seventh form; the later family's looks); each row that meets fmt, with fmt's text TOLD by the authors' own Lean function (tested against real Go, not proved from fmt's source: count such statements apart). THE CARD IS WHAT COUNTS. Prove the row's statement (the work); the ties are given (YtcddhpmpihmfdabDoorTie.lean); close each card by the builder's one call (the guide's Derived/Test/ToyasCard.lean, 'card_holds'). Laid BY PROGRAM, IN A SANDBOX (cutbox-door.mjs). By AI agents, Wed Nov 11 2026. No macro, syntax, notation, axiom, sorry.
-/
import Derived.Test.YtcddhpmpihmfdabDoorRows
import GoSem.ClaimSeven
namespace Go.Proofs.YtcddhpmpihmfdabDoor
namespace Rows

/-- THE TIED CARD OF 'oriellaw05.RefsDeeper'. -/
def refsDeeperCard : Claim7 := { stood := { row := refsDeeperRow, standIns := [], harness := (true, "f0907900b0491353042ffc965174c3fdb464669b12ceb186d6c3707f18d8725a"), looks := false }, kinds := [], alts := [], laidByText := true, laidKinds := [.data, .pinned], laidTests := true, laidLooks := .later }
def RefsDeeperCardSaid : Prop := Claim7.holds Tryd.pinned (.plain (OpenSpec.ofChange refsDeeperSpec)) refsDeeperCard

/-- THE SECOND FORM's CARD OF 'oriellaw05.RefsDeeper'. -/
def refsDeeperUptoCard : Claim7 := { stood := { row := refsDeeperUptoRow, standIns := [], harness := (true, "f0907900b0491353042ffc965174c3fdb464669b12ceb186d6c3707f18d8725a"), looks := false }, kinds := [], alts := [], laidByText := true, laidKinds := [.data, .pinned], laidTests := true, laidLooks := .later }
def RefsDeeperUptoCardSaid : Prop := Claim7.holds Tryd.pinned (.plain (OpenSpec.upto refsDeeperSpec)) refsDeeperUptoCard
end Rows
end Go.Proofs.YtcddhpmpihmfdabDoor
