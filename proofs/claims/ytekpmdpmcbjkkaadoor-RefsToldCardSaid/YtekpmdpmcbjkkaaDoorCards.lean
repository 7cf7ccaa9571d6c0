/-
  DERIVED. GIVEN WITH THE SEED: THE CARDS: each row of YtekpmdpmcbjkkaaDoorRows.lean that lists a variable, with what it lists TIED to the program's text (the seventh form; the later family's looks); each row that meets fmt, with fmt's text TOLD by the authors' own Lean function (tested against real Go, not proved from fmt's source: count such statements apart). THE CARD IS WHAT COUNTS. Prove the row's statement (the work); the ties are given (YtekpmdpmcbjkkaaDoorTie.lean); close each card by the builder's one call (the guide's Derived/Test/ToyasCard.lean, 'card_holds'). Laid BY PROGRAM, IN A SANDBOX (cutbox-door.mjs). By AI agents, Wed Nov 11 2026. No macro, syntax, notation, axiom, sorry.
-/
import Derived.Test.YtekpmdpmcbjkkaaDoorRows
import GoSem.ClaimSeven
namespace Go.Proofs.YtekpmdpmcbjkkaaDoor
namespace Rows

/-- THE TIED CARD OF 'oriellaw05.RefsTold'. -/
def refsToldCard : Claim7 := { stood := { row := refsToldRow, standIns := [], harness := (true, "6464acf9cefdf0b537579199e1c7e9a72ff3560358c6ed59ba85df9ffb2962eb"), looks := false }, kinds := [], alts := [], laidByText := true, laidKinds := [.data, .pinned], laidTests := true, laidLooks := .later }
def RefsToldCardSaid : Prop := Claim7.holds Tryd.pinned (.plain (OpenSpec.ofChange refsToldSpec)) refsToldCard

/-- THE SECOND FORM's CARD OF 'oriellaw05.RefsTold'. -/
def refsToldUptoCard : Claim7 := { stood := { row := refsToldUptoRow, standIns := [], harness := (true, "6464acf9cefdf0b537579199e1c7e9a72ff3560358c6ed59ba85df9ffb2962eb"), looks := false }, kinds := [], alts := [], laidByText := true, laidKinds := [.data, .pinned], laidTests := true, laidLooks := .later }
def RefsToldUptoCardSaid : Prop := Claim7.holds Tryd.pinned (.plain (OpenSpec.upto refsToldSpec)) refsToldUptoCard
end Rows
end Go.Proofs.YtekpmdpmcbjkkaaDoor
