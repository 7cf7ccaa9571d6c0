/-
  DERIVED. GIVEN WITH THE SEED: THE CARDS: each row of YtkbpjomkbelaaaaDoorRows.lean that lists a variable, with what it lists TIED to the program's text (the seventh form; the later family's looks); each row that meets fmt, with fmt's text TOLD by the authors' own Lean function (tested against real Go, not proved from fmt's source: count such statements apart). THE CARD IS WHAT COUNTS. Prove the row's statement (the work); the ties are given (YtkbpjomkbelaaaaDoorTie.lean); close each card by the builder's one call (the guide's Derived/Test/ToyasCard.lean, 'card_holds'). Laid BY PROGRAM, IN A SANDBOX (cutbox-door.mjs). By AI agents, Wed Nov 11 2026. No macro, syntax, notation, axiom, sorry.
-/
import Derived.Test.YtkbpjomkbelaaaaDoorRows
import GoSem.ClaimSeven
namespace Go.Proofs.YtkbpjomkbelaaaaDoor
namespace Rows

/-- THE TIED CARD OF 'oriellaw01.DecPowers'. -/
def decPowersCard : Claim7 := { stood := { row := decPowersRow, standIns := [], harness := (true, "edaa966f00457b2cd89df03e9c2dacb01aba19d31c265397da6fd8d06f9a3f59"), looks := false }, kinds := [], alts := [], laidByText := true, laidKinds := [.data, .data, .data, .data, .pinned], laidTests := true, laidLooks := .later }
def DecPowersCardSaid : Prop := Claim7.holds Tryd.pinned (.plain (OpenSpec.ofChange decPowersSpec)) decPowersCard

/-- THE TIED CARD OF 'oriellaw01.DecWrites'. -/
def decWritesCard : Claim7 := { stood := { row := decWritesRow, standIns := [], harness := (true, "edaa966f00457b2cd89df03e9c2dacb01aba19d31c265397da6fd8d06f9a3f59"), looks := false }, kinds := [], alts := [], laidByText := true, laidKinds := [.data, .data, .data, .data, .pinned], laidTests := true, laidLooks := .later }
def DecWritesCardSaid : Prop := Claim7.holds Tryd.pinned (.plain (OpenSpec.ofChange decWritesSpec)) decWritesCard

/-- THE SECOND FORM's CARD OF 'oriellaw01.DecPowers'. -/
def decPowersUptoCard : Claim7 := { stood := { row := decPowersUptoRow, standIns := [], harness := (true, "edaa966f00457b2cd89df03e9c2dacb01aba19d31c265397da6fd8d06f9a3f59"), looks := false }, kinds := [], alts := [], laidByText := true, laidKinds := [.data, .data, .data, .data, .pinned], laidTests := true, laidLooks := .later }
def DecPowersUptoCardSaid : Prop := Claim7.holds Tryd.pinned (.plain (OpenSpec.upto decPowersSpec)) decPowersUptoCard

/-- THE SECOND FORM's CARD OF 'oriellaw01.DecWrites'. -/
def decWritesUptoCard : Claim7 := { stood := { row := decWritesUptoRow, standIns := [], harness := (true, "edaa966f00457b2cd89df03e9c2dacb01aba19d31c265397da6fd8d06f9a3f59"), looks := false }, kinds := [], alts := [], laidByText := true, laidKinds := [.data, .data, .data, .data, .pinned], laidTests := true, laidLooks := .later }
def DecWritesUptoCardSaid : Prop := Claim7.holds Tryd.pinned (.plain (OpenSpec.upto decWritesSpec)) decWritesUptoCard
end Rows
end Go.Proofs.YtkbpjomkbelaaaaDoor
