/-
  DERIVED. GIVEN WITH THE SEED: THE CARDS: each row of YtbpbocgbfeblmaaGreatDoorRows.lean that lists a variable, with what it lists TIED to the program's text (the seventh form; the later family's looks); each row that meets fmt, with fmt's text TOLD by the authors' own Lean function (tested against real Go, not proved from fmt's source: count such statements apart). THE CARD IS WHAT COUNTS. Prove the row's statement (the work); the ties are given (YtbpbocgbfeblmaaGreatDoorTie.lean); close each card by the builder's one call (the guide's Derived/Test/ToyasCard.lean, 'card_holds'). Laid BY PROGRAM, IN A SANDBOX (cutbox-door.mjs). By AI agents, Wed Nov 11 2026. No macro, syntax, notation, axiom, sorry.
-/
import Derived.Test.YtbpbocgbfeblmaaGreatDoorRows
import GoSem.ClaimSeven
namespace Go.Proofs.YtbpbocgbfeblmaaGreatDoor
namespace Rows

/-- THE TIED CARD OF 'oriellaw10.AggsCalls'. -/
def aggsCallsCard : Claim7 := { stood := { row := aggsCallsRow, standIns := [], harness := (true, "9d41b7fea20df68a061815971374d8cb141d78485472d36d4df1ae1917a0e9e9"), looks := false }, kinds := [], alts := [], laidByText := true, laidKinds := [.data, .data, .data, .data, .pinned], laidTests := true, laidLooks := .later }
def AggsCallsCardSaid : Prop := Claim7.holds Tryz.pinned (.plain (OpenSpec.ofChange aggsCallsSpec)) aggsCallsCard

/-- THE TIED CARD OF 'oriellaw10.AggsOrder'. -/
def aggsOrderCard : Claim7 := { stood := { row := aggsOrderRow, standIns := [], harness := (true, "9d41b7fea20df68a061815971374d8cb141d78485472d36d4df1ae1917a0e9e9"), looks := false }, kinds := [], alts := [], laidByText := true, laidKinds := [.data, .data, .data, .data, .pinned], laidTests := true, laidLooks := .later }
def AggsOrderCardSaid : Prop := Claim7.holds Tryz.pinned (.plain (OpenSpec.ofChange aggsOrderSpec)) aggsOrderCard

/-- THE TIED CARD OF 'oriellaw10.AggsPlaces'. -/
def aggsPlacesCard : Claim7 := { stood := { row := aggsPlacesRow, standIns := [], harness := (true, "9d41b7fea20df68a061815971374d8cb141d78485472d36d4df1ae1917a0e9e9"), looks := false }, kinds := [], alts := [], laidByText := true, laidKinds := [.data, .data, .data, .data, .pinned], laidTests := true, laidLooks := .later }
def AggsPlacesCardSaid : Prop := Claim7.holds Tryz.pinned (.plain (OpenSpec.ofChange aggsPlacesSpec)) aggsPlacesCard

/-- THE SECOND FORM's CARD OF 'oriellaw10.AggsCalls'. -/
def aggsCallsUptoCard : Claim7 := { stood := { row := aggsCallsUptoRow, standIns := [], harness := (true, "9d41b7fea20df68a061815971374d8cb141d78485472d36d4df1ae1917a0e9e9"), looks := false }, kinds := [], alts := [], laidByText := true, laidKinds := [.data, .data, .data, .data, .pinned], laidTests := true, laidLooks := .later }
def AggsCallsUptoCardSaid : Prop := Claim7.holds Tryz.pinned (.plain (OpenSpec.upto aggsCallsSpec)) aggsCallsUptoCard

/-- THE SECOND FORM's CARD OF 'oriellaw10.AggsOrder'. -/
def aggsOrderUptoCard : Claim7 := { stood := { row := aggsOrderUptoRow, standIns := [], harness := (true, "9d41b7fea20df68a061815971374d8cb141d78485472d36d4df1ae1917a0e9e9"), looks := false }, kinds := [], alts := [], laidByText := true, laidKinds := [.data, .data, .data, .data, .pinned], laidTests := true, laidLooks := .later }
def AggsOrderUptoCardSaid : Prop := Claim7.holds Tryz.pinned (.plain (OpenSpec.upto aggsOrderSpec)) aggsOrderUptoCard

/-- THE SECOND FORM's CARD OF 'oriellaw10.AggsPlaces'. -/
def aggsPlacesUptoCard : Claim7 := { stood := { row := aggsPlacesUptoRow, standIns := [], harness := (true, "9d41b7fea20df68a061815971374d8cb141d78485472d36d4df1ae1917a0e9e9"), looks := false }, kinds := [], alts := [], laidByText := true, laidKinds := [.data, .data, .data, .data, .pinned], laidTests := true, laidLooks := .later }
def AggsPlacesUptoCardSaid : Prop := Claim7.holds Tryz.pinned (.plain (OpenSpec.upto aggsPlacesSpec)) aggsPlacesUptoCard
end Rows
end Go.Proofs.YtbpbocgbfeblmaaGreatDoor
