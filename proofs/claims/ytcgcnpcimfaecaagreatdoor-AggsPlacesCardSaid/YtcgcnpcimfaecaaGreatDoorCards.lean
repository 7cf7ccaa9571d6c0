/-
  DERIVED. GIVEN WITH THE SEED: THE CARDS: each row of YtcgcnpcimfaecaaGreatDoorRows.lean that lists a variable, with what it lists TIED to the program's text (the seventh form; the later family's looks); each row that meets fmt, with fmt's text TOLD by the authors' own Lean function (tested against real Go, not proved from fmt's source: count such statements apart). THE CARD IS WHAT COUNTS. Prove the row's statement (the work); the ties are given (YtcgcnpcimfaecaaGreatDoorTie.lean); close each card by the builder's one call (the guide's Derived/Test/ToyasCard.lean, 'card_holds'). Laid BY PROGRAM, IN A SANDBOX (cutbox-door.mjs). By AI agents, Wed Nov 11 2026. No macro, syntax, notation, axiom, sorry.
-/
import Derived.Test.YtcgcnpcimfaecaaGreatDoorRows
import GoSem.ClaimSeven
namespace Go.Proofs.YtcgcnpcimfaecaaGreatDoor
namespace Rows

/-- THE TIED CARD OF 'oriellaw10.AggsCalls'. -/
def aggsCallsCard : Claim7 := { stood := { row := aggsCallsRow, standIns := [], harness := (true, "bec18af6328db35062e249324020414c783aeffbb81fb5c0e90bade1404d5cb8"), looks := false }, kinds := [], alts := [], laidByText := true, laidKinds := [.data, .data, .data, .data, .pinned], laidTests := true, laidLooks := .later }
def AggsCallsCardSaid : Prop := Claim7.holds Tryz.pinned (.plain (OpenSpec.ofChange aggsCallsSpec)) aggsCallsCard

/-- THE TIED CARD OF 'oriellaw10.AggsTakes'. -/
def aggsTakesCard : Claim7 := { stood := { row := aggsTakesRow, standIns := [], harness := (true, "bec18af6328db35062e249324020414c783aeffbb81fb5c0e90bade1404d5cb8"), looks := false }, kinds := [], alts := [], laidByText := true, laidKinds := [.data, .data, .data, .data, .pinned], laidTests := true, laidLooks := .later }
def AggsTakesCardSaid : Prop := Claim7.holds Tryz.pinned (.plain (OpenSpec.ofChange aggsTakesSpec)) aggsTakesCard

/-- THE TIED CARD OF 'oriellaw10.AggsOrder'. -/
def aggsOrderCard : Claim7 := { stood := { row := aggsOrderRow, standIns := [], harness := (true, "bec18af6328db35062e249324020414c783aeffbb81fb5c0e90bade1404d5cb8"), looks := false }, kinds := [], alts := [], laidByText := true, laidKinds := [.data, .data, .data, .data, .pinned], laidTests := true, laidLooks := .later }
def AggsOrderCardSaid : Prop := Claim7.holds Tryz.pinned (.plain (OpenSpec.ofChange aggsOrderSpec)) aggsOrderCard

/-- THE TIED CARD OF 'oriellaw10.AggsBetween'. -/
def aggsBetweenCard : Claim7 := { stood := { row := aggsBetweenRow, standIns := [], harness := (true, "bec18af6328db35062e249324020414c783aeffbb81fb5c0e90bade1404d5cb8"), looks := false }, kinds := [], alts := [], laidByText := true, laidKinds := [.data, .data, .data, .data, .pinned], laidTests := true, laidLooks := .later }
def AggsBetweenCardSaid : Prop := Claim7.holds Tryz.pinned (.plain (OpenSpec.ofChange aggsBetweenSpec)) aggsBetweenCard

/-- THE TIED CARD OF 'oriellaw10.AggsCounts'. -/
def aggsCountsCard : Claim7 := { stood := { row := aggsCountsRow, standIns := [], harness := (true, "bec18af6328db35062e249324020414c783aeffbb81fb5c0e90bade1404d5cb8"), looks := false }, kinds := [], alts := [], laidByText := true, laidKinds := [.data, .data, .data, .data, .pinned], laidTests := true, laidLooks := .later }
def AggsCountsCardSaid : Prop := Claim7.holds Tryz.pinned (.plain (OpenSpec.ofChange aggsCountsSpec)) aggsCountsCard

/-- THE TIED CARD OF 'oriellaw10.AggsPlaces'. -/
def aggsPlacesCard : Claim7 := { stood := { row := aggsPlacesRow, standIns := [], harness := (true, "bec18af6328db35062e249324020414c783aeffbb81fb5c0e90bade1404d5cb8"), looks := false }, kinds := [], alts := [], laidByText := true, laidKinds := [.data, .data, .data, .data, .pinned], laidTests := true, laidLooks := .later }
def AggsPlacesCardSaid : Prop := Claim7.holds Tryz.pinned (.plain (OpenSpec.ofChange aggsPlacesSpec)) aggsPlacesCard

/-- THE SECOND FORM's CARD OF 'oriellaw10.AggsCalls'. -/
def aggsCallsUptoCard : Claim7 := { stood := { row := aggsCallsUptoRow, standIns := [], harness := (true, "bec18af6328db35062e249324020414c783aeffbb81fb5c0e90bade1404d5cb8"), looks := false }, kinds := [], alts := [], laidByText := true, laidKinds := [.data, .data, .data, .data, .pinned], laidTests := true, laidLooks := .later }
def AggsCallsUptoCardSaid : Prop := Claim7.holds Tryz.pinned (.plain (OpenSpec.upto aggsCallsSpec)) aggsCallsUptoCard

/-- THE SECOND FORM's CARD OF 'oriellaw10.AggsTakes'. -/
def aggsTakesUptoCard : Claim7 := { stood := { row := aggsTakesUptoRow, standIns := [], harness := (true, "bec18af6328db35062e249324020414c783aeffbb81fb5c0e90bade1404d5cb8"), looks := false }, kinds := [], alts := [], laidByText := true, laidKinds := [.data, .data, .data, .data, .pinned], laidTests := true, laidLooks := .later }
def AggsTakesUptoCardSaid : Prop := Claim7.holds Tryz.pinned (.plain (OpenSpec.upto aggsTakesSpec)) aggsTakesUptoCard

/-- THE SECOND FORM's CARD OF 'oriellaw10.AggsOrder'. -/
def aggsOrderUptoCard : Claim7 := { stood := { row := aggsOrderUptoRow, standIns := [], harness := (true, "bec18af6328db35062e249324020414c783aeffbb81fb5c0e90bade1404d5cb8"), looks := false }, kinds := [], alts := [], laidByText := true, laidKinds := [.data, .data, .data, .data, .pinned], laidTests := true, laidLooks := .later }
def AggsOrderUptoCardSaid : Prop := Claim7.holds Tryz.pinned (.plain (OpenSpec.upto aggsOrderSpec)) aggsOrderUptoCard

/-- THE SECOND FORM's CARD OF 'oriellaw10.AggsBetween'. -/
def aggsBetweenUptoCard : Claim7 := { stood := { row := aggsBetweenUptoRow, standIns := [], harness := (true, "bec18af6328db35062e249324020414c783aeffbb81fb5c0e90bade1404d5cb8"), looks := false }, kinds := [], alts := [], laidByText := true, laidKinds := [.data, .data, .data, .data, .pinned], laidTests := true, laidLooks := .later }
def AggsBetweenUptoCardSaid : Prop := Claim7.holds Tryz.pinned (.plain (OpenSpec.upto aggsBetweenSpec)) aggsBetweenUptoCard

/-- THE SECOND FORM's CARD OF 'oriellaw10.AggsCounts'. -/
def aggsCountsUptoCard : Claim7 := { stood := { row := aggsCountsUptoRow, standIns := [], harness := (true, "bec18af6328db35062e249324020414c783aeffbb81fb5c0e90bade1404d5cb8"), looks := false }, kinds := [], alts := [], laidByText := true, laidKinds := [.data, .data, .data, .data, .pinned], laidTests := true, laidLooks := .later }
def AggsCountsUptoCardSaid : Prop := Claim7.holds Tryz.pinned (.plain (OpenSpec.upto aggsCountsSpec)) aggsCountsUptoCard

/-- THE SECOND FORM's CARD OF 'oriellaw10.AggsPlaces'. -/
def aggsPlacesUptoCard : Claim7 := { stood := { row := aggsPlacesUptoRow, standIns := [], harness := (true, "bec18af6328db35062e249324020414c783aeffbb81fb5c0e90bade1404d5cb8"), looks := false }, kinds := [], alts := [], laidByText := true, laidKinds := [.data, .data, .data, .data, .pinned], laidTests := true, laidLooks := .later }
def AggsPlacesUptoCardSaid : Prop := Claim7.holds Tryz.pinned (.plain (OpenSpec.upto aggsPlacesSpec)) aggsPlacesUptoCard
end Rows
end Go.Proofs.YtcgcnpcimfaecaaGreatDoor
