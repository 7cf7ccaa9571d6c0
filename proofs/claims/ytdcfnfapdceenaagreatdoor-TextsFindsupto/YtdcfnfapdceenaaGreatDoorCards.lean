/-
  DERIVED. GIVEN WITH THE SEED: THE CARDS: each row of YtdcfnfapdceenaaGreatDoorRows.lean that lists a variable, with what it lists TIED to the program's text (the seventh form; the later family's looks); each row that meets fmt, with fmt's text TOLD by the authors' own Lean function (tested against real Go, not proved from fmt's source: count such statements apart). THE CARD IS WHAT COUNTS. Prove the row's statement (the work); the ties are given (YtdcfnfapdceenaaGreatDoorTie.lean); close each card by the builder's one call (the guide's Derived/Test/ToyasCard.lean, 'card_holds'). Laid BY PROGRAM, IN A SANDBOX (cutbox-door.mjs). By AI agents, Wed Nov 11 2026. No macro, syntax, notation, axiom, sorry.
-/
import Derived.Test.YtdcfnfapdceenaaGreatDoorRows
import GoSem.ClaimSeven
namespace Go.Proofs.YtdcfnfapdceenaaGreatDoor
namespace Rows

/-- THE TIED CARD OF 'oriellaw09.TextsCalls'. -/
def textsCallsCard : Claim7 := { stood := { row := textsCallsRow, standIns := [], harness := (true, "ac5d6588fe518e046e51ca985b853f32c1ceddbf5259b17fbd989ca5544f4bb6"), looks := false }, kinds := [], alts := [], laidByText := true, laidKinds := [.data, .data, .data, .data, .pinned], laidTests := true, laidLooks := .later }
def TextsCallsCardSaid : Prop := Claim7.holds Tryz.pinned (.plain (OpenSpec.ofChange textsCallsSpec)) textsCallsCard

/-- THE TIED CARD OF 'oriellaw09.TextsTakes'. -/
def textsTakesCard : Claim7 := { stood := { row := textsTakesRow, standIns := [], harness := (true, "ac5d6588fe518e046e51ca985b853f32c1ceddbf5259b17fbd989ca5544f4bb6"), looks := false }, kinds := [], alts := [], laidByText := true, laidKinds := [.data, .data, .data, .data, .pinned], laidTests := true, laidLooks := .later }
def TextsTakesCardSaid : Prop := Claim7.holds Tryz.pinned (.plain (OpenSpec.ofChange textsTakesSpec)) textsTakesCard

/-- THE TIED CARD OF 'oriellaw09.TextsParts'. -/
def textsPartsCard : Claim7 := { stood := { row := textsPartsRow, standIns := [], harness := (true, "ac5d6588fe518e046e51ca985b853f32c1ceddbf5259b17fbd989ca5544f4bb6"), looks := false }, kinds := [], alts := [], laidByText := true, laidKinds := [.data, .data, .data, .data, .pinned], laidTests := true, laidLooks := .later }
def TextsPartsCardSaid : Prop := Claim7.holds Tryz.pinned (.plain (OpenSpec.ofChange textsPartsSpec)) textsPartsCard

/-- THE TIED CARD OF 'oriellaw09.TextsFinds'. -/
def textsFindsCard : Claim7 := { stood := { row := textsFindsRow, standIns := [], harness := (true, "ac5d6588fe518e046e51ca985b853f32c1ceddbf5259b17fbd989ca5544f4bb6"), looks := false }, kinds := [], alts := [], laidByText := true, laidKinds := [.data, .data, .data, .data, .pinned], laidTests := true, laidLooks := .later }
def TextsFindsCardSaid : Prop := Claim7.holds Tryz.pinned (.plain (OpenSpec.ofChange textsFindsSpec)) textsFindsCard

/-- THE TIED CARD OF 'oriellaw09.TextsJoins'. -/
def textsJoinsCard : Claim7 := { stood := { row := textsJoinsRow, standIns := [], harness := (true, "ac5d6588fe518e046e51ca985b853f32c1ceddbf5259b17fbd989ca5544f4bb6"), looks := false }, kinds := [], alts := [], laidByText := true, laidKinds := [.data, .data, .data, .data, .pinned], laidTests := true, laidLooks := .later }
def TextsJoinsCardSaid : Prop := Claim7.holds Tryz.pinned (.plain (OpenSpec.ofChange textsJoinsSpec)) textsJoinsCard

/-- THE TIED CARD OF 'oriellaw09.TextsSwaps'. -/
def textsSwapsCard : Claim7 := { stood := { row := textsSwapsRow, standIns := [], harness := (true, "ac5d6588fe518e046e51ca985b853f32c1ceddbf5259b17fbd989ca5544f4bb6"), looks := false }, kinds := [], alts := [], laidByText := true, laidKinds := [.data, .data, .data, .data, .pinned], laidTests := true, laidLooks := .later }
def TextsSwapsCardSaid : Prop := Claim7.holds Tryz.pinned (.plain (OpenSpec.ofChange textsSwapsSpec)) textsSwapsCard

/-- THE SECOND FORM's CARD OF 'oriellaw09.TextsCalls'. -/
def textsCallsUptoCard : Claim7 := { stood := { row := textsCallsUptoRow, standIns := [], harness := (true, "ac5d6588fe518e046e51ca985b853f32c1ceddbf5259b17fbd989ca5544f4bb6"), looks := false }, kinds := [], alts := [], laidByText := true, laidKinds := [.data, .data, .data, .data, .pinned], laidTests := true, laidLooks := .later }
def TextsCallsUptoCardSaid : Prop := Claim7.holds Tryz.pinned (.plain (OpenSpec.upto textsCallsSpec)) textsCallsUptoCard

/-- THE SECOND FORM's CARD OF 'oriellaw09.TextsTakes'. -/
def textsTakesUptoCard : Claim7 := { stood := { row := textsTakesUptoRow, standIns := [], harness := (true, "ac5d6588fe518e046e51ca985b853f32c1ceddbf5259b17fbd989ca5544f4bb6"), looks := false }, kinds := [], alts := [], laidByText := true, laidKinds := [.data, .data, .data, .data, .pinned], laidTests := true, laidLooks := .later }
def TextsTakesUptoCardSaid : Prop := Claim7.holds Tryz.pinned (.plain (OpenSpec.upto textsTakesSpec)) textsTakesUptoCard

/-- THE SECOND FORM's CARD OF 'oriellaw09.TextsParts'. -/
def textsPartsUptoCard : Claim7 := { stood := { row := textsPartsUptoRow, standIns := [], harness := (true, "ac5d6588fe518e046e51ca985b853f32c1ceddbf5259b17fbd989ca5544f4bb6"), looks := false }, kinds := [], alts := [], laidByText := true, laidKinds := [.data, .data, .data, .data, .pinned], laidTests := true, laidLooks := .later }
def TextsPartsUptoCardSaid : Prop := Claim7.holds Tryz.pinned (.plain (OpenSpec.upto textsPartsSpec)) textsPartsUptoCard

/-- THE SECOND FORM's CARD OF 'oriellaw09.TextsFinds'. -/
def textsFindsUptoCard : Claim7 := { stood := { row := textsFindsUptoRow, standIns := [], harness := (true, "ac5d6588fe518e046e51ca985b853f32c1ceddbf5259b17fbd989ca5544f4bb6"), looks := false }, kinds := [], alts := [], laidByText := true, laidKinds := [.data, .data, .data, .data, .pinned], laidTests := true, laidLooks := .later }
def TextsFindsUptoCardSaid : Prop := Claim7.holds Tryz.pinned (.plain (OpenSpec.upto textsFindsSpec)) textsFindsUptoCard

/-- THE SECOND FORM's CARD OF 'oriellaw09.TextsJoins'. -/
def textsJoinsUptoCard : Claim7 := { stood := { row := textsJoinsUptoRow, standIns := [], harness := (true, "ac5d6588fe518e046e51ca985b853f32c1ceddbf5259b17fbd989ca5544f4bb6"), looks := false }, kinds := [], alts := [], laidByText := true, laidKinds := [.data, .data, .data, .data, .pinned], laidTests := true, laidLooks := .later }
def TextsJoinsUptoCardSaid : Prop := Claim7.holds Tryz.pinned (.plain (OpenSpec.upto textsJoinsSpec)) textsJoinsUptoCard

/-- THE SECOND FORM's CARD OF 'oriellaw09.TextsSwaps'. -/
def textsSwapsUptoCard : Claim7 := { stood := { row := textsSwapsUptoRow, standIns := [], harness := (true, "ac5d6588fe518e046e51ca985b853f32c1ceddbf5259b17fbd989ca5544f4bb6"), looks := false }, kinds := [], alts := [], laidByText := true, laidKinds := [.data, .data, .data, .data, .pinned], laidTests := true, laidLooks := .later }
def TextsSwapsUptoCardSaid : Prop := Claim7.holds Tryz.pinned (.plain (OpenSpec.upto textsSwapsSpec)) textsSwapsUptoCard
end Rows
end Go.Proofs.YtdcfnfapdceenaaGreatDoor
