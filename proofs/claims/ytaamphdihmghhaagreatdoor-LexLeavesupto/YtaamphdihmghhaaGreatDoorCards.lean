/-
  DERIVED. GIVEN WITH THE SEED: THE CARDS: each row of YtaamphdihmghhaaGreatDoorRows.lean that lists a variable, with what it lists TIED to the program's text (the seventh form; the later family's looks); each row that meets fmt, with fmt's text TOLD by the authors' own Lean function (tested against real Go, not proved from fmt's source: count such statements apart). THE CARD IS WHAT COUNTS. Prove the row's statement (the work); the ties are given (YtaamphdihmghhaaGreatDoorTie.lean); close each card by the builder's one call (the guide's Derived/Test/ToyasCard.lean, 'card_holds'). Laid BY PROGRAM, IN A SANDBOX (cutbox-door.mjs). By AI agents, Wed Nov 11 2026. No macro, syntax, notation, axiom, sorry.
-/
import Derived.Test.YtaamphdihmghhaaGreatDoorRows
import GoSem.ClaimSeven
namespace Go.Proofs.YtaamphdihmghhaaGreatDoor
namespace Rows

/-- THE TIED CARD OF 'oriellaw04.LexTokens'. -/
def lexTokensCard : Claim7 := { stood := { row := lexTokensRow, standIns := [], harness := (true, "0378ae4efc8f2b1243e320f46052c72f8e479a8e40514d73085770efd737a0c5"), looks := false }, kinds := [], alts := [], laidByText := true, laidKinds := [.data, .data, .pinned], laidTests := true, laidLooks := .later }
def LexTokensCardSaid : Prop := Claim7.holds Tryz.pinned (.plain (OpenSpec.ofChange lexTokensSpec)) lexTokensCard

/-- THE TIED CARD OF 'oriellaw04.LexLeaves'. -/
def lexLeavesCard : Claim7 := { stood := { row := lexLeavesRow, standIns := [], harness := (true, "0378ae4efc8f2b1243e320f46052c72f8e479a8e40514d73085770efd737a0c5"), looks := false }, kinds := [], alts := [], laidByText := true, laidKinds := [.data, .data, .pinned], laidTests := true, laidLooks := .later }
def LexLeavesCardSaid : Prop := Claim7.holds Tryz.pinned (.plain (OpenSpec.ofChange lexLeavesSpec)) lexLeavesCard

/-- THE SECOND FORM's CARD OF 'oriellaw04.LexTokens'. -/
def lexTokensUptoCard : Claim7 := { stood := { row := lexTokensUptoRow, standIns := [], harness := (true, "0378ae4efc8f2b1243e320f46052c72f8e479a8e40514d73085770efd737a0c5"), looks := false }, kinds := [], alts := [], laidByText := true, laidKinds := [.data, .data, .pinned], laidTests := true, laidLooks := .later }
def LexTokensUptoCardSaid : Prop := Claim7.holds Tryz.pinned (.plain (OpenSpec.upto lexTokensSpec)) lexTokensUptoCard

/-- THE SECOND FORM's CARD OF 'oriellaw04.LexLeaves'. -/
def lexLeavesUptoCard : Claim7 := { stood := { row := lexLeavesUptoRow, standIns := [], harness := (true, "0378ae4efc8f2b1243e320f46052c72f8e479a8e40514d73085770efd737a0c5"), looks := false }, kinds := [], alts := [], laidByText := true, laidKinds := [.data, .data, .pinned], laidTests := true, laidLooks := .later }
def LexLeavesUptoCardSaid : Prop := Claim7.holds Tryz.pinned (.plain (OpenSpec.upto lexLeavesSpec)) lexLeavesUptoCard
end Rows
end Go.Proofs.YtaamphdihmghhaaGreatDoor
