/-
  DERIVED. GIVEN WITH THE SEED: THE CARDS: each row of YtimcdeibjiekpabDoorRows.lean that lists a variable, with what it lists TIED to the program's text (the seventh form; the later family's looks); each row that meets fmt, with fmt's text TOLD by the authors' own Lean function (tested against real Go, not proved from fmt's source: count such statements apart). THE CARD IS WHAT COUNTS. Prove the row's statement (the work); the ties are given (YtimcdeibjiekpabDoorTie.lean); close each card by the builder's one call (the guide's Derived/Test/ToyasCard.lean, 'card_holds'). Laid BY PROGRAM, IN A SANDBOX (cutbox-door.mjs). By AI agents, Wed Nov 11 2026. No macro, syntax, notation, axiom, sorry.
-/
import Derived.Test.YtimcdeibjiekpabDoorRows
import GoSem.ClaimSeven
namespace Go.Proofs.YtimcdeibjiekpabDoor
namespace Rows

/-- THE TIED CARD OF 'oriellaw01.DecRing'. -/
def decRingCard : Claim7 := { stood := { row := decRingRow, standIns := [], harness := (true, "cc1e35eba4b5f9866f6c04a239c7361114e4a7b5fd3521ee4a29c0b007ed2d7b"), looks := false }, kinds := [], alts := [], laidByText := true, laidKinds := [.data, .data, .data, .data, .pinned], laidTests := true, laidLooks := .later }
def DecRingCardSaid : Prop := Claim7.holds Tryd.pinned (.plain (OpenSpec.ofChange decRingSpec)) decRingCard

/-- THE TIED CARD OF 'oriellaw01.DecModulo'. -/
def decModuloCard : Claim7 := { stood := { row := decModuloRow, standIns := [], harness := (true, "cc1e35eba4b5f9866f6c04a239c7361114e4a7b5fd3521ee4a29c0b007ed2d7b"), looks := false }, kinds := [], alts := [], laidByText := true, laidKinds := [.data, .data, .data, .data, .pinned], laidTests := true, laidLooks := .later }
def DecModuloCardSaid : Prop := Claim7.holds Tryd.pinned (.plain (OpenSpec.ofChange decModuloSpec)) decModuloCard

/-- THE TIED CARD OF 'oriellaw01.DecOrder'. -/
def decOrderCard : Claim7 := { stood := { row := decOrderRow, standIns := [], harness := (true, "cc1e35eba4b5f9866f6c04a239c7361114e4a7b5fd3521ee4a29c0b007ed2d7b"), looks := false }, kinds := [], alts := [], laidByText := true, laidKinds := [.data, .data, .data, .data, .pinned], laidTests := true, laidLooks := .later }
def DecOrderCardSaid : Prop := Claim7.holds Tryd.pinned (.plain (OpenSpec.ofChange decOrderSpec)) decOrderCard

/-- THE SECOND FORM's CARD OF 'oriellaw01.DecRing'. -/
def decRingUptoCard : Claim7 := { stood := { row := decRingUptoRow, standIns := [], harness := (true, "cc1e35eba4b5f9866f6c04a239c7361114e4a7b5fd3521ee4a29c0b007ed2d7b"), looks := false }, kinds := [], alts := [], laidByText := true, laidKinds := [.data, .data, .data, .data, .pinned], laidTests := true, laidLooks := .later }
def DecRingUptoCardSaid : Prop := Claim7.holds Tryd.pinned (.plain (OpenSpec.upto decRingSpec)) decRingUptoCard

/-- THE SECOND FORM's CARD OF 'oriellaw01.DecModulo'. -/
def decModuloUptoCard : Claim7 := { stood := { row := decModuloUptoRow, standIns := [], harness := (true, "cc1e35eba4b5f9866f6c04a239c7361114e4a7b5fd3521ee4a29c0b007ed2d7b"), looks := false }, kinds := [], alts := [], laidByText := true, laidKinds := [.data, .data, .data, .data, .pinned], laidTests := true, laidLooks := .later }
def DecModuloUptoCardSaid : Prop := Claim7.holds Tryd.pinned (.plain (OpenSpec.upto decModuloSpec)) decModuloUptoCard

/-- THE SECOND FORM's CARD OF 'oriellaw01.DecOrder'. -/
def decOrderUptoCard : Claim7 := { stood := { row := decOrderUptoRow, standIns := [], harness := (true, "cc1e35eba4b5f9866f6c04a239c7361114e4a7b5fd3521ee4a29c0b007ed2d7b"), looks := false }, kinds := [], alts := [], laidByText := true, laidKinds := [.data, .data, .data, .data, .pinned], laidTests := true, laidLooks := .later }
def DecOrderUptoCardSaid : Prop := Claim7.holds Tryd.pinned (.plain (OpenSpec.upto decOrderSpec)) decOrderUptoCard
end Rows
end Go.Proofs.YtimcdeibjiekpabDoor
