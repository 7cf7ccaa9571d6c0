/-
  DERIVED. GIVEN WITH THE SEED: THE CARDS: each row of YtcddhpmpihmfdaaDoorRows.lean that lists a variable, with what it lists TIED to the program's text (the seventh form; the later family's looks); each row that meets fmt, with fmt's text TOLD by the authors' own Lean function (tested against real Go, not proved from fmt's source: count such statements apart). THE CARD IS WHAT COUNTS. Prove the row's statement (the work); the ties are given (YtcddhpmpihmfdaaDoorTie.lean); close each card by the builder's one call (the guide's Derived/Test/ToyasCard.lean, 'card_holds'). Laid BY PROGRAM, IN A SANDBOX (cutbox-door.mjs). By AI agents, Wed Nov 11 2026. No macro, syntax, notation, axiom, sorry.
-/
import Derived.Test.YtcddhpmpihmfdaaDoorRows
import GoSem.ClaimSeven
namespace Go.Proofs.YtcddhpmpihmfdaaDoor
namespace Rows

/-- THE TIED CARD OF 'oriellaw05.RefsCheck'. -/
def refsCheckCard : Claim7 := { stood := { row := refsCheckRow, standIns := [], harness := (true, "ee35e551a1085c7bf266f33741a63741f2838dc96c3edd5db23a7655634ee6dd"), looks := false }, kinds := [], alts := [], laidByText := true, laidKinds := [.data, .pinned], laidTests := true, laidLooks := .later }
def RefsCheckCardSaid : Prop := Claim7.holds Tryd.pinned (.plain (OpenSpec.ofChange refsCheckSpec)) refsCheckCard

/-- THE TIED CARD OF 'oriellaw05.RefsDepth'. -/
def refsDepthCard : Claim7 := { stood := { row := refsDepthRow, standIns := [], harness := (true, "ee35e551a1085c7bf266f33741a63741f2838dc96c3edd5db23a7655634ee6dd"), looks := false }, kinds := [], alts := [], laidByText := true, laidKinds := [.data, .pinned], laidTests := true, laidLooks := .later }
def RefsDepthCardSaid : Prop := Claim7.holds Tryd.pinned (.plain (OpenSpec.ofChange refsDepthSpec)) refsDepthCard

/-- THE TIED CARD OF 'oriellaw05.RefsTold'. -/
def refsToldCard : Claim7 := { stood := { row := refsToldRow, standIns := [], harness := (true, "ee35e551a1085c7bf266f33741a63741f2838dc96c3edd5db23a7655634ee6dd"), looks := false }, kinds := [], alts := [], laidByText := true, laidKinds := [.data, .pinned], laidTests := true, laidLooks := .later }
def RefsToldCardSaid : Prop := Claim7.holds Tryd.pinned (.plain (OpenSpec.ofChange refsToldSpec)) refsToldCard

/-- THE TIED CARD OF 'oriellaw05.RefsJust'. -/
def refsJustCard : Claim7 := { stood := { row := refsJustRow, standIns := [], harness := (true, "ee35e551a1085c7bf266f33741a63741f2838dc96c3edd5db23a7655634ee6dd"), looks := false }, kinds := [], alts := [], laidByText := true, laidKinds := [.data, .pinned], laidTests := true, laidLooks := .later }
def RefsJustCardSaid : Prop := Claim7.holds Tryd.pinned (.plain (OpenSpec.ofChange refsJustSpec)) refsJustCard

/-- THE TIED CARD OF 'oriellaw05.RefsSame'. -/
def refsSameCard : Claim7 := { stood := { row := refsSameRow, standIns := [], harness := (true, "ee35e551a1085c7bf266f33741a63741f2838dc96c3edd5db23a7655634ee6dd"), looks := false }, kinds := [], alts := [], laidByText := true, laidKinds := [.data, .pinned], laidTests := true, laidLooks := .later }
def RefsSameCardSaid : Prop := Claim7.holds Tryd.pinned (.plain (OpenSpec.ofChange refsSameSpec)) refsSameCard

/-- THE TIED CARD OF 'oriellaw05.RefsOwns'. -/
def refsOwnsCard : Claim7 := { stood := { row := refsOwnsRow, standIns := [], harness := (true, "ee35e551a1085c7bf266f33741a63741f2838dc96c3edd5db23a7655634ee6dd"), looks := false }, kinds := [], alts := [], laidByText := true, laidKinds := [.data, .pinned], laidTests := true, laidLooks := .later }
def RefsOwnsCardSaid : Prop := Claim7.holds Tryd.pinned (.plain (OpenSpec.ofChange refsOwnsSpec)) refsOwnsCard

/-- THE SECOND FORM's CARD OF 'oriellaw05.RefsCheck'. -/
def refsCheckUptoCard : Claim7 := { stood := { row := refsCheckUptoRow, standIns := [], harness := (true, "ee35e551a1085c7bf266f33741a63741f2838dc96c3edd5db23a7655634ee6dd"), looks := false }, kinds := [], alts := [], laidByText := true, laidKinds := [.data, .pinned], laidTests := true, laidLooks := .later }
def RefsCheckUptoCardSaid : Prop := Claim7.holds Tryd.pinned (.plain (OpenSpec.upto refsCheckSpec)) refsCheckUptoCard

/-- THE SECOND FORM's CARD OF 'oriellaw05.RefsDepth'. -/
def refsDepthUptoCard : Claim7 := { stood := { row := refsDepthUptoRow, standIns := [], harness := (true, "ee35e551a1085c7bf266f33741a63741f2838dc96c3edd5db23a7655634ee6dd"), looks := false }, kinds := [], alts := [], laidByText := true, laidKinds := [.data, .pinned], laidTests := true, laidLooks := .later }
def RefsDepthUptoCardSaid : Prop := Claim7.holds Tryd.pinned (.plain (OpenSpec.upto refsDepthSpec)) refsDepthUptoCard

/-- THE SECOND FORM's CARD OF 'oriellaw05.RefsTold'. -/
def refsToldUptoCard : Claim7 := { stood := { row := refsToldUptoRow, standIns := [], harness := (true, "ee35e551a1085c7bf266f33741a63741f2838dc96c3edd5db23a7655634ee6dd"), looks := false }, kinds := [], alts := [], laidByText := true, laidKinds := [.data, .pinned], laidTests := true, laidLooks := .later }
def RefsToldUptoCardSaid : Prop := Claim7.holds Tryd.pinned (.plain (OpenSpec.upto refsToldSpec)) refsToldUptoCard

/-- THE SECOND FORM's CARD OF 'oriellaw05.RefsJust'. -/
def refsJustUptoCard : Claim7 := { stood := { row := refsJustUptoRow, standIns := [], harness := (true, "ee35e551a1085c7bf266f33741a63741f2838dc96c3edd5db23a7655634ee6dd"), looks := false }, kinds := [], alts := [], laidByText := true, laidKinds := [.data, .pinned], laidTests := true, laidLooks := .later }
def RefsJustUptoCardSaid : Prop := Claim7.holds Tryd.pinned (.plain (OpenSpec.upto refsJustSpec)) refsJustUptoCard

/-- THE SECOND FORM's CARD OF 'oriellaw05.RefsSame'. -/
def refsSameUptoCard : Claim7 := { stood := { row := refsSameUptoRow, standIns := [], harness := (true, "ee35e551a1085c7bf266f33741a63741f2838dc96c3edd5db23a7655634ee6dd"), looks := false }, kinds := [], alts := [], laidByText := true, laidKinds := [.data, .pinned], laidTests := true, laidLooks := .later }
def RefsSameUptoCardSaid : Prop := Claim7.holds Tryd.pinned (.plain (OpenSpec.upto refsSameSpec)) refsSameUptoCard

/-- THE SECOND FORM's CARD OF 'oriellaw05.RefsOwns'. -/
def refsOwnsUptoCard : Claim7 := { stood := { row := refsOwnsUptoRow, standIns := [], harness := (true, "ee35e551a1085c7bf266f33741a63741f2838dc96c3edd5db23a7655634ee6dd"), looks := false }, kinds := [], alts := [], laidByText := true, laidKinds := [.data, .pinned], laidTests := true, laidLooks := .later }
def RefsOwnsUptoCardSaid : Prop := Claim7.holds Tryd.pinned (.plain (OpenSpec.upto refsOwnsSpec)) refsOwnsUptoCard
end Rows
end Go.Proofs.YtcddhpmpihmfdaaDoor
