/- Slices xs they are read; the contracts of slices.Equal at nodes and of Same (of package refs and of the document's answer): of any two formulas whether they have the same nodes. New memory alone is made. The condition: lists of at most 2^47 nodes. -/
import Derived.Test.YtcmjhjnpcogmgaaGreatDoorQRfN0
namespace Go.Proofs.YtcmjhjnpcogmgaaGreatDoor.Rf
open Go.RowKit
set_option linter.all false
/-- The value is a slice of just these things, each of which has the cells that c tells. -/
def View {α : Type} (c : α → Array Value) (sz : Nat) (w : World) (v : Value) (xs : List α) : Prop :=
  ∃ p cap, v = .slice p xs.length cap ∧ xs.length ≤ cap ∧ (0 < xs.length → ∃ b o, p = some ⟨b, o, none⟩ ∧ b < w.heap.size ∧ ∀ i x, xs[i]? = some x → ∀ j, j < sz → w.cell? ⟨b, o + i * sz + j, none⟩ = (c x)[j]?)
theorem View.keep {α : Type} {c : α → Array Value} {sz : Nat} {w w' : World} {v : Value} {xs : List α} (h : View c sz w v xs) (hb : Below w.heap.size w w') : View c sz w' v xs := by
  obtain ⟨p, cap, e, hc, hf⟩ := h
  refine ⟨p, cap, e, hc, fun h0 => ?_⟩
  obtain ⟨b, o, e2, hlt, hcell⟩ := hf h0
  exact ⟨b, o, e2, Nat.lt_of_lt_of_le hlt hb.size, fun i x hi j hj => (hb.cell (p := ⟨b, o + i * sz + j, none⟩) hlt).trans (hcell i x hi j hj)⟩
/-- A slice of nodes. -/
abbrev NV (w : World) (v : Value) (ns : List Nd) : Prop := View Nd.cells 15 w v ns
theorem _root_.Go.Proofs.YtcmjhjnpcogmgaaGreatDoor.Own.drewN {w : World} {b : Nat} {A : Array Value} (h : Own w b A) (n : Nat) : Own (w.drewN n) b A := h.keep (bdrewN (Below.refl _ _) n)
end Go.Proofs.YtcmjhjnpcogmgaaGreatDoor.Rf
