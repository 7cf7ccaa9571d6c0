/- Small laws of no function: blocks of the caller's own, slices as they are read. The contracts of nums.table, find and Known: of every text the row of the table. New memory alone is made. -/
import Derived.Test.YtmfbplicakappaaGreatDoorQNT0
import Derived.Test.YtmfbplicakappaaGreatDoorQVO
import Derived.Deep.RegionHeld3
import Derived.Lib.Hide
import Derived.Deep.QuietTactic
import Derived.BigQuiet
import Derived.Lib.Walk
import Derived.Deep.Light
namespace Go.Proofs.YtmfbplicakappaaGreatDoor
open Go.RowKit
set_option linter.all false
theorem bdrewN {B : Nat} {a w : World} (h : Below B a w) (n : Nat) : Below B a (w.drewN n) := ⟨h.os, h.tape, h.output, h.size, h.block⟩
theorem Own.at {w : World} {A : Array Value} {T : TypeId} {n : Nat} (h : n = w.heap.size) : Own (w.alloc (.cells A T)) n A := by subst h; exact Own.new _ _ _
theorem Own.drewN {w : World} {b : Nat} {A : Array Value} (h : Own w b A) (n : Nat) : Own (w.drewN n) b A := h.keep (bdrewN (Below.refl _ _) n)
/-- The value is a slice of just these things, each of which has the cells that c tells. -/
def View {α : Type} (c : α → Array Value) (sz : Nat) (w : World) (v : Value) (xs : List α) : Prop :=
  ∃ p cap, v = .slice p xs.length cap ∧ xs.length ≤ cap ∧ (0 < xs.length → ∃ b o, p = some ⟨b, o, none⟩ ∧ b < w.heap.size ∧ ∀ i x, xs[i]? = some x → ∀ j, j < sz → w.cell? ⟨b, o + i * sz + j, none⟩ = (c x)[j]?)
theorem View.keep {α : Type} {c : α → Array Value} {sz : Nat} {w w' : World} {v : Value} {xs : List α} (h : View c sz w v xs) (hb : Below w.heap.size w w') : View c sz w' v xs := by
  obtain ⟨p, cap, e, hc, hf⟩ := h
  refine ⟨p, cap, e, hc, fun h0 => ?_⟩
  obtain ⟨b, o, e2, hlt, hcell⟩ := hf h0
  exact ⟨b, o, e2, Nat.lt_of_lt_of_le hlt hb.size, fun i x hi j hj => (hb.cell (p := ⟨b, o + i * sz + j, none⟩) hlt).trans (hcell i x hi j hj)⟩
theorem retBl {x y : Bool} (h : x = y) : Ending.returned (.bool x) = .returned (.bool y) := by rw [h]
end Go.Proofs.YtmfbplicakappaaGreatDoor
