/- A block of the caller's own that stays as it is while others make new memory: small laws of no function. -/
import Derived.Test.YtmfbplicakappaaGreatDoorQV1
namespace Go.Proofs.YtmfbplicakappaaGreatDoor
open Go.RowKit
set_option linter.all false
/-- The block holds these cells, and none of them is frozen. -/
structure Own (w : World) (blk : Nat) (A : Array Value) : Prop where
  lt : blk < w.heap.size
  cell : ∀ o, w.cell? ⟨blk, o, none⟩ = A[o]?
  fro : ∀ o, w.frozen? ⟨blk, o, none⟩ = false
theorem Own.keep {W w1 : World} {blk : Nat} {A : Array Value} (h : Own W blk A) (hb : Below W.heap.size W w1) : Own w1 blk A :=
  ⟨Nat.lt_of_lt_of_le h.lt hb.size, fun o => (hb.cell (p := ⟨blk, o, none⟩) h.lt).trans (h.cell o), fun o => (hb.frozen (p := ⟨blk, o, none⟩) h.lt).trans (h.fro o)⟩
theorem Own.new (w : World) (A : Array Value) (T : TypeId) : Own (w.alloc (.cells A T)) w.heap.size A :=
  ⟨by simp, fun o => World.cell?_alloc_new w A T o, fun o => World.frozen?_alloc_new w A T o⟩
theorem Own.past {w : World} {blk : Nat} {A : Array Value} (h : Own w blk A) (x : Obj) : Own (w.alloc x) blk A := h.keep (bal w x)
theorem Own.drew {w : World} {blk : Nat} {A : Array Value} (h : Own w blk A) : Own w.drew blk A := h.keep (Below.refl _ _).drew
theorem Own.new2 (w : World) (x : Obj) (A : Array Value) (T : TypeId) : Own ((w.alloc x).alloc (.cells A T)) (w.heap.size + 1) A := by
  have h := Own.new (w.alloc x) A T
  have e : (w.alloc x).heap.size = w.heap.size + 1 := by simp
  rw [e] at h
  exact h
end Go.Proofs.YtmfbplicakappaaGreatDoor
