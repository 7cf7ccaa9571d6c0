/- The contract of the document's Same: of any two formulas whether they have the same nodes. New memory alone is made. The condition: lists of at most 2^47 nodes. -/
import Derived.Test.YtcddhpmpihmfdabDoorN3
namespace Go.Proofs.YtcddhpmpihmfdabDoor
open Go.RowKit
set_option linter.all false
set_option maxHeartbeats 1000000 in
theorem same_any (w : World) (va vb : Value) (xs ys : List Nd) (ha : NV w va xs) (hb : NV w vb ys) (hl : xs.length ≤ 140737488355328) :
    Calls Tryd.prog 10 #[.agg #[va], .agg #[vb]] w fun e w' => e = .returned (.bool (sameL xs ys)) ∧ Below w.heap.size w w' := by
  have hE : ∀ w1, Below w.heap.size w w1 → Calls Tryd.prog 15 #[va, vb] w1 fun e w' => e = .returned (.bool (sameL xs ys)) ∧ Below w1.heap.size w1 w' := fun w1 h => equal_any w1 va vb xs ys (ha.keep h) (hb.keep h) hl
  obtain ⟨pa, ca, rfl, -, -⟩ := ha
  obtain ⟨pb, cb, rfl, -, -⟩ := hb
  have HE : Hid _ := hE
  clear hE
  go_enter Tryd.func10, Tryd.ntmps10
  go_wp2_with (go_at_call 15; refine (HE.out _ (by with_reducible (repeat' first | assumption | exact Below.refl _ _ | refine Below.drew ?_ | refine Below.setCell ?_ (by first | exact Nat.le_refl _ | (simp; done) | (simp; omega) | omega) _ | refine Below.alloc ?_ (by first | exact Nat.le_refl _ | (simp; done) | (simp; omega) | omega) _))).mono ?_; rintro e w1 ⟨rfl, hb⟩; have hB : Below w.heap.size w w1 := bup (by with_reducible (repeat' first | assumption | exact Below.refl _ _ | refine Below.drew ?_ | refine Below.setCell ?_ (by first | exact Nat.le_refl _ | (simp; done) | (simp; omega) | omega) _ | refine Below.alloc ?_ (by first | exact Nat.le_refl _ | (simp; done) | (simp; omega) | omega) _)) hb)
  go_ret
  exact ⟨rfl, hB⟩
end Go.Proofs.YtcddhpmpihmfdabDoor
