/- The document's Power: 0 raised to 1. -/
import Derived.Test.YtkbpjomkbelaaaaDoorRPowQ
namespace Go.Proofs.YtkbpjomkbelaaaaDoor
open Go.Shelf Go.RowKit
set_option linter.all false
set_option maxRecDepth 100000 in
set_option maxHeartbeats 1000000 in
theorem rp_0p1 (w : World) : Calls Tryd.prog 6 #[.int .i64 0, .int .i64 1] w fun e w' => e = .returned (.tuple #[.int .i64 0, .int .i64 0]) ∧ Below w.heap.size w w' := by
  have hi : I64 0 := ⟨by decide, by decide⟩
  have hm : mayOk 0 = true := mayOk_t (by decide)
  go_enter Tryd.func6, Tryd.ntmps6
  go_wp2_with (first
    | (go_at_call 14; refine (rmayAny _ _ hi).mono ?_; rintro e w ⟨rfl, rfl⟩)
    | (go_at_call 18; refine (rsize_n 0 0 false _ (.inl ⟨rfl, by decide, rfl⟩) (by decide)).mono ?_; rintro e w ⟨rfl, rfl⟩)
    | (go_at_call 21; refine (great_any 0 _ (by decide)).mono ?_; rintro e w2 ⟨g, vg, rfl, g1, g2, g3, g4, g5, g6⟩; have G1 := Lib.hid g1; have G2 := Lib.hid g2; have G4 := Lib.hid g4; clear g1 g2 g3 g4))
  refine (raised_any _ g 1 _ G1.out G2.out g5 (by decide)).mono ?_
  rintro e w3 ⟨p, vp, rfl, p1, p2, p3, p4, p5, p6⟩
  have P4 : p = [] := wv_pos0 p p3 (by rw [p4, G4.out]) p2
  subst P4
  have P1 := Lib.hid p1
  clear p1 p2 p3 p4
  rcases P1.out.lies with ⟨rfl, _⟩ | ⟨bp, cap, rfl, _, _, _⟩
  all_goals go_wp2_with (first
    | (go_at_call 22; refine (small_any _ [] _ (IsW.nil _) (fun x hx => by cases hx) Top.nil).mono ?_; rintro e w5 ⟨rfl, rfl⟩)
    | (go_at_call 23; refine (rsgn_any 0 false _ (by decide)).mono ?_; rintro e w5 ⟨rfl, rfl⟩))
  all_goals go_ret2
  all_goals exact ⟨rfl, bup g6 p6⟩
end Go.Proofs.YtkbpjomkbelaaaaDoor
