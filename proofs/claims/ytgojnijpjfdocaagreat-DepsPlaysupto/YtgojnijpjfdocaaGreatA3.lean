/- The contract of the document's MayRect: of every rectangle whether it may be. New memory alone is made. No condition. -/
import Derived.Test.YtgojnijpjfdocaaGreatA2
namespace Go.Proofs.YtgojnijpjfdocaaGreat
open Go.RowKit
set_option linter.all false
set_option maxHeartbeats 1000000 in
theorem rmayR1 (t l b r : Int) (w : World) (h1 : mayC t l = false) : Calls Tryz.prog 52 #[(.agg #[.int .i64 (t), .int .i64 (l), .int .i64 (b), .int .i64 (r)])] w fun e w' => e = .returned (.bool false) ∧ Below w.heap.size w w' := by
  go_enter Tryz.func52, Tryz.ntmps52
  go_wp2_with (go_at_call 29; refine (rmay_any _ _ _).mono ?_; rintro e w1 ⟨rfl, hb⟩; have hB : Below w.heap.size w w1 := bup (by with_reducible (repeat' first | assumption | exact Below.refl _ _ | refine Below.drew ?_ | refine Below.setCell ?_ (by first | exact Nat.le_refl _ | (simp; done) | (simp; omega) | omega) _ | refine Below.alloc ?_ (by first | exact Nat.le_refl _ | (simp; done) | (simp; omega) | omega) _)) hb; have o0 : Own w1 (w.heap.size) #[.int .i64 (t), .int .i64 (l), .int .i64 (b), .int .i64 (r)] := Own.keep (by with_reducible (repeat' first | assumption | refine Own.drew ?_ | (refine Own.at ?_; first | rfl | (simp; done)) | refine Own.past ?_ _)) hb; have c0 := o0.cell; have f0 := o0.fro; have l0 := o0.lt)
  all_goals go_ret
  all_goals exact ⟨rfl, by with_reducible (repeat' first | assumption | exact Below.refl _ _ | refine Below.drew ?_ | refine Below.setCell ?_ (by first | exact Nat.le_refl _ | (simp; done) | (simp; omega) | omega) _ | refine Below.alloc ?_ (by first | exact Nat.le_refl _ | (simp; done) | (simp; omega) | omega) _)⟩
set_option maxHeartbeats 1000000 in
theorem rmayR2 (t l b r : Int) (w : World) (h1 : mayC t l = true) (h2 : mayC b r = false) : Calls Tryz.prog 52 #[(.agg #[.int .i64 (t), .int .i64 (l), .int .i64 (b), .int .i64 (r)])] w fun e w' => e = .returned (.bool false) ∧ Below w.heap.size w w' := by
  go_enter Tryz.func52, Tryz.ntmps52
  go_wp2_with (go_at_call 29; refine (rmay_any _ _ _).mono ?_; rintro e w1 ⟨rfl, hb⟩; have hB : Below w.heap.size w w1 := bup (by with_reducible (repeat' first | assumption | exact Below.refl _ _ | refine Below.drew ?_ | refine Below.setCell ?_ (by first | exact Nat.le_refl _ | (simp; done) | (simp; omega) | omega) _ | refine Below.alloc ?_ (by first | exact Nat.le_refl _ | (simp; done) | (simp; omega) | omega) _)) hb; have o0 : Own w1 (w.heap.size) #[.int .i64 (t), .int .i64 (l), .int .i64 (b), .int .i64 (r)] := Own.keep (by with_reducible (repeat' first | assumption | refine Own.drew ?_ | (refine Own.at ?_; first | rfl | (simp; done)) | refine Own.past ?_ _)) hb; have c0 := o0.cell; have f0 := o0.fro; have l0 := o0.lt)
  all_goals go_ret
  all_goals exact ⟨rfl, by with_reducible (repeat' first | assumption | exact Below.refl _ _ | refine Below.drew ?_ | refine Below.setCell ?_ (by first | exact Nat.le_refl _ | (simp; done) | (simp; omega) | omega) _ | refine Below.alloc ?_ (by first | exact Nat.le_refl _ | (simp; done) | (simp; omega) | omega) _)⟩
set_option maxHeartbeats 1000000 in
theorem rmayR3 (t l b r : Int) (w : World) (h1 : mayC t l = true) (h2 : mayC b r = true) (h3 : decide (t ≤ b) = false) : Calls Tryz.prog 52 #[(.agg #[.int .i64 (t), .int .i64 (l), .int .i64 (b), .int .i64 (r)])] w fun e w' => e = .returned (.bool false) ∧ Below w.heap.size w w' := by
  go_enter Tryz.func52, Tryz.ntmps52
  go_wp2_with (go_at_call 29; refine (rmay_any _ _ _).mono ?_; rintro e w1 ⟨rfl, hb⟩; have hB : Below w.heap.size w w1 := bup (by with_reducible (repeat' first | assumption | exact Below.refl _ _ | refine Below.drew ?_ | refine Below.setCell ?_ (by first | exact Nat.le_refl _ | (simp; done) | (simp; omega) | omega) _ | refine Below.alloc ?_ (by first | exact Nat.le_refl _ | (simp; done) | (simp; omega) | omega) _)) hb; have o0 : Own w1 (w.heap.size) #[.int .i64 (t), .int .i64 (l), .int .i64 (b), .int .i64 (r)] := Own.keep (by with_reducible (repeat' first | assumption | refine Own.drew ?_ | (refine Own.at ?_; first | rfl | (simp; done)) | refine Own.past ?_ _)) hb; have c0 := o0.cell; have f0 := o0.fro; have l0 := o0.lt)
  all_goals go_ret
  all_goals exact ⟨rfl, by with_reducible (repeat' first | assumption | exact Below.refl _ _ | refine Below.drew ?_ | refine Below.setCell ?_ (by first | exact Nat.le_refl _ | (simp; done) | (simp; omega) | omega) _ | refine Below.alloc ?_ (by first | exact Nat.le_refl _ | (simp; done) | (simp; omega) | omega) _)⟩
set_option maxHeartbeats 1000000 in
theorem rmayR4 (t l b r : Int) (w : World) (h1 : mayC t l = true) (h2 : mayC b r = true) (h3 : t ≤ b) : Calls Tryz.prog 52 #[(.agg #[.int .i64 (t), .int .i64 (l), .int .i64 (b), .int .i64 (r)])] w fun e w' => e = .returned (.bool (decide (l ≤ r))) ∧ Below w.heap.size w w' := by
  go_enter Tryz.func52, Tryz.ntmps52
  go_wp2_with (go_at_call 29; refine (rmay_any _ _ _).mono ?_; rintro e w1 ⟨rfl, hb⟩; have hB : Below w.heap.size w w1 := bup (by with_reducible (repeat' first | assumption | exact Below.refl _ _ | refine Below.drew ?_ | refine Below.setCell ?_ (by first | exact Nat.le_refl _ | (simp; done) | (simp; omega) | omega) _ | refine Below.alloc ?_ (by first | exact Nat.le_refl _ | (simp; done) | (simp; omega) | omega) _)) hb; have o0 : Own w1 (w.heap.size) #[.int .i64 (t), .int .i64 (l), .int .i64 (b), .int .i64 (r)] := Own.keep (by with_reducible (repeat' first | assumption | refine Own.drew ?_ | (refine Own.at ?_; first | rfl | (simp; done)) | refine Own.past ?_ _)) hb; have c0 := o0.cell; have f0 := o0.fro; have l0 := o0.lt)
  all_goals go_ret
  all_goals exact ⟨rfl, by with_reducible (repeat' first | assumption | exact Below.refl _ _ | refine Below.drew ?_ | refine Below.setCell ?_ (by first | exact Nat.le_refl _ | (simp; done) | (simp; omega) | omega) _ | refine Below.alloc ?_ (by first | exact Nat.le_refl _ | (simp; done) | (simp; omega) | omega) _)⟩
theorem rmayR_any (t l b r : Int) (w : World) : Calls Tryz.prog 52 #[(.agg #[.int .i64 (t), .int .i64 (l), .int .i64 (b), .int .i64 (r)])] w fun e w' => e = .returned (.bool (mayR t l b r)) ∧ Below w.heap.size w w' := by
  cases h1 : mayC t l
  · rw [mayR_no1 h1]; exact rmayR1 t l b r w h1
  cases h2 : mayC b r
  · rw [mayR_no2 h2]; exact rmayR2 t l b r w h1 h2
  by_cases h3 : t ≤ b
  · rw [mayR_yes h1 h2 h3]; exact rmayR4 t l b r w h1 h2 h3
  · rw [mayR_no3 h3]; exact rmayR3 t l b r w h1 h2 (by simpa using h3)
end Go.Proofs.YtgojnijpjfdocaaGreat
