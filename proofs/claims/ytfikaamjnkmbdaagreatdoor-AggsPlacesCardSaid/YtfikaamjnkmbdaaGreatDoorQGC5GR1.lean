/- The contracts of aggs.counted, count, rows, cols, countRows and countCols. New memory alone is made. -/
import Derived.Test.YtfikaamjnkmbdaaGreatDoorQShelfAGS
namespace Go.Proofs.YtfikaamjnkmbdaaGreatDoor
open Go.RowKit
set_option linter.all false
theorem counted_any (n : Int) (w : World) (h0 : 0 ≤ n) (h40 : n ≤ 1099511627776) : Calls Tryz.prog 121 #[.int .i64 n] w fun e w' => e = .returned (.agg #[.int .i64 (1), .int .i64 ((n * 10000)), .string ⟨#[]⟩, .bool false, .int .i64 (0)]) ∧ Below w.heap.size w w' := by
  have hI : I64 (n * 10000) := (show -9223372036854775808 ≤ n * 10000 ∧ n * 10000 ≤ 9223372036854775807 by omega)
  have hN := fun W => num_t (n * 10000) W hI (by omega)
  go_enter Tryz.func121, Tryz.ntmps121
  go_wp2_with (go_at_call 115; refine (hN _).mono ?_; rintro e wb ⟨rfl, hbwb⟩; have hBwb : Below w.heap.size w wb := bup (by with_reducible (repeat' first | assumption | exact Below.refl _ _ | refine Below.drew ?_ | refine bdrewN ?_ _ | refine Below.setCell ?_ (by first | exact Nat.le_refl _ | (simp; done) | (simp; omega) | omega) _ | refine Below.alloc ?_ (by first | exact Nat.le_refl _ | (simp; done) | (simp; omega) | omega) _)) hbwb; have zwb := hBwb.size; have o0wb : Own wb (w.heap.size) #[.int .i64 0, .int .i64 0, .string ⟨#[]⟩, .bool false, .int .i64 0] := Own.keep (by with_reducible (repeat' first | assumption | refine Own.drew ?_ | refine Own.drewN ?_ _ | (refine Own.at ?_; first | rfl | (simp; done)) | refine Own.past ?_ _)) hbwb; have c0 := o0wb.cell; have f0 := o0wb.fro; have l0 := o0wb.lt)
  exact bodyPost_ret (v := (.agg #[.int .i64 (1), .int .i64 ((n * 10000)), .string ⟨#[]⟩, .bool false, .int .i64 (0)])) (by simp [results, Tryz.results121, go_sem, c0, f0, l0]) rfl ⟨rfl, by with_reducible (repeat' first | assumption | exact Below.refl _ _ | refine Below.drew ?_ | refine bdrewN ?_ _ | refine Below.setCell ?_ (by first | exact Nat.le_refl _ | (simp; done) | (simp; omega) | omega) _ | refine Below.alloc ?_ (by first | exact Nat.le_refl _ | (simp; done) | (simp; omega) | omega) _)⟩
theorem rows_any (t l b r : Int) (w : World) (h1 : 0 ≤ t) (h2 : t ≤ 1099511627776) (h3 : 0 ≤ b) (h4 : b ≤ 1099511627776) : Calls Tryz.prog 131 #[.agg #[.int .i64 t, .int .i64 l, .int .i64 b, .int .i64 r]] w fun e w' => e = .returned (.int .i64 (b - t + 1)) ∧ Below w.heap.size w w' := by
  go_enter Tryz.func131, Tryz.ntmps131
  go_wp2
  go_ret
  exact ⟨rfl, by with_reducible (repeat' first | assumption | exact Below.refl _ _ | refine Below.drew ?_ | refine bdrewN ?_ _ | refine Below.setCell ?_ (by first | exact Nat.le_refl _ | (simp; done) | (simp; omega) | omega) _ | refine Below.alloc ?_ (by first | exact Nat.le_refl _ | (simp; done) | (simp; omega) | omega) _)⟩
theorem cols_any (t l b r : Int) (w : World) (h1 : 0 ≤ l) (h2 : l ≤ 1099511627776) (h3 : 0 ≤ r) (h4 : r ≤ 1099511627776) : Calls Tryz.prog 132 #[.agg #[.int .i64 t, .int .i64 l, .int .i64 b, .int .i64 r]] w fun e w' => e = .returned (.int .i64 (r - l + 1)) ∧ Below w.heap.size w w' := by
  go_enter Tryz.func132, Tryz.ntmps132
  go_wp2
  go_ret
  exact ⟨rfl, by with_reducible (repeat' first | assumption | exact Below.refl _ _ | refine Below.drew ?_ | refine bdrewN ?_ _ | refine Below.setCell ?_ (by first | exact Nat.le_refl _ | (simp; done) | (simp; omega) | omega) _ | refine Below.alloc ?_ (by first | exact Nat.le_refl _ | (simp; done) | (simp; omega) | omega) _)⟩
end Go.Proofs.YtfikaamjnkmbdaaGreatDoor
