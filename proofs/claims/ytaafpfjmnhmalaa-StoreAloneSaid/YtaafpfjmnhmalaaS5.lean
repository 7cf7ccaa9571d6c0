/- The contract of store.New: a store without contents, in a block of its own. -/
import Derived.Test.YtaafpfjmnhmalaaS4
namespace Go.Proofs.Ytaafpfjmnhmalaa
open Go.RowKit
set_option linter.all false
def zS : Array Value := (List.replicate 64 (Value.pointer none) ++ [Value.int .i64 0]).toArray
def zK : Array Value := (List.replicate 64 (Value.slice none 0 0)).toArray
theorem zeroS (w : World) : (zeroValue 76).run Try.prog w = .ok (.agg zS) w := by kernel_rfl
theorem zeroK (w : World) : (zeroValue 82).run Try.prog w = .ok (.agg zK) w := by kernel_rfl
theorem zS_at : zS.size = 65 ∧ zS[64]? = some (.int .i64 0) ∧ ∀ i, i < 64 → zS[i]? = some (.pointer none) := by
  refine ⟨rfl, rfl, fun i hi => ?_⟩
  unfold zS
  rw [List.getElem?_toArray, List.getElem?_append_left (by simpa using hi), List.getElem?_replicate, if_pos hi]
theorem zK_at : zK.size = 64 ∧ ∀ i, i < 64 → zK[i]? = some (.slice none 0 0) := by
  refine ⟨rfl, fun i hi => ?_⟩
  unfold zK
  rw [List.getElem?_toArray, List.getElem?_replicate, if_pos hi]
set_option maxRecDepth 100000 in
set_option maxHeartbeats 1000000 in
theorem new_any (w : World) : Calls Try.prog 13 #[] w fun e w' => e = .returned (.pointer (some ⟨w.heap.size, 0, none⟩)) ∧ w' = w.alloc (.cells zS 76) := by
  have hz := zeroS
  generalize zS = Z at *
  go_enter Try.func13, Try.ntmps13
  go_wp2
  go_ret
  exact ⟨rfl, rfl⟩
theorem count_any (w : World) (S : Nat) (A : Array Value) (n : Int) (ho : Own w S A) (h : A[64]? = some (.int .i64 n)) : Calls Try.prog 10 #[.pointer (some ⟨S, 0, none⟩)] w fun e w' => e = .returned (.int .i64 n) ∧ w' = w := by
  have hc : w.cell? ⟨S, 64, none⟩ = some (.int .i64 n) := (ho.cell 64).trans h
  go_enter Try.func10, Try.ntmps10
  go_wp2
  go_ret
  exact ⟨rfl, rfl⟩
theorem split_any (w : World) (r : Int) (h1 : 1 ≤ r) (h2 : r ≤ 4096) : Calls Try.prog 28 #[.int .i64 r] w fun e w' => e = .returned (.tuple #[.int .i64 ((r - 1) / 64), .int .i64 ((r - 1) % 64)]) ∧ w' = w := by
  go_enter Try.func28, Try.ntmps28
  go_wp2
  exact bodyPost_ret (v := .tuple #[.int .i64 ((r - 1) / 64), .int .i64 ((r - 1) % 64)]) (by simp [results, Try.results28, go_sem]) rfl ⟨rfl, rfl⟩
theorem last_any (w : World) (a : Int) (h1 : 0 ≤ a) (h2 : a ≤ 64) : Calls Try.prog 31 #[.int .i64 a] w fun e w' => e = .returned (.int .i64 ((a + 1) * 64)) ∧ w' = w := by
  go_enter Try.func31, Try.ntmps31
  go_wp2
  go_ret
  exact ⟨rfl, rfl⟩
/-- The least column of a row in a rectangle, behind a cell. -/
def leftI (l ar ac r : Int) : Int := if ar < r then l else max l (min ac 256 + 1)
theorem left_any (w : World) (t l b rr ar ac r : Int) (hac : I64 ac) (hl : I64 l) : Calls Try.prog 33 #[.agg #[.int .i64 t, .int .i64 l, .int .i64 b, .int .i64 rr], .agg #[.int .i64 ar, .int .i64 ac], .int .i64 r] w fun e w' => e = .returned (.int .i64 (leftI l ar ac r)) ∧ Below w.heap.size w w' := by
  obtain ⟨h1, h2⟩ := hac
  obtain ⟨h3, h4⟩ := hl
  by_cases h : ar < r
  · have e : leftI l ar ac r = l := if_pos h
    rw [e]
    clear e
    go_enter Try.func33, Try.ntmps33
    go_wp2
    go_ret
    exact ⟨rfl, by with_reducible (repeat' first | assumption | exact Below.refl _ _ | refine Below.drew ?_ | refine bdrewN ?_ _ | refine Below.setCell ?_ (by first | exact Nat.le_refl _ | (simp; done) | (simp; omega) | omega) _ | refine Below.alloc ?_ (by first | exact Nat.le_refl _ | (simp; done) | (simp; omega) | omega) _)⟩
  · have e : leftI l ar ac r = max l (min ac 256 + 1) := if_neg h
    rw [e]
    clear e
    go_enter Try.func33, Try.ntmps33
    go_wp2
    all_goals go_ret
    all_goals refine ⟨ret1 ?_, by with_reducible (repeat' first | assumption | exact Below.refl _ _ | refine Below.drew ?_ | refine bdrewN ?_ _ | refine Below.setCell ?_ (by first | exact Nat.le_refl _ | (simp; done) | (simp; omega) | omega) _ | refine Below.alloc ?_ (by first | exact Nat.le_refl _ | (simp; done) | (simp; omega) | omega) _)⟩
    all_goals omega
end Go.Proofs.Ytaafpfjmnhmalaa
