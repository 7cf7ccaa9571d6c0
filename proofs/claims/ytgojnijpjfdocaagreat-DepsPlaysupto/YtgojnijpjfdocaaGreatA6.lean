/- The contracts of Span (of package addr and of the document's answer) and of the document's less and more: of every two cells the least rectangle that has both, the zero one where one of them may not be. New memory alone is made. No condition. -/
import Derived.Test.YtgojnijpjfdocaaGreatA2
namespace Go.Proofs.YtgojnijpjfdocaaGreat
open Go.RowKit
set_option linter.all false
/-- The lesser, the greater one of two. -/
def lsI (a b : Int) : Int := if a < b then a else b
def mrI (a b : Int) : Int := if b < a then a else b
theorem lsI_is (a b : Int) : lsI a b ≤ a ∧ lsI a b ≤ b ∧ (lsI a b = a ∨ lsI a b = b) := by unfold lsI; split <;> omega
theorem mrI_is (a b : Int) : a ≤ mrI a b ∧ b ≤ mrI a b ∧ (mrI a b = a ∨ mrI a b = b) := by unfold mrI; split <;> omega
theorem lsI_l (a b : Int) (h : a ≤ b) : lsI a b = a := by unfold lsI; split <;> omega
theorem lsI_r (a b : Int) (h : b ≤ a) : lsI a b = b := by unfold lsI; split <;> omega
theorem mrI_l (a b : Int) (h : b ≤ a) : mrI a b = a := by unfold mrI; split <;> omega
theorem mrI_r (a b : Int) (h : a ≤ b) : mrI a b = b := by unfold mrI; split <;> omega
theorem min_ls (a b : Int) : min a b = lsI a b := by unfold lsI; split <;> omega
theorem max_mr (a b : Int) : max a b = mrI a b := by unfold mrI; split <;> omega
set_option maxHeartbeats 1000000 in
theorem span1 (a b a' b' : Int) (w : World) (h1 : mayC a b = false) : Calls Tryz.prog 91 #[(.agg #[.int .i64 (a), .int .i64 (b)]), (.agg #[.int .i64 (a'), .int .i64 (b')])] w fun e w' => e = .returned (.agg #[.int .i64 (0), .int .i64 (0), .int .i64 (0), .int .i64 (0)]) ∧ Below w.heap.size w w' := by
  go_enter Tryz.func91, Tryz.ntmps91
  go_wp2_with (go_at_call 24; refine (may_any _ _ _).mono ?_; rintro e w1 ⟨rfl, hb⟩; have hB : Below w.heap.size w w1 := bup (by with_reducible (repeat' first | assumption | exact Below.refl _ _ | refine Below.drew ?_ | refine Below.setCell ?_ (by first | exact Nat.le_refl _ | (simp; done) | (simp; omega) | omega) _ | refine Below.alloc ?_ (by first | exact Nat.le_refl _ | (simp; done) | (simp; omega) | omega) _)) hb; have o0 : Own w1 (w.heap.size) #[.int .i64 (a), .int .i64 (b)] := Own.keep (by with_reducible (repeat' first | assumption | refine Own.drew ?_ | (refine Own.at ?_; first | rfl | (simp; done)) | refine Own.past ?_ _)) hb; have c0 := o0.cell; have f0 := o0.fro; have l0 := o0.lt; have o1 : Own w1 (w.heap.size + 1) #[.int .i64 (a'), .int .i64 (b')] := Own.keep (by with_reducible (repeat' first | assumption | refine Own.drew ?_ | (refine Own.at ?_; first | rfl | (simp; done)) | refine Own.past ?_ _)) hb; have c1 := o1.cell; have f1 := o1.fro; have l1 := o1.lt; have o2 : Own w1 (w.heap.size + 1 + 1) #[.int .i64 (0), .int .i64 (0), .int .i64 (0), .int .i64 (0)] := Own.keep (by with_reducible (repeat' first | assumption | refine Own.drew ?_ | (refine Own.at ?_; first | rfl | (simp; done)) | refine Own.past ?_ _)) hb; have c2 := o2.cell; have f2 := o2.fro; have l2 := o2.lt)
  all_goals exact bodyPost_ret (v := (.agg #[.int .i64 (0), .int .i64 (0), .int .i64 (0), .int .i64 (0)])) (by simp [results, Tryz.results91, go_sem, c2, f2]) rfl ⟨rfl, by with_reducible (repeat' first | assumption | exact Below.refl _ _ | refine Below.drew ?_ | refine Below.setCell ?_ (by first | exact Nat.le_refl _ | (simp; done) | (simp; omega) | omega) _ | refine Below.alloc ?_ (by first | exact Nat.le_refl _ | (simp; done) | (simp; omega) | omega) _)⟩
set_option maxHeartbeats 1000000 in
theorem span2 (a b a' b' : Int) (w : World) (h1 : mayC a b = true) (h2 : mayC a' b' = false) : Calls Tryz.prog 91 #[(.agg #[.int .i64 (a), .int .i64 (b)]), (.agg #[.int .i64 (a'), .int .i64 (b')])] w fun e w' => e = .returned (.agg #[.int .i64 (0), .int .i64 (0), .int .i64 (0), .int .i64 (0)]) ∧ Below w.heap.size w w' := by
  go_enter Tryz.func91, Tryz.ntmps91
  go_wp2_with (go_at_call 24; refine (may_any _ _ _).mono ?_; rintro e w1 ⟨rfl, hb⟩; have hB : Below w.heap.size w w1 := bup (by with_reducible (repeat' first | assumption | exact Below.refl _ _ | refine Below.drew ?_ | refine Below.setCell ?_ (by first | exact Nat.le_refl _ | (simp; done) | (simp; omega) | omega) _ | refine Below.alloc ?_ (by first | exact Nat.le_refl _ | (simp; done) | (simp; omega) | omega) _)) hb; have o0 : Own w1 (w.heap.size) #[.int .i64 (a), .int .i64 (b)] := Own.keep (by with_reducible (repeat' first | assumption | refine Own.drew ?_ | (refine Own.at ?_; first | rfl | (simp; done)) | refine Own.past ?_ _)) hb; have c0 := o0.cell; have f0 := o0.fro; have l0 := o0.lt; have o1 : Own w1 (w.heap.size + 1) #[.int .i64 (a'), .int .i64 (b')] := Own.keep (by with_reducible (repeat' first | assumption | refine Own.drew ?_ | (refine Own.at ?_; first | rfl | (simp; done)) | refine Own.past ?_ _)) hb; have c1 := o1.cell; have f1 := o1.fro; have l1 := o1.lt; have o2 : Own w1 (w.heap.size + 1 + 1) #[.int .i64 (0), .int .i64 (0), .int .i64 (0), .int .i64 (0)] := Own.keep (by with_reducible (repeat' first | assumption | refine Own.drew ?_ | (refine Own.at ?_; first | rfl | (simp; done)) | refine Own.past ?_ _)) hb; have c2 := o2.cell; have f2 := o2.fro; have l2 := o2.lt)
  all_goals exact bodyPost_ret (v := (.agg #[.int .i64 (0), .int .i64 (0), .int .i64 (0), .int .i64 (0)])) (by simp [results, Tryz.results91, go_sem, c2, f2]) rfl ⟨rfl, by with_reducible (repeat' first | assumption | exact Below.refl _ _ | refine Below.drew ?_ | refine Below.setCell ?_ (by first | exact Nat.le_refl _ | (simp; done) | (simp; omega) | omega) _ | refine Below.alloc ?_ (by first | exact Nat.le_refl _ | (simp; done) | (simp; omega) | omega) _)⟩
set_option maxHeartbeats 1000000 in
theorem span3 (a b a' b' : Int) (w : World) (h1 : mayC a b = true) (h2 : mayC a' b' = true) : Calls Tryz.prog 91 #[(.agg #[.int .i64 (a), .int .i64 (b)]), (.agg #[.int .i64 (a'), .int .i64 (b')])] w fun e w' => e = .returned (.agg #[.int .i64 (lsI a a'), .int .i64 (lsI b b'), .int .i64 (mrI a a'), .int .i64 (mrI b b')]) ∧ Below w.heap.size w w' := by
  go_enter Tryz.func91, Tryz.ntmps91
  go_wp2_with (go_at_call 24; refine (may_any _ _ _).mono ?_; rintro e w1 ⟨rfl, hb⟩; have hB : Below w.heap.size w w1 := bup (by with_reducible (repeat' first | assumption | exact Below.refl _ _ | refine Below.drew ?_ | refine Below.setCell ?_ (by first | exact Nat.le_refl _ | (simp; done) | (simp; omega) | omega) _ | refine Below.alloc ?_ (by first | exact Nat.le_refl _ | (simp; done) | (simp; omega) | omega) _)) hb; have o0 : Own w1 (w.heap.size) #[.int .i64 (a), .int .i64 (b)] := Own.keep (by with_reducible (repeat' first | assumption | refine Own.drew ?_ | (refine Own.at ?_; first | rfl | (simp; done)) | refine Own.past ?_ _)) hb; have c0 := o0.cell; have f0 := o0.fro; have l0 := o0.lt; have o1 : Own w1 (w.heap.size + 1) #[.int .i64 (a'), .int .i64 (b')] := Own.keep (by with_reducible (repeat' first | assumption | refine Own.drew ?_ | (refine Own.at ?_; first | rfl | (simp; done)) | refine Own.past ?_ _)) hb; have c1 := o1.cell; have f1 := o1.fro; have l1 := o1.lt; have o2 : Own w1 (w.heap.size + 1 + 1) #[.int .i64 (0), .int .i64 (0), .int .i64 (0), .int .i64 (0)] := Own.keep (by with_reducible (repeat' first | assumption | refine Own.drew ?_ | (refine Own.at ?_; first | rfl | (simp; done)) | refine Own.past ?_ _)) hb; have c2 := o2.cell; have f2 := o2.fro; have l2 := o2.lt)
  all_goals refine bodyPost_ret (v := (.agg #[.int .i64 (lsI a a'), .int .i64 (lsI b b'), .int .i64 (mrI a a'), .int .i64 (mrI b b')])) ?_ rfl ⟨rfl, by with_reducible (repeat' first | assumption | exact Below.refl _ _ | refine Below.drew ?_ | refine Below.setCell ?_ (by first | exact Nat.le_refl _ | (simp; done) | (simp; omega) | omega) _ | refine Below.alloc ?_ (by first | exact Nat.le_refl _ | (simp; done) | (simp; omega) | omega) _)⟩
  all_goals first | rw [lsI_l a a' (by omega)] | rw [lsI_r a a' (by omega)]
  all_goals first | rw [lsI_l b b' (by omega)] | rw [lsI_r b b' (by omega)]
  all_goals first | rw [mrI_l a a' (by omega)] | rw [mrI_r a a' (by omega)]
  all_goals first | rw [mrI_l b b' (by omega)] | rw [mrI_r b b' (by omega)]
  all_goals simp [results, Tryz.results91, go_sem, c2, f2]
/-- The least rectangle that has both cells: its four numbers (0, where one of them may not be). -/
def spT (a b a' b' : Int) : Int := if mayC a b && mayC a' b' then lsI a a' else 0
def spL (a b a' b' : Int) : Int := if mayC a b && mayC a' b' then lsI b b' else 0
def spB (a b a' b' : Int) : Int := if mayC a b && mayC a' b' then mrI a a' else 0
def spR (a b a' b' : Int) : Int := if mayC a b && mayC a' b' then mrI b b' else 0
theorem span_any (a b a' b' : Int) (w : World) : Calls Tryz.prog 91 #[(.agg #[.int .i64 (a), .int .i64 (b)]), (.agg #[.int .i64 (a'), .int .i64 (b')])] w fun e w' => e = .returned (.agg #[.int .i64 (spT a b a' b'), .int .i64 (spL a b a' b'), .int .i64 (spB a b a' b'), .int .i64 (spR a b a' b')]) ∧ Below w.heap.size w w' := by
  cases h1 : mayC a b
  · simpa [spT, spL, spB, spR, h1] using span1 a b a' b' w h1
  cases h2 : mayC a' b'
  · simpa [spT, spL, spB, spR, h1, h2] using span2 a b a' b' w h1 h2
  · simpa [spT, spL, spB, spR, h1, h2] using span3 a b a' b' w h1 h2
end Go.Proofs.YtgojnijpjfdocaaGreat
