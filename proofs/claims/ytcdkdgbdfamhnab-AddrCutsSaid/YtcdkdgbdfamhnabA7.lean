/- The contracts of Cut (of package addr and of the document's answer) and of lastOf: of every cell and every two counts the rectangle from the cell on, cut at the sheet's edge; the zero one where the cell may not be or a count is not above 0. New memory alone is made. No condition but that the counts are int64. -/
import Derived.Test.YtcdkdgbdfamhnabA6
namespace Go.Proofs.Ytcdkdgbdfamhnab
open Go.RowKit
set_option linter.all false
/-- The last of n from a on, none beyond e. -/
def cutI (a n e : Int) : Int := if n ≤ e - a then a + n - 1 else e
theorem cutI_l (a n e : Int) (h : n ≤ e - a + 1) : cutI a n e = a + n - 1 := by unfold cutI; split <;> omega
theorem cutI_r (a n e : Int) (h : e - a + 1 ≤ n) : cutI a n e = e := by unfold cutI; split <;> omega
theorem cutI_is (a n e : Int) (h : a ≤ e) (h' : 1 ≤ n) : a ≤ cutI a n e ∧ cutI a n e ≤ e := by unfold cutI; split <;> omega
theorem lastOf_any (a n d : Int) (w : World) (h1 : 1 ≤ a) (h2 : a ≤ d) (h3 : d ≤ 4096) (h4 : 1 ≤ n) (h5 : n ≤ 9223372036854775807) : Calls Try.prog 20 #[.int .i64 a, .int .i64 n, .int .i64 d] w fun e w' => e = .returned (.int .i64 (cutI a n d)) ∧ w' = w := by
  go_enter Try.func20, Try.ntmps20
  go_wp2
  all_goals go_ret
  all_goals refine ⟨ret1 ?_, rfl⟩
  all_goals (first | rw [cutI_l a n d (by omega)] | rw [cutI_r a n d (by omega)])
  all_goals (first | done | omega)
set_option maxHeartbeats 1000000 in
theorem cut1 (a b n m : Int) (w : World) (h1 : mayC a b = false) : Calls Try.prog 14 #[(.agg #[.int .i64 (a), .int .i64 (b)]), .int .i64 n, .int .i64 m] w fun e w' => e = .returned (.agg #[.int .i64 (0), .int .i64 (0), .int .i64 (0), .int .i64 (0)]) ∧ Below w.heap.size w w' := by
  go_enter Try.func14, Try.ntmps14
  go_wp2_with (go_at_call 11; refine (may_any _ _ _).mono ?_; rintro e w1 ⟨rfl, hb⟩; have hB : Below w.heap.size w w1 := bup (by with_reducible (repeat' first | assumption | exact Below.refl _ _ | refine Below.drew ?_ | refine Below.setCell ?_ (by first | exact Nat.le_refl _ | (simp; done) | (simp; omega) | omega) _ | refine Below.alloc ?_ (by first | exact Nat.le_refl _ | (simp; done) | (simp; omega) | omega) _)) hb; have o0 : Own w1 (w.heap.size) #[.int .i64 (a), .int .i64 (b)] := Own.keep (by with_reducible (repeat' first | assumption | refine Own.drew ?_ | (refine Own.at ?_; first | rfl | (simp; done)) | refine Own.past ?_ _)) hb; have c0 := o0.cell; have f0 := o0.fro; have l0 := o0.lt; have o1 : Own w1 (w.heap.size + 1) #[.int .i64 (0), .int .i64 (0), .int .i64 (0), .int .i64 (0)] := Own.keep (by with_reducible (repeat' first | assumption | refine Own.drew ?_ | (refine Own.at ?_; first | rfl | (simp; done)) | refine Own.past ?_ _)) hb; have c1 := o1.cell; have f1 := o1.fro; have l1 := o1.lt)
  all_goals refine bodyPost_ret (v := (.agg #[.int .i64 (0), .int .i64 (0), .int .i64 (0), .int .i64 (0)])) ?_ rfl ⟨rfl, by with_reducible (repeat' first | assumption | exact Below.refl _ _ | refine Below.drew ?_ | refine Below.setCell ?_ (by first | exact Nat.le_refl _ | (simp; done) | (simp; omega) | omega) _ | refine Below.alloc ?_ (by first | exact Nat.le_refl _ | (simp; done) | (simp; omega) | omega) _)⟩
  all_goals simp [results, Try.results14, go_sem, c1, f1]
set_option maxHeartbeats 1000000 in
theorem cut2 (a b n m : Int) (w : World) (h1 : mayC a b = true) (h2 : n ≤ 0) (h2' : decide (n ≤ 0) = true) : Calls Try.prog 14 #[(.agg #[.int .i64 (a), .int .i64 (b)]), .int .i64 n, .int .i64 m] w fun e w' => e = .returned (.agg #[.int .i64 (0), .int .i64 (0), .int .i64 (0), .int .i64 (0)]) ∧ Below w.heap.size w w' := by
  go_enter Try.func14, Try.ntmps14
  go_wp2_with (go_at_call 11; refine (may_any _ _ _).mono ?_; rintro e w1 ⟨rfl, hb⟩; have hB : Below w.heap.size w w1 := bup (by with_reducible (repeat' first | assumption | exact Below.refl _ _ | refine Below.drew ?_ | refine Below.setCell ?_ (by first | exact Nat.le_refl _ | (simp; done) | (simp; omega) | omega) _ | refine Below.alloc ?_ (by first | exact Nat.le_refl _ | (simp; done) | (simp; omega) | omega) _)) hb; have o0 : Own w1 (w.heap.size) #[.int .i64 (a), .int .i64 (b)] := Own.keep (by with_reducible (repeat' first | assumption | refine Own.drew ?_ | (refine Own.at ?_; first | rfl | (simp; done)) | refine Own.past ?_ _)) hb; have c0 := o0.cell; have f0 := o0.fro; have l0 := o0.lt; have o1 : Own w1 (w.heap.size + 1) #[.int .i64 (0), .int .i64 (0), .int .i64 (0), .int .i64 (0)] := Own.keep (by with_reducible (repeat' first | assumption | refine Own.drew ?_ | (refine Own.at ?_; first | rfl | (simp; done)) | refine Own.past ?_ _)) hb; have c1 := o1.cell; have f1 := o1.fro; have l1 := o1.lt)
  all_goals refine bodyPost_ret (v := (.agg #[.int .i64 (0), .int .i64 (0), .int .i64 (0), .int .i64 (0)])) ?_ rfl ⟨rfl, by with_reducible (repeat' first | assumption | exact Below.refl _ _ | refine Below.drew ?_ | refine Below.setCell ?_ (by first | exact Nat.le_refl _ | (simp; done) | (simp; omega) | omega) _ | refine Below.alloc ?_ (by first | exact Nat.le_refl _ | (simp; done) | (simp; omega) | omega) _)⟩
  all_goals simp [results, Try.results14, go_sem, c1, f1]
set_option maxHeartbeats 1000000 in
theorem cut3 (a b n m : Int) (w : World) (h1 : mayC a b = true) (h2 : 0 < n) (h2' : decide (n ≤ 0) = false) (h3 : m ≤ 0) (h3' : decide (m ≤ 0) = true) : Calls Try.prog 14 #[(.agg #[.int .i64 (a), .int .i64 (b)]), .int .i64 n, .int .i64 m] w fun e w' => e = .returned (.agg #[.int .i64 (0), .int .i64 (0), .int .i64 (0), .int .i64 (0)]) ∧ Below w.heap.size w w' := by
  go_enter Try.func14, Try.ntmps14
  go_wp2_with (go_at_call 11; refine (may_any _ _ _).mono ?_; rintro e w1 ⟨rfl, hb⟩; have hB : Below w.heap.size w w1 := bup (by with_reducible (repeat' first | assumption | exact Below.refl _ _ | refine Below.drew ?_ | refine Below.setCell ?_ (by first | exact Nat.le_refl _ | (simp; done) | (simp; omega) | omega) _ | refine Below.alloc ?_ (by first | exact Nat.le_refl _ | (simp; done) | (simp; omega) | omega) _)) hb; have o0 : Own w1 (w.heap.size) #[.int .i64 (a), .int .i64 (b)] := Own.keep (by with_reducible (repeat' first | assumption | refine Own.drew ?_ | (refine Own.at ?_; first | rfl | (simp; done)) | refine Own.past ?_ _)) hb; have c0 := o0.cell; have f0 := o0.fro; have l0 := o0.lt; have o1 : Own w1 (w.heap.size + 1) #[.int .i64 (0), .int .i64 (0), .int .i64 (0), .int .i64 (0)] := Own.keep (by with_reducible (repeat' first | assumption | refine Own.drew ?_ | (refine Own.at ?_; first | rfl | (simp; done)) | refine Own.past ?_ _)) hb; have c1 := o1.cell; have f1 := o1.fro; have l1 := o1.lt)
  all_goals refine bodyPost_ret (v := (.agg #[.int .i64 (0), .int .i64 (0), .int .i64 (0), .int .i64 (0)])) ?_ rfl ⟨rfl, by with_reducible (repeat' first | assumption | exact Below.refl _ _ | refine Below.drew ?_ | refine Below.setCell ?_ (by first | exact Nat.le_refl _ | (simp; done) | (simp; omega) | omega) _ | refine Below.alloc ?_ (by first | exact Nat.le_refl _ | (simp; done) | (simp; omega) | omega) _)⟩
  all_goals simp [results, Try.results14, go_sem, c1, f1]
set_option maxHeartbeats 1000000 in
theorem rcut1 (a b n m : Int) (w : World) (h1 : mayC a b = false) : Calls Try.prog 15 #[(.agg #[.int .i64 (a), .int .i64 (b)]), .int .i64 n, .int .i64 m] w fun e w' => e = .returned (.agg #[.int .i64 (0), .int .i64 (0), .int .i64 (0), .int .i64 (0)]) ∧ Below w.heap.size w w' := by
  go_enter Try.func15, Try.ntmps15
  go_wp2_with (go_at_call 16; refine (rmay_any _ _ _).mono ?_; rintro e w1 ⟨rfl, hb⟩; have hB : Below w.heap.size w w1 := bup (by with_reducible (repeat' first | assumption | exact Below.refl _ _ | refine Below.drew ?_ | refine Below.setCell ?_ (by first | exact Nat.le_refl _ | (simp; done) | (simp; omega) | omega) _ | refine Below.alloc ?_ (by first | exact Nat.le_refl _ | (simp; done) | (simp; omega) | omega) _)) hb; have o0 : Own w1 (w.heap.size) #[.int .i64 (a), .int .i64 (b)] := Own.keep (by with_reducible (repeat' first | assumption | refine Own.drew ?_ | (refine Own.at ?_; first | rfl | (simp; done)) | refine Own.past ?_ _)) hb; have c0 := o0.cell; have f0 := o0.fro; have l0 := o0.lt; have o1 : Own w1 (w.heap.size + 1) #[.int .i64 (0), .int .i64 (0), .int .i64 (0), .int .i64 (0)] := Own.keep (by with_reducible (repeat' first | assumption | refine Own.drew ?_ | (refine Own.at ?_; first | rfl | (simp; done)) | refine Own.past ?_ _)) hb; have c1 := o1.cell; have f1 := o1.fro; have l1 := o1.lt)
  all_goals refine bodyPost_ret (v := (.agg #[.int .i64 (0), .int .i64 (0), .int .i64 (0), .int .i64 (0)])) ?_ rfl ⟨rfl, by with_reducible (repeat' first | assumption | exact Below.refl _ _ | refine Below.drew ?_ | refine Below.setCell ?_ (by first | exact Nat.le_refl _ | (simp; done) | (simp; omega) | omega) _ | refine Below.alloc ?_ (by first | exact Nat.le_refl _ | (simp; done) | (simp; omega) | omega) _)⟩
  all_goals simp [results, Try.results15, go_sem, c1, f1]
set_option maxHeartbeats 1000000 in
theorem rcut2 (a b n m : Int) (w : World) (h1 : mayC a b = true) (h2 : n ≤ 0) (h2' : decide (n ≤ 0) = true) : Calls Try.prog 15 #[(.agg #[.int .i64 (a), .int .i64 (b)]), .int .i64 n, .int .i64 m] w fun e w' => e = .returned (.agg #[.int .i64 (0), .int .i64 (0), .int .i64 (0), .int .i64 (0)]) ∧ Below w.heap.size w w' := by
  go_enter Try.func15, Try.ntmps15
  go_wp2_with (go_at_call 16; refine (rmay_any _ _ _).mono ?_; rintro e w1 ⟨rfl, hb⟩; have hB : Below w.heap.size w w1 := bup (by with_reducible (repeat' first | assumption | exact Below.refl _ _ | refine Below.drew ?_ | refine Below.setCell ?_ (by first | exact Nat.le_refl _ | (simp; done) | (simp; omega) | omega) _ | refine Below.alloc ?_ (by first | exact Nat.le_refl _ | (simp; done) | (simp; omega) | omega) _)) hb; have o0 : Own w1 (w.heap.size) #[.int .i64 (a), .int .i64 (b)] := Own.keep (by with_reducible (repeat' first | assumption | refine Own.drew ?_ | (refine Own.at ?_; first | rfl | (simp; done)) | refine Own.past ?_ _)) hb; have c0 := o0.cell; have f0 := o0.fro; have l0 := o0.lt; have o1 : Own w1 (w.heap.size + 1) #[.int .i64 (0), .int .i64 (0), .int .i64 (0), .int .i64 (0)] := Own.keep (by with_reducible (repeat' first | assumption | refine Own.drew ?_ | (refine Own.at ?_; first | rfl | (simp; done)) | refine Own.past ?_ _)) hb; have c1 := o1.cell; have f1 := o1.fro; have l1 := o1.lt)
  all_goals refine bodyPost_ret (v := (.agg #[.int .i64 (0), .int .i64 (0), .int .i64 (0), .int .i64 (0)])) ?_ rfl ⟨rfl, by with_reducible (repeat' first | assumption | exact Below.refl _ _ | refine Below.drew ?_ | refine Below.setCell ?_ (by first | exact Nat.le_refl _ | (simp; done) | (simp; omega) | omega) _ | refine Below.alloc ?_ (by first | exact Nat.le_refl _ | (simp; done) | (simp; omega) | omega) _)⟩
  all_goals simp [results, Try.results15, go_sem, c1, f1]
set_option maxHeartbeats 1000000 in
theorem rcut3 (a b n m : Int) (w : World) (h1 : mayC a b = true) (h2 : 0 < n) (h2' : decide (n ≤ 0) = false) (h3 : m ≤ 0) (h3' : decide (m ≤ 0) = true) : Calls Try.prog 15 #[(.agg #[.int .i64 (a), .int .i64 (b)]), .int .i64 n, .int .i64 m] w fun e w' => e = .returned (.agg #[.int .i64 (0), .int .i64 (0), .int .i64 (0), .int .i64 (0)]) ∧ Below w.heap.size w w' := by
  go_enter Try.func15, Try.ntmps15
  go_wp2_with (go_at_call 16; refine (rmay_any _ _ _).mono ?_; rintro e w1 ⟨rfl, hb⟩; have hB : Below w.heap.size w w1 := bup (by with_reducible (repeat' first | assumption | exact Below.refl _ _ | refine Below.drew ?_ | refine Below.setCell ?_ (by first | exact Nat.le_refl _ | (simp; done) | (simp; omega) | omega) _ | refine Below.alloc ?_ (by first | exact Nat.le_refl _ | (simp; done) | (simp; omega) | omega) _)) hb; have o0 : Own w1 (w.heap.size) #[.int .i64 (a), .int .i64 (b)] := Own.keep (by with_reducible (repeat' first | assumption | refine Own.drew ?_ | (refine Own.at ?_; first | rfl | (simp; done)) | refine Own.past ?_ _)) hb; have c0 := o0.cell; have f0 := o0.fro; have l0 := o0.lt; have o1 : Own w1 (w.heap.size + 1) #[.int .i64 (0), .int .i64 (0), .int .i64 (0), .int .i64 (0)] := Own.keep (by with_reducible (repeat' first | assumption | refine Own.drew ?_ | (refine Own.at ?_; first | rfl | (simp; done)) | refine Own.past ?_ _)) hb; have c1 := o1.cell; have f1 := o1.fro; have l1 := o1.lt)
  all_goals refine bodyPost_ret (v := (.agg #[.int .i64 (0), .int .i64 (0), .int .i64 (0), .int .i64 (0)])) ?_ rfl ⟨rfl, by with_reducible (repeat' first | assumption | exact Below.refl _ _ | refine Below.drew ?_ | refine Below.setCell ?_ (by first | exact Nat.le_refl _ | (simp; done) | (simp; omega) | omega) _ | refine Below.alloc ?_ (by first | exact Nat.le_refl _ | (simp; done) | (simp; omega) | omega) _)⟩
  all_goals simp [results, Try.results15, go_sem, c1, f1]
set_option maxHeartbeats 1000000 in
theorem cut4 (a b n m : Int) (w : World) (h1 : mayC a b = true) (h2 : 0 < n) (h2' : decide (n ≤ 0) = false) (h3 : 0 < m) (h3' : decide (m ≤ 0) = false) (hn : n ≤ 9223372036854775807) (hm : m ≤ 9223372036854775807) (ha1 : 1 ≤ a) (ha2 : a ≤ 4096) (hb1 : 1 ≤ b) (hb2 : b ≤ 256) : Calls Try.prog 14 #[(.agg #[.int .i64 (a), .int .i64 (b)]), .int .i64 n, .int .i64 m] w fun e w' => e = .returned (.agg #[.int .i64 (a), .int .i64 (b), .int .i64 (cutI a n 4096), .int .i64 (cutI b m 256)]) ∧ Below w.heap.size w w' := by
  go_enter Try.func14, Try.ntmps14
  go_wp2_with (go_at_call 11; refine (may_any _ _ _).mono ?_; rintro e w1 ⟨rfl, hb⟩; have hB : Below w.heap.size w w1 := bup (by with_reducible (repeat' first | assumption | exact Below.refl _ _ | refine Below.drew ?_ | refine Below.setCell ?_ (by first | exact Nat.le_refl _ | (simp; done) | (simp; omega) | omega) _ | refine Below.alloc ?_ (by first | exact Nat.le_refl _ | (simp; done) | (simp; omega) | omega) _)) hb; have o0 : Own w1 (w.heap.size) #[.int .i64 (a), .int .i64 (b)] := Own.keep (by with_reducible (repeat' first | assumption | refine Own.drew ?_ | (refine Own.at ?_; first | rfl | (simp; done)) | refine Own.past ?_ _)) hb; have c0 := o0.cell; have f0 := o0.fro; have l0 := o0.lt; have o1 : Own w1 (w.heap.size + 1) #[.int .i64 (0), .int .i64 (0), .int .i64 (0), .int .i64 (0)] := Own.keep (by with_reducible (repeat' first | assumption | refine Own.drew ?_ | (refine Own.at ?_; first | rfl | (simp; done)) | refine Own.past ?_ _)) hb; have c1 := o1.cell; have f1 := o1.fro; have l1 := o1.lt)
  all_goals go_region_held3 (fun w' => w'.cell? ⟨w.heap.size, 0, none⟩ = some (.int .i64 (a)) ∧ w'.cell? ⟨w.heap.size, 1, none⟩ = some (.int .i64 (b))) ((repeat' apply And.intro) <;> (first | (go_keep; done) | (go_simp; done)))
    ((go_at_call 20; refine (lastOf_any _ _ _ _ (by omega) (by omega) (by omega) (by omega) (by omega)).mono ?_; rintro e w5 ⟨rfl, rfl⟩))
  all_goals go_wp2
  all_goals refine bodyPost_ret (v := (.agg #[.int .i64 (a), .int .i64 (b), .int .i64 (cutI a n 4096), .int .i64 (cutI b m 256)])) ?_ rfl ⟨rfl, by with_reducible (repeat' first | assumption | exact Below.refl _ _ | refine Below.drew ?_ | refine Below.setCell ?_ (by first | exact Nat.le_refl _ | (simp; done) | (simp; omega) | omega) _ | refine Below.alloc ?_ (by first | exact Nat.le_refl _ | (simp; done) | (simp; omega) | omega) _)⟩
  all_goals simp [results, Try.results14, go_sem, c1, f1]
set_option maxHeartbeats 4000000 in
theorem rcut4 (a b n m : Int) (w : World) (h1 : mayC a b = true) (h2 : 0 < n) (h2' : decide (n ≤ 0) = false) (h3 : 0 < m) (h3' : decide (m ≤ 0) = false) (hn : n ≤ 9223372036854775807) (hm : m ≤ 9223372036854775807) (ha1 : 1 ≤ a) (ha2 : a ≤ 4096) (hb1 : 1 ≤ b) (hb2 : b ≤ 256) : Calls Try.prog 15 #[(.agg #[.int .i64 (a), .int .i64 (b)]), .int .i64 n, .int .i64 m] w fun e w' => e = .returned (.agg #[.int .i64 (a), .int .i64 (b), .int .i64 (cutI a n 4096), .int .i64 (cutI b m 256)]) ∧ Below w.heap.size w w' := by
  go_enter Try.func15, Try.ntmps15
  go_wp2_with (go_at_call 16; refine (rmay_any _ _ _).mono ?_; rintro e w1 ⟨rfl, hb⟩; have hB : Below w.heap.size w w1 := bup (by with_reducible (repeat' first | assumption | exact Below.refl _ _ | refine Below.drew ?_ | refine Below.setCell ?_ (by first | exact Nat.le_refl _ | (simp; done) | (simp; omega) | omega) _ | refine Below.alloc ?_ (by first | exact Nat.le_refl _ | (simp; done) | (simp; omega) | omega) _)) hb; have o0 : Own w1 (w.heap.size) #[.int .i64 (a), .int .i64 (b)] := Own.keep (by with_reducible (repeat' first | assumption | refine Own.drew ?_ | (refine Own.at ?_; first | rfl | (simp; done)) | refine Own.past ?_ _)) hb; have c0 := o0.cell; have f0 := o0.fro; have l0 := o0.lt; have o1 : Own w1 (w.heap.size + 1) #[.int .i64 (0), .int .i64 (0), .int .i64 (0), .int .i64 (0)] := Own.keep (by with_reducible (repeat' first | assumption | refine Own.drew ?_ | (refine Own.at ?_; first | rfl | (simp; done)) | refine Own.past ?_ _)) hb; have c1 := o1.cell; have f1 := o1.fro; have l1 := o1.lt)
  all_goals refine bodyPost_ret (v := (.agg #[.int .i64 (a), .int .i64 (b), .int .i64 (cutI a n 4096), .int .i64 (cutI b m 256)])) ?_ rfl ⟨rfl, by with_reducible (repeat' first | assumption | exact Below.refl _ _ | refine Below.drew ?_ | refine Below.setCell ?_ (by first | exact Nat.le_refl _ | (simp; done) | (simp; omega) | omega) _ | refine Below.alloc ?_ (by first | exact Nat.le_refl _ | (simp; done) | (simp; omega) | omega) _)⟩
  all_goals first | rw [cutI_l a n 4096 (by omega)] | rw [cutI_r a n 4096 (by omega)]
  all_goals first | rw [cutI_l b m 256 (by omega)] | rw [cutI_r b m 256 (by omega)]
  all_goals simp [results, Try.results15, go_sem, c1, f1]
/-- The rectangle is one (else the zero one). -/
def cutG (a b n m : Int) : Bool := mayC a b && decide (0 < n) && decide (0 < m)
def cuT (a b n m : Int) : Int := if cutG a b n m then a else 0
def cuL (a b n m : Int) : Int := if cutG a b n m then b else 0
def cuB (a b n m : Int) : Int := if cutG a b n m then cutI a n 4096 else 0
def cuR (a b n m : Int) : Int := if cutG a b n m then cutI b m 256 else 0
theorem cut_any (a b n m : Int) (w : World) (hn : I64 n) (hm : I64 m) : Calls Try.prog 14 #[(.agg #[.int .i64 (a), .int .i64 (b)]), .int .i64 n, .int .i64 m] w fun e w' => e = .returned (.agg #[.int .i64 (cuT a b n m), .int .i64 (cuL a b n m), .int .i64 (cuB a b n m), .int .i64 (cuR a b n m)]) ∧ Below w.heap.size w w' := by
  cases h1 : mayC a b
  · simpa [cuT, cuL, cuB, cuR, cutG, h1] using cut1 a b n m w h1
  by_cases h2 : 0 < n
  · have h2' : decide (n ≤ 0) = false := by simp; omega
    by_cases h3 : 0 < m
    · have h3' : decide (m ≤ 0) = false := by simp; omega
      obtain ⟨k1, k2, k3, k4⟩ := mayC_is h1
      simpa [cuT, cuL, cuB, cuR, cutG, h1, h2, h3] using cut4 a b n m w h1 h2 h2' h3 h3' hn.2 hm.2 k1 k2 k3 k4
    · simpa [cuT, cuL, cuB, cuR, cutG, h1, h2, h3] using cut3 a b n m w h1 h2 h2' (by omega) (by simp; omega)
  · simpa [cuT, cuL, cuB, cuR, cutG, h1, h2] using cut2 a b n m w h1 (by omega) (by simp; omega)
theorem rcut_any (a b n m : Int) (w : World) (hn : I64 n) (hm : I64 m) : Calls Try.prog 15 #[(.agg #[.int .i64 (a), .int .i64 (b)]), .int .i64 n, .int .i64 m] w fun e w' => e = .returned (.agg #[.int .i64 (cuT a b n m), .int .i64 (cuL a b n m), .int .i64 (cuB a b n m), .int .i64 (cuR a b n m)]) ∧ Below w.heap.size w w' := by
  cases h1 : mayC a b
  · simpa [cuT, cuL, cuB, cuR, cutG, h1] using rcut1 a b n m w h1
  by_cases h2 : 0 < n
  · have h2' : decide (n ≤ 0) = false := by simp; omega
    by_cases h3 : 0 < m
    · have h3' : decide (m ≤ 0) = false := by simp; omega
      obtain ⟨k1, k2, k3, k4⟩ := mayC_is h1
      simpa [cuT, cuL, cuB, cuR, cutG, h1, h2, h3] using rcut4 a b n m w h1 h2 h2' h3 h3' hn.2 hm.2 k1 k2 k3 k4
    · simpa [cuT, cuL, cuB, cuR, cutG, h1, h2, h3] using rcut3 a b n m w h1 h2 h2' (by omega) (by simp; omega)
  · simpa [cuT, cuL, cuB, cuR, cutG, h1, h2] using rcut2 a b n m w h1 (by omega) (by simp; omega)
end Go.Proofs.Ytcdkdgbdfamhnab
