/- The contracts of the document's one and two at SQRT and POWER, in the words of the code's side. New memory alone is made. · The contract of the document's two at QUOT, in the words of the code's side. New memory alone is made. -/
import Derived.Test.YtfpbcokfianjaaaGreatQRRoundNOb
import Derived.Test.YtfpbcokfianjaaaGreatQPwRPowQPwRPowZ
namespace Go.Proofs.YtfpbcokfianjaaaGreat
open Go.RowKit
set_option linter.all false
set_option maxRecDepth 100000
theorem one_sqrt_no (x : Int) (w : World) (hx : In x) (h0 : x < 0) : Calls Tryz.prog 19 #[.string ⟨#[83, 81, 82, 84]⟩, .int .i64 x] w fun e w' => e = .returned (.agg #[.int .i64 (4), .int .i64 (0), .string ⟨#[]⟩, .bool false, .int .i64 (8)]) ∧ Below w.heap.size w w' := by
  have h1 := fun w1 => Pw.rq_neg x w1 hx.i64 (mayOk_t hx.1) h0
  go_enter Tryz.func19, Tryz.ntmps19
  go_wp2_with (first | (go_at_call 40; refine (h1 _).mono ?_; rintro e wb ⟨rfl, hbwb⟩; have hBwb : Below w.heap.size w wb := bup (by with_reducible (repeat' first | assumption | exact Below.refl _ _ | refine Below.drew ?_ | refine bdrewN ?_ _ | refine Below.setCell ?_ (by first | exact Nat.le_refl _ | (simp; done) | (simp; omega) | omega) _ | refine Below.alloc ?_ (by first | exact Nat.le_refl _ | (simp; done) | (simp; omega) | omega) _)) hbwb; have zwb := hBwb.size; have o0wb : Own wb (w.heap.size) #[.int .i64 0, .int .i64 0, .string ⟨#[]⟩, .bool false, .int .i64 0] := Own.keep (by with_reducible (repeat' first | assumption | refine Own.drew ?_ | refine Own.drewN ?_ _ | (refine Own.at ?_; first | rfl | (simp; done)) | refine Own.past ?_ _)) hbwb; have c0 := o0wb.cell; have f0 := o0wb.fro; have l0 := o0wb.lt) | (go_at_call 38; refine (dtold_no _ _ _ (by decide) (by decide) (by decide)).mono ?_; rintro e wa ⟨rfl, hbwa⟩; have hBwa : Below w.heap.size w wa := bup (by with_reducible (repeat' first | assumption | exact Below.refl _ _ | refine Below.drew ?_ | refine bdrewN ?_ _ | refine Below.setCell ?_ (by first | exact Nat.le_refl _ | (simp; done) | (simp; omega) | omega) _ | refine Below.alloc ?_ (by first | exact Nat.le_refl _ | (simp; done) | (simp; omega) | omega) _)) hbwa; have zwa := hBwa.size; have o0wa : Own wa (w.heap.size) #[.int .i64 0, .int .i64 0, .string ⟨#[]⟩, .bool false, .int .i64 0] := Own.keep (by with_reducible (repeat' first | assumption | refine Own.drew ?_ | refine Own.drewN ?_ _ | (refine Own.at ?_; first | rfl | (simp; done)) | refine Own.past ?_ _)) hbwa; have c0 := o0wa.cell; have f0 := o0wa.fro; have l0 := o0wa.lt))
  exact bodyPost_ret (v := (.agg #[.int .i64 (4), .int .i64 (0), .string ⟨#[]⟩, .bool false, .int .i64 (8)])) (by simp [results, Tryz.results19, go_sem, c0, f0, l0]) rfl ⟨rfl, by with_reducible (repeat' first | assumption | exact Below.refl _ _ | refine Below.drew ?_ | refine bdrewN ?_ _ | refine Below.setCell ?_ (by first | exact Nat.le_refl _ | (simp; done) | (simp; omega) | omega) _ | refine Below.alloc ?_ (by first | exact Nat.le_refl _ | (simp; done) | (simp; omega) | omega) _)⟩
theorem one_sqrt_ok (x : Int) (w : World) (hx : In x) (h0 : 0 ≤ x) : Calls Tryz.prog 19 #[.string ⟨#[83, 81, 82, 84]⟩, .int .i64 x] w fun e w' => e = .returned (.agg #[.int .i64 (1), .int .i64 (rootX x), .string ⟨#[]⟩, .bool false, .int .i64 (0)]) ∧ Below w.heap.size w w' := by
  obtain ⟨k, hk⟩ : ∃ k : Nat, x = k := ⟨x.toNat, by omega⟩
  have h1 : ∀ w1 : World, Calls Tryz.prog 40 #[.int .i64 x] w1 fun e w' => (e = .returned (.tuple #[.int .i64 (rootX x), .int .i64 0]) ∧ In (rootX x)) ∧ Below w1.heap.size w1 w' := fun w1 => by
    have q := Pw.rsqrt_ok k w1 (by have := hx.2; omega)
    rw [← hk] at q
    refine q.mono ?_
    rintro e w' ⟨⟨r, rfl, hR⟩, hb⟩
    have : rootX x = r := root_one (Classical.epsilon_spec (p := fun r => RootInv (x * 40000) 0 r) ⟨r, hR⟩) hR
    have a := hR.r0
    have b := hR.top
    rw [this]
    exact ⟨⟨rfl, by omega, by simp at b; omega⟩, hb⟩
  clear hk k
  generalize rootX x = r at h1 ⊢
  go_enter Tryz.func19, Tryz.ntmps19
  go_wp2_with (first | (go_at_call 40; refine (h1 _).mono ?_; rintro e wb ⟨⟨rfl, hr⟩, hbwb⟩; have hBwb : Below w.heap.size w wb := bup (by with_reducible (repeat' first | assumption | exact Below.refl _ _ | refine Below.drew ?_ | refine bdrewN ?_ _ | refine Below.setCell ?_ (by first | exact Nat.le_refl _ | (simp; done) | (simp; omega) | omega) _ | refine Below.alloc ?_ (by first | exact Nat.le_refl _ | (simp; done) | (simp; omega) | omega) _)) hbwb; have zwb := hBwb.size; have o0wb : Own wb (w.heap.size) #[.int .i64 0, .int .i64 0, .string ⟨#[]⟩, .bool false, .int .i64 0] := Own.keep (by with_reducible (repeat' first | assumption | refine Own.drew ?_ | refine Own.drewN ?_ _ | (refine Own.at ?_; first | rfl | (simp; done)) | refine Own.past ?_ _)) hbwb; have c0 := o0wb.cell; have f0 := o0wb.fro; have l0 := o0wb.lt) | (go_at_call 38; refine (dtold_ok _ _ hr).mono ?_; rintro e wa ⟨rfl, hbwa⟩; have hBwa : Below w.heap.size w wa := bup (by with_reducible (repeat' first | assumption | exact Below.refl _ _ | refine Below.drew ?_ | refine bdrewN ?_ _ | refine Below.setCell ?_ (by first | exact Nat.le_refl _ | (simp; done) | (simp; omega) | omega) _ | refine Below.alloc ?_ (by first | exact Nat.le_refl _ | (simp; done) | (simp; omega) | omega) _)) hbwa; have zwa := hBwa.size; have o0wa : Own wa (w.heap.size) #[.int .i64 0, .int .i64 0, .string ⟨#[]⟩, .bool false, .int .i64 0] := Own.keep (by with_reducible (repeat' first | assumption | refine Own.drew ?_ | refine Own.drewN ?_ _ | (refine Own.at ?_; first | rfl | (simp; done)) | refine Own.past ?_ _)) hbwa; have c0 := o0wa.cell; have f0 := o0wa.fro; have l0 := o0wa.lt))
  exact bodyPost_ret (v := (.agg #[.int .i64 (1), .int .i64 (r), .string ⟨#[]⟩, .bool false, .int .i64 (0)])) (by simp [results, Tryz.results19, go_sem, c0, f0, l0]) rfl ⟨rfl, by with_reducible (repeat' first | assumption | exact Below.refl _ _ | refine Below.drew ?_ | refine bdrewN ?_ _ | refine Below.setCell ?_ (by first | exact Nat.le_refl _ | (simp; done) | (simp; omega) | omega) _ | refine Below.alloc ?_ (by first | exact Nat.le_refl _ | (simp; done) | (simp; omega) | omega) _)⟩
theorem rpow_all (x n : Int) (w : World) (hx : In x) : Calls Tryz.prog 45 #[.int .i64 x, .int .i64 n] w fun e w' => e = .returned (.tuple #[.int .i64 (powX x n), .int .i64 (powC x n)]) ∧ Below w.heap.size w w' := by
  have hi := hx.i64
  obtain ⟨h1, h2⟩ := hx
  have hm := mayOk_t h1
  unfold powX powC
  by_cases ho : n < -64 ∨ 64 < n
  · rw [if_pos ho, if_pos ho]
    rcases ho with ho | ho
    · exact Pw.rp_lo x n w hi hm ho
    · exact Pw.rp_hi x n w hi hm ho
  rw [if_neg ho, if_neg ho]
  have hs : (x = (x.natAbs : Int) ∧ 0 ≤ x ∧ decide (x < 0) = false) ∨ (x = -(x.natAbs : Int) ∧ x < 0 ∧ decide (x < 0) = true) := by
    by_cases h : x < 0
    · exact .inr ⟨by omega, h, decide_eq_true h⟩
    · exact .inl ⟨by omega, by omega, decide_eq_false h⟩
  by_cases h0 : n = 0
  · rw [if_pos h0, if_pos h0, h0]
    exact Pw.rp_n0 x w hi hm
  rw [if_neg h0, if_neg h0]
  by_cases hz : x = 0
  · rw [if_pos hz, if_pos hz, hz]
    by_cases hn : n < 0
    · rw [if_pos hn]; exact Pw.rp_0n n w (by omega) hn
    · rw [if_neg hn]
      obtain ⟨k, rfl⟩ : ∃ k : Nat, n = k := ⟨n.toNat, by omega⟩
      by_cases hk : k = 1
      · subst hk; exact Pw.rp_0p1 w
      · exact Pw.rp_0p2 k w (by omega) (by omega)
  rw [if_neg hz, if_neg hz]
  by_cases hn : n < 0
  · rw [if_pos hn, if_pos hn]
    have q := Pw.rp_neg x x.natAbs n.natAbs (decide (x < 0)) w hi hm hs (by omega) (by omega) (by omega) (by omega)
    rw [show -(n.natAbs : Int) = n by omega] at q
    exact q
  · rw [if_neg hn, if_neg hn]
    by_cases hk : n = 1
    · subst hk
      exact Pw.rp_pos1 x x.natAbs (decide (x < 0)) w hi hm hs (by omega) (by omega)
    · have q := Pw.rp_pos2 x x.natAbs n.natAbs (decide (x < 0)) w hi hm hs (by omega) (by omega) (by omega) (by omega)
      rw [show ((n.natAbs : Nat) : Int) = n by omega] at q
      exact q
theorem two_power (x y : Int) (w : World) (hx : In x) (hy : In y) (hw : wholeOk y = true) : Calls Tryz.prog 20 #[.string ⟨#[80, 79, 87, 69, 82]⟩, .int .i64 x, .int .i64 y] w fun e w' => e = .returned (.agg #[.int .i64 (tT (powC x (y.tdiv 10000))), .int .i64 (powX x (y.tdiv 10000)), .string ⟨#[]⟩, .bool false, .int .i64 (powC x (y.tdiv 10000))]) ∧ Below w.heap.size w w' := by
  have ht : y.tmod 10000 = 0 := by unfold wholeOk at hw; simp at hw; exact hw.2
  have hq : -922337203685477 ≤ y.tdiv 10000 ∧ y.tdiv 10000 ≤ 922337203685477 := by
    obtain ⟨h1, h2⟩ := hy
    have := Int.mul_tdiv_add_tmod y 10000
    rw [ht] at this
    omega
  revert hq
  generalize hg : y.tdiv 10000 = q
  intro hq
  have hw2 : wrap64 q = q := by unfold wrap64; omega
  have h1 := fun w1 => rpow_all x q w1 hx
  have h3 := fun w1 => dtold_any _ _ w1 (powX_in x q) (powXC x q)
  generalize powX x q = r at h1 h3 ⊢
  generalize powC x q = c at h1 h3 ⊢
  generalize tT c = t at h3 ⊢
  go_enter Tryz.func20, Tryz.ntmps20
  go_wp2_with (first | (go_at_call 45; refine (h1 _).mono ?_; rintro e wb ⟨rfl, hbwb⟩; have hBwb : Below w.heap.size w wb := bup (by with_reducible (repeat' first | assumption | exact Below.refl _ _ | refine Below.drew ?_ | refine bdrewN ?_ _ | refine Below.setCell ?_ (by first | exact Nat.le_refl _ | (simp; done) | (simp; omega) | omega) _ | refine Below.alloc ?_ (by first | exact Nat.le_refl _ | (simp; done) | (simp; omega) | omega) _)) hbwb; have zwb := hBwb.size; have o0wb : Own wb (w.heap.size) #[.int .i64 0, .int .i64 0, .string ⟨#[]⟩, .bool false, .int .i64 0] := Own.keep (by with_reducible (repeat' first | assumption | refine Own.drew ?_ | refine Own.drewN ?_ _ | (refine Own.at ?_; first | rfl | (simp; done)) | refine Own.past ?_ _)) hbwb; have c0 := o0wb.cell; have f0 := o0wb.fro; have l0 := o0wb.lt) | (go_at_call 38; refine (h3 _).mono ?_; rintro e wa ⟨rfl, hbwa⟩; have hBwa : Below w.heap.size w wa := bup (by with_reducible (repeat' first | assumption | exact Below.refl _ _ | refine Below.drew ?_ | refine bdrewN ?_ _ | refine Below.setCell ?_ (by first | exact Nat.le_refl _ | (simp; done) | (simp; omega) | omega) _ | refine Below.alloc ?_ (by first | exact Nat.le_refl _ | (simp; done) | (simp; omega) | omega) _)) hbwa; have zwa := hBwa.size; have o0wa : Own wa (w.heap.size) #[.int .i64 0, .int .i64 0, .string ⟨#[]⟩, .bool false, .int .i64 0] := Own.keep (by with_reducible (repeat' first | assumption | refine Own.drew ?_ | refine Own.drewN ?_ _ | (refine Own.at ?_; first | rfl | (simp; done)) | refine Own.past ?_ _)) hbwa; have c0 := o0wa.cell; have f0 := o0wa.fro; have l0 := o0wa.lt))
  exact bodyPost_ret (v := (.agg #[.int .i64 t, .int .i64 r, .string ⟨#[]⟩, .bool false, .int .i64 c])) (by simp [results, Tryz.results20, go_sem, c0, f0, l0]) rfl ⟨rfl, by with_reducible (repeat' first | assumption | exact Below.refl _ _ | refine Below.drew ?_ | refine bdrewN ?_ _ | refine Below.setCell ?_ (by first | exact Nat.le_refl _ | (simp; done) | (simp; omega) | omega) _ | refine Below.alloc ?_ (by first | exact Nat.le_refl _ | (simp; done) | (simp; omega) | omega) _)⟩
end Go.Proofs.YtfpbcokfianjaaaGreat
namespace Go.Proofs.YtfpbcokfianjaaaGreat
open Go.RowKit
set_option linter.all false
set_option maxRecDepth 100000
theorem quo_pos {x y : Int} (hx : In x) (hy : y ≠ 0) : sz x / sz y = sz (x.tdiv y) ∧ 0 ≤ sz x / sz y ∧ sz x / sz y ≤ 9223372036854775807 := by
  have e : sz x / sz y = sz (x.tdiv y) := by unfold sz; rw [Int.natAbs_tdiv]; rfl
  obtain ⟨h1, h2⟩ := hx
  have h3 : sz x / sz y ≤ sz x := Int.ediv_le_self _ (by unfold sz; omega)
  have h4 : 0 ≤ sz x / sz y := Int.ediv_nonneg (by unfold sz; omega) (by unfold sz; omega)
  have h5 : sz x ≤ 9223372036854775807 := by unfold sz; omega
  exact ⟨e, h4, by omega⟩
theorem quo_sgn {x y : Int} (hy : y ≠ 0) : (decide (x < 0) != decide (y < 0)) = true → x.tdiv y ≤ 0 := by
  intro h
  by_cases hx : x < 0 <;> by_cases hyn : y < 0 <;> simp [hx, hyn] at h
  · have := Int.tdiv_nonneg (a := -x) (b := y) (by omega) (by omega); rw [Int.neg_tdiv] at this; omega
  · rw [← Int.neg_neg y, Int.tdiv_neg]; have := Int.tdiv_nonneg (a := x) (b := -y) (by omega) (by omega); omega
theorem quo_sgn2 {x y : Int} (hy : y ≠ 0) : (decide (x < 0) != decide (y < 0)) = false → 0 ≤ x.tdiv y := by
  intro h
  by_cases hx : x < 0 <;> by_cases hyn : y < 0 <;> simp [hx, hyn] at h
  · rw [← Int.neg_neg y, Int.tdiv_neg, ← Int.neg_tdiv]; exact Int.tdiv_nonneg (by omega) (by omega)
  · exact Int.tdiv_nonneg (by omega) (by omega)
theorem quo_w_tt (x y n : Int) (t r c : Int) (w : World) (hx : In x) (hy : In y) (h0 : y ≠ 0) (hX : x < 0) (hY : y < 0) (hn : sz x / sz y = n) (hn1 : 0 ≤ n) (hn2 : n ≤ 9223372036854775807) (h : ∀ w1 : World, Calls Tryz.prog 36 #[.int .u64 n, .bool false] w1 fun e w' => e = .returned (.agg #[.int .i64 t, .int .i64 r, .string ⟨#[]⟩, .bool false, .int .i64 c]) ∧ Below w1.heap.size w1 w') : Calls Tryz.prog 20 #[.string ⟨#[81, 85, 79, 84]⟩, .int .i64 x, .int .i64 y] w fun e w' => e = .returned (.agg #[.int .i64 t, .int .i64 r, .string ⟨#[]⟩, .bool false, .int .i64 c]) ∧ Below w.heap.size w w' := by
  have hz : (y == 0) = false := by simp; exact h0
  have hsy : ¬ sz y = 0 := by unfold sz; omega
  have hsz : (sz y == 0) = false := by simp; exact hsy
  have hx0 : 0 ≤ sz x := by unfold sz; omega
  have hn3 : (sz x).tdiv (sz y) = n := by rw [Int.tdiv_eq_ediv_of_nonneg hx0]; exact hn
  have hnw : n % 18446744073709551616 = n := by omega
  have dX : decide (x < 0) = true := by simp; omega
  have dY : decide (y < 0) = true := by simp; omega
  have S : ∀ z w1, In z → Calls Tryz.prog 35 #[.int .i64 z] w1 fun e w' => e = .returned (.int .u64 (sz z)) ∧ w' = w1 := fun z w1 hz => dsize_any z w1 hz
  go_enter Tryz.func20, Tryz.ntmps20
  go_wp2_with (first | (go_at_call 35; refine (S _ _ (by assumption)).mono ?_; rintro e w5 ⟨rfl, e5⟩; rw [e5]; clear e5 w5) | (go_at_call 36; refine (h _).mono ?_; rintro e wa ⟨rfl, hbwa⟩; have hBwa : Below w.heap.size w wa := bup (by with_reducible (repeat' first | assumption | exact Below.refl _ _ | refine Below.drew ?_ | refine bdrewN ?_ _ | refine Below.setCell ?_ (by first | exact Nat.le_refl _ | (simp; done) | (simp; omega) | omega) _ | refine Below.alloc ?_ (by first | exact Nat.le_refl _ | (simp; done) | (simp; omega) | omega) _)) hbwa; have zwa := hBwa.size; have o0wa : Own wa (w.heap.size) #[.int .i64 0, .int .i64 0, .string ⟨#[]⟩, .bool false, .int .i64 0] := Own.keep (by with_reducible (repeat' first | assumption | refine Own.drew ?_ | refine Own.drewN ?_ _ | (refine Own.at ?_; first | rfl | (simp; done)) | refine Own.past ?_ _)) hbwa; have c0 := o0wa.cell; have f0 := o0wa.fro; have l0 := o0wa.lt))
  exact bodyPost_ret (v := (.agg #[.int .i64 t, .int .i64 r, .string ⟨#[]⟩, .bool false, .int .i64 c])) (by simp [results, Tryz.results20, go_sem, c0, f0, l0]) rfl ⟨rfl, by with_reducible (repeat' first | assumption | exact Below.refl _ _ | refine Below.drew ?_ | refine bdrewN ?_ _ | refine Below.setCell ?_ (by first | exact Nat.le_refl _ | (simp; done) | (simp; omega) | omega) _ | refine Below.alloc ?_ (by first | exact Nat.le_refl _ | (simp; done) | (simp; omega) | omega) _)⟩
theorem quo_w_tf (x y n : Int) (t r c : Int) (w : World) (hx : In x) (hy : In y) (h0 : y ≠ 0) (hX : x < 0) (hY : ¬ y < 0) (hn : sz x / sz y = n) (hn1 : 0 ≤ n) (hn2 : n ≤ 9223372036854775807) (h : ∀ w1 : World, Calls Tryz.prog 36 #[.int .u64 n, .bool true] w1 fun e w' => e = .returned (.agg #[.int .i64 t, .int .i64 r, .string ⟨#[]⟩, .bool false, .int .i64 c]) ∧ Below w1.heap.size w1 w') : Calls Tryz.prog 20 #[.string ⟨#[81, 85, 79, 84]⟩, .int .i64 x, .int .i64 y] w fun e w' => e = .returned (.agg #[.int .i64 t, .int .i64 r, .string ⟨#[]⟩, .bool false, .int .i64 c]) ∧ Below w.heap.size w w' := by
  have hz : (y == 0) = false := by simp; exact h0
  have hsy : ¬ sz y = 0 := by unfold sz; omega
  have hsz : (sz y == 0) = false := by simp; exact hsy
  have hx0 : 0 ≤ sz x := by unfold sz; omega
  have hn3 : (sz x).tdiv (sz y) = n := by rw [Int.tdiv_eq_ediv_of_nonneg hx0]; exact hn
  have hnw : n % 18446744073709551616 = n := by omega
  have dX : decide (x < 0) = true := by simp; omega
  have dY : decide (y < 0) = false := by simp; omega
  have S : ∀ z w1, In z → Calls Tryz.prog 35 #[.int .i64 z] w1 fun e w' => e = .returned (.int .u64 (sz z)) ∧ w' = w1 := fun z w1 hz => dsize_any z w1 hz
  go_enter Tryz.func20, Tryz.ntmps20
  go_wp2_with (first | (go_at_call 35; refine (S _ _ (by assumption)).mono ?_; rintro e w5 ⟨rfl, e5⟩; rw [e5]; clear e5 w5) | (go_at_call 36; refine (h _).mono ?_; rintro e wa ⟨rfl, hbwa⟩; have hBwa : Below w.heap.size w wa := bup (by with_reducible (repeat' first | assumption | exact Below.refl _ _ | refine Below.drew ?_ | refine bdrewN ?_ _ | refine Below.setCell ?_ (by first | exact Nat.le_refl _ | (simp; done) | (simp; omega) | omega) _ | refine Below.alloc ?_ (by first | exact Nat.le_refl _ | (simp; done) | (simp; omega) | omega) _)) hbwa; have zwa := hBwa.size; have o0wa : Own wa (w.heap.size) #[.int .i64 0, .int .i64 0, .string ⟨#[]⟩, .bool false, .int .i64 0] := Own.keep (by with_reducible (repeat' first | assumption | refine Own.drew ?_ | refine Own.drewN ?_ _ | (refine Own.at ?_; first | rfl | (simp; done)) | refine Own.past ?_ _)) hbwa; have c0 := o0wa.cell; have f0 := o0wa.fro; have l0 := o0wa.lt))
  exact bodyPost_ret (v := (.agg #[.int .i64 t, .int .i64 r, .string ⟨#[]⟩, .bool false, .int .i64 c])) (by simp [results, Tryz.results20, go_sem, c0, f0, l0]) rfl ⟨rfl, by with_reducible (repeat' first | assumption | exact Below.refl _ _ | refine Below.drew ?_ | refine bdrewN ?_ _ | refine Below.setCell ?_ (by first | exact Nat.le_refl _ | (simp; done) | (simp; omega) | omega) _ | refine Below.alloc ?_ (by first | exact Nat.le_refl _ | (simp; done) | (simp; omega) | omega) _)⟩
theorem quo_w_ft (x y n : Int) (t r c : Int) (w : World) (hx : In x) (hy : In y) (h0 : y ≠ 0) (hX : ¬ x < 0) (hY : y < 0) (hn : sz x / sz y = n) (hn1 : 0 ≤ n) (hn2 : n ≤ 9223372036854775807) (h : ∀ w1 : World, Calls Tryz.prog 36 #[.int .u64 n, .bool true] w1 fun e w' => e = .returned (.agg #[.int .i64 t, .int .i64 r, .string ⟨#[]⟩, .bool false, .int .i64 c]) ∧ Below w1.heap.size w1 w') : Calls Tryz.prog 20 #[.string ⟨#[81, 85, 79, 84]⟩, .int .i64 x, .int .i64 y] w fun e w' => e = .returned (.agg #[.int .i64 t, .int .i64 r, .string ⟨#[]⟩, .bool false, .int .i64 c]) ∧ Below w.heap.size w w' := by
  have hz : (y == 0) = false := by simp; exact h0
  have hsy : ¬ sz y = 0 := by unfold sz; omega
  have hsz : (sz y == 0) = false := by simp; exact hsy
  have hx0 : 0 ≤ sz x := by unfold sz; omega
  have hn3 : (sz x).tdiv (sz y) = n := by rw [Int.tdiv_eq_ediv_of_nonneg hx0]; exact hn
  have hnw : n % 18446744073709551616 = n := by omega
  have dX : decide (x < 0) = false := by simp; omega
  have dY : decide (y < 0) = true := by simp; omega
  have S : ∀ z w1, In z → Calls Tryz.prog 35 #[.int .i64 z] w1 fun e w' => e = .returned (.int .u64 (sz z)) ∧ w' = w1 := fun z w1 hz => dsize_any z w1 hz
  go_enter Tryz.func20, Tryz.ntmps20
  go_wp2_with (first | (go_at_call 35; refine (S _ _ (by assumption)).mono ?_; rintro e w5 ⟨rfl, e5⟩; rw [e5]; clear e5 w5) | (go_at_call 36; refine (h _).mono ?_; rintro e wa ⟨rfl, hbwa⟩; have hBwa : Below w.heap.size w wa := bup (by with_reducible (repeat' first | assumption | exact Below.refl _ _ | refine Below.drew ?_ | refine bdrewN ?_ _ | refine Below.setCell ?_ (by first | exact Nat.le_refl _ | (simp; done) | (simp; omega) | omega) _ | refine Below.alloc ?_ (by first | exact Nat.le_refl _ | (simp; done) | (simp; omega) | omega) _)) hbwa; have zwa := hBwa.size; have o0wa : Own wa (w.heap.size) #[.int .i64 0, .int .i64 0, .string ⟨#[]⟩, .bool false, .int .i64 0] := Own.keep (by with_reducible (repeat' first | assumption | refine Own.drew ?_ | refine Own.drewN ?_ _ | (refine Own.at ?_; first | rfl | (simp; done)) | refine Own.past ?_ _)) hbwa; have c0 := o0wa.cell; have f0 := o0wa.fro; have l0 := o0wa.lt))
  exact bodyPost_ret (v := (.agg #[.int .i64 t, .int .i64 r, .string ⟨#[]⟩, .bool false, .int .i64 c])) (by simp [results, Tryz.results20, go_sem, c0, f0, l0]) rfl ⟨rfl, by with_reducible (repeat' first | assumption | exact Below.refl _ _ | refine Below.drew ?_ | refine bdrewN ?_ _ | refine Below.setCell ?_ (by first | exact Nat.le_refl _ | (simp; done) | (simp; omega) | omega) _ | refine Below.alloc ?_ (by first | exact Nat.le_refl _ | (simp; done) | (simp; omega) | omega) _)⟩
theorem quo_w_ff (x y n : Int) (t r c : Int) (w : World) (hx : In x) (hy : In y) (h0 : y ≠ 0) (hX : ¬ x < 0) (hY : ¬ y < 0) (hn : sz x / sz y = n) (hn1 : 0 ≤ n) (hn2 : n ≤ 9223372036854775807) (h : ∀ w1 : World, Calls Tryz.prog 36 #[.int .u64 n, .bool false] w1 fun e w' => e = .returned (.agg #[.int .i64 t, .int .i64 r, .string ⟨#[]⟩, .bool false, .int .i64 c]) ∧ Below w1.heap.size w1 w') : Calls Tryz.prog 20 #[.string ⟨#[81, 85, 79, 84]⟩, .int .i64 x, .int .i64 y] w fun e w' => e = .returned (.agg #[.int .i64 t, .int .i64 r, .string ⟨#[]⟩, .bool false, .int .i64 c]) ∧ Below w.heap.size w w' := by
  have hz : (y == 0) = false := by simp; exact h0
  have hsy : ¬ sz y = 0 := by unfold sz; omega
  have hsz : (sz y == 0) = false := by simp; exact hsy
  have hx0 : 0 ≤ sz x := by unfold sz; omega
  have hn3 : (sz x).tdiv (sz y) = n := by rw [Int.tdiv_eq_ediv_of_nonneg hx0]; exact hn
  have hnw : n % 18446744073709551616 = n := by omega
  have dX : decide (x < 0) = false := by simp; omega
  have dY : decide (y < 0) = false := by simp; omega
  have S : ∀ z w1, In z → Calls Tryz.prog 35 #[.int .i64 z] w1 fun e w' => e = .returned (.int .u64 (sz z)) ∧ w' = w1 := fun z w1 hz => dsize_any z w1 hz
  go_enter Tryz.func20, Tryz.ntmps20
  go_wp2_with (first | (go_at_call 35; refine (S _ _ (by assumption)).mono ?_; rintro e w5 ⟨rfl, e5⟩; rw [e5]; clear e5 w5) | (go_at_call 36; refine (h _).mono ?_; rintro e wa ⟨rfl, hbwa⟩; have hBwa : Below w.heap.size w wa := bup (by with_reducible (repeat' first | assumption | exact Below.refl _ _ | refine Below.drew ?_ | refine bdrewN ?_ _ | refine Below.setCell ?_ (by first | exact Nat.le_refl _ | (simp; done) | (simp; omega) | omega) _ | refine Below.alloc ?_ (by first | exact Nat.le_refl _ | (simp; done) | (simp; omega) | omega) _)) hbwa; have zwa := hBwa.size; have o0wa : Own wa (w.heap.size) #[.int .i64 0, .int .i64 0, .string ⟨#[]⟩, .bool false, .int .i64 0] := Own.keep (by with_reducible (repeat' first | assumption | refine Own.drew ?_ | refine Own.drewN ?_ _ | (refine Own.at ?_; first | rfl | (simp; done)) | refine Own.past ?_ _)) hbwa; have c0 := o0wa.cell; have f0 := o0wa.fro; have l0 := o0wa.lt))
  exact bodyPost_ret (v := (.agg #[.int .i64 t, .int .i64 r, .string ⟨#[]⟩, .bool false, .int .i64 c])) (by simp [results, Tryz.results20, go_sem, c0, f0, l0]) rfl ⟨rfl, by with_reducible (repeat' first | assumption | exact Below.refl _ _ | refine Below.drew ?_ | refine bdrewN ?_ _ | refine Below.setCell ?_ (by first | exact Nat.le_refl _ | (simp; done) | (simp; omega) | omega) _ | refine Below.alloc ?_ (by first | exact Nat.le_refl _ | (simp; done) | (simp; omega) | omega) _)⟩
theorem two_quot_w (x y n : Int) (low : Bool) (t r c : Int) (w : World) (hx : In x) (hy : In y) (h0 : y ≠ 0) (hl : (decide (x < 0) != decide (y < 0)) = low) (hn : sz x / sz y = n) (hn1 : 0 ≤ n) (hn2 : n ≤ 9223372036854775807) (h : ∀ w1 : World, Calls Tryz.prog 36 #[.int .u64 n, .bool low] w1 fun e w' => e = .returned (.agg #[.int .i64 t, .int .i64 r, .string ⟨#[]⟩, .bool false, .int .i64 c]) ∧ Below w1.heap.size w1 w') : Calls Tryz.prog 20 #[.string ⟨#[81, 85, 79, 84]⟩, .int .i64 x, .int .i64 y] w fun e w' => e = .returned (.agg #[.int .i64 t, .int .i64 r, .string ⟨#[]⟩, .bool false, .int .i64 c]) ∧ Below w.heap.size w w' := by
  by_cases hX : x < 0 <;> by_cases hY : y < 0
  · rw [decide_eq_true hX, decide_eq_true hY] at hl; subst hl; exact quo_w_tt x y n t r c w hx hy h0 hX hY hn hn1 hn2 h
  · rw [decide_eq_true hX, decide_eq_false hY] at hl; subst hl; exact quo_w_tf x y n t r c w hx hy h0 hX hY hn hn1 hn2 h
  · rw [decide_eq_false hX, decide_eq_true hY] at hl; subst hl; exact quo_w_ft x y n t r c w hx hy h0 hX hY hn hn1 hn2 h
  · rw [decide_eq_false hX, decide_eq_false hY] at hl; subst hl; exact quo_w_ff x y n t r c w hx hy h0 hX hY hn hn1 hn2 h
theorem two_quot_ok (x y : Int) (w : World) (hx : In x) (hy : In y) (h0 : y ≠ 0) : Calls Tryz.prog 20 #[.string ⟨#[81, 85, 79, 84]⟩, .int .i64 x, .int .i64 y] w fun e w' => e = .returned (.agg #[.int .i64 (tT (okC (quoOk (x.tdiv y)))), .int .i64 (okV (quoOk (x.tdiv y)) (x.tdiv y * 10000)), .string ⟨#[]⟩, .bool false, .int .i64 (okC (quoOk (x.tdiv y)))]) ∧ Below w.heap.size w w' := by
  obtain ⟨e, q1, q2⟩ := quo_pos hx h0
  refine two_quot_w x y (sz x / sz y) (decide (x < 0) != decide (y < 0)) _ _ _ w hx hy h0 rfl rfl q1 q2 fun w1 => ?_
  generalize hl : (decide (x < 0) != decide (y < 0)) = low
  rw [e] at q1 q2 ⊢
  by_cases hb : sz (x.tdiv y) ≤ 922337203685477
  · have hok : quoOk (x.tdiv y) = true := by unfold quoOk; unfold sz at hb; simp; omega
    rw [hok]
    cases low
    · have := quo_sgn2 h0 hl
      have q := dwhole_f (sz (x.tdiv y)) w1 q1 hb
      rw [show sz (x.tdiv y) = x.tdiv y by unfold sz; omega] at q ⊢
      exact q
    · have := quo_sgn h0 hl
      have q := dwhole_t (sz (x.tdiv y)) w1 q1 hb
      rw [show -sz (x.tdiv y) = x.tdiv y by unfold sz; omega] at q
      exact q
  · have hok : quoOk (x.tdiv y) = false := by unfold quoOk; unfold sz at hb; simp; omega
    rw [hok]
    exact dwhole_no _ _ _ (by omega)
end Go.Proofs.YtfpbcokfianjaaaGreat
