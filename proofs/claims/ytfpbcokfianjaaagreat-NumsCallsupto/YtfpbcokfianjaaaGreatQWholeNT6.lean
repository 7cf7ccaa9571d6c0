/- The contracts of dec.Whole and of the document's Floor and Whole, of any int64. Nothing is written. · The contracts of nums.size, told, abs, broken, common and greatestDivisor, of numbers that may be. New memory alone is made. -/
import Derived.Test.YtfpbcokfianjaaaGreatQNT5Floor
import Derived.Test.YtfpbcokfianjaaaGreatQModRMod
namespace Go.Proofs.YtfpbcokfianjaaaGreat
open Go.Shelf Go.RowKit
set_option linter.unusedVariables false
theorem rfloor_min (x : Int) (w : World) (hx : x = -9223372036854775808) : Calls Tryz.prog 39 #[.int .i64 x] w fun e w' => e = .returned (.tuple #[.int .i64 0, .int .i64 2]) ∧ w' = w := by
  go_enter Tryz.func39, Tryz.ntmps39
  go_wp2_with (go_at_call 37; refine (rmay_f _ _ (by omega)).mono ?_; rintro e w' ⟨rfl, rfl⟩)
  go_ret2
  exact ⟨rfl, rfl⟩
theorem rfloor_p (x : Int) (w : World) (hx1 : -9223372036854775807 ≤ x) (hx2 : x ≤ 9223372036854775807) (hr : 0 ≤ x.tmod 10000) (hr2 : x.tmod 10000 < 10000) : Calls Tryz.prog 39 #[.int .i64 x] w fun e w' => e = .returned (.tuple #[.int .i64 (okV (subOk x (x.tmod 10000)) (x - x.tmod 10000)), .int .i64 (okC (subOk x (x.tmod 10000)))]) ∧ w' = w := by
  generalize hg : x.tmod 10000 = r at *
  have hw : wrap64 r = r := by unfold wrap64; omega
  have dr : decide (r < 0) = false := decide_eq_false (by omega)
  go_enter Tryz.func39, Tryz.ntmps39
  go_wp2_with (first | (go_at_call 37; refine (rmay_t _ _ (by omega)).mono ?_; rintro e w' ⟨rfl, rfl⟩) | (go_at_call 73; refine (rsub_any _ _ _ ⟨by omega, by omega⟩ ⟨by omega, by omega⟩).mono ?_; rintro e w' ⟨rfl, rfl⟩))
  go_ret2
  exact ⟨rfl, rfl⟩
theorem rfloor_n (x : Int) (w : World) (hx1 : -9223372036854775807 ≤ x) (hx2 : x ≤ 9223372036854775807) (hr : x.tmod 10000 < 0) (hr2 : -10000 < x.tmod 10000) : Calls Tryz.prog 39 #[.int .i64 x] w fun e w' => e = .returned (.tuple #[.int .i64 (okV (subOk x (x.tmod 10000 + 10000)) (x - (x.tmod 10000 + 10000))), .int .i64 (okC (subOk x (x.tmod 10000 + 10000)))]) ∧ w' = w := by
  generalize hg : x.tmod 10000 = r at *
  have hw : wrap64 r = r := by unfold wrap64; omega
  have dr : decide (r < 0) = true := decide_eq_true hr
  go_enter Tryz.func39, Tryz.ntmps39
  go_wp2_with (first | (go_at_call 37; refine (rmay_t _ _ (by omega)).mono ?_; rintro e w' ⟨rfl, rfl⟩) | (go_at_call 73; refine (rsub_any _ _ _ ⟨by omega, by omega⟩ ⟨by omega, by omega⟩).mono ?_; rintro e w' ⟨rfl, rfl⟩))
  go_ret2
  exact ⟨rfl, rfl⟩
theorem rfloor_any (x : Int) (w : World) (hx : I64 x) : Calls Tryz.prog 39 #[.int .i64 x] w fun e w' => e = .returned (.tuple #[.int .i64 (okV (floorOk x) (x - x % 10000)), .int .i64 (okC (floorOk x))]) ∧ w' = w := by
  obtain ⟨hx1, hx2⟩ := hx
  by_cases hm : x = -9223372036854775808
  · have ok : floorOk x = false := by unfold floorOk; rw [mayOk_f hm]; rfl
    rw [okV_f ok, okC_f ok]; exact rfloor_min x w hm
  have hx3 : -9223372036854775807 ≤ x := by omega
  have hf : floorOk x = subOk x (x % 10000) := by unfold floorOk; rw [mayOk_t hx3]; rfl
  rw [hf]
  by_cases h0 : 0 ≤ x
  · have e : x.tmod 10000 = x % 10000 := Int.tmod_eq_emod_of_nonneg h0
    have c := rfloor_p x w hx3 hx2 (by omega) (by omega)
    rw [e] at c; exact c
  · have e : x.tmod 10000 = -((-x) % 10000) := by
      rw [← Int.tmod_eq_emod_of_nonneg (show 0 ≤ -x by omega), Int.neg_tmod]; omega
    by_cases hz : x % 10000 = 0
    · have c := rfloor_p x w hx3 hx2 (by omega) (by omega)
      rw [show x.tmod 10000 = x % 10000 by omega] at c; exact c
    · have c := rfloor_n x w hx3 hx2 (by omega) (by omega)
      rw [show x.tmod 10000 + 10000 = x % 10000 by omega] at c; exact c
theorem whole_min (x : Int) (w : World) (hx : x = -9223372036854775808) : Calls Tryz.prog 100 #[.int .i64 x] w fun e w' => e = .returned (.tuple #[.int .i64 0, .bool false]) ∧ w' = w := by
  go_enter Tryz.func100, Tryz.ntmps100
  go_wp2_with (go_at_call 109; refine (may_f _ _ (by omega)).mono ?_; rintro e w' ⟨rfl, rfl⟩)
  go_ret2
  exact ⟨rfl, rfl⟩
theorem whole_no (x : Int) (w : World) (hx1 : -9223372036854775807 ≤ x) (hx2 : x ≤ 9223372036854775807) (hr : x.tmod 10000 ≠ 0) : Calls Tryz.prog 100 #[.int .i64 x] w fun e w' => e = .returned (.tuple #[.int .i64 0, .bool false]) ∧ w' = w := by
  have hb : (x.tmod 10000).natAbs < 10000 := tmod_bd x 10000 (by decide)
  generalize hg : x.tmod 10000 = r at *
  have hw : wrap64 r = r := by unfold wrap64; omega
  have hz : (r != 0) = true := by simp; omega
  go_enter Tryz.func100, Tryz.ntmps100
  go_wp2_with (go_at_call 109; refine (may_t _ _ (by omega)).mono ?_; rintro e w' ⟨rfl, rfl⟩)
  go_ret2
  exact ⟨rfl, rfl⟩
theorem whole_yes (x q : Int) (w : World) (hx1 : -9223372036854775807 ≤ x) (hx2 : x ≤ 9223372036854775807) (hr : x.tmod 10000 = 0) (hq : x.tdiv 10000 = q) (hq1 : -9223372036854775807 ≤ q) (hq2 : q ≤ 9223372036854775807) : Calls Tryz.prog 100 #[.int .i64 x] w fun e w' => e = .returned (.tuple #[.int .i64 q, .bool true]) ∧ w' = w := by
  have hw : wrap64 q = q := by unfold wrap64; omega
  have hw0 : wrap64 0 = 0 := by unfold wrap64; omega
  go_enter Tryz.func100, Tryz.ntmps100
  go_wp2_with (go_at_call 109; refine (may_t _ _ (by omega)).mono ?_; rintro e w' ⟨rfl, rfl⟩)
  go_ret2
  exact ⟨rfl, rfl⟩
theorem whole_any (x : Int) (w : World) (hx : I64 x) : Calls Tryz.prog 100 #[.int .i64 x] w fun e w' => e = .returned (.tuple #[.int .i64 (okV (wholeOk x) (x.tdiv 10000)), .bool (wholeOk x)]) ∧ w' = w := by
  obtain ⟨hx1, hx2⟩ := hx
  by_cases hm : x = -9223372036854775808
  · have ok : wholeOk x = false := by unfold wholeOk; rw [mayOk_f hm]; rfl
    rw [okV_f ok, ok]; exact whole_min x w hm
  have hx3 : -9223372036854775807 ≤ x := by omega
  by_cases hr : x.tmod 10000 = 0
  · have ok : wholeOk x = true := by unfold wholeOk; rw [mayOk_t hx3, hr]; rfl
    rw [okV_t ok, ok]
    have hb : (x.tdiv 10000).natAbs = x.natAbs / 10000 := Int.natAbs_tdiv x 10000
    exact whole_yes x _ w hx3 hx2 hr rfl (by omega) (by omega)
  · have ok : wholeOk x = false := by unfold wholeOk; rw [decide_eq_false hr]; simp
    rw [okV_f ok, ok]; exact whole_no x w hx3 hx2 hr
end Go.Proofs.YtfpbcokfianjaaaGreat
namespace Go.Proofs.YtfpbcokfianjaaaGreat
open Go.RowKit
set_option linter.all false
def In (x : Int) : Prop := -9223372036854775807 ≤ x ∧ x ≤ 9223372036854775807
theorem In.i64 {x : Int} (h : In x) : I64 x := ⟨by have := h.1; omega, h.2⟩
theorem nsize_p (x : Int) (w : World) (h : 0 ≤ x) (h2 : x ≤ 9223372036854775807) : Calls Tryz.prog 84 #[.int .i64 x] w fun e w' => e = .returned (.int .i64 x) ∧ w' = w := by
  have hm : max x (-x) = x := by omega
  go_enter Tryz.func84, Tryz.ntmps84
  go_wp2
  go_ret
  exact ⟨ret1 (by omega), rfl⟩
theorem nsize_n (x : Int) (w : World) (h : -9223372036854775807 ≤ x) (h2 : x < 0) : Calls Tryz.prog 84 #[.int .i64 x] w fun e w' => e = .returned (.int .i64 (-x)) ∧ w' = w := by
  have hm : max x (-x) = -x := by omega
  go_enter Tryz.func84, Tryz.ntmps84
  go_wp2
  go_ret
  exact ⟨ret1 (by omega), rfl⟩
def sz (x : Int) : Int := (x.natAbs : Int)
theorem nsize_any (x : Int) (w : World) (h : In x) : Calls Tryz.prog 84 #[.int .i64 x] w fun e w' => e = .returned (.int .i64 (sz x)) ∧ w' = w := by
  obtain ⟨h1, h2⟩ := h
  unfold sz
  by_cases hx : 0 ≤ x
  · rw [show ((x.natAbs : Nat) : Int) = x by omega]; exact nsize_p x w hx h2
  · rw [show ((x.natAbs : Nat) : Int) = -x by omega]; exact nsize_n x w h1 (by omega)
theorem sz_in {x : Int} (h : In x) : In (sz x) := by obtain ⟨h1, h2⟩ := h; unfold sz; constructor <;> omega
/-- A number's value; a fault's. -/
def numV (x : Int) : Value := (.agg #[.int .i64 (1), .int .i64 (x), .string ⟨#[]⟩, .bool false, .int .i64 (0)])
def errV (c : Int) : Value := (.agg #[.int .i64 (4), .int .i64 (0), .string ⟨#[]⟩, .bool false, .int .i64 (c)])
theorem told_ok (x : Int) (w : World) (h : In x) : Calls Tryz.prog 86 #[.int .i64 x, .int .i64 0] w fun e w' => e = .returned (numV x) ∧ Below w.heap.size w w' := by
  unfold numV
  go_enter Tryz.func86, Tryz.ntmps86
  go_wp2_with (go_at_call 83; refine (num_t _ _ h.i64 (by have := h.1; omega)).mono ?_; rintro e w1 ⟨rfl, hb⟩; have hB : Below w.heap.size w w1 := bup (by with_reducible (repeat' first | assumption | exact Below.refl _ _ | refine Below.drew ?_ | refine bdrewN ?_ _ | refine Below.setCell ?_ (by first | exact Nat.le_refl _ | (simp; done) | (simp; omega) | omega) _ | refine Below.alloc ?_ (by first | exact Nat.le_refl _ | (simp; done) | (simp; omega) | omega) _)) hb; have o0 : Own w1 (w.heap.size) #[.int .i64 0, .int .i64 0, .string ⟨#[]⟩, .bool false, .int .i64 0] := Own.keep (by with_reducible (repeat' first | assumption | refine Own.drew ?_ | refine Own.drewN ?_ _ | (refine Own.at ?_; first | rfl | (simp; done)) | refine Own.past ?_ _)) hb; have c0 := o0.cell; have f0 := o0.fro; have l0 := o0.lt)
  exact bodyPost_ret (v := (.agg #[.int .i64 (1), .int .i64 (x), .string ⟨#[]⟩, .bool false, .int .i64 (0)])) (by simp [results, Tryz.results86, go_sem, c0, f0, l0]) rfl ⟨rfl, by with_reducible (repeat' first | assumption | exact Below.refl _ _ | refine Below.drew ?_ | refine bdrewN ?_ _ | refine Below.setCell ?_ (by first | exact Nat.le_refl _ | (simp; done) | (simp; omega) | omega) _ | refine Below.alloc ?_ (by first | exact Nat.le_refl _ | (simp; done) | (simp; omega) | omega) _)⟩
theorem told_no (x c : Int) (w : World) (h1 : 1 ≤ c) (h2 : c ≤ 8) (hc : (c != 0) = true) : Calls Tryz.prog 86 #[.int .i64 x, .int .i64 c] w fun e w' => e = .returned (errV c) ∧ Below w.heap.size w w' := by
  unfold errV
  go_enter Tryz.func86, Tryz.ntmps86
  go_wp2_with (go_at_call 9; refine (err_ok _ _ h1 h2).mono ?_; rintro e w1 ⟨rfl, hb⟩; have hB : Below w.heap.size w w1 := bup (by with_reducible (repeat' first | assumption | exact Below.refl _ _ | refine Below.drew ?_ | refine bdrewN ?_ _ | refine Below.setCell ?_ (by first | exact Nat.le_refl _ | (simp; done) | (simp; omega) | omega) _ | refine Below.alloc ?_ (by first | exact Nat.le_refl _ | (simp; done) | (simp; omega) | omega) _)) hb; have o0 : Own w1 (w.heap.size) #[.int .i64 0, .int .i64 0, .string ⟨#[]⟩, .bool false, .int .i64 0] := Own.keep (by with_reducible (repeat' first | assumption | refine Own.drew ?_ | refine Own.drewN ?_ _ | (refine Own.at ?_; first | rfl | (simp; done)) | refine Own.past ?_ _)) hb; have c0 := o0.cell; have f0 := o0.fro; have l0 := o0.lt)
  exact bodyPost_ret (v := (.agg #[.int .i64 (4), .int .i64 (0), .string ⟨#[]⟩, .bool false, .int .i64 (c)])) (by simp [results, Tryz.results86, go_sem, c0, f0, l0]) rfl ⟨rfl, by with_reducible (repeat' first | assumption | exact Below.refl _ _ | refine Below.drew ?_ | refine bdrewN ?_ _ | refine Below.setCell ?_ (by first | exact Nat.le_refl _ | (simp; done) | (simp; omega) | omega) _ | refine Below.alloc ?_ (by first | exact Nat.le_refl _ | (simp; done) | (simp; omega) | omega) _)⟩
/-- A row of numbers in a block of its own. -/
structure NB (w : World) (b : Nat) (l : List Int) : Prop where
  lt : b < w.heap.size
  own : Own w b (nv l)
theorem NB.keep {w w' : World} {b : Nat} {l : List Int} (h : NB w b l) (hb : Below w.heap.size w w') : NB w' b l := ⟨Nat.lt_of_lt_of_le h.lt hb.size, h.own.keep hb⟩
theorem NB.at {w : World} {b : Nat} {l : List Int} (h : NB w b l) {i : Nat} {x : Int} (hi : l[i]? = some x) : w.cell? ⟨b, i, none⟩ = some (.int .i64 x) := by
  rw [h.own.cell, nv_at, hi]; rfl
theorem abs_any (x : Int) (b : Nat) (w : World) (hb0 : NB w b [x]) (h : In x) : Calls Tryz.prog 49 #[.slice (some ⟨b, 0, none⟩) 1 1] w fun e w' => e = .returned (numV (sz x)) ∧ Below w.heap.size w w' := by
  have x0 := hb0.at (i := 0) (x := x) rfl
  have hlt := hb0.lt
  have hs := sz_in h
  unfold numV
  go_enter Tryz.func49, Tryz.ntmps49
  go_wp2_with (first | (go_at_call 84; refine (nsize_any _ _ h).mono ?_; rintro e w1 ⟨rfl, rfl⟩) | (go_at_call 83; refine (num_t _ _ hs.i64 (by have := hs.1; omega)).mono ?_; rintro e w1 ⟨rfl, hb⟩; have hB : Below w.heap.size w w1 := bup (by with_reducible (repeat' first | assumption | exact Below.refl _ _ | refine Below.drew ?_ | refine bdrewN ?_ _ | refine Below.setCell ?_ (by first | exact Nat.le_refl _ | (simp; done) | (simp; omega) | omega) _ | refine Below.alloc ?_ (by first | exact Nat.le_refl _ | (simp; done) | (simp; omega) | omega) _)) hb; have o0 : Own w1 (w.heap.size) #[.int .i64 0, .int .i64 0, .string ⟨#[]⟩, .bool false, .int .i64 0] := Own.keep (by with_reducible (repeat' first | assumption | refine Own.drew ?_ | refine Own.drewN ?_ _ | (refine Own.at ?_; first | rfl | (simp; done)) | refine Own.past ?_ _)) hb; have c0 := o0.cell; have f0 := o0.fro; have l0 := o0.lt))
  exact bodyPost_ret (v := (.agg #[.int .i64 (1), .int .i64 (sz x), .string ⟨#[]⟩, .bool false, .int .i64 (0)])) (by simp [results, Tryz.results49, go_sem, c0, f0, l0]) rfl ⟨rfl, by with_reducible (repeat' first | assumption | exact Below.refl _ _ | refine Below.drew ?_ | refine bdrewN ?_ _ | refine Below.setCell ?_ (by first | exact Nat.le_refl _ | (simp; done) | (simp; omega) | omega) _ | refine Below.alloc ?_ (by first | exact Nat.le_refl _ | (simp; done) | (simp; omega) | omega) _)⟩
theorem broken_any (x : Int) (w : World) (h : I64 x) : Calls Tryz.prog 97 #[.int .i64 x] w fun e w' => e = .returned (.bool (!wholeOk x)) ∧ w' = w := by
  go_enter Tryz.func97, Tryz.ntmps97
  go_wp2_with (go_at_call 100; refine (whole_any _ _ h).mono ?_; rintro e w1 ⟨rfl, rfl⟩)
  go_ret
  exact ⟨rfl, rfl⟩
end Go.Proofs.YtfpbcokfianjaaaGreat
