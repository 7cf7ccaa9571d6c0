/- The contracts of dec.Whole and of the document's Floor and Whole, of any int64. Nothing is written. -/
import Derived.Test.YtimcdeibjiekpaaDoorFloor
import Derived.Test.YtimcdeibjiekpaaDoorRMod
namespace Go.Proofs.YtimcdeibjiekpaaDoor
open Go.Shelf Go.RowKit
set_option linter.unusedVariables false
theorem rfloor_min (x : Int) (w : World) (hx : x = -9223372036854775808) : Calls Tryd.prog 28 #[.int .i64 x] w fun e w' => e = .returned (.tuple #[.int .i64 0, .int .i64 2]) ∧ w' = w := by
  go_enter Tryd.func28, Tryd.ntmps28
  go_wp2_with (go_at_call 17; refine (rmay_f _ _ (by omega)).mono ?_; rintro e w' ⟨rfl, rfl⟩)
  go_ret2
  exact ⟨rfl, rfl⟩
theorem rfloor_p (x : Int) (w : World) (hx1 : -9223372036854775807 ≤ x) (hx2 : x ≤ 9223372036854775807) (hr : 0 ≤ x.tmod 10000) (hr2 : x.tmod 10000 < 10000) : Calls Tryd.prog 28 #[.int .i64 x] w fun e w' => e = .returned (.tuple #[.int .i64 (okV (subOk x (x.tmod 10000)) (x - x.tmod 10000)), .int .i64 (okC (subOk x (x.tmod 10000)))]) ∧ w' = w := by
  generalize hg : x.tmod 10000 = r at *
  have hw : wrap64 r = r := by unfold wrap64; omega
  have dr : decide (r < 0) = false := decide_eq_false (by omega)
  go_enter Tryd.func28, Tryd.ntmps28
  go_wp2_with (first | (go_at_call 17; refine (rmay_t _ _ (by omega)).mono ?_; rintro e w' ⟨rfl, rfl⟩) | (go_at_call 13; refine (rsub_any _ _ _ ⟨by omega, by omega⟩ ⟨by omega, by omega⟩).mono ?_; rintro e w' ⟨rfl, rfl⟩))
  go_ret2
  exact ⟨rfl, rfl⟩
theorem rfloor_n (x : Int) (w : World) (hx1 : -9223372036854775807 ≤ x) (hx2 : x ≤ 9223372036854775807) (hr : x.tmod 10000 < 0) (hr2 : -10000 < x.tmod 10000) : Calls Tryd.prog 28 #[.int .i64 x] w fun e w' => e = .returned (.tuple #[.int .i64 (okV (subOk x (x.tmod 10000 + 10000)) (x - (x.tmod 10000 + 10000))), .int .i64 (okC (subOk x (x.tmod 10000 + 10000)))]) ∧ w' = w := by
  generalize hg : x.tmod 10000 = r at *
  have hw : wrap64 r = r := by unfold wrap64; omega
  have dr : decide (r < 0) = true := decide_eq_true hr
  go_enter Tryd.func28, Tryd.ntmps28
  go_wp2_with (first | (go_at_call 17; refine (rmay_t _ _ (by omega)).mono ?_; rintro e w' ⟨rfl, rfl⟩) | (go_at_call 13; refine (rsub_any _ _ _ ⟨by omega, by omega⟩ ⟨by omega, by omega⟩).mono ?_; rintro e w' ⟨rfl, rfl⟩))
  go_ret2
  exact ⟨rfl, rfl⟩
theorem rfloor_any (x : Int) (w : World) (hx : I64 x) : Calls Tryd.prog 28 #[.int .i64 x] w fun e w' => e = .returned (.tuple #[.int .i64 (okV (floorOk x) (x - x % 10000)), .int .i64 (okC (floorOk x))]) ∧ w' = w := by
  obtain ⟨hx1, hx2⟩ := hx
  by_cases hm : x = -9223372036854775808
  · have ok : floorOk x = false := by unfold floorOk; rw [mayOk_f hm]; rfl
    rw [okV_f ok, okC_f ok]; exact rfloor_min x w hm
  have hx3 : -9223372036854775807 ≤ x := by omega
  have hf : floorOk x = subOk x (x % 10000) := by unfold floorOk; rw [mayOk_t hx3]; rfl
  rw [hf]
  by_cases h0 : 0 ≤ x
  · have e : x.tmod 10000 = x % 10000 := Int.tmod_eq_emod_of_nonneg h0
    have c := rfloor_p x w hx3 hx2 (by omega) (by omega)
    rw [e] at c; exact c
  · have e : x.tmod 10000 = -((-x) % 10000) := by
      rw [← Int.tmod_eq_emod_of_nonneg (show 0 ≤ -x by omega), Int.neg_tmod]; omega
    by_cases hz : x % 10000 = 0
    · have c := rfloor_p x w hx3 hx2 (by omega) (by omega)
      rw [show x.tmod 10000 = x % 10000 by omega] at c; exact c
    · have c := rfloor_n x w hx3 hx2 (by omega) (by omega)
      rw [show x.tmod 10000 + 10000 = x % 10000 by omega] at c; exact c
theorem whole_min (x : Int) (w : World) (hx : x = -9223372036854775808) : Calls Tryd.prog 29 #[.int .i64 x] w fun e w' => e = .returned (.tuple #[.int .i64 0, .bool false]) ∧ w' = w := by
  go_enter Tryd.func29, Tryd.ntmps29
  go_wp2_with (go_at_call 16; refine (may_f _ _ (by omega)).mono ?_; rintro e w' ⟨rfl, rfl⟩)
  go_ret2
  exact ⟨rfl, rfl⟩
theorem whole_no (x : Int) (w : World) (hx1 : -9223372036854775807 ≤ x) (hx2 : x ≤ 9223372036854775807) (hr : x.tmod 10000 ≠ 0) : Calls Tryd.prog 29 #[.int .i64 x] w fun e w' => e = .returned (.tuple #[.int .i64 0, .bool false]) ∧ w' = w := by
  have hb : (x.tmod 10000).natAbs < 10000 := tmod_bd x 10000 (by decide)
  generalize hg : x.tmod 10000 = r at *
  have hw : wrap64 r = r := by unfold wrap64; omega
  have hz : (r != 0) = true := by simp; omega
  go_enter Tryd.func29, Tryd.ntmps29
  go_wp2_with (go_at_call 16; refine (may_t _ _ (by omega)).mono ?_; rintro e w' ⟨rfl, rfl⟩)
  go_ret2
  exact ⟨rfl, rfl⟩
theorem whole_yes (x q : Int) (w : World) (hx1 : -9223372036854775807 ≤ x) (hx2 : x ≤ 9223372036854775807) (hr : x.tmod 10000 = 0) (hq : x.tdiv 10000 = q) (hq1 : -9223372036854775807 ≤ q) (hq2 : q ≤ 9223372036854775807) : Calls Tryd.prog 29 #[.int .i64 x] w fun e w' => e = .returned (.tuple #[.int .i64 q, .bool true]) ∧ w' = w := by
  have hw : wrap64 q = q := by unfold wrap64; omega
  have hw0 : wrap64 0 = 0 := by unfold wrap64; omega
  go_enter Tryd.func29, Tryd.ntmps29
  go_wp2_with (go_at_call 16; refine (may_t _ _ (by omega)).mono ?_; rintro e w' ⟨rfl, rfl⟩)
  go_ret2
  exact ⟨rfl, rfl⟩
theorem whole_any (x : Int) (w : World) (hx : I64 x) : Calls Tryd.prog 29 #[.int .i64 x] w fun e w' => e = .returned (.tuple #[.int .i64 (okV (wholeOk x) (x.tdiv 10000)), .bool (wholeOk x)]) ∧ w' = w := by
  obtain ⟨hx1, hx2⟩ := hx
  by_cases hm : x = -9223372036854775808
  · have ok : wholeOk x = false := by unfold wholeOk; rw [mayOk_f hm]; rfl
    rw [okV_f ok, ok]; exact whole_min x w hm
  have hx3 : -9223372036854775807 ≤ x := by omega
  by_cases hr : x.tmod 10000 = 0
  · have ok : wholeOk x = true := by unfold wholeOk; rw [mayOk_t hx3, hr]; rfl
    rw [okV_t ok, ok]
    have hb : (x.tdiv 10000).natAbs = x.natAbs / 10000 := Int.natAbs_tdiv x 10000
    exact whole_yes x _ w hx3 hx2 hr rfl (by omega) (by omega)
  · have ok : wholeOk x = false := by unfold wholeOk; rw [decide_eq_false hr]; simp
    rw [okV_f ok, ok]; exact whole_no x w hx3 hx2 hr
theorem rwhole_min (x : Int) (w : World) (hx : x = -9223372036854775808) : Calls Tryd.prog 30 #[.int .i64 x] w fun e w' => e = .returned (.tuple #[.int .i64 0, .bool false]) ∧ w' = w := by
  go_enter Tryd.func30, Tryd.ntmps30
  go_wp2_with (go_at_call 17; refine (rmay_f _ _ (by omega)).mono ?_; rintro e w' ⟨rfl, rfl⟩)
  go_ret2
  exact ⟨rfl, rfl⟩
theorem rwhole_no (x : Int) (w : World) (hx1 : -9223372036854775807 ≤ x) (hx2 : x ≤ 9223372036854775807) (hr : x.tmod 10000 ≠ 0) : Calls Tryd.prog 30 #[.int .i64 x] w fun e w' => e = .returned (.tuple #[.int .i64 0, .bool false]) ∧ w' = w := by
  have hb : (x.tmod 10000).natAbs < 10000 := tmod_bd x 10000 (by decide)
  generalize hg : x.tmod 10000 = r at *
  have hw : wrap64 r = r := by unfold wrap64; omega
  have hz : (r != 0) = true := by simp; omega
  go_enter Tryd.func30, Tryd.ntmps30
  go_wp2_with (go_at_call 17; refine (rmay_t _ _ (by omega)).mono ?_; rintro e w' ⟨rfl, rfl⟩)
  go_ret2
  exact ⟨rfl, rfl⟩
theorem rwhole_yes (x q : Int) (w : World) (hx1 : -9223372036854775807 ≤ x) (hx2 : x ≤ 9223372036854775807) (hr : x.tmod 10000 = 0) (hq : x.tdiv 10000 = q) (hq1 : -9223372036854775807 ≤ q) (hq2 : q ≤ 9223372036854775807) : Calls Tryd.prog 30 #[.int .i64 x] w fun e w' => e = .returned (.tuple #[.int .i64 q, .bool true]) ∧ w' = w := by
  have hw : wrap64 q = q := by unfold wrap64; omega
  have hw0 : wrap64 0 = 0 := by unfold wrap64; omega
  go_enter Tryd.func30, Tryd.ntmps30
  go_wp2_with (go_at_call 17; refine (rmay_t _ _ (by omega)).mono ?_; rintro e w' ⟨rfl, rfl⟩)
  go_ret2
  exact ⟨rfl, rfl⟩
theorem rwhole_any (x : Int) (w : World) (hx : I64 x) : Calls Tryd.prog 30 #[.int .i64 x] w fun e w' => e = .returned (.tuple #[.int .i64 (okV (wholeOk x) (x.tdiv 10000)), .bool (wholeOk x)]) ∧ w' = w := by
  obtain ⟨hx1, hx2⟩ := hx
  by_cases hm : x = -9223372036854775808
  · have ok : wholeOk x = false := by unfold wholeOk; rw [mayOk_f hm]; rfl
    rw [okV_f ok, ok]; exact rwhole_min x w hm
  have hx3 : -9223372036854775807 ≤ x := by omega
  by_cases hr : x.tmod 10000 = 0
  · have ok : wholeOk x = true := by unfold wholeOk; rw [mayOk_t hx3, hr]; rfl
    rw [okV_t ok, ok]
    have hb : (x.tdiv 10000).natAbs = x.natAbs / 10000 := Int.natAbs_tdiv x 10000
    exact rwhole_yes x _ w hx3 hx2 hr rfl (by omega) (by omega)
  · have ok : wholeOk x = false := by unfold wholeOk; rw [decide_eq_false hr]; simp
    rw [okV_f ok, ok]; exact rwhole_no x w hx3 hx2 hr
end Go.Proofs.YtimcdeibjiekpaaDoor
