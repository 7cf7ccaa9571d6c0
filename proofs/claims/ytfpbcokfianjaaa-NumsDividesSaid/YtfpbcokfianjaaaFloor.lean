/- The contract of dec.Floor, of any int64. Nothing is written. -/
import Derived.Test.YtfpbcokfianjaaaSums
namespace Go.Proofs.Ytfpbcokfianjaaa
open Go.Shelf Go.RowKit
set_option linter.unusedVariables false
/-- The whole number below may be; a number is whole. -/
def floorOk (x : Int) : Bool := mayOk x && subOk x (x % 10000)
def wholeOk (x : Int) : Bool := mayOk x && decide (x.tmod 10000 = 0)
theorem floor_min (x : Int) (w : World) (hx : x = -9223372036854775808) : Calls Try.prog 58 #[.int .i64 x] w fun e w' => e = .returned (.tuple #[.int .i64 0, .int .i64 2]) ∧ w' = w := by
  go_enter Try.func58, Try.ntmps58
  go_wp2_with (go_at_call 74; refine (may_f _ _ (by omega)).mono ?_; rintro e w' ⟨rfl, rfl⟩)
  go_ret2
  exact ⟨rfl, rfl⟩
theorem floor_p (x : Int) (w : World) (hx1 : -9223372036854775807 ≤ x) (hx2 : x ≤ 9223372036854775807) (hr : 0 ≤ x.tmod 10000) (hr2 : x.tmod 10000 < 10000) : Calls Try.prog 58 #[.int .i64 x] w fun e w' => e = .returned (.tuple #[.int .i64 (okV (subOk x (x.tmod 10000)) (x - x.tmod 10000)), .int .i64 (okC (subOk x (x.tmod 10000)))]) ∧ w' = w := by
  generalize hg : x.tmod 10000 = r at *
  have hw : wrap64 r = r := by unfold wrap64; omega
  have dr : decide (r < 0) = false := decide_eq_false (by omega)
  go_enter Try.func58, Try.ntmps58
  go_wp2_with (first | (go_at_call 74; refine (may_t _ _ (by omega)).mono ?_; rintro e w' ⟨rfl, rfl⟩) | (go_at_call 76; refine (sub_any _ _ _ ⟨by omega, by omega⟩ ⟨by omega, by omega⟩).mono ?_; rintro e w' ⟨rfl, rfl⟩))
  go_ret2
  exact ⟨rfl, rfl⟩
theorem floor_n (x : Int) (w : World) (hx1 : -9223372036854775807 ≤ x) (hx2 : x ≤ 9223372036854775807) (hr : x.tmod 10000 < 0) (hr2 : -10000 < x.tmod 10000) : Calls Try.prog 58 #[.int .i64 x] w fun e w' => e = .returned (.tuple #[.int .i64 (okV (subOk x (x.tmod 10000 + 10000)) (x - (x.tmod 10000 + 10000))), .int .i64 (okC (subOk x (x.tmod 10000 + 10000)))]) ∧ w' = w := by
  generalize hg : x.tmod 10000 = r at *
  have hw : wrap64 r = r := by unfold wrap64; omega
  have dr : decide (r < 0) = true := decide_eq_true hr
  go_enter Try.func58, Try.ntmps58
  go_wp2_with (first | (go_at_call 74; refine (may_t _ _ (by omega)).mono ?_; rintro e w' ⟨rfl, rfl⟩) | (go_at_call 76; refine (sub_any _ _ _ ⟨by omega, by omega⟩ ⟨by omega, by omega⟩).mono ?_; rintro e w' ⟨rfl, rfl⟩))
  go_ret2
  exact ⟨rfl, rfl⟩
theorem floor_any (x : Int) (w : World) (hx : I64 x) : Calls Try.prog 58 #[.int .i64 x] w fun e w' => e = .returned (.tuple #[.int .i64 (okV (floorOk x) (x - x % 10000)), .int .i64 (okC (floorOk x))]) ∧ w' = w := by
  obtain ⟨hx1, hx2⟩ := hx
  by_cases hm : x = -9223372036854775808
  · have ok : floorOk x = false := by unfold floorOk; rw [mayOk_f hm]; rfl
    rw [okV_f ok, okC_f ok]; exact floor_min x w hm
  have hx3 : -9223372036854775807 ≤ x := by omega
  have hf : floorOk x = subOk x (x % 10000) := by unfold floorOk; rw [mayOk_t hx3]; rfl
  rw [hf]
  by_cases h0 : 0 ≤ x
  · have e : x.tmod 10000 = x % 10000 := Int.tmod_eq_emod_of_nonneg h0
    have c := floor_p x w hx3 hx2 (by omega) (by omega)
    rw [e] at c; exact c
  · have e : x.tmod 10000 = -((-x) % 10000) := by
      rw [← Int.tmod_eq_emod_of_nonneg (show 0 ≤ -x by omega), Int.neg_tmod]; omega
    by_cases hz : x % 10000 = 0
    · have c := floor_p x w hx3 hx2 (by omega) (by omega)
      rw [show x.tmod 10000 = x % 10000 by omega] at c; exact c
    · have c := floor_n x w hx3 hx2 (by omega) (by omega)
      rw [show x.tmod 10000 + 10000 = x % 10000 by omega] at c; exact c
end Go.Proofs.Ytfpbcokfianjaaa
