/- The contract of dec.Whole, of any int64. Nothing is written. -/
import Derived.Test.YtmfbplicakappaaGreatDoorQV1
namespace Go.Proofs.YtmfbplicakappaaGreatDoor
open Go.RowKit
set_option linter.unusedVariables false
def wholeOk (x : Int) : Bool := mayOk x && decide (x.tmod 10000 = 0)
def okV (ok : Bool) (x : Int) : Int := if ok then x else 0
theorem okV_t {o : Bool} {x : Int} (h : o = true) : okV o x = x := by simp [okV, h]
theorem okV_f {o : Bool} {x : Int} (h : o = false) : okV o x = 0 := by simp [okV, h]
theorem tmod_bd (a b : Int) (hb : b ≠ 0) : (a.tmod b).natAbs < b.natAbs := by
  rw [Int.natAbs_tmod]; exact Nat.mod_lt _ (by omega)
theorem whole_min (x : Int) (w : World) (hx : x = -9223372036854775808) : Calls Tryz.prog 103 #[.int .i64 x] w fun e w' => e = .returned (.tuple #[.int .i64 0, .bool false]) ∧ w' = w := by
  go_enter Tryz.func103, Tryz.ntmps103
  go_wp2_with (go_at_call 141; refine (may_f _ _ (by omega)).mono ?_; rintro e w' ⟨rfl, rfl⟩)
  go_ret2
  exact ⟨rfl, rfl⟩
theorem whole_no (x : Int) (w : World) (hx1 : -9223372036854775807 ≤ x) (hx2 : x ≤ 9223372036854775807) (hr : x.tmod 10000 ≠ 0) : Calls Tryz.prog 103 #[.int .i64 x] w fun e w' => e = .returned (.tuple #[.int .i64 0, .bool false]) ∧ w' = w := by
  have hb : (x.tmod 10000).natAbs < 10000 := tmod_bd x 10000 (by decide)
  generalize hg : x.tmod 10000 = r at *
  have hw : wrap64 r = r := by unfold wrap64; omega
  have hz : (r != 0) = true := by simp; omega
  go_enter Tryz.func103, Tryz.ntmps103
  go_wp2_with (go_at_call 141; refine (may_t _ _ (by omega)).mono ?_; rintro e w' ⟨rfl, rfl⟩)
  go_ret2
  exact ⟨rfl, rfl⟩
theorem whole_yes (x q : Int) (w : World) (hx1 : -9223372036854775807 ≤ x) (hx2 : x ≤ 9223372036854775807) (hr : x.tmod 10000 = 0) (hq : x.tdiv 10000 = q) (hq1 : -9223372036854775807 ≤ q) (hq2 : q ≤ 9223372036854775807) : Calls Tryz.prog 103 #[.int .i64 x] w fun e w' => e = .returned (.tuple #[.int .i64 q, .bool true]) ∧ w' = w := by
  have hw : wrap64 q = q := by unfold wrap64; omega
  have hw0 : wrap64 0 = 0 := by unfold wrap64; omega
  go_enter Tryz.func103, Tryz.ntmps103
  go_wp2_with (go_at_call 141; refine (may_t _ _ (by omega)).mono ?_; rintro e w' ⟨rfl, rfl⟩)
  go_ret2
  exact ⟨rfl, rfl⟩
theorem whole_any (x : Int) (w : World) (hx : I64 x) : Calls Tryz.prog 103 #[.int .i64 x] w fun e w' => e = .returned (.tuple #[.int .i64 (okV (wholeOk x) (x.tdiv 10000)), .bool (wholeOk x)]) ∧ w' = w := by
  obtain ⟨hx1, hx2⟩ := hx
  by_cases hm : x = -9223372036854775808
  · have ok : wholeOk x = false := by unfold wholeOk; rw [mayOk_f hm]; rfl
    rw [okV_f ok, ok]; exact whole_min x w hm
  have hx3 : -9223372036854775807 ≤ x := by omega
  by_cases hr : x.tmod 10000 = 0
  · have ok : wholeOk x = true := by unfold wholeOk; rw [mayOk_t hx3, hr]; rfl
    rw [okV_t ok, ok]
    have hb : (x.tdiv 10000).natAbs = x.natAbs / 10000 := Int.natAbs_tdiv x 10000
    exact whole_yes x _ w hx3 hx2 hr rfl (by omega) (by omega)
  · have ok : wholeOk x = false := by unfold wholeOk; rw [decide_eq_false hr]; simp
    rw [okV_f ok, ok]; exact whole_no x w hx3 hx2 hr
end Go.Proofs.YtmfbplicakappaaGreatDoor
