/- The ways through dec.Div, over the answers of Mul64 and quotient. Nothing is written (orders are drawn). -/
import Derived.Test.YtimcdeibjiekpaaDoorQuot
namespace Go.Proofs.YtimcdeibjiekpaaDoor
open Go.Shelf Go.RowKit
set_option linter.unusedVariables false
set_option maxRecDepth 10000 in
theorem div_pp_big (a b hi lo v : Int) (w : World) (ha1 : -9223372036854775807 ≤ a) (ha2 : a ≤ 9223372036854775807) (hb1 : -9223372036854775807 ≤ b) (hb2 : b ≤ 9223372036854775807) (ha0 : 0 ≤ a) (hb0 : 0 ≤ b) (hbz : b ≠ 0) (hm : MulIs (sizeV a) 10000 hi lo) (hq : QuotIs hi lo (sizeV b) v) (hv : 9223372036854775807 < v) : Calls Tryd.prog 21 #[.int .i64 a, .int .i64 b] w fun e w' => e = .returned (.tuple #[.int .i64 0, .int .i64 2]) ∧ ∃ n, w' = w.drewN n := by
  have hb3 : 0 < b := by omega
  have da : decide (a < 0) = false := decide_eq_false (by omega)
  have db : decide (b < 0) = false := decide_eq_false (by omega)
  go_enter Tryd.func21, Tryd.ntmps21
  go_wp2_with (first | (go_at_call 16; refine (may_t _ _ (by omega)).mono ?_; rintro e w' ⟨rfl, rfl⟩) | (go_at_call 44; refine (size_any _ _ (by omega) (by omega)).mono ?_; rintro e w' ⟨rfl, rfl⟩) | (go_at_call 43; refine (hm _).mono ?_; rintro e w' ⟨rfl, rfl⟩) | (go_at_call 46; refine (hq _).mono ?_; rintro e w' ⟨rfl, n, rfl⟩) | (go_at_call 45; refine (signed_big _ _ _ (by omega)).mono ?_; rintro e w' ⟨rfl, rfl⟩))
  go_ret2
  exact ⟨rfl, n, rfl⟩
set_option maxRecDepth 10000 in
theorem div_pp_ok (a b hi lo v : Int) (w : World) (ha1 : -9223372036854775807 ≤ a) (ha2 : a ≤ 9223372036854775807) (hb1 : -9223372036854775807 ≤ b) (hb2 : b ≤ 9223372036854775807) (ha0 : 0 ≤ a) (hb0 : 0 ≤ b) (hbz : b ≠ 0) (hm : MulIs (sizeV a) 10000 hi lo) (hq : QuotIs hi lo (sizeV b) v) (hv0 : 0 ≤ v) (hv : v ≤ 9223372036854775807) : Calls Tryd.prog 21 #[.int .i64 a, .int .i64 b] w fun e w' => e = .returned (.tuple #[.int .i64 v, .int .i64 0]) ∧ ∃ n, w' = w.drewN n := by
  have hb3 : 0 < b := by omega
  have da : decide (a < 0) = false := decide_eq_false (by omega)
  have db : decide (b < 0) = false := decide_eq_false (by omega)
  go_enter Tryd.func21, Tryd.ntmps21
  go_wp2_with (first | (go_at_call 16; refine (may_t _ _ (by omega)).mono ?_; rintro e w' ⟨rfl, rfl⟩) | (go_at_call 44; refine (size_any _ _ (by omega) (by omega)).mono ?_; rintro e w' ⟨rfl, rfl⟩) | (go_at_call 43; refine (hm _).mono ?_; rintro e w' ⟨rfl, rfl⟩) | (go_at_call 46; refine (hq _).mono ?_; rintro e w' ⟨rfl, n, rfl⟩) | (go_at_call 45; refine (signed_pos _ _ (by omega) (by omega)).mono ?_; rintro e w' ⟨rfl, rfl⟩))
  go_ret2
  exact ⟨rfl, n, rfl⟩
set_option maxRecDepth 10000 in
theorem div_nn_big (a b hi lo v : Int) (w : World) (ha1 : -9223372036854775807 ≤ a) (ha2 : a ≤ 9223372036854775807) (hb1 : -9223372036854775807 ≤ b) (hb2 : b ≤ 9223372036854775807) (ha0 : a < 0) (hb0 : b < 0) (hbz : b ≠ 0) (hm : MulIs (sizeV a) 10000 hi lo) (hq : QuotIs hi lo (sizeV b) v) (hv : 9223372036854775807 < v) : Calls Tryd.prog 21 #[.int .i64 a, .int .i64 b] w fun e w' => e = .returned (.tuple #[.int .i64 0, .int .i64 2]) ∧ ∃ n, w' = w.drewN n := by
  go_enter Tryd.func21, Tryd.ntmps21
  go_wp2_with (first | (go_at_call 16; refine (may_t _ _ (by omega)).mono ?_; rintro e w' ⟨rfl, rfl⟩) | (go_at_call 44; refine (size_any _ _ (by omega) (by omega)).mono ?_; rintro e w' ⟨rfl, rfl⟩) | (go_at_call 43; refine (hm _).mono ?_; rintro e w' ⟨rfl, rfl⟩) | (go_at_call 46; refine (hq _).mono ?_; rintro e w' ⟨rfl, n, rfl⟩) | (go_at_call 45; refine (signed_big _ _ _ (by omega)).mono ?_; rintro e w' ⟨rfl, rfl⟩))
  go_ret2
  exact ⟨rfl, n, rfl⟩
set_option maxRecDepth 10000 in
theorem div_nn_ok (a b hi lo v : Int) (w : World) (ha1 : -9223372036854775807 ≤ a) (ha2 : a ≤ 9223372036854775807) (hb1 : -9223372036854775807 ≤ b) (hb2 : b ≤ 9223372036854775807) (ha0 : a < 0) (hb0 : b < 0) (hbz : b ≠ 0) (hm : MulIs (sizeV a) 10000 hi lo) (hq : QuotIs hi lo (sizeV b) v) (hv0 : 0 ≤ v) (hv : v ≤ 9223372036854775807) : Calls Tryd.prog 21 #[.int .i64 a, .int .i64 b] w fun e w' => e = .returned (.tuple #[.int .i64 v, .int .i64 0]) ∧ ∃ n, w' = w.drewN n := by
  go_enter Tryd.func21, Tryd.ntmps21
  go_wp2_with (first | (go_at_call 16; refine (may_t _ _ (by omega)).mono ?_; rintro e w' ⟨rfl, rfl⟩) | (go_at_call 44; refine (size_any _ _ (by omega) (by omega)).mono ?_; rintro e w' ⟨rfl, rfl⟩) | (go_at_call 43; refine (hm _).mono ?_; rintro e w' ⟨rfl, rfl⟩) | (go_at_call 46; refine (hq _).mono ?_; rintro e w' ⟨rfl, n, rfl⟩) | (go_at_call 45; refine (signed_pos _ _ (by omega) (by omega)).mono ?_; rintro e w' ⟨rfl, rfl⟩))
  go_ret2
  exact ⟨rfl, n, rfl⟩
set_option maxRecDepth 10000 in
theorem div_np_big (a b hi lo v : Int) (w : World) (ha1 : -9223372036854775807 ≤ a) (ha2 : a ≤ 9223372036854775807) (hb1 : -9223372036854775807 ≤ b) (hb2 : b ≤ 9223372036854775807) (ha0 : a < 0) (hb0 : 0 ≤ b) (hbz : b ≠ 0) (hm : MulIs (sizeV a) 10000 hi lo) (hq : QuotIs hi lo (sizeV b) v) (hv : 9223372036854775807 < v) : Calls Tryd.prog 21 #[.int .i64 a, .int .i64 b] w fun e w' => e = .returned (.tuple #[.int .i64 0, .int .i64 2]) ∧ ∃ n, w' = w.drewN n := by
  have hb3 : 0 < b := by omega
  have db : decide (b < 0) = false := decide_eq_false (by omega)
  go_enter Tryd.func21, Tryd.ntmps21
  go_wp2_with (first | (go_at_call 16; refine (may_t _ _ (by omega)).mono ?_; rintro e w' ⟨rfl, rfl⟩) | (go_at_call 44; refine (size_any _ _ (by omega) (by omega)).mono ?_; rintro e w' ⟨rfl, rfl⟩) | (go_at_call 43; refine (hm _).mono ?_; rintro e w' ⟨rfl, rfl⟩) | (go_at_call 46; refine (hq _).mono ?_; rintro e w' ⟨rfl, n, rfl⟩) | (go_at_call 45; refine (signed_big _ _ _ (by omega)).mono ?_; rintro e w' ⟨rfl, rfl⟩))
  go_ret2
  exact ⟨rfl, n, rfl⟩
set_option maxRecDepth 10000 in
theorem div_np_ok (a b hi lo v : Int) (w : World) (ha1 : -9223372036854775807 ≤ a) (ha2 : a ≤ 9223372036854775807) (hb1 : -9223372036854775807 ≤ b) (hb2 : b ≤ 9223372036854775807) (ha0 : a < 0) (hb0 : 0 ≤ b) (hbz : b ≠ 0) (hm : MulIs (sizeV a) 10000 hi lo) (hq : QuotIs hi lo (sizeV b) v) (hv0 : 0 ≤ v) (hv : v ≤ 9223372036854775807) : Calls Tryd.prog 21 #[.int .i64 a, .int .i64 b] w fun e w' => e = .returned (.tuple #[.int .i64 (-v), .int .i64 0]) ∧ ∃ n, w' = w.drewN n := by
  have hb3 : 0 < b := by omega
  have db : decide (b < 0) = false := decide_eq_false (by omega)
  go_enter Tryd.func21, Tryd.ntmps21
  go_wp2_with (first | (go_at_call 16; refine (may_t _ _ (by omega)).mono ?_; rintro e w' ⟨rfl, rfl⟩) | (go_at_call 44; refine (size_any _ _ (by omega) (by omega)).mono ?_; rintro e w' ⟨rfl, rfl⟩) | (go_at_call 43; refine (hm _).mono ?_; rintro e w' ⟨rfl, rfl⟩) | (go_at_call 46; refine (hq _).mono ?_; rintro e w' ⟨rfl, n, rfl⟩) | (go_at_call 45; refine (signed_neg _ _ (by omega) (by omega)).mono ?_; rintro e w' ⟨rfl, rfl⟩))
  go_ret2
  exact ⟨rfl, n, rfl⟩
set_option maxRecDepth 10000 in
theorem div_pn_big (a b hi lo v : Int) (w : World) (ha1 : -9223372036854775807 ≤ a) (ha2 : a ≤ 9223372036854775807) (hb1 : -9223372036854775807 ≤ b) (hb2 : b ≤ 9223372036854775807) (ha0 : 0 ≤ a) (hb0 : b < 0) (hbz : b ≠ 0) (hm : MulIs (sizeV a) 10000 hi lo) (hq : QuotIs hi lo (sizeV b) v) (hv : 9223372036854775807 < v) : Calls Tryd.prog 21 #[.int .i64 a, .int .i64 b] w fun e w' => e = .returned (.tuple #[.int .i64 0, .int .i64 2]) ∧ ∃ n, w' = w.drewN n := by
  have da : decide (a < 0) = false := decide_eq_false (by omega)
  go_enter Tryd.func21, Tryd.ntmps21
  go_wp2_with (first | (go_at_call 16; refine (may_t _ _ (by omega)).mono ?_; rintro e w' ⟨rfl, rfl⟩) | (go_at_call 44; refine (size_any _ _ (by omega) (by omega)).mono ?_; rintro e w' ⟨rfl, rfl⟩) | (go_at_call 43; refine (hm _).mono ?_; rintro e w' ⟨rfl, rfl⟩) | (go_at_call 46; refine (hq _).mono ?_; rintro e w' ⟨rfl, n, rfl⟩) | (go_at_call 45; refine (signed_big _ _ _ (by omega)).mono ?_; rintro e w' ⟨rfl, rfl⟩))
  go_ret2
  exact ⟨rfl, n, rfl⟩
set_option maxRecDepth 10000 in
theorem div_pn_ok (a b hi lo v : Int) (w : World) (ha1 : -9223372036854775807 ≤ a) (ha2 : a ≤ 9223372036854775807) (hb1 : -9223372036854775807 ≤ b) (hb2 : b ≤ 9223372036854775807) (ha0 : 0 ≤ a) (hb0 : b < 0) (hbz : b ≠ 0) (hm : MulIs (sizeV a) 10000 hi lo) (hq : QuotIs hi lo (sizeV b) v) (hv0 : 0 ≤ v) (hv : v ≤ 9223372036854775807) : Calls Tryd.prog 21 #[.int .i64 a, .int .i64 b] w fun e w' => e = .returned (.tuple #[.int .i64 (-v), .int .i64 0]) ∧ ∃ n, w' = w.drewN n := by
  have da : decide (a < 0) = false := decide_eq_false (by omega)
  go_enter Tryd.func21, Tryd.ntmps21
  go_wp2_with (first | (go_at_call 16; refine (may_t _ _ (by omega)).mono ?_; rintro e w' ⟨rfl, rfl⟩) | (go_at_call 44; refine (size_any _ _ (by omega) (by omega)).mono ?_; rintro e w' ⟨rfl, rfl⟩) | (go_at_call 43; refine (hm _).mono ?_; rintro e w' ⟨rfl, rfl⟩) | (go_at_call 46; refine (hq _).mono ?_; rintro e w' ⟨rfl, n, rfl⟩) | (go_at_call 45; refine (signed_neg _ _ (by omega) (by omega)).mono ?_; rintro e w' ⟨rfl, rfl⟩))
  go_ret2
  exact ⟨rfl, n, rfl⟩
theorem div_aMin (a b : Int) (w : World) (ha : a = -9223372036854775808) : Calls Tryd.prog 21 #[.int .i64 a, .int .i64 b] w fun e w' => e = .returned (.tuple #[.int .i64 0, .int .i64 2]) ∧ ∃ n, w' = w.drewN n := by
  go_enter Tryd.func21, Tryd.ntmps21
  go_wp2_with (go_at_call 16; refine (may_f _ _ (by omega)).mono ?_; rintro e w' ⟨rfl, rfl⟩)
  go_ret2
  exact ⟨rfl, 0, rfl⟩
theorem div_bMin (a b : Int) (w : World) (ha : -9223372036854775807 ≤ a) (hb : b = -9223372036854775808) : Calls Tryd.prog 21 #[.int .i64 a, .int .i64 b] w fun e w' => e = .returned (.tuple #[.int .i64 0, .int .i64 2]) ∧ ∃ n, w' = w.drewN n := by
  go_enter Tryd.func21, Tryd.ntmps21
  go_wp2_with (first | (go_at_call 16; refine (may_t _ _ (by omega)).mono ?_; rintro e w' ⟨rfl, rfl⟩) | (go_at_call 16; refine (may_f _ _ (by omega)).mono ?_; rintro e w' ⟨rfl, rfl⟩))
  go_ret2
  exact ⟨rfl, 0, rfl⟩
theorem div_zero (a b : Int) (w : World) (ha1 : -9223372036854775807 ≤ a) (hb : b = 0) : Calls Tryd.prog 21 #[.int .i64 a, .int .i64 b] w fun e w' => e = .returned (.tuple #[.int .i64 0, .int .i64 3]) ∧ ∃ n, w' = w.drewN n := by
  go_enter Tryd.func21, Tryd.ntmps21
  go_wp2_with (go_at_call 16; refine (may_t _ _ (by omega)).mono ?_; rintro e w' ⟨rfl, rfl⟩)
  go_ret2
  exact ⟨rfl, 0, rfl⟩
end Go.Proofs.YtimcdeibjiekpaaDoor
