/- The contract of dec.Div, of any two int64. Nothing is written (orders are drawn). -/
import Derived.Test.YtimcdeibjiekpaaDoorMul
import Derived.Test.YtimcdeibjiekpaaDoorDivW
namespace Go.Proofs.YtimcdeibjiekpaaDoor
open Go.Shelf Go.RowKit
set_option linter.unusedVariables false
/-- Div, of any two int64 of which the second is not 0 and both may be. -/
theorem div_any (a b : Int) (w : World) (ha3 : -9223372036854775807 ≤ a) (ha2 : a ≤ 9223372036854775807) (hb3 : -9223372036854775807 ≤ b) (hb2 : b ≤ 9223372036854775807) (hZ : b ≠ 0) : Calls Tryd.prog 21 #[.int .i64 a, .int .i64 b] w fun e w' => e = .returned (.tuple #[.int .i64 (okV (divOk a b) (sgn a b (divQ a b))), .int .i64 (okC (divOk a b))]) ∧ ∃ n, w' = w.drewN n := by
  have sa := sizeV_range ha3 ha2
  have sb := sizeV_range hb3 hb2
  have sb0 : 0 < sizeV b := by unfold sizeV; split <;> omega
  have hm := mul64_is (sizeV a) 10000 sa.1 (by omega) (by omega) (by omega)
  have hp : 0 ≤ sizeV a * 10000 := by omega
  have hq : QuotIs _ _ (sizeV b) (divQ a b) := split_is hp sb0 (by omega)
  have hv0 : 0 ≤ divQ a b := qr_nonneg hp sb0
  by_cases hv : 9223372036854775807 < divQ a b
  · have ok : divOk a b = false := by unfold divOk; rw [decide_eq_false (by omega)]
    rw [okV_f ok, okC_f ok]
    by_cases hA : a < 0
    · by_cases hB : b < 0
      · exact div_nn_big a b _ _ _ w ha3 ha2 hb3 hb2 hA hB hZ hm hq hv
      · exact div_np_big a b _ _ _ w ha3 ha2 hb3 hb2 hA (by omega) hZ hm hq hv
    · by_cases hB : b < 0
      · exact div_pn_big a b _ _ _ w ha3 ha2 hb3 hb2 (by omega) hB hZ hm hq hv
      · exact div_pp_big a b _ _ _ w ha3 ha2 hb3 hb2 (by omega) (by omega) hZ hm hq hv
  · have ok : divOk a b = true := by unfold divOk; rw [decide_eq_true (show divQ a b ≤ 9223372036854775807 by omega)]
    rw [okV_t ok, okC_t ok]
    by_cases hA : a < 0
    · by_cases hB : b < 0
      · rw [sgn_same (by rw [decide_eq_true hA, decide_eq_true hB])]; exact div_nn_ok a b _ _ _ w ha3 ha2 hb3 hb2 hA hB hZ hm hq hv0 (by omega)
      · rw [sgn_diff (by rw [decide_eq_true hA, decide_eq_false hB]; decide)]; exact div_np_ok a b _ _ _ w ha3 ha2 hb3 hb2 hA (by omega) hZ hm hq hv0 (by omega)
    · by_cases hB : b < 0
      · rw [sgn_diff (by rw [decide_eq_false hA, decide_eq_true hB]; decide)]; exact div_pn_ok a b _ _ _ w ha3 ha2 hb3 hb2 (by omega) hB hZ hm hq hv0 (by omega)
      · rw [sgn_same (by rw [decide_eq_false hA, decide_eq_false hB])]; exact div_pp_ok a b _ _ _ w ha3 ha2 hb3 hb2 (by omega) (by omega) hZ hm hq hv0 (by omega)
end Go.Proofs.YtimcdeibjiekpaaDoor
