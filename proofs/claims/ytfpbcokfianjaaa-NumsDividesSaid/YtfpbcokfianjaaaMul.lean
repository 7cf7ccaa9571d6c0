/- The contracts of dec.quotient, dec.Mul and dec.Div, of any arguments that the program hands on and of any two int64: the product and the quotient, rounded once. Nothing is written (orders are drawn). -/
import Derived.Test.YtfpbcokfianjaaaDiv64Any
namespace Go.Proofs.Ytfpbcokfianjaaa
open Go.Shelf Go.RowKit
set_option linter.unusedVariables false
theorem quot_is (hi lo y : Int) (hi0 : 0 ≤ hi) (hlo : 0 ≤ lo) (hlo1 : lo < 18446744073709551616) (hy : 0 < y) (hy1 : y < 18446744073709551616) : QuotIs hi lo y (qr (hi * 18446744073709551616 + lo) y) := by
  refine quot_of hi lo y hi0 hlo hlo1 hy hy1 fun h => ?_
  by_cases hz : hi = 0
  · subst hz
    rw [show (0 : Int) * 18446744073709551616 + lo = lo by omega]
    exact fun w => div64_0 lo y w hlo hlo1 hy hy1
  · exact div64_is hi lo y (by omega) h hlo hlo1 hy1
/-- A product's and a quotient's parts, without the sign. -/
def mulQ (a b : Int) : Int := qr (sizeV a * sizeV b) 10000
def divQ (a b : Int) : Int := qr (sizeV a * 10000) (sizeV b)
/-- With the sign of two numbers. -/
def sgn (a b v : Int) : Int := if decide (a < 0) = decide (b < 0) then v else -v
def mulOk (a b : Int) : Bool := mayOk a && mayOk b && decide (mulQ a b ≤ 9223372036854775807)
def divOk (a b : Int) : Bool := decide (divQ a b ≤ 9223372036854775807)
theorem qr_nonneg {n y : Int} (hn : 0 ≤ n) (hy : 0 < y) : 0 ≤ qr n y := by
  have : 0 ≤ n / y := Int.ediv_nonneg hn (by omega)
  unfold qr; split
  · omega
  · split <;> omega
theorem split_is {p y : Int} (hp : 0 ≤ p) (hy : 0 < y) (hy1 : y < 18446744073709551616) : QuotIs (p / 18446744073709551616) (p % 18446744073709551616) y (qr p y) := by
  have h := quot_is (p / 18446744073709551616) (p % 18446744073709551616) y (by omega) (by omega) (by omega) hy hy1
  rw [show p / 18446744073709551616 * 18446744073709551616 + p % 18446744073709551616 = p by omega] at h
  exact h
theorem sgn_same {a b v : Int} (h : decide (a < 0) = decide (b < 0)) : sgn a b v = v := by unfold sgn; rw [if_pos h]
theorem sgn_diff {a b v : Int} (h : decide (a < 0) ≠ decide (b < 0)) : sgn a b v = -v := by unfold sgn; rw [if_neg h]
/-- Mul, of any two int64. -/
theorem mul_any (a b : Int) (w : World) (ha : I64 a) (hb : I64 b) : Calls Try.prog 63 #[.int .i64 a, .int .i64 b] w fun e w' => e = .returned (.tuple #[.int .i64 (okV (mulOk a b) (sgn a b (mulQ a b))), .int .i64 (okC (mulOk a b))]) ∧ ∃ n, w' = w.drewN n := by
  obtain ⟨ha1, ha2⟩ := ha
  obtain ⟨hb1, hb2⟩ := hb
  by_cases hA : a = -9223372036854775808
  · have ok : mulOk a b = false := by unfold mulOk; rw [mayOk_f hA]; rfl
    rw [okV_f ok, okC_f ok]; exact mul_aMin a b w hA
  by_cases hB : b = -9223372036854775808
  · have ok : mulOk a b = false := by unfold mulOk; rw [mayOk_f hB]; simp
    rw [okV_f ok, okC_f ok]; exact mul_bMin a b w (by omega) hB
  have ha3 : -9223372036854775807 ≤ a := by omega
  have hb3 : -9223372036854775807 ≤ b := by omega
  have sa := sizeV_range ha3 ha2
  have sb := sizeV_range hb3 hb2
  have hm := mul64_is (sizeV a) (sizeV b) sa.1 (by omega) sb.1 (by omega)
  have hp : 0 ≤ sizeV a * sizeV b := Int.mul_nonneg sa.1 sb.1
  have hq : QuotIs _ _ 10000 (mulQ a b) := split_is hp (by omega) (by omega)
  have hv0 : 0 ≤ mulQ a b := qr_nonneg hp (by omega)
  by_cases hv : 9223372036854775807 < mulQ a b
  · have ok : mulOk a b = false := by unfold mulOk; rw [decide_eq_false (by omega)]; simp
    rw [okV_f ok, okC_f ok]
    by_cases hA : a < 0
    · by_cases hB : b < 0
      · exact mul_nn_big a b _ _ _ w ha3 ha2 hb3 hb2 hA hB hm hq hv
      · exact mul_np_big a b _ _ _ w ha3 ha2 hb3 hb2 hA (by omega) hm hq hv
    · by_cases hB : b < 0
      · exact mul_pn_big a b _ _ _ w ha3 ha2 hb3 hb2 (by omega) hB hm hq hv
      · exact mul_pp_big a b _ _ _ w ha3 ha2 hb3 hb2 (by omega) (by omega) hm hq hv
  · have ok : mulOk a b = true := by unfold mulOk; rw [mayOk_t ha3, mayOk_t hb3, decide_eq_true (show mulQ a b ≤ 9223372036854775807 by omega)]; rfl
    rw [okV_t ok, okC_t ok]
    by_cases hA : a < 0
    · by_cases hB : b < 0
      · rw [sgn_same (by rw [decide_eq_true hA, decide_eq_true hB])]; exact mul_nn_ok a b _ _ _ w ha3 ha2 hb3 hb2 hA hB hm hq hv0 (by omega)
      · rw [sgn_diff (by rw [decide_eq_true hA, decide_eq_false hB]; decide)]; exact mul_np_ok a b _ _ _ w ha3 ha2 hb3 hb2 hA (by omega) hm hq hv0 (by omega)
    · by_cases hB : b < 0
      · rw [sgn_diff (by rw [decide_eq_false hA, decide_eq_true hB]; decide)]; exact mul_pn_ok a b _ _ _ w ha3 ha2 hb3 hb2 (by omega) hB hm hq hv0 (by omega)
      · rw [sgn_same (by rw [decide_eq_false hA, decide_eq_false hB])]; exact mul_pp_ok a b _ _ _ w ha3 ha2 hb3 hb2 (by omega) (by omega) hm hq hv0 (by omega)
end Go.Proofs.Ytfpbcokfianjaaa
