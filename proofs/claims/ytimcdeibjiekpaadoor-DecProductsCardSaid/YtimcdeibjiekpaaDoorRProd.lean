/- The document's Mul and Div, of any two int64: the ways put together, in the words of dec.Mul's and dec.Div's. New memory alone is made. -/
import Derived.Test.YtimcdeibjiekpaaDoorRMul
import Derived.Test.YtimcdeibjiekpaaDoorRDiv
namespace Go.Proofs.YtimcdeibjiekpaaDoor
open Go.Shelf Go.RowKit
set_option linter.unusedVariables false
theorem prod_parts (m n : Int) : m * n = 100000000 * (m / 10000 * (n / 10000)) + 10000 * (m / 10000 * (n % 10000)) + 10000 * (n / 10000 * (m % 10000)) + m % 10000 * (n % 10000) := by
  have h1 := Int.mul_ediv_add_emod m 10000
  have h2 := Int.mul_ediv_add_emod n 10000
  have e : m * n = (10000 * (m / 10000) + m % 10000) * (10000 * (n / 10000) + n % 10000) := by rw [h1, h2]
  rw [e]
  generalize m / 10000 = p
  generalize m % 10000 = r
  generalize n / 10000 = q
  generalize n % 10000 = t
  rw [Int.add_mul, Int.mul_add, Int.mul_add, Int.mul_assoc 10000 p (10000 * q), Int.mul_left_comm p 10000 q, Int.mul_assoc 10000 p t, Int.mul_left_comm r 10000 q, Int.mul_comm r q]
  omega
theorem qr_parts {N pq v1 v2 v3 : Int} (h : N = 100000000 * pq + 10000 * v1 + 10000 * v2 + v3) (h3 : 0 ≤ v3) : (pq * 10000 + v1 + v2 + (v3 + 5000) / 10000 ≤ 9223372036854775807 → qr N 10000 = pq * 10000 + v1 + v2 + (v3 + 5000) / 10000) ∧ (9223372036854775807 < pq * 10000 + v1 + v2 + (v3 + 5000) / 10000 → 9223372036854775807 < qr N 10000) := by
  unfold qr
  refine ⟨fun hs => ?_, fun hs => ?_⟩
  · rw [if_neg (by omega)]; split <;> omega
  · split
    · omega
    · split <;> omega
theorem mul_bd {x y X Y : Int} (hx0 : 0 ≤ x) (hx : x ≤ X) (hy0 : 0 ≤ y) (hy : y ≤ Y) : 0 ≤ x * y ∧ x * y ≤ X * Y :=
  ⟨Int.mul_nonneg hx0 hy0, Int.mul_le_mul hx hy hy0 (by omega)⟩
theorem rmul_any (a b : Int) (w : World) (ha : I64 a) (hb : I64 b) : Calls Tryd.prog 20 #[.int .i64 a, .int .i64 b] w fun e w' => e = .returned (.tuple #[.int .i64 (okV (mulOk a b) (sgn a b (mulQ a b))), .int .i64 (okC (mulOk a b))]) ∧ Below w.heap.size w w' := by
  obtain ⟨ha1, ha2⟩ := ha
  obtain ⟨hb1, hb2⟩ := hb
  by_cases hA : a = -9223372036854775808
  · have ok : mulOk a b = false := by unfold mulOk; rw [mayOk_f hA]; rfl
    rw [okV_f ok, okC_f ok]; exact rmul_aMin a b w hA
  by_cases hB : b = -9223372036854775808
  · have ok : mulOk a b = false := by unfold mulOk; rw [mayOk_f hB]; simp
    rw [okV_f ok, okC_f ok]; exact rmul_bMin a b w (by omega) hB
  have ha3 : -9223372036854775807 ≤ a := by omega
  have hb3 : -9223372036854775807 ≤ b := by omega
  have sa := sizeV_range ha3 ha2
  have sb := sizeV_range hb3 hb2
  have hN := prod_parts (sizeV a) (sizeV b)
  have k1 := mul_bd (x := sizeV a / 10000) (X := 922337203685477) (y := sizeV b % 10000) (Y := 9999) (by omega) (by omega) (by omega) (by omega)
  have k2 := mul_bd (x := sizeV b / 10000) (X := 922337203685477) (y := sizeV a % 10000) (Y := 9999) (by omega) (by omega) (by omega) (by omega)
  have k3 := mul_bd (x := sizeV a % 10000) (X := 9999) (y := sizeV b % 10000) (Y := 9999) (by omega) (by omega) (by omega) (by omega)
  have k0 := mul_bd (x := sizeV a / 10000) (X := 922337203685477) (y := sizeV b / 10000) (Y := 922337203685477) (by omega) (by omega) (by omega) (by omega)
  have hq := qr_parts hN k3.1
  have bad : 9223372036854775807 < mulQ a b → mulOk a b = false := fun h => by unfold mulOk; rw [decide_eq_false (by omega)]; simp
  by_cases hover : 0 < sizeV a / 10000 ∧ 922337203685477 / (sizeV a / 10000) < sizeV b / 10000
  · obtain ⟨hp, hg⟩ := hover
    have hle : ¬ sizeV b / 10000 * (sizeV a / 10000) ≤ 922337203685477 := fun h => by
      have := (Int.le_ediv_iff_mul_le hp).2 h; omega
    rw [Int.mul_comm] at hle
    have ok := bad (hq.2 (by omega))
    rw [okV_f ok, okC_f ok]; exact rmul_over a b w ha3 ha2 hb3 hb2 sa.1 sa.2 sb.1 sb.2 hp hg
  have hpq : sizeV a / 10000 * (sizeV b / 10000) ≤ 922337203685477 := by
    by_cases hp : 0 < sizeV a / 10000
    · have hg : sizeV b / 10000 ≤ 922337203685477 / (sizeV a / 10000) := by omega
      have := (Int.le_ediv_iff_mul_le hp).1 hg
      rw [Int.mul_comm]; exact this
    · have : sizeV a / 10000 = 0 := by omega
      rw [this, Int.zero_mul]; omega
  by_cases hp : 0 < sizeV a / 10000
  · have hg : sizeV b / 10000 ≤ 922337203685477 / (sizeV a / 10000) := by omega
    by_cases hs : sizeV a / 10000 * (sizeV b / 10000) * 10000 + sizeV a / 10000 * (sizeV b % 10000) + sizeV b / 10000 * (sizeV a % 10000) + (sizeV a % 10000 * (sizeV b % 10000) + 5000) / 10000 ≤ 9223372036854775807
    · have hv : mulQ a b = _ := hq.1 hs
      have ok : mulOk a b = true := by unfold mulOk; rw [mayOk_t ha3, mayOk_t hb3, decide_eq_true (by rw [hv]; exact hs)]; rfl
      rw [okV_t ok, okC_t ok]
      by_cases hA0 : a < 0
      · by_cases hB0 : b < 0
        · rw [sgn_same (by rw [decide_eq_true hA0, decide_eq_true hB0]), hv]; exact rmul_pnn a b _ _ _ _ w ha3 ha2 hb3 hb2 sa.1 sa.2 sb.1 sb.2 rfl k0.1 hpq rfl k1.1 (by omega) rfl k2.1 (by omega) rfl k3.1 (by omega) hp hg hs hA0 hB0
        · rw [sgn_diff (by rw [decide_eq_true hA0, decide_eq_false hB0]; decide), hv]; exact rmul_pnp a b _ _ _ _ w ha3 ha2 hb3 hb2 sa.1 sa.2 sb.1 sb.2 rfl k0.1 hpq rfl k1.1 (by omega) rfl k2.1 (by omega) rfl k3.1 (by omega) hp hg hs hA0 (by omega)
      · by_cases hB0 : b < 0
        · rw [sgn_diff (by rw [decide_eq_false hA0, decide_eq_true hB0]; decide), hv]; exact rmul_ppn a b _ _ _ _ w ha3 ha2 hb3 hb2 sa.1 sa.2 sb.1 sb.2 rfl k0.1 hpq rfl k1.1 (by omega) rfl k2.1 (by omega) rfl k3.1 (by omega) hp hg hs (by omega) hB0
        · rw [sgn_same (by rw [decide_eq_false hA0, decide_eq_false hB0]), hv]; exact rmul_ppp a b _ _ _ _ w ha3 ha2 hb3 hb2 sa.1 sa.2 sb.1 sb.2 rfl k0.1 hpq rfl k1.1 (by omega) rfl k2.1 (by omega) rfl k3.1 (by omega) hp hg hs (by omega) (by omega)
    · have ok := bad (hq.2 (by omega))
      rw [okV_f ok, okC_f ok]; exact rmul_pbig a b _ _ _ _ w ha3 ha2 hb3 hb2 sa.1 sa.2 sb.1 sb.2 rfl k0.1 hpq rfl k1.1 (by omega) rfl k2.1 (by omega) rfl k3.1 (by omega) hp hg (by omega)
  · by_cases hs : sizeV a / 10000 * (sizeV b / 10000) * 10000 + sizeV a / 10000 * (sizeV b % 10000) + sizeV b / 10000 * (sizeV a % 10000) + (sizeV a % 10000 * (sizeV b % 10000) + 5000) / 10000 ≤ 9223372036854775807
    · have hv : mulQ a b = _ := hq.1 hs
      have ok : mulOk a b = true := by unfold mulOk; rw [mayOk_t ha3, mayOk_t hb3, decide_eq_true (by rw [hv]; exact hs)]; rfl
      rw [okV_t ok, okC_t ok]
      by_cases hA0 : a < 0
      · by_cases hB0 : b < 0
        · rw [sgn_same (by rw [decide_eq_true hA0, decide_eq_true hB0]), hv]; exact rmul_znn a b _ _ _ _ w ha3 ha2 hb3 hb2 sa.1 sa.2 sb.1 sb.2 rfl k0.1 hpq rfl k1.1 (by omega) rfl k2.1 (by omega) rfl k3.1 (by omega) (by omega) hs hA0 hB0
        · rw [sgn_diff (by rw [decide_eq_true hA0, decide_eq_false hB0]; decide), hv]; exact rmul_znp a b _ _ _ _ w ha3 ha2 hb3 hb2 sa.1 sa.2 sb.1 sb.2 rfl k0.1 hpq rfl k1.1 (by omega) rfl k2.1 (by omega) rfl k3.1 (by omega) (by omega) hs hA0 (by omega)
      · by_cases hB0 : b < 0
        · rw [sgn_diff (by rw [decide_eq_false hA0, decide_eq_true hB0]; decide), hv]; exact rmul_zpn a b _ _ _ _ w ha3 ha2 hb3 hb2 sa.1 sa.2 sb.1 sb.2 rfl k0.1 hpq rfl k1.1 (by omega) rfl k2.1 (by omega) rfl k3.1 (by omega) (by omega) hs (by omega) hB0
        · rw [sgn_same (by rw [decide_eq_false hA0, decide_eq_false hB0]), hv]; exact rmul_zpp a b _ _ _ _ w ha3 ha2 hb3 hb2 sa.1 sa.2 sb.1 sb.2 rfl k0.1 hpq rfl k1.1 (by omega) rfl k2.1 (by omega) rfl k3.1 (by omega) (by omega) hs (by omega) (by omega)
    · have ok := bad (hq.2 (by omega))
      rw [okV_f ok, okC_f ok]; exact rmul_zbig a b _ _ _ _ w ha3 ha2 hb3 hb2 sa.1 sa.2 sb.1 sb.2 rfl k0.1 hpq rfl k1.1 (by omega) rfl k2.1 (by omega) rfl k3.1 (by omega) (by omega) (by omega)
theorem rdiv_any (a b : Int) (w : World) (ha3 : -9223372036854775807 ≤ a) (ha2 : a ≤ 9223372036854775807) (hb3 : -9223372036854775807 ≤ b) (hb2 : b ≤ 9223372036854775807) (hZ : b ≠ 0) : Calls Tryd.prog 22 #[.int .i64 a, .int .i64 b] w fun e w' => e = .returned (.tuple #[.int .i64 (okV (divOk a b) (sgn a b (divQ a b))), .int .i64 (okC (divOk a b))]) ∧ w' = w := by
  have sa := sizeV_range ha3 ha2
  have sb := sizeV_range hb3 hb2
  have sb0 : 0 < sizeV b := by unfold sizeV; split <;> omega
  have hQ0 : 0 ≤ sizeV a * 10000 / sizeV b := Int.ediv_nonneg (by omega) (by omega)
  have hM0 := Int.emod_nonneg (sizeV a * 10000) (show sizeV b ≠ 0 by omega)
  have hq : divQ a b = if 9223372036854775808 ≤ sizeV a * 10000 / sizeV b then 9223372036854775808 else sizeV a * 10000 / sizeV b + (if sizeV b ≤ 2 * (sizeV a * 10000 % sizeV b) then 1 else 0) := rfl
  by_cases hup : sizeV b - sizeV a * 10000 % sizeV b ≤ sizeV a * 10000 % sizeV b
  · rw [if_pos (show sizeV b ≤ 2 * (sizeV a * 10000 % sizeV b) by omega)] at hq
    by_cases hs : (sizeV a * 10000 / sizeV b + 1) ≤ 9223372036854775807
    · rw [if_neg (by omega)] at hq
      have ok : divOk a b = true := by unfold divOk; rw [hq]; exact decide_eq_true hs
      rw [okV_t ok, okC_t ok]
      by_cases hA0 : a < 0
      · by_cases hB0 : b < 0
        · rw [sgn_same (by rw [decide_eq_true hA0, decide_eq_true hB0]), hq]; exact rdiv_nn1 a b _ _ w ha3 ha2 hb3 hb2 sa.1 sa.2 sb0 sb.2 hZ rfl rfl hup hQ0 hs hA0 hB0
        · rw [sgn_diff (by rw [decide_eq_true hA0, decide_eq_false hB0]; decide), hq]; exact rdiv_np1 a b _ _ w ha3 ha2 hb3 hb2 sa.1 sa.2 sb0 sb.2 hZ rfl rfl hup hQ0 hs hA0 (by omega)
      · by_cases hB0 : b < 0
        · rw [sgn_diff (by rw [decide_eq_false hA0, decide_eq_true hB0]; decide), hq]; exact rdiv_pn1 a b _ _ w ha3 ha2 hb3 hb2 sa.1 sa.2 sb0 sb.2 hZ rfl rfl hup hQ0 hs (by omega) hB0
        · rw [sgn_same (by rw [decide_eq_false hA0, decide_eq_false hB0]), hq]; exact rdiv_pp1 a b _ _ w ha3 ha2 hb3 hb2 sa.1 sa.2 sb0 sb.2 hZ rfl rfl hup hQ0 hs (by omega) (by omega)
    · have hbig : 9223372036854775807 < divQ a b := by rw [hq]; split <;> omega
      have ok : divOk a b = false := by unfold divOk; exact decide_eq_false (by omega)
      rw [okV_f ok, okC_f ok]; exact rdiv_big a b _ _ w ha3 ha2 hb3 hb2 sa.1 sa.2 sb0 sb.2 hZ rfl rfl (by omega)
  · rw [if_neg (show ¬ sizeV b ≤ 2 * (sizeV a * 10000 % sizeV b) by omega), Int.add_zero] at hq
    by_cases hs : (sizeV a * 10000 / sizeV b) ≤ 9223372036854775807
    · rw [if_neg (by omega)] at hq
      have ok : divOk a b = true := by unfold divOk; rw [hq]; exact decide_eq_true hs
      rw [okV_t ok, okC_t ok]
      by_cases hA0 : a < 0
      · by_cases hB0 : b < 0
        · rw [sgn_same (by rw [decide_eq_true hA0, decide_eq_true hB0]), hq]; exact rdiv_nn0 a b _ _ w ha3 ha2 hb3 hb2 sa.1 sa.2 sb0 sb.2 hZ rfl rfl (by omega) hQ0 hs hA0 hB0
        · rw [sgn_diff (by rw [decide_eq_true hA0, decide_eq_false hB0]; decide), hq]; exact rdiv_np0 a b _ _ w ha3 ha2 hb3 hb2 sa.1 sa.2 sb0 sb.2 hZ rfl rfl (by omega) hQ0 hs hA0 (by omega)
      · by_cases hB0 : b < 0
        · rw [sgn_diff (by rw [decide_eq_false hA0, decide_eq_true hB0]; decide), hq]; exact rdiv_pn0 a b _ _ w ha3 ha2 hb3 hb2 sa.1 sa.2 sb0 sb.2 hZ rfl rfl (by omega) hQ0 hs (by omega) hB0
        · rw [sgn_same (by rw [decide_eq_false hA0, decide_eq_false hB0]), hq]; exact rdiv_pp0 a b _ _ w ha3 ha2 hb3 hb2 sa.1 sa.2 sb0 sb.2 hZ rfl rfl (by omega) hQ0 hs (by omega) (by omega)
    · have hbig : 9223372036854775807 < divQ a b := by rw [hq]; split <;> omega
      have ok : divOk a b = false := by unfold divOk; exact decide_eq_false (by omega)
      rw [okV_f ok, okC_f ok]; exact rdiv_big a b _ _ w ha3 ha2 hb3 hb2 sa.1 sa.2 sb0 sb.2 hZ rfl rfl (by omega)
theorem rdiv_aMin (a b : Int) (w : World) (ha : a = -9223372036854775808) : Calls Tryd.prog 22 #[.int .i64 a, .int .i64 b] w fun e w' => e = .returned (.tuple #[.int .i64 0, .int .i64 2]) ∧ w' = w := by
  go_enter Tryd.func22, Tryd.ntmps22
  go_wp2_with (go_at_call 17; refine (rmay_f _ _ (by omega)).mono ?_; rintro e w' ⟨rfl, rfl⟩)
  go_ret2
  exact ⟨rfl, rfl⟩
theorem rdiv_bMin (a b : Int) (w : World) (ha : -9223372036854775807 ≤ a) (hb : b = -9223372036854775808) : Calls Tryd.prog 22 #[.int .i64 a, .int .i64 b] w fun e w' => e = .returned (.tuple #[.int .i64 0, .int .i64 2]) ∧ w' = w := by
  go_enter Tryd.func22, Tryd.ntmps22
  go_wp2_with (first | (go_at_call 17; refine (rmay_t _ _ (by omega)).mono ?_; rintro e w' ⟨rfl, rfl⟩) | (go_at_call 17; refine (rmay_f _ _ (by omega)).mono ?_; rintro e w' ⟨rfl, rfl⟩))
  go_ret2
  exact ⟨rfl, rfl⟩
theorem rdiv_zero (a b : Int) (w : World) (ha1 : -9223372036854775807 ≤ a) (hb : b = 0) : Calls Tryd.prog 22 #[.int .i64 a, .int .i64 b] w fun e w' => e = .returned (.tuple #[.int .i64 0, .int .i64 3]) ∧ w' = w := by
  go_enter Tryd.func22, Tryd.ntmps22
  go_wp2_with (go_at_call 17; refine (rmay_t _ _ (by omega)).mono ?_; rintro e w' ⟨rfl, rfl⟩)
  go_ret2
  exact ⟨rfl, rfl⟩
end Go.Proofs.YtimcdeibjiekpaaDoor
