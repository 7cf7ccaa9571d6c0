/- The contracts of dec.quotient, dec.Mul and dec.Div, of any arguments that the program hands on and of any two int64: the product and the quotient, rounded once. Nothing is written (orders are drawn). · The contracts of slices.Index and slices.Contains at numbers, asked for 0; of dec.Mul where the product is exact. New memory alone is made. -/
import Derived.Test.YtfpbcokfianjaaaGreatQDiv64Div64Any
import Derived.Test.YtfpbcokfianjaaaGreatQNT7NT8
namespace Go.Proofs.YtfpbcokfianjaaaGreat
open Go.Shelf Go.RowKit
set_option linter.unusedVariables false
theorem quot_is (hi lo y : Int) (hi0 : 0 ≤ hi) (hlo : 0 ≤ lo) (hlo1 : lo < 18446744073709551616) (hy : 0 < y) (hy1 : y < 18446744073709551616) : QuotIs hi lo y (qr (hi * 18446744073709551616 + lo) y) := by
  refine quot_of hi lo y hi0 hlo hlo1 hy hy1 fun h => ?_
  by_cases hz : hi = 0
  · subst hz
    rw [show (0 : Int) * 18446744073709551616 + lo = lo by omega]
    exact fun w => div64_0 lo y w hlo hlo1 hy hy1
  · exact div64_is hi lo y (by omega) h hlo hlo1 hy1
/-- A product's and a quotient's parts, without the sign. -/
def mulQ (a b : Int) : Int := qr (sizeV a * sizeV b) 10000
/-- With the sign of two numbers. -/
def sgn (a b v : Int) : Int := if decide (a < 0) = decide (b < 0) then v else -v
def mulOk (a b : Int) : Bool := mayOk a && mayOk b && decide (mulQ a b ≤ 9223372036854775807)
theorem qr_nonneg {n y : Int} (hn : 0 ≤ n) (hy : 0 < y) : 0 ≤ qr n y := by
  have : 0 ≤ n / y := Int.ediv_nonneg hn (by omega)
  unfold qr; split
  · omega
  · split <;> omega
theorem split_is {p y : Int} (hp : 0 ≤ p) (hy : 0 < y) (hy1 : y < 18446744073709551616) : QuotIs (p / 18446744073709551616) (p % 18446744073709551616) y (qr p y) := by
  have h := quot_is (p / 18446744073709551616) (p % 18446744073709551616) y (by omega) (by omega) (by omega) hy hy1
  rw [show p / 18446744073709551616 * 18446744073709551616 + p % 18446744073709551616 = p by omega] at h
  exact h
theorem sgn_same {a b v : Int} (h : decide (a < 0) = decide (b < 0)) : sgn a b v = v := by unfold sgn; rw [if_pos h]
theorem sgn_diff {a b v : Int} (h : decide (a < 0) ≠ decide (b < 0)) : sgn a b v = -v := by unfold sgn; rw [if_neg h]
/-- Mul, of any two int64. -/
theorem mul_any (a b : Int) (w : World) (ha : I64 a) (hb : I64 b) : Calls Tryz.prog 92 #[.int .i64 a, .int .i64 b] w fun e w' => e = .returned (.tuple #[.int .i64 (okV (mulOk a b) (sgn a b (mulQ a b))), .int .i64 (okC (mulOk a b))]) ∧ ∃ n, w' = w.drewN n := by
  obtain ⟨ha1, ha2⟩ := ha
  obtain ⟨hb1, hb2⟩ := hb
  by_cases hA : a = -9223372036854775808
  · have ok : mulOk a b = false := by unfold mulOk; rw [mayOk_f hA]; rfl
    rw [okV_f ok, okC_f ok]; exact mul_aMin a b w hA
  by_cases hB : b = -9223372036854775808
  · have ok : mulOk a b = false := by unfold mulOk; rw [mayOk_f hB]; simp
    rw [okV_f ok, okC_f ok]; exact mul_bMin a b w (by omega) hB
  have ha3 : -9223372036854775807 ≤ a := by omega
  have hb3 : -9223372036854775807 ≤ b := by omega
  have sa := sizeV_range ha3 ha2
  have sb := sizeV_range hb3 hb2
  have hm := mul64_is (sizeV a) (sizeV b) sa.1 (by omega) sb.1 (by omega)
  have hp : 0 ≤ sizeV a * sizeV b := Int.mul_nonneg sa.1 sb.1
  have hq : QuotIs _ _ 10000 (mulQ a b) := split_is hp (by omega) (by omega)
  have hv0 : 0 ≤ mulQ a b := qr_nonneg hp (by omega)
  by_cases hv : 9223372036854775807 < mulQ a b
  · have ok : mulOk a b = false := by unfold mulOk; rw [decide_eq_false (by omega)]; simp
    rw [okV_f ok, okC_f ok]
    by_cases hA : a < 0
    · by_cases hB : b < 0
      · exact mul_nn_big a b _ _ _ w ha3 ha2 hb3 hb2 hA hB hm hq hv
      · exact mul_np_big a b _ _ _ w ha3 ha2 hb3 hb2 hA (by omega) hm hq hv
    · by_cases hB : b < 0
      · exact mul_pn_big a b _ _ _ w ha3 ha2 hb3 hb2 (by omega) hB hm hq hv
      · exact mul_pp_big a b _ _ _ w ha3 ha2 hb3 hb2 (by omega) (by omega) hm hq hv
  · have ok : mulOk a b = true := by unfold mulOk; rw [mayOk_t ha3, mayOk_t hb3, decide_eq_true (show mulQ a b ≤ 9223372036854775807 by omega)]; rfl
    rw [okV_t ok, okC_t ok]
    by_cases hA : a < 0
    · by_cases hB : b < 0
      · rw [sgn_same (by rw [decide_eq_true hA, decide_eq_true hB])]; exact mul_nn_ok a b _ _ _ w ha3 ha2 hb3 hb2 hA hB hm hq hv0 (by omega)
      · rw [sgn_diff (by rw [decide_eq_true hA, decide_eq_false hB]; decide)]; exact mul_np_ok a b _ _ _ w ha3 ha2 hb3 hb2 hA (by omega) hm hq hv0 (by omega)
    · by_cases hB : b < 0
      · rw [sgn_diff (by rw [decide_eq_false hA, decide_eq_true hB]; decide)]; exact mul_pn_ok a b _ _ _ w ha3 ha2 hb3 hb2 (by omega) hB hm hq hv0 (by omega)
      · rw [sgn_same (by rw [decide_eq_false hA, decide_eq_false hB])]; exact mul_pp_ok a b _ _ _ w ha3 ha2 hb3 hb2 (by omega) (by omega) hm hq hv0 (by omega)
end Go.Proofs.YtfpbcokfianjaaaGreat
namespace Go.Proofs.YtfpbcokfianjaaaGreat
open Go.RowKit
set_option linter.all false
def zro (x : Int) : Bool := (0 == x)
set_option maxRecDepth 100000 in
theorem ixz_any (w : World) (b n : Nat) (l : List Int) (hb : NB w b l) (hn : l.length = n) (h16 : n ≤ 16) : Calls Tryz.prog 118 #[.slice (some ⟨b, 0, none⟩) n n, .int .i64 0] w fun e w' => (∃ r : Int, e = .returned (.int .i64 r) ∧ decide (0 ≤ r) = l.any zro) ∧ Below w.heap.size w w' := by
  have mixed : Tryz.prog.follows .mixedOrders = true := by kernel_rfl
  have hla := hb.lt
  have HB : Hid _ := hb
  have HL : Hid (l.length = n) := hn
  clear hb hn
  go_enter Tryz.func118, Tryz.ntmps118
  go_wp2
  go_loopw [8] (fun v w' => ∃ i : Nat, v = .int .i64 i ∧ i ≤ n ∧ Hid ((l.take i).any zro = false) ∧ ∃ m, w' = w.drewN m) (fun v _ => n - (intOf v).toNat)
  case atStart => exact ⟨0, rfl, by omega, rfl, 0, rfl⟩
  case round =>
    obtain ⟨i, rfl, hi, htk, m, rfl⟩ := hrel
    by_cases hlt : i < n
    · have hlt' : (i : Int) < n := by omega
      have hai : l[i]? = some (l[i]'(by rw [HL.out]; exact hlt)) := List.getElem?_eq_getElem _
      have HAi : Hid _ := hai
      revert HAi
      generalize (l[i]'(by rw [HL.out]; exact hlt)) = x
      intro HAi
      clear hai
      have x0 := HB.out.at HAi.out
      cases hs : ((0 : Int) == x)
      · have HS : Hid (zro x = false) := hs
        go_wp2
        exact ⟨⟨i + 1, by go_num, by omega, any_take HAi.out htk.out HS.out, _, rfl⟩, by simp [intOf]; omega⟩
      · have HS : Hid (zro x = true) := hs
        go_wp2
        go_ret
        exact ⟨⟨_, rfl, by rw [any_at HAi.out HS.out]; simp⟩, by with_reducible (repeat' first | assumption | exact Below.refl _ _ | refine Below.drew ?_ | refine bdrewN ?_ _ | refine Below.setCell ?_ (by first | exact Nat.le_refl _ | (simp; done) | (simp; omega) | omega) _ | refine Below.alloc ?_ (by first | exact Nat.le_refl _ | (simp; done) | (simp; omega) | omega) _)⟩
    · have hlt' : ¬ (i : Int) < n := by omega
      go_wp2
      go_ret
      exact ⟨⟨_, rfl, by rw [any_all (by rw [HL.out]; omega) htk.out]; rfl⟩, by with_reducible (repeat' first | assumption | exact Below.refl _ _ | refine Below.drew ?_ | refine bdrewN ?_ _ | refine Below.setCell ?_ (by first | exact Nat.le_refl _ | (simp; done) | (simp; omega) | omega) _ | refine Below.alloc ?_ (by first | exact Nat.le_refl _ | (simp; done) | (simp; omega) | omega) _)⟩
theorem contz_any (w : World) (b n : Nat) (l : List Int) (hb : NB w b l) (hn : l.length = n) (h16 : n ≤ 16) : Calls Tryz.prog 99 #[.slice (some ⟨b, 0, none⟩) n n, .int .i64 0] w fun e w' => e = .returned (.bool (l.any zro)) ∧ Below w.heap.size w w' := by
  go_enter Tryz.func99, Tryz.ntmps99
  go_wp2_with (go_at_call 118; refine (ixz_any _ _ _ _ hb hn h16).mono ?_; rintro e w1 ⟨⟨r, rfl, hr⟩, hb1⟩)
  go_ret
  exact ⟨retBl (by first | exact hr | (rw [← hr])), hb1⟩
/-- A product of so many times 10000 by a number that is not below 0. -/
theorem mulQ_ex {t B : Int} (ht : 0 ≤ t) (hB : 0 ≤ B) (hp : t * B ≤ 9223372036854775807) : mulQ (t * 10000) B = t * B := by
  unfold mulQ
  rw [sizeV_pos (x := t * 10000) (by omega), sizeV_pos hB]
  have e0 : t * 10000 * B = t * B * 10000 := by rw [Int.mul_assoc, Int.mul_comm 10000 B, ← Int.mul_assoc]
  have h0 : 0 ≤ t * B := Int.mul_nonneg ht hB
  rw [e0]
  generalize t * B = P at *
  have e1 : P * 10000 / 10000 = P := by omega
  have e2 : P * 10000 % 10000 = 0 := by omega
  unfold qr
  rw [e1, e2, if_neg (by omega), if_neg (by omega), Int.add_zero]
theorem mulQ_big {t B : Int} (ht : 0 ≤ t) (hB : 0 ≤ B) (hp : ¬ t * B ≤ 9223372036854775807) : ¬ mulQ (t * 10000) B ≤ 9223372036854775807 := by
  unfold mulQ
  rw [sizeV_pos (x := t * 10000) (by omega), sizeV_pos hB]
  have e0 : t * 10000 * B = t * B * 10000 := by rw [Int.mul_assoc, Int.mul_comm 10000 B, ← Int.mul_assoc]
  rw [e0]
  generalize t * B = P at *
  have e1 : P * 10000 / 10000 = P := by omega
  unfold qr
  rw [e1, if_pos (by omega)]
  decide
theorem mul_ex (t B : Int) (w : World) (ht : 0 ≤ t) (hA : t * 10000 ≤ 9223372036854775807) (hB : 0 ≤ B) (hB2 : B ≤ 9223372036854775807) (hp : t * B ≤ 9223372036854775807) : Calls Tryz.prog 92 #[.int .i64 (t * 10000), .int .i64 B] w fun e w' => e = .returned (.tuple #[.int .i64 (t * B), .int .i64 0]) ∧ Below w.heap.size w w' := by
  have h := mul_any (t * 10000) B w ⟨by omega, hA⟩ ⟨by omega, hB2⟩
  have ok : mulOk (t * 10000) B = true := by
    unfold mulOk; rw [mayOk_t (by omega), mayOk_t (by omega), mulQ_ex ht hB hp, decide_eq_true hp]; rfl
  rw [okV_t ok, okC_t ok, mulQ_ex ht hB hp, sgn_same (by rw [decide_eq_false (by omega), decide_eq_false (by omega)])] at h
  refine h.mono ?_
  rintro e w' ⟨rfl, n, rfl⟩
  exact ⟨rfl, bdrewN (Below.refl _ _) n⟩
theorem mul_exb (t B : Int) (w : World) (ht : 0 ≤ t) (hA : t * 10000 ≤ 9223372036854775807) (hB : 0 ≤ B) (hB2 : B ≤ 9223372036854775807) (hp : ¬ t * B ≤ 9223372036854775807) : Calls Tryz.prog 92 #[.int .i64 (t * 10000), .int .i64 B] w fun e w' => e = .returned (.tuple #[.int .i64 0, .int .i64 2]) ∧ Below w.heap.size w w' := by
  have h := mul_any (t * 10000) B w ⟨by omega, hA⟩ ⟨by omega, hB2⟩
  have ok : mulOk (t * 10000) B = false := by
    unfold mulOk; rw [decide_eq_false (mulQ_big ht hB hp)]; simp
  rw [okV_f ok, okC_f ok] at h
  refine h.mono ?_
  rintro e w' ⟨rfl, n, rfl⟩
  exact ⟨rfl, bdrewN (Below.refl _ _) n⟩
end Go.Proofs.YtfpbcokfianjaaaGreat
