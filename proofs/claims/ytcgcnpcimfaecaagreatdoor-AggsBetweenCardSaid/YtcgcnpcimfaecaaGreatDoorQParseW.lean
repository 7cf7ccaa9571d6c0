/- The contract of dec.Parse, for every text: the number that it tells, where it tells one; nothing is written (orders are drawn). Contracts of math/bits.Div64 and dec.quotient (where the upper word is 0, and of quotient wherever Div64's answer is known), and of dec.Mul and dec.Div over them. Nothing is written (orders are drawn). -/
import Derived.Test.YtcgcnpcimfaecaaGreatDoorQCut
import Derived.Test.YtcgcnpcimfaecaaGreatDoorQSums
import Derived.Test.YtcgcnpcimfaecaaGreatDoorQShelfA
import Derived.Deep.QuietTactic
import Derived.BigQuiet
namespace Go.Proofs.YtcgcnpcimfaecaaGreatDoor
open Go.Shelf Go.RowKit
set_option linter.unusedVariables false
/-- Behind the sign: whether it is there. -/
def negS (s : ByteArray) : Bool := Lib.hasPrefix s.data.toList [45]
theorem extract_le (s : ByteArray) (a b : Nat) : (s.extract a b).size ≤ s.size := by rw [ByteArray.size_extract]; omega
theorem cutA_le (d : ByteArray) : (cutA d).size ≤ d.size := by
  unfold cutA; split
  · exact extract_le _ _ _
  · exact Nat.le_refl _
theorem cutB_le (d : ByteArray) : (cutB d).size ≤ d.size := by
  unfold cutB; split
  · exact extract_le _ _ _
  · exact Nat.zero_le _

theorem signed_big (n : Int) (b : Bool) (w : World) (h : 9223372036854775807 < n) : Calls Tryz.prog 147 #[.int .u64 n, .bool b] w fun e w' => e = .returned (.tuple #[.int .i64 0, .int .i64 2]) ∧ w' = w := by
  go_enter Tryz.func147, Tryz.ntmps147
  go_wp2
  go_ret2
  exact ⟨rfl, rfl⟩
theorem signed_pos (n : Int) (w : World) (h0 : 0 ≤ n) (h : n ≤ 9223372036854775807) : Calls Tryz.prog 147 #[.int .u64 n, .bool false] w fun e w' => e = .returned (.tuple #[.int .i64 n, .int .i64 0]) ∧ w' = w := by
  go_enter Tryz.func147, Tryz.ntmps147
  go_wp2
  go_ret2
  exact ⟨rfl, rfl⟩
theorem signed_neg (n : Int) (w : World) (h0 : 0 ≤ n) (h : n ≤ 9223372036854775807) : Calls Tryz.prog 147 #[.int .u64 n, .bool true] w fun e w' => e = .returned (.tuple #[.int .i64 (-n), .int .i64 0]) ∧ w' = w := by
  go_enter Tryz.func147, Tryz.ntmps147
  go_wp2
  go_ret2
  exact ⟨rfl, rfl⟩

theorem quiet_plus {P : Program} {f : FuncId} {args : Array Value} {w : World} {n x : Nat} {v : Value} (h : Calls P f args (w.drewN (n + x)) fun e w' => e = .returned v ∧ w' = w.drewN (n + x)) :
    Calls P f args (w.drewN (n + x)) fun e w'' => e = .returned v ∧ ∃ m, w'' = w.drewN (n + m) := h.mono fun _ _ ⟨he, hm⟩ => ⟨he, x, hm⟩
end Go.Proofs.YtcgcnpcimfaecaaGreatDoor
namespace Go.Proofs.YtcgcnpcimfaecaaGreatDoor
open Go.Shelf Go.RowKit
set_option linter.unusedVariables false
set_option maxRecDepth 10000 in
theorem div64_0 (lo y : Int) (w : World) (h0 : 0 ≤ lo) (h1 : lo < 18446744073709551616) (hy : 0 < y) (hy1 : y < 18446744073709551616) :
    Calls Tryz.prog 150 #[.int .u64 0, .int .u64 lo, .int .u64 y] w fun e w' => e = .returned (.tuple #[.int .u64 (lo / y), .int .u64 (lo % y)]) ∧ ∃ n, w' = w.drewN n := by
  have hz : (y == 0) = false := by simp; omega
  go_enter Tryz.func150, Tryz.ntmps150
  go_wp2_with fail
  go_quiet (fail)
  go_wp2_with fail
  go_ret2
  exact ⟨rfl, nq, rfl⟩
/-- What Div64 answers. -/
def DivIs (hi lo y q r : Int) : Prop := ∀ w, Calls Tryz.prog 150 #[.int .u64 hi, .int .u64 lo, .int .u64 y] w fun e w' => e = .returned (.tuple #[.int .u64 q, .int .u64 r]) ∧ ∃ n, w' = w.drewN n
/-- What quotient answers. -/
def QuotIs (hi lo y v : Int) : Prop := ∀ w, Calls Tryz.prog 148 #[.int .u64 hi, .int .u64 lo, .int .u64 y] w fun e w' => e = .returned (.int .u64 v) ∧ ∃ n, w' = w.drewN n
/-- What Mul64 answers. -/
def MulIs (x y hi lo : Int) : Prop := ∀ w, Calls Tryz.prog 145 #[.int .u64 x, .int .u64 y] w fun e w' => e = .returned (.tuple #[.int .u64 hi, .int .u64 lo]) ∧ w' = w
theorem quot_over (hi lo y : Int) (h : y ≤ hi) : QuotIs hi lo y 9223372036854775808 := by
  intro w
  go_enter Tryz.func148, Tryz.ntmps148
  go_wp2
  go_ret
  exact ⟨rfl, 0, rfl⟩
theorem quot_big (hi lo y q r : Int) (h : hi < y) (hd : DivIs hi lo y q r) (hq : 9223372036854775808 ≤ q) : QuotIs hi lo y 9223372036854775808 := by
  intro w
  go_enter Tryz.func148, Tryz.ntmps148
  go_wp2_with (go_at_call 150; refine (hd _).mono ?_; rintro e w' ⟨rfl, n, rfl⟩)
  go_ret
  exact ⟨rfl, n, rfl⟩
theorem quot_up (hi lo y q r : Int) (h : hi < y) (hd : DivIs hi lo y q r) (hq0 : 0 ≤ q) (hq : q < 9223372036854775808) (hr0 : 0 ≤ r) (hr : r < y) (hy : y < 18446744073709551616) (hu : y - r ≤ r) : QuotIs hi lo y (q + 1) := by
  intro w
  go_enter Tryz.func148, Tryz.ntmps148
  go_wp2_with (go_at_call 150; refine (hd _).mono ?_; rintro e w' ⟨rfl, n, rfl⟩)
  go_ret
  exact ⟨rfl, n, rfl⟩
theorem quot_dn (hi lo y q r : Int) (h : hi < y) (hd : DivIs hi lo y q r) (hq0 : 0 ≤ q) (hq : q < 9223372036854775808) (hr0 : 0 ≤ r) (hr : r < y) (hy : y < 18446744073709551616) (hu : r < y - r) : QuotIs hi lo y q := by
  intro w
  go_enter Tryz.func148, Tryz.ntmps148
  go_wp2_with (go_at_call 150; refine (hd _).mono ?_; rintro e w' ⟨rfl, n, rfl⟩)
  go_ret
  exact ⟨rfl, n, rfl⟩
/-- A quotient of whole numbers, halves rounded up; 2^63: too great. -/
def qr (n y : Int) : Int := if 9223372036854775808 ≤ n / y then 9223372036854775808 else n / y + (if y ≤ 2 * (n % y) then 1 else 0)
theorem quot_of (hi lo y : Int) (hi0 : 0 ≤ hi) (hlo : 0 ≤ lo) (hlo1 : lo < 18446744073709551616) (hy : 0 < y) (hy1 : y < 18446744073709551616) (hd : hi < y → DivIs hi lo y ((hi * 18446744073709551616 + lo) / y) ((hi * 18446744073709551616 + lo) % y)) : QuotIs hi lo y (qr (hi * 18446744073709551616 + lo) y) := by
  have hm0 := Int.emod_nonneg (hi * 18446744073709551616 + lo) (show y ≠ 0 by omega)
  have hm1 := Int.emod_lt_of_pos (hi * 18446744073709551616 + lo) hy
  unfold qr
  by_cases h : hi < y
  · have hd := hd h
    by_cases hb : 9223372036854775808 ≤ (hi * 18446744073709551616 + lo) / y
    · rw [if_pos hb]; exact quot_big hi lo y _ _ h hd hb
    · rw [if_neg hb]
      have hq0 : 0 ≤ (hi * 18446744073709551616 + lo) / y := Int.ediv_nonneg (by omega) (by omega)
      by_cases hu : y ≤ 2 * ((hi * 18446744073709551616 + lo) % y)
      · rw [if_pos hu]; exact quot_up hi lo y _ _ h hd hq0 (by omega) hm0 hm1 hy1 (by omega)
      · rw [if_neg hu, Int.add_zero]; exact quot_dn hi lo y _ _ h hd hq0 (by omega) hm0 hm1 hy1 (by omega)
  · have hb : 9223372036854775808 ≤ (hi * 18446744073709551616 + lo) / y := by
      have h1 : y * 18446744073709551616 ≤ hi * 18446744073709551616 + lo := by omega
      have h2 : 18446744073709551616 ≤ (hi * 18446744073709551616 + lo) / y := by
        rw [Int.le_ediv_iff_mul_le hy]; omega
      omega
    rw [if_pos hb]; exact quot_over hi lo y (by omega)
theorem quot_0 (lo y : Int) (h0 : 0 ≤ lo) (h1 : lo < 18446744073709551616) (hy : 0 < y) (hy1 : y < 18446744073709551616) : QuotIs 0 lo y (qr lo y) := by
  have h := quot_of 0 lo y (by omega) h0 h1 hy hy1 (fun _ => by
    rw [show (0 : Int) * 18446744073709551616 + lo = lo by omega]
    exact fun w => div64_0 lo y w h0 h1 hy hy1)
  rw [show (0 : Int) * 18446744073709551616 + lo = lo by omega] at h
  exact h
/-- A number without its sign. -/
def sizeV (x : Int) : Int := if x < 0 then -x else x
theorem sizeV_neg {x : Int} (h : x < 0) : sizeV x = -x := by unfold sizeV; rw [if_pos h]
theorem sizeV_pos {x : Int} (h : 0 ≤ x) : sizeV x = x := by unfold sizeV; rw [if_neg (by omega)]
theorem sizeV_range {x : Int} (h1 : -9223372036854775807 ≤ x) (h2 : x ≤ 9223372036854775807) : 0 ≤ sizeV x ∧ sizeV x ≤ 9223372036854775807 := by unfold sizeV; split <;> omega
theorem size_any (x : Int) (w : World) (h1 : -9223372036854775807 ≤ x) (h2 : x ≤ 9223372036854775807) : Calls Tryz.prog 146 #[.int .i64 x] w fun e w' => e = .returned (.int .u64 (sizeV x)) ∧ w' = w := by
  by_cases h0 : x < 0
  · rw [sizeV_neg h0]
    go_enter Tryz.func146, Tryz.ntmps146
    go_wp2
    go_ret
    exact ⟨rfl, rfl⟩
  · rw [sizeV_pos (by omega)]
    go_enter Tryz.func146, Tryz.ntmps146
    go_wp2
    go_ret
    exact ⟨rfl, rfl⟩
theorem mul64_is (x y : Int) (hx : 0 ≤ x) (hx1 : x < 18446744073709551616) (hy : 0 ≤ y) (hy1 : y < 18446744073709551616) : MulIs x y (x * y / 18446744073709551616) (x * y % 18446744073709551616) := by
  obtain ⟨x, rfl⟩ := Int.eq_ofNat_of_zero_le hx
  obtain ⟨y, rfl⟩ := Int.eq_ofNat_of_zero_le hy
  intro w
  exact Any.bits_Mul64 Tryz.lays264 x y (by omega) (by omega) w
set_option maxRecDepth 10000 in
theorem mul_pp_big (a b hi lo v : Int) (w : World) (ha1 : -9223372036854775807 ≤ a) (ha2 : a ≤ 9223372036854775807) (hb1 : -9223372036854775807 ≤ b) (hb2 : b ≤ 9223372036854775807) (ha0 : 0 ≤ a) (hb0 : 0 ≤ b) (hm : MulIs (sizeV a) (sizeV b) hi lo) (hq : QuotIs hi lo 10000 v) (hv : 9223372036854775807 < v) : Calls Tryz.prog 114 #[.int .i64 a, .int .i64 b] w fun e w' => e = .returned (.tuple #[.int .i64 0, .int .i64 2]) ∧ ∃ n, w' = w.drewN n := by
  have da : decide (a < 0) = false := decide_eq_false (by omega)
  have db : decide (b < 0) = false := decide_eq_false (by omega)
  go_enter Tryz.func114, Tryz.ntmps114
  go_wp2_with (first | (go_at_call 141; refine (may_t _ _ (by omega)).mono ?_; rintro e w' ⟨rfl, rfl⟩) | (go_at_call 146; refine (size_any _ _ (by omega) (by omega)).mono ?_; rintro e w' ⟨rfl, rfl⟩) | (go_at_call 145; refine (hm _).mono ?_; rintro e w' ⟨rfl, rfl⟩) | (go_at_call 148; refine (hq _).mono ?_; rintro e w' ⟨rfl, n, rfl⟩) | (go_at_call 147; refine (signed_big _ _ _ (by omega)).mono ?_; rintro e w' ⟨rfl, rfl⟩))
  go_ret2
  exact ⟨rfl, n, rfl⟩
set_option maxRecDepth 10000 in
theorem mul_pp_ok (a b hi lo v : Int) (w : World) (ha1 : -9223372036854775807 ≤ a) (ha2 : a ≤ 9223372036854775807) (hb1 : -9223372036854775807 ≤ b) (hb2 : b ≤ 9223372036854775807) (ha0 : 0 ≤ a) (hb0 : 0 ≤ b) (hm : MulIs (sizeV a) (sizeV b) hi lo) (hq : QuotIs hi lo 10000 v) (hv0 : 0 ≤ v) (hv : v ≤ 9223372036854775807) : Calls Tryz.prog 114 #[.int .i64 a, .int .i64 b] w fun e w' => e = .returned (.tuple #[.int .i64 v, .int .i64 0]) ∧ ∃ n, w' = w.drewN n := by
  have da : decide (a < 0) = false := decide_eq_false (by omega)
  have db : decide (b < 0) = false := decide_eq_false (by omega)
  go_enter Tryz.func114, Tryz.ntmps114
  go_wp2_with (first | (go_at_call 141; refine (may_t _ _ (by omega)).mono ?_; rintro e w' ⟨rfl, rfl⟩) | (go_at_call 146; refine (size_any _ _ (by omega) (by omega)).mono ?_; rintro e w' ⟨rfl, rfl⟩) | (go_at_call 145; refine (hm _).mono ?_; rintro e w' ⟨rfl, rfl⟩) | (go_at_call 148; refine (hq _).mono ?_; rintro e w' ⟨rfl, n, rfl⟩) | (go_at_call 147; refine (signed_pos _ _ (by omega) (by omega)).mono ?_; rintro e w' ⟨rfl, rfl⟩))
  go_ret2
  exact ⟨rfl, n, rfl⟩
set_option maxRecDepth 10000 in
theorem mul_nn_big (a b hi lo v : Int) (w : World) (ha1 : -9223372036854775807 ≤ a) (ha2 : a ≤ 9223372036854775807) (hb1 : -9223372036854775807 ≤ b) (hb2 : b ≤ 9223372036854775807) (ha0 : a < 0) (hb0 : b < 0) (hm : MulIs (sizeV a) (sizeV b) hi lo) (hq : QuotIs hi lo 10000 v) (hv : 9223372036854775807 < v) : Calls Tryz.prog 114 #[.int .i64 a, .int .i64 b] w fun e w' => e = .returned (.tuple #[.int .i64 0, .int .i64 2]) ∧ ∃ n, w' = w.drewN n := by
  go_enter Tryz.func114, Tryz.ntmps114
  go_wp2_with (first | (go_at_call 141; refine (may_t _ _ (by omega)).mono ?_; rintro e w' ⟨rfl, rfl⟩) | (go_at_call 146; refine (size_any _ _ (by omega) (by omega)).mono ?_; rintro e w' ⟨rfl, rfl⟩) | (go_at_call 145; refine (hm _).mono ?_; rintro e w' ⟨rfl, rfl⟩) | (go_at_call 148; refine (hq _).mono ?_; rintro e w' ⟨rfl, n, rfl⟩) | (go_at_call 147; refine (signed_big _ _ _ (by omega)).mono ?_; rintro e w' ⟨rfl, rfl⟩))
  go_ret2
  exact ⟨rfl, n, rfl⟩
set_option maxRecDepth 10000 in
theorem mul_nn_ok (a b hi lo v : Int) (w : World) (ha1 : -9223372036854775807 ≤ a) (ha2 : a ≤ 9223372036854775807) (hb1 : -9223372036854775807 ≤ b) (hb2 : b ≤ 9223372036854775807) (ha0 : a < 0) (hb0 : b < 0) (hm : MulIs (sizeV a) (sizeV b) hi lo) (hq : QuotIs hi lo 10000 v) (hv0 : 0 ≤ v) (hv : v ≤ 9223372036854775807) : Calls Tryz.prog 114 #[.int .i64 a, .int .i64 b] w fun e w' => e = .returned (.tuple #[.int .i64 v, .int .i64 0]) ∧ ∃ n, w' = w.drewN n := by
  go_enter Tryz.func114, Tryz.ntmps114
  go_wp2_with (first | (go_at_call 141; refine (may_t _ _ (by omega)).mono ?_; rintro e w' ⟨rfl, rfl⟩) | (go_at_call 146; refine (size_any _ _ (by omega) (by omega)).mono ?_; rintro e w' ⟨rfl, rfl⟩) | (go_at_call 145; refine (hm _).mono ?_; rintro e w' ⟨rfl, rfl⟩) | (go_at_call 148; refine (hq _).mono ?_; rintro e w' ⟨rfl, n, rfl⟩) | (go_at_call 147; refine (signed_pos _ _ (by omega) (by omega)).mono ?_; rintro e w' ⟨rfl, rfl⟩))
  go_ret2
  exact ⟨rfl, n, rfl⟩
set_option maxRecDepth 10000 in
theorem mul_np_big (a b hi lo v : Int) (w : World) (ha1 : -9223372036854775807 ≤ a) (ha2 : a ≤ 9223372036854775807) (hb1 : -9223372036854775807 ≤ b) (hb2 : b ≤ 9223372036854775807) (ha0 : a < 0) (hb0 : 0 ≤ b) (hm : MulIs (sizeV a) (sizeV b) hi lo) (hq : QuotIs hi lo 10000 v) (hv : 9223372036854775807 < v) : Calls Tryz.prog 114 #[.int .i64 a, .int .i64 b] w fun e w' => e = .returned (.tuple #[.int .i64 0, .int .i64 2]) ∧ ∃ n, w' = w.drewN n := by
  have db : decide (b < 0) = false := decide_eq_false (by omega)
  go_enter Tryz.func114, Tryz.ntmps114
  go_wp2_with (first | (go_at_call 141; refine (may_t _ _ (by omega)).mono ?_; rintro e w' ⟨rfl, rfl⟩) | (go_at_call 146; refine (size_any _ _ (by omega) (by omega)).mono ?_; rintro e w' ⟨rfl, rfl⟩) | (go_at_call 145; refine (hm _).mono ?_; rintro e w' ⟨rfl, rfl⟩) | (go_at_call 148; refine (hq _).mono ?_; rintro e w' ⟨rfl, n, rfl⟩) | (go_at_call 147; refine (signed_big _ _ _ (by omega)).mono ?_; rintro e w' ⟨rfl, rfl⟩))
  go_ret2
  exact ⟨rfl, n, rfl⟩
set_option maxRecDepth 10000 in
theorem mul_np_ok (a b hi lo v : Int) (w : World) (ha1 : -9223372036854775807 ≤ a) (ha2 : a ≤ 9223372036854775807) (hb1 : -9223372036854775807 ≤ b) (hb2 : b ≤ 9223372036854775807) (ha0 : a < 0) (hb0 : 0 ≤ b) (hm : MulIs (sizeV a) (sizeV b) hi lo) (hq : QuotIs hi lo 10000 v) (hv0 : 0 ≤ v) (hv : v ≤ 9223372036854775807) : Calls Tryz.prog 114 #[.int .i64 a, .int .i64 b] w fun e w' => e = .returned (.tuple #[.int .i64 (-v), .int .i64 0]) ∧ ∃ n, w' = w.drewN n := by
  have db : decide (b < 0) = false := decide_eq_false (by omega)
  go_enter Tryz.func114, Tryz.ntmps114
  go_wp2_with (first | (go_at_call 141; refine (may_t _ _ (by omega)).mono ?_; rintro e w' ⟨rfl, rfl⟩) | (go_at_call 146; refine (size_any _ _ (by omega) (by omega)).mono ?_; rintro e w' ⟨rfl, rfl⟩) | (go_at_call 145; refine (hm _).mono ?_; rintro e w' ⟨rfl, rfl⟩) | (go_at_call 148; refine (hq _).mono ?_; rintro e w' ⟨rfl, n, rfl⟩) | (go_at_call 147; refine (signed_neg _ _ (by omega) (by omega)).mono ?_; rintro e w' ⟨rfl, rfl⟩))
  go_ret2
  exact ⟨rfl, n, rfl⟩
set_option maxRecDepth 10000 in
theorem mul_pn_big (a b hi lo v : Int) (w : World) (ha1 : -9223372036854775807 ≤ a) (ha2 : a ≤ 9223372036854775807) (hb1 : -9223372036854775807 ≤ b) (hb2 : b ≤ 9223372036854775807) (ha0 : 0 ≤ a) (hb0 : b < 0) (hm : MulIs (sizeV a) (sizeV b) hi lo) (hq : QuotIs hi lo 10000 v) (hv : 9223372036854775807 < v) : Calls Tryz.prog 114 #[.int .i64 a, .int .i64 b] w fun e w' => e = .returned (.tuple #[.int .i64 0, .int .i64 2]) ∧ ∃ n, w' = w.drewN n := by
  have da : decide (a < 0) = false := decide_eq_false (by omega)
  go_enter Tryz.func114, Tryz.ntmps114
  go_wp2_with (first | (go_at_call 141; refine (may_t _ _ (by omega)).mono ?_; rintro e w' ⟨rfl, rfl⟩) | (go_at_call 146; refine (size_any _ _ (by omega) (by omega)).mono ?_; rintro e w' ⟨rfl, rfl⟩) | (go_at_call 145; refine (hm _).mono ?_; rintro e w' ⟨rfl, rfl⟩) | (go_at_call 148; refine (hq _).mono ?_; rintro e w' ⟨rfl, n, rfl⟩) | (go_at_call 147; refine (signed_big _ _ _ (by omega)).mono ?_; rintro e w' ⟨rfl, rfl⟩))
  go_ret2
  exact ⟨rfl, n, rfl⟩
set_option maxRecDepth 10000 in
theorem mul_pn_ok (a b hi lo v : Int) (w : World) (ha1 : -9223372036854775807 ≤ a) (ha2 : a ≤ 9223372036854775807) (hb1 : -9223372036854775807 ≤ b) (hb2 : b ≤ 9223372036854775807) (ha0 : 0 ≤ a) (hb0 : b < 0) (hm : MulIs (sizeV a) (sizeV b) hi lo) (hq : QuotIs hi lo 10000 v) (hv0 : 0 ≤ v) (hv : v ≤ 9223372036854775807) : Calls Tryz.prog 114 #[.int .i64 a, .int .i64 b] w fun e w' => e = .returned (.tuple #[.int .i64 (-v), .int .i64 0]) ∧ ∃ n, w' = w.drewN n := by
  have da : decide (a < 0) = false := decide_eq_false (by omega)
  go_enter Tryz.func114, Tryz.ntmps114
  go_wp2_with (first | (go_at_call 141; refine (may_t _ _ (by omega)).mono ?_; rintro e w' ⟨rfl, rfl⟩) | (go_at_call 146; refine (size_any _ _ (by omega) (by omega)).mono ?_; rintro e w' ⟨rfl, rfl⟩) | (go_at_call 145; refine (hm _).mono ?_; rintro e w' ⟨rfl, rfl⟩) | (go_at_call 148; refine (hq _).mono ?_; rintro e w' ⟨rfl, n, rfl⟩) | (go_at_call 147; refine (signed_neg _ _ (by omega) (by omega)).mono ?_; rintro e w' ⟨rfl, rfl⟩))
  go_ret2
  exact ⟨rfl, n, rfl⟩
theorem mul_aMin (a b : Int) (w : World) (ha : a = -9223372036854775808) : Calls Tryz.prog 114 #[.int .i64 a, .int .i64 b] w fun e w' => e = .returned (.tuple #[.int .i64 0, .int .i64 2]) ∧ ∃ n, w' = w.drewN n := by
  go_enter Tryz.func114, Tryz.ntmps114
  go_wp2_with (go_at_call 141; refine (may_f _ _ (by omega)).mono ?_; rintro e w' ⟨rfl, rfl⟩)
  go_ret2
  exact ⟨rfl, 0, rfl⟩
theorem mul_bMin (a b : Int) (w : World) (ha : -9223372036854775807 ≤ a) (hb : b = -9223372036854775808) : Calls Tryz.prog 114 #[.int .i64 a, .int .i64 b] w fun e w' => e = .returned (.tuple #[.int .i64 0, .int .i64 2]) ∧ ∃ n, w' = w.drewN n := by
  go_enter Tryz.func114, Tryz.ntmps114
  go_wp2_with (first | (go_at_call 141; refine (may_t _ _ (by omega)).mono ?_; rintro e w' ⟨rfl, rfl⟩) | (go_at_call 141; refine (may_f _ _ (by omega)).mono ?_; rintro e w' ⟨rfl, rfl⟩))
  go_ret2
  exact ⟨rfl, 0, rfl⟩
end Go.Proofs.YtcgcnpcimfaecaaGreatDoor
