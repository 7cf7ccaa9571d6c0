/- The contract of dec.Sqrt, of any int64: the root in parts, rounded. Nothing is written. -/
import Derived.Test.YtfpbcokfianjaaaQuot
namespace Go.Proofs.Ytfpbcokfianjaaa
open Go.Shelf Go.RowKit
set_option linter.unusedVariables false
/-- The bit that is tried next, j to go. -/
def bt (j : Nat) : Nat := 2 ^ j / 2
theorem bt_zero : bt 0 = 0 := rfl
theorem bt_half (j : Nat) : bt (j + 1) / 2 = bt j := by unfold bt; rw [Nat.pow_succ, Nat.mul_div_cancel _ (by decide)]
theorem bt_pos (j : Nat) : 1 ≤ bt (j + 1) := by unfold bt; rw [Nat.pow_succ, Nat.mul_div_cancel _ (by decide)]; exact Nat.pow_pos (by decide)
theorem bt_two (j : Nat) : 2 ^ (j + 1) = bt (j + 1) + bt (j + 1) ∧ 2 ^ j = bt (j + 1) := by
  have : bt (j + 1) = 2 ^ j := by unfold bt; rw [Nat.pow_succ, Nat.mul_div_cancel _ (by decide)]
  rw [this, Nat.pow_succ]; omega
/-- What the search holds: r less a half is not above the root, r and 2^j more is. -/
structure RootInv (T : Int) (j : Nat) (r : Int) : Prop where
  r0 : 0 ≤ r
  lo : r = 0 ∨ (2 * r - 1) * (2 * r - 1) ≤ T
  hi : T < (2 * (r + (2 ^ j : Nat)) - 1) * (2 * (r + (2 ^ j : Nat)) - 1)
  top : r + (2 ^ j : Nat) ≤ 549755813888
theorem RootInv.take {T r : Int} {j : Nat} (h : RootInv T (j + 1) r) (hle : (2 * (r + (bt (j + 1) : Nat)) - 1) * (2 * (r + (bt (j + 1) : Nat)) - 1) ≤ T) : RootInv T j (r + (bt (j + 1) : Nat)) := by
  have hb := bt_two j
  have h1 := h.r0; have h2 := h.hi; have h3 := h.top
  have e : r + ((bt (j + 1) : Nat) : Int) + ((2 ^ j : Nat) : Int) = r + ((2 ^ (j + 1) : Nat) : Int) := by omega
  exact ⟨by omega, .inr hle, by rw [e]; exact h2, by rw [e]; exact h3⟩
theorem RootInv.leave {T r : Int} {j : Nat} (h : RootInv T (j + 1) r) (hlt : T < (2 * (r + (bt (j + 1) : Nat)) - 1) * (2 * (r + (bt (j + 1) : Nat)) - 1)) : RootInv T j r := by
  have hb := bt_two j
  have e : r + ((2 ^ j : Nat) : Int) = r + ((bt (j + 1) : Nat) : Int) := by omega
  exact ⟨h.r0, h.lo, by rw [e]; exact hlt, by have := h.top; omega⟩
theorem odd_sq (o : Int) (h0 : 0 ≤ o) (h1 : o < 18446744073709551616) : ∃ U V : Int, MulIs o o U V ∧ o * o = U * 18446744073709551616 + V ∧ 0 ≤ V ∧ V < 18446744073709551616 :=
  ⟨o * o / 18446744073709551616, o * o % 18446744073709551616, mul64_is o o h0 h1 h0 h1, by omega, by omega, by omega⟩
set_option maxRecDepth 10000 in
theorem sqrt_walk (x H L : Int) (w : World) (hx0 : 0 ≤ x) (hx1 : x ≤ 9223372036854775807) (eH : x * 40000 / 18446744073709551616 = H) (eL : x * 40000 % 18446744073709551616 = L) :
    Calls Try.prog 66 #[.int .i64 x] w fun e w' => (∃ r : Int, e = .returned (.tuple #[.int .i64 r, .int .i64 0]) ∧ RootInv (x * 40000) 0 r) ∧ w' = w := by
  have hs : sizeV x = x := sizeV_pos hx0
  have hM : MulIs x 40000 (x * 40000 / 18446744073709551616) (x * 40000 % 18446744073709551616) := mul64_is x 40000 hx0 (by omega) (by omega) (by omega)
  rw [eH, eL] at hM
  go_enter Try.func66, Try.ntmps66
  go_wp2_with (first | (go_at_call 74; refine (may_t _ _ (by omega)).mono ?_; rintro e w' ⟨rfl, rfl⟩) | (go_at_call 79; refine (size_any _ _ (by omega) (by omega)).mono ?_; rintro e w' ⟨rfl, rfl⟩) | (go_at_call 80; refine (hM _).mono ?_; rintro e w' ⟨rfl, rfl⟩))
  go_loop [6, 7] (fun a b => ∃ (j : Nat) (r : Int), j ≤ 39 ∧ b = .int .u64 (bt j : Nat) ∧ a = .int .u64 r ∧ RootInv (x * 40000) j r) (fun _ b => (intOf b).toNat)
  case atStart =>
    refine ⟨39, 0, by omega, rfl, rfl, by omega, .inl rfl, ?_, by decide⟩
    rw [show ((2 ^ 39 : Nat) : Int) = 549755813888 from rfl]
    omega
  case round =>
    obtain ⟨j, r, hj, rfl, rfl, hv⟩ := hrel
    have r0 := hv.r0
    have rt := hv.top
    cases j with
    | zero =>
      rw [bt_zero]
      have rt2 : r ≤ 549755813888 := by omega
      go_wp2_with (go_at_call 77; refine (signed_pos _ _ (by omega) (by omega)).mono ?_; rintro e w' ⟨rfl, rfl⟩)
      go_ret2
      exact ⟨⟨r, rfl, hv⟩, rfl⟩
    | succ j =>
      have hb1 := bt_pos j
      have hb2 := bt_two j
      have hb3 := bt_half j
      have hr39 : r + ((bt (j + 1) : Nat) : Int) ≤ 549755813888 := by omega
      obtain ⟨U, V, hm, hsq, hV0, hV1⟩ := odd_sq (2 * (r + ((bt (j + 1) : Nat) : Int)) - 1) (by omega) (by omega)
      have hT : x * 40000 = H * 18446744073709551616 + L := by omega
      have hL0 : 0 ≤ L := by omega
      have hL1 : L < 18446744073709551616 := by omega
      have HB := Lib.hid hb3
      clear hb2 hb3
      by_cases hc1 : U < H
      · have HV := Lib.hid (hv.take (by rw [hsq, hT]; omega))
        clear hsq hT hv
        go_wp2_with (go_at_call 80; refine (hm _).mono ?_; rintro e w' ⟨rfl, rfl⟩)
        go_round
        case rel => exact ⟨j, _, by omega, by rw [← HB.out]; go_num, rfl, HV.out⟩
        case measure => simp [intOf]; omega
      by_cases hc2 : U = H
      · by_cases hc3 : V ≤ L
        · have HV := Lib.hid (hv.take (by rw [hsq, hT]; omega))
          clear hsq hT hv
          subst hc2
          have t1 : decide (U < U) = false := decide_eq_false (by omega)
          have t2 : (U == U) = true := by simp
          go_wp2_with (go_at_call 80; refine (hm _).mono ?_; rintro e w' ⟨rfl, rfl⟩)
          go_round
          case rel => exact ⟨j, _, by omega, by rw [← HB.out]; go_num, rfl, HV.out⟩
          case measure => simp [intOf]; omega
        · have HV := Lib.hid (hv.leave (by rw [hsq, hT]; omega))
          clear hsq hT hv
          subst hc2
          have t1 : decide (U < U) = false := decide_eq_false (by omega)
          have t2 : (U == U) = true := by simp
          go_wp2_with (go_at_call 80; refine (hm _).mono ?_; rintro e w' ⟨rfl, rfl⟩)
          go_round
          case rel => exact ⟨j, _, by omega, by rw [← HB.out]; go_num, rfl, HV.out⟩
          case measure => simp [intOf]; omega
      · have HV := Lib.hid (hv.leave (by rw [hsq, hT]; omega))
        clear hsq hT hv
        have t2 : (U == H) = false := by rw [beq_eq_false_iff_ne]; exact hc2
        go_wp2_with (go_at_call 80; refine (hm _).mono ?_; rintro e w' ⟨rfl, rfl⟩)
        go_round
        case rel => exact ⟨j, _, by omega, by rw [← HB.out]; go_num, rfl, HV.out⟩
        case measure => simp [intOf]; omega
theorem sq_lt {a b : Int} (ha : 0 ≤ b) (h : a * a < b * b) : a < b := by
  by_cases hc : b ≤ a
  · have := Int.mul_le_mul hc hc ha (by omega); omega
  · omega
/-- There is but one root. -/
theorem root_le {S T r t : Int} (h : RootInv S 0 r) (h' : RootInv T 0 t) (hle : S ≤ T) : r ≤ t := by
  have e : ((2 ^ 0 : Nat) : Int) = 1 := rfl
  have h1 := h.lo; have h2 := h'.hi; have h3 := h'.r0; have h4 := h.r0
  rw [e] at h2
  rcases h1 with h1 | h1
  · omega
  · have := sq_lt (a := 2 * r - 1) (b := 2 * (t + 1) - 1) (by omega) (by omega)
    omega
theorem sqrt_ok (x : Int) (w : World) (hx0 : 0 ≤ x) (hx1 : x ≤ 9223372036854775807) : Calls Try.prog 66 #[.int .i64 x] w fun e w' => (∃ r : Int, e = .returned (.tuple #[.int .i64 r, .int .i64 0]) ∧ RootInv (x * 40000) 0 r) ∧ w' = w := sqrt_walk x _ _ w hx0 hx1 rfl rfl
theorem sqrt_min (x : Int) (w : World) (hx : x = -9223372036854775808) : Calls Try.prog 66 #[.int .i64 x] w fun e w' => e = .returned (.tuple #[.int .i64 0, .int .i64 2]) ∧ w' = w := by
  go_enter Try.func66, Try.ntmps66
  go_wp2_with (go_at_call 74; refine (may_f _ _ (by omega)).mono ?_; rintro e w' ⟨rfl, rfl⟩)
  go_ret2
  exact ⟨rfl, rfl⟩
theorem sqrt_neg (x : Int) (w : World) (hx : -9223372036854775807 ≤ x) (hx0 : x < 0) : Calls Try.prog 66 #[.int .i64 x] w fun e w' => e = .returned (.tuple #[.int .i64 0, .int .i64 8]) ∧ w' = w := by
  go_enter Try.func66, Try.ntmps66
  go_wp2_with (go_at_call 74; refine (may_t _ _ (by omega)).mono ?_; rintro e w' ⟨rfl, rfl⟩)
  go_ret2
  exact ⟨rfl, rfl⟩
end Go.Proofs.Ytfpbcokfianjaaa
