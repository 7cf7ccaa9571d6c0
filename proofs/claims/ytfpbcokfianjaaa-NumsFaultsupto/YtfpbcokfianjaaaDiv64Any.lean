/- math/bits.Div64 of any two words and any divisor above the upper one: the quotient and what is left, as whole numbers. Nothing is written. -/
import Derived.Test.YtfpbcokfianjaaaDiv64
import Derived.Laws.BitsAllLaws
namespace Go.Proofs.Ytfpbcokfianjaaa
open Go.Shelf Go.RowKit
set_option linter.unusedVariables false
theorem dig_init {U Y yn1 yn0 u Qt R : Int} (hY : Y = yn1 * 4294967296 + yn0) (ya : 2147483648 ≤ yn1) (yb : yn1 < 4294967296) (yc : 0 ≤ yn0) (yd : yn0 < 4294967296) (hU0 : 0 ≤ U) (hU1 : U < Y) (hu1 : u < 4294967296) (hN : Qt * Y + R = U * 4294967296 + u) (hR0 : 0 ≤ R) (hQ0 : 0 ≤ Qt) :
    DigInv U yn1 Qt (U / yn1) (U - U / yn1 * yn1) ∧ 0 ≤ U / yn1 * yn1 ∧ U / yn1 * yn1 ≤ U := by
  have h1 := Int.mul_ediv_add_emod U yn1
  have h2 := Int.emod_nonneg U (show yn1 ≠ 0 by omega)
  have h3 := Int.emod_lt_of_pos U (show 0 < yn1 by omega)
  have hq0 : 0 ≤ U / yn1 := Int.ediv_nonneg hU0 (by omega)
  have hp0 : 0 ≤ U / yn1 * yn1 := Int.mul_nonneg hq0 (by omega)
  rw [Int.mul_comm yn1] at h1
  have hq1 : U / yn1 < 4294967298 := by
    refine Int.lt_of_mul_lt_mul_right (a := yn1) ?_ (by omega)
    omega
  have hle : Qt ≤ U / yn1 := by
    rw [Int.le_ediv_iff_mul_le (by omega)]
    have e : Qt * Y = Qt * yn1 * 4294967296 + Qt * yn0 := by rw [hY, Int.mul_add, ← Int.mul_assoc]
    have : 0 ≤ Qt * yn0 := Int.mul_nonneg hQ0 yc
    omega
  exact ⟨⟨by omega, by omega, by omega, hq0, by omega, hle⟩, hp0, by omega⟩
theorem wrap_left {A B u R Y : Int} (h : B + R = A + u) (h0 : 0 ≤ R) (h1 : R < Y) (hY : Y < 18446744073709551616) : IntKind.u64.wrap (IntKind.u64.wrap (IntKind.u64.wrap A + u) - IntKind.u64.wrap B) = R := by
  simp only [wrapU]; omega
theorem and_low {x : Int} (h0 : 0 ≤ x) (h1 : x < 18446744073709551616) : bits BinOp.and IntKind.u64 x 4294967295 = x % 4294967296 := by
  obtain ⟨n, rfl⟩ := Int.eq_ofNat_of_zero_le h0
  have h := u64_and_nat n 4294967295 (by omega) (by omega)
  have e : n &&& 4294967295 = n % 4294967296 := Nat.and_two_pow_sub_one_eq_mod n 32
  rw [e] at h
  exact h
theorem or_parts {hi v : Int} {s : Nat} (h0 : 0 ≤ hi) (hv0 : 0 ≤ v) (hv1 : v < 2 ^ s) (h1 : hi * 2 ^ s < 18446744073709551616) (hv2 : v < 18446744073709551616) : bits BinOp.or IntKind.u64 (hi * 2 ^ s) v = hi * 2 ^ s + v := by
  obtain ⟨a, rfl⟩ := Int.eq_ofNat_of_zero_le h0
  obtain ⟨b, rfl⟩ := Int.eq_ofNat_of_zero_le hv0
  have e : ((a : Int) * 2 ^ s) = ((2 ^ s * a : Nat) : Int) := by rw [Nat.mul_comm]; push_cast; rfl
  rw [e] at h1 ⊢
  have hb : b < 2 ^ s := by exact_mod_cast hv1
  rw [u64_or_nat _ _ (by omega) (by omega), ← Nat.two_pow_add_eq_or_of_lt hb]
  push_cast; rfl
theorem lz_is (y : Int) (hy0 : 0 < y) (hy1 : y < 18446744073709551616) : ∃ s : Nat, s ≤ 63 ∧ LzIs y s ∧ 9223372036854775808 ≤ y * 2 ^ s ∧ y * 2 ^ s < 18446744073709551616 := by
  obtain ⟨n, rfl⟩ := Int.eq_ofNat_of_zero_le (Int.le_of_lt hy0)
  have hb := Lib.bitLenAux_bounds 64 n (by omega) (by omega)
  have hle : Lib.bitLen n ≤ 64 := Lib.bitLen_le n 64 (by omega) (by omega)
  change 1 ≤ Lib.bitLen n ∧ 2 ^ (Lib.bitLen n - 1) ≤ n ∧ n < 2 ^ Lib.bitLen n at hb
  obtain ⟨b1, b2, b3⟩ := hb
  generalize hbb : Lib.bitLen n = b at *
  have e1 : 2 ^ (b - 1) * 2 ^ (64 - b) = 9223372036854775808 := by rw [← Nat.pow_add, show b - 1 + (64 - b) = 63 by omega]
  have e2 : 2 ^ b * 2 ^ (64 - b) = 18446744073709551616 := by rw [← Nat.pow_add, show b + (64 - b) = 64 by omega]
  have c1 := Nat.mul_le_mul_right (2 ^ (64 - b)) b2
  have c2 := Nat.mul_lt_mul_of_pos_right b3 (Nat.pow_pos (n := 64 - b) (show 0 < 2 by decide))
  rw [e1] at c1
  rw [e2] at c2
  have e3 : ((n * 2 ^ (64 - b) : Nat) : Int) = (n : Int) * 2 ^ (64 - b) := by rw [Int.natCast_mul, Int.natCast_pow]; rfl
  refine ⟨64 - b, by omega, ?_, by rw [← e3]; exact Int.ofNat_le.2 c1, by rw [← e3]; exact Int.ofNat_lt.2 c2⟩
  intro w
  have c : Calls Try.prog 92 #[.int .u64 (n : Int)] w fun e w' => e = .returned (.int .i64 (64 - (Lib.bitLen (n : Int).toNat : Int))) ∧ w' = w := Any.bits_LeadingZeros64 Try.lays134 (n : Int) w (by omega) (by omega)
  rw [show (64 - (Lib.bitLen (n : Int).toNat : Int)) = (((64 - b : Nat) : Nat) : Int) by rw [Int.toNat_natCast, hbb]; omega] at c
  exact c
theorem div64_is (hi lo y : Int) (h0 : 0 < hi) (hhi : hi < y) (hlo : 0 ≤ lo) (h1 : lo < 18446744073709551616) (hy1 : y < 18446744073709551616) : DivIs hi lo y ((hi * 18446744073709551616 + lo) / y) ((hi * 18446744073709551616 + lo) % y) := by
  obtain ⟨s, hs, hlz, hYa, hYb⟩ := lz_is y (by omega) hy1
  intro w
  have hP0 : (0 : Int) < 2 ^ s := Int.pow_pos (by decide)
  have hT0 : (0 : Int) < 2 ^ (64 - s) := Int.pow_pos (by decide)
  have hPT : (2 : Int) ^ s * 2 ^ (64 - s) = 18446744073709551616 := by rw [← Int.pow_add, show s + (64 - s) = 64 by omega]; rfl
  -- the upper word
  have hv0 : 0 ≤ lo / 2 ^ (64 - s) := Int.ediv_nonneg hlo (by omega)
  have hv1 : lo / 2 ^ (64 - s) < 2 ^ s := by rw [Int.ediv_lt_iff_lt_mul hT0, hPT]; exact h1
  have hvle : lo / 2 ^ (64 - s) ≤ lo := Int.ediv_le_self _ hlo
  have hhiP : (hi + 1) * 2 ^ s ≤ y * 2 ^ s := Int.mul_le_mul_of_nonneg_right (by omega) (by omega)
  rw [Int.add_mul, Int.one_mul] at hhiP
  have hhP0 : 0 ≤ hi * 2 ^ s := Int.mul_nonneg (by omega) (by omega)
  have eU : bits BinOp.or IntKind.u64 (IntKind.u64.wrap (hi * 2 ^ s)) (lo / 2 ^ (64 - s)) = hi * 2 ^ s + lo / 2 ^ (64 - s) := by
    have : IntKind.u64.wrap (hi * 2 ^ s) = hi * 2 ^ s := by rw [wrapU]; omega
    rw [this]; exact or_parts (by omega) hv0 hv1 (by omega) (by omega)
  -- the lower word
  have hlow : lo * 2 ^ s / 18446744073709551616 = lo / 2 ^ (64 - s) := by
    rw [← hPT, Int.mul_comm lo]; exact Int.mul_ediv_mul_of_pos _ _ hP0
  have eL : IntKind.u64.wrap (lo * 2 ^ s) = lo * 2 ^ s % 18446744073709551616 := wrapU _
  have hLd := Int.mul_ediv_add_emod (lo * 2 ^ s) 18446744073709551616
  rw [hlow] at hLd
  have hL0 := Int.emod_nonneg (lo * 2 ^ s) (show (18446744073709551616 : Int) ≠ 0 by decide)
  have hL1 := Int.emod_lt_of_pos (lo * 2 ^ s) (show (0 : Int) < 18446744073709551616 by decide)
  have eY : IntKind.u64.wrap (y * 2 ^ s) = y * 2 ^ s := by rw [wrapU]; omega
  generalize hP : (2 : Int) ^ s = P at *
  generalize hT : (2 : Int) ^ (64 - s) = T at *
  generalize hYY : y * P = Y at *
  generalize hVV : lo / T = v at *
  generalize hLL : lo * P % 18446744073709551616 = L at *
  generalize hHH : hi * P = H at *
  -- the two digits
  have hY0 : 0 < Y := by omega
  have hN1 := Int.mul_ediv_add_emod ((H + v) * 4294967296 + L / 4294967296) Y
  have hR0 := Int.emod_nonneg ((H + v) * 4294967296 + L / 4294967296) (show Y ≠ 0 by omega)
  have hR1 := Int.emod_lt_of_pos ((H + v) * 4294967296 + L / 4294967296) hY0
  have hQ0 : 0 ≤ ((H + v) * 4294967296 + L / 4294967296) / Y := Int.ediv_nonneg (by omega) (by omega)
  generalize ((H + v) * 4294967296 + L / 4294967296) / Y = Qt at *
  generalize ((H + v) * 4294967296 + L / 4294967296) % Y = R at *
  have hN2 := Int.mul_ediv_add_emod (R * 4294967296 + L % 4294967296) Y
  have hS0 := Int.emod_nonneg (R * 4294967296 + L % 4294967296) (show Y ≠ 0 by omega)
  have hS1 := Int.emod_lt_of_pos (R * 4294967296 + L % 4294967296) hY0
  have hQs0 : 0 ≤ (R * 4294967296 + L % 4294967296) / Y := Int.ediv_nonneg (by omega) (by omega)
  generalize (R * 4294967296 + L % 4294967296) / Y = Qs at *
  generalize (R * 4294967296 + L % 4294967296) % Y = S at *
  rw [Int.mul_comm Y] at hN1 hN2
  have hYd : Y = Y / 4294967296 * 4294967296 + Y % 4294967296 := by omega
  have i1 := dig_init (u := L / 4294967296) hYd (by omega) (by omega) (by omega) (by omega) (show 0 ≤ H + v by omega) (by omega) (by omega) hN1 hR0 hQ0
  have i2 := dig_init (u := L % 4294967296) hYd (by omega) (by omega) (by omega) (by omega) hR0 hR1 (by omega) hN2 hS0 hQs0
  have hQt1 := dig_lt hY0 hN1 hR0 (by omega) (by omega)
  have hQs1 := dig_lt hY0 hN2 hS0 hR1 (by omega)
  have wk := div64_walk hi lo y Y (Y / 4294967296) (Y % 4294967296) (H + v) L (L / 4294967296) (L % 4294967296) _ _ Qt R _ _ Qs S s w h0 hhi hlo h1 hy1 hs hlz
    (by rw [hP, hYY]; exact eY) rfl (and_low (by omega) (by omega)) (by rw [hP, hT, hHH, hVV]; exact eU) (by rw [hP]; exact eL) rfl (and_low hL0 hL1)
    hYd (by omega) (by omega) (by omega) (by omega) (by omega) (by omega) (by omega) (by omega) (by omega) (by omega) (by omega)
    rfl rfl i1.2.1 i1.2.2 hN1 hR0 hR1 hQ0 hQt1 i1.1 (wrap_left hN1 hR0 hR1 (by omega))
    rfl rfl i2.2.1 i2.2.2 hN2 hS0 hS1 hQs0 hQs1 i2.1 (wrap_left hN2 hS0 hS1 (by omega))
  rw [hP] at wk
  -- as whole numbers
  have hy0 : 0 < y := by omega
  have key : (hi * 18446744073709551616 + lo) * P = (Qt * 4294967296 + Qs) * Y + S := by
    rw [Int.add_mul, Int.add_mul, Int.mul_right_comm Qt, Int.mul_right_comm hi, hHH]
    omega
  have hS : S = (hi * 18446744073709551616 + lo - y * (Qt * 4294967296 + Qs)) * P := by
    rw [Int.sub_mul, key, Int.mul_right_comm y, hYY, Int.mul_comm Y]; omega
  have hdiv : S / P = hi * 18446744073709551616 + lo - y * (Qt * 4294967296 + Qs) := by
    rw [hS]; exact Int.mul_ediv_cancel _ (by omega)
  have hr0 : 0 ≤ hi * 18446744073709551616 + lo - y * (Qt * 4294967296 + Qs) := by rw [← hdiv]; exact Int.ediv_nonneg hS0 (by omega)
  have hr1 : hi * 18446744073709551616 + lo - y * (Qt * 4294967296 + Qs) < y := by
    refine Int.lt_of_mul_lt_mul_right (a := P) ?_ (by omega)
    rw [← hS, hYY]; exact hS1
  have hu := (Int.ediv_emod_unique (a := hi * 18446744073709551616 + lo) (r := hi * 18446744073709551616 + lo - y * (Qt * 4294967296 + Qs)) (q := Qt * 4294967296 + Qs) hy0).2 ⟨by omega, hr0, hr1⟩
  rw [hu.1, hu.2, ← hdiv]
  exact wk
end Go.Proofs.Ytfpbcokfianjaaa
