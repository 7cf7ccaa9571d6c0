/- The contract of math/bits.Div64 for every upper word below the divisor: the quotient of the two words and what is left. Nothing is written (an order is drawn where the upper word is 0). math/bits.Div64 of any two words and any divisor above the upper one: the quotient and what is left, as whole numbers. Nothing is written. -/
import Derived.Test.YtcgcnpcimfaecaaGreatDoorQParseW
import Derived.Laws.BitsAllLaws
namespace Go.Proofs.YtcgcnpcimfaecaaGreatDoor
open Go.Shelf Go.RowKit
set_option linter.unusedVariables false
/-- What LeadingZeros64 answers. -/
def LzIs (y : Int) (s : Nat) : Prop := ∀ w, Calls Tryz.prog 160 #[.int .u64 y] w fun e w' => e = .returned (.int .i64 s) ∧ w' = w
/-- What a digit's search holds: q times the divisor's upper half and r are U; q is not below the digit. -/
structure DigInv (U yn1 Qt q r : Int) : Prop where
  eq : q * yn1 + r = U
  r0 : 0 ≤ r
  r1 : r < 4294967296
  q0 : 0 ≤ q
  q1 : q ≤ 4294967297
  le : Qt ≤ q
theorem dig_exit {U Y yn1 yn0 u Qt R q r : Int} (hY : Y = yn1 * 4294967296 + yn0) (hY0 : 0 < Y) (hN : Qt * Y + R = U * 4294967296 + u) (hR : R < Y) (eq : q * yn1 + r = U) (hle : Qt ≤ q) (h : q * yn0 ≤ 4294967296 * r + u) : q = Qt := by
  have h1 : q * Y ≤ Qt * Y + R := by
    rw [hN, hY, Int.mul_add, ← Int.mul_assoc]
    have : q * yn1 = U - r := by omega
    rw [this]; omega
  have h2 : q < Qt + 1 := by
    refine Int.lt_of_mul_lt_mul_right (a := Y) ?_ (by omega)
    rw [Int.add_mul, Int.one_mul]; omega
  omega
theorem dig_more {U Y yn1 yn0 u Qt R q r : Int} (hY : Y = yn1 * 4294967296 + yn0) (hY0 : 0 < Y) (hN : Qt * Y + R = U * 4294967296 + u) (hR : 0 ≤ R) (eq : q * yn1 + r = U) (h : 4294967296 * r + u < q * yn0) : Qt < q := by
  refine Int.lt_of_mul_lt_mul_right (a := Y) ?_ (by omega)
  have : q * Y = (U - r) * 4294967296 + q * yn0 := by
    rw [hY, Int.mul_add, ← Int.mul_assoc]
    have : q * yn1 = U - r := by omega
    rw [this]
  rw [this]; omega
theorem dig_lt {U Y u Qt R : Int} (hY0 : 0 < Y) (hN : Qt * Y + R = U * 4294967296 + u) (hR : 0 ≤ R) (hU : U < Y) (hu : u < 4294967296) : Qt < 4294967296 := by
  refine Int.lt_of_mul_lt_mul_right (a := Y) ?_ (by omega)
  omega
theorem mul_le32 {q a : Int} (hq : q ≤ 4294967296) (ha0 : 0 ≤ a) (ha : a < 4294967296) : q * a ≤ 4294967296 * 4294967295 := by
  have h1 : q * a ≤ 4294967296 * a := Int.mul_le_mul_of_nonneg_right hq ha0
  omega
/-- The search ends by its second test: q less one is the digit. -/
theorem dig_break {U Y yn1 yn0 u Qt R q r : Int} (hY : Y = yn1 * 4294967296 + yn0) (hY0 : 0 < Y) (hN : Qt * Y + R = U * 4294967296 + u) (hR : R < Y) (hu : 0 ≤ u) (hv : DigInv U yn1 Qt q r) (h0 : 0 ≤ yn0) (h1 : yn0 < 4294967296) (hlt : Qt < q) (hb : 4294967296 ≤ r + yn1) : q - 1 = Qt := by
  have hv1 := hv.q1
  have := mul_le32 (q := q - 1) (by omega) h0 h1
  refine dig_exit (yn1 := yn1) (r := r + yn1) hY hY0 hN hR ?_ (by omega) (by omega)
  have := hv.eq
  rw [Int.sub_mul, Int.one_mul]; omega
theorem dig_step {U yn1 Qt q r : Int} (hv : DigInv U yn1 Qt q r) (hy : 0 ≤ yn1) (hlt : Qt < q) (hQ : 0 ≤ Qt) (hb : ¬ 4294967296 ≤ r + yn1) : DigInv U yn1 Qt (q - 1) (r + yn1) := by
  have h1 := hv.eq; have h2 := hv.r0; have h3 := hv.q1
  exact ⟨by rw [Int.sub_mul, Int.one_mul]; omega, by omega, by omega, by omega, by omega, by omega⟩
set_option maxHeartbeats 1000000 in
set_option maxRecDepth 100000 in
theorem div64_walk (hi lo y Y yn1 yn0 U L u1 u0 qa m Qt R qb mb Qs S : Int) (s : Nat) (w : World) (h0 : 0 < hi) (hhi : hi < y) (hlo : 0 ≤ lo) (h1 : lo < 18446744073709551616) (hy1 : y < 18446744073709551616) (hs : s ≤ 63) (hlz : LzIs y s)
   (eY : IntKind.u64.wrap (y * 2 ^ s) = Y) (eY1 : Y / 4294967296 = yn1) (eY0 : bits BinOp.and IntKind.u64 Y 4294967295 = yn0) (eU : bits BinOp.or IntKind.u64 (IntKind.u64.wrap (hi * 2 ^ s)) (lo / 2 ^ (64 - s)) = U) (eL : IntKind.u64.wrap (lo * 2 ^ s) = L) (eu1 : L / 4294967296 = u1) (eu0 : bits BinOp.and IntKind.u64 L 4294967295 = u0)
   (hY : Y = yn1 * 4294967296 + yn0) (ya : 2147483648 ≤ yn1) (yb : yn1 < 4294967296) (yc : 0 ≤ yn0) (yd : yn0 < 4294967296) (hU0 : 0 ≤ U) (hU1 : U < Y) (hY1 : Y < 18446744073709551616) (hau0 : 0 ≤ u1) (hu11 : u1 < 4294967296) (hbu0 : 0 ≤ u0) (hu01 : u0 < 4294967296)
   (eqa : U / yn1 = qa) (em : qa * yn1 = m) (hm0 : 0 ≤ m) (hm1 : m ≤ U) (haN : Qt * Y + R = U * 4294967296 + u1) (haR0 : 0 ≤ R) (haR1 : R < Y) (haQ0 : 0 ≤ Qt) (hQ1 : Qt < 4294967296) (hast : DigInv U yn1 Qt qa (U - m))
   (eR : IntKind.u64.wrap (IntKind.u64.wrap (IntKind.u64.wrap (U * 4294967296) + u1) - IntKind.u64.wrap (Qt * Y)) = R)
   (eqb : R / yn1 = qb) (emb : qb * yn1 = mb) (hmb0 : 0 ≤ mb) (hmb1 : mb ≤ R) (hbN : Qs * Y + S = R * 4294967296 + u0) (hbR0 : 0 ≤ S) (hbR1 : S < Y) (hbQ0 : 0 ≤ Qs) (hQs1 : Qs < 4294967296) (hbst : DigInv R yn1 Qs qb (R - mb))
   (eS : IntKind.u64.wrap (IntKind.u64.wrap (IntKind.u64.wrap (R * 4294967296) + u0) - IntKind.u64.wrap (Qs * Y)) = S) :
    Calls Tryz.prog 150 #[.int .u64 hi, .int .u64 lo, .int .u64 y] w fun e w' => e = .returned (.tuple #[.int .u64 (Qt * 4294967296 + Qs), .int .u64 (S / 2 ^ s)]) ∧ ∃ n, w' = w.drewN n := by
  have hY0 : 0 < Y := by omega
  have hz : (y == 0) = false := by rw [beq_eq_false_iff_ne]; omega
  have hz2 : (hi == 0) = false := by rw [beq_eq_false_iff_ne]; omega
  have hz3 : (yn1 == 0) = false := by rw [beq_eq_false_iff_ne]; omega
  have HY := Lib.hid hY
  have HaN := Lib.hid haN
  have HbN := Lib.hid hbN
  clear hY haN hbN
  go_enter Tryz.func150, Tryz.ntmps150
  go_wp2_with (go_at_call 160; refine (hlz _).mono ?_; rintro e w' ⟨rfl, rfl⟩)
  go_loop [15, 16] (fun a b => ∃ q r : Int, a = .int .u64 q ∧ b = .int .u64 r ∧ DigInv U yn1 Qt q r) (fun a _ => (intOf a).toNat)
  case atStart => exact ⟨_, _, rfl, rfl, by first | exact hast | (rw [eqa]; exact hast)⟩
  case round =>
    obtain ⟨qa, ra, rfl, rfl, hva⟩ := hrel
    have v0a := hva.r0
    have v1a := hva.r1
    have v2a := hva.q1
    have v3a := hva.le
    have v4a := hva.q0
    by_cases hgea : 4294967296 ≤ qa
    · have hlta : Qt < qa := by omega
      by_cases hba : 4294967296 ≤ ra + yn1
      · have hqfa := dig_break HY.out hY0 HaN.out haR1 hau0 hva yc yd hlta hba
        clear hva
        go_wp2
        go_loop [18, 16] (fun a b => ∃ q r : Int, a = .int .u64 q ∧ b = .int .u64 r ∧ DigInv R yn1 Qs q r) (fun a _ => (intOf a).toNat)
        case atStart => exact ⟨_, _, rfl, rfl, by first | exact hbst | (rw [eqb]; exact hbst)⟩
        case round =>
          obtain ⟨qb, rb, rfl, rfl, hvb⟩ := hrel
          have v0b := hvb.r0
          have v1b := hvb.r1
          have v2b := hvb.q1
          have v3b := hvb.le
          have v4b := hvb.q0
          by_cases hgeb : 4294967296 ≤ qb
          · have hltb : Qs < qb := by omega
            by_cases hbb : 4294967296 ≤ rb + yn1
            · have hqfb := dig_break HY.out hY0 HbN.out hbR1 hbu0 hvb yc yd hltb hbb
              clear hvb
              go_wp2
              go_ret2
              exact ⟨ret2 rfl rfl, 0, rfl⟩
            · have HVb := Lib.hid (dig_step hvb (by omega) hltb hbQ0 hbb)
              clear hvb
              go_wp2
              go_round
              case rel => exact ⟨_, _, rfl, rfl, HVb.out⟩
              case measure => simp [intOf]; omega
          · have hm0b : 0 ≤ qb * yn0 := Int.mul_nonneg (by omega) yc
            have hm1b := mul_le32 (q := qb) (by omega) yc yd
            have hDb : 4294967296 * rb + u0 < qb * yn0 → Qs < qb := dig_more HY.out hY0 HbN.out hbR0 hvb.eq
            have hEb : qb * yn0 ≤ 4294967296 * rb + u0 → qb = Qs := dig_exit HY.out hY0 HbN.out hbR1 hvb.eq v3b
            generalize emb : qb * yn0 = mmb at *
            by_cases hgtb : 4294967296 * rb + u0 < mmb
            · have hltb := hDb hgtb
              clear hDb hEb
              by_cases hbb : 4294967296 ≤ rb + yn1
              · have hqfb := dig_break HY.out hY0 HbN.out hbR1 hbu0 hvb yc yd hltb hbb
                clear hvb
                go_wp2
                go_ret2
                exact ⟨ret2 rfl rfl, 0, rfl⟩
              · have HVb := Lib.hid (dig_step hvb (by omega) hltb hbQ0 hbb)
                clear hvb
                go_wp2
                go_round
                case rel => exact ⟨_, _, rfl, rfl, HVb.out⟩
                case measure => simp [intOf]; omega
            · have hqfb := hEb (by omega)
              clear hDb hEb
              clear hvb
              subst hqfb
              go_wp2
              go_ret2
              exact ⟨ret2 rfl rfl, 0, rfl⟩
      · have HVa := Lib.hid (dig_step hva (by omega) hlta haQ0 hba)
        clear hva
        go_wp2
        go_round
        case rel => exact ⟨_, _, rfl, rfl, HVa.out⟩
        case measure => simp [intOf]; omega
    · have hm0a : 0 ≤ qa * yn0 := Int.mul_nonneg (by omega) yc
      have hm1a := mul_le32 (q := qa) (by omega) yc yd
      have hDa : 4294967296 * ra + u1 < qa * yn0 → Qt < qa := dig_more HY.out hY0 HaN.out haR0 hva.eq
      have hEa : qa * yn0 ≤ 4294967296 * ra + u1 → qa = Qt := dig_exit HY.out hY0 HaN.out haR1 hva.eq v3a
      generalize ema : qa * yn0 = mma at *
      by_cases hgta : 4294967296 * ra + u1 < mma
      · have hlta := hDa hgta
        clear hDa hEa
        by_cases hba : 4294967296 ≤ ra + yn1
        · have hqfa := dig_break HY.out hY0 HaN.out haR1 hau0 hva yc yd hlta hba
          clear hva
          go_wp2
          go_loop [18, 16] (fun a b => ∃ q r : Int, a = .int .u64 q ∧ b = .int .u64 r ∧ DigInv R yn1 Qs q r) (fun a _ => (intOf a).toNat)
          case atStart => exact ⟨_, _, rfl, rfl, by first | exact hbst | (rw [eqb]; exact hbst)⟩
          case round =>
            obtain ⟨qb, rb, rfl, rfl, hvb⟩ := hrel
            have v0b := hvb.r0
            have v1b := hvb.r1
            have v2b := hvb.q1
            have v3b := hvb.le
            have v4b := hvb.q0
            by_cases hgeb : 4294967296 ≤ qb
            · have hltb : Qs < qb := by omega
              by_cases hbb : 4294967296 ≤ rb + yn1
              · have hqfb := dig_break HY.out hY0 HbN.out hbR1 hbu0 hvb yc yd hltb hbb
                clear hvb
                go_wp2
                go_ret2
                exact ⟨ret2 rfl rfl, 0, rfl⟩
              · have HVb := Lib.hid (dig_step hvb (by omega) hltb hbQ0 hbb)
                clear hvb
                go_wp2
                go_round
                case rel => exact ⟨_, _, rfl, rfl, HVb.out⟩
                case measure => simp [intOf]; omega
            · have hm0b : 0 ≤ qb * yn0 := Int.mul_nonneg (by omega) yc
              have hm1b := mul_le32 (q := qb) (by omega) yc yd
              have hDb : 4294967296 * rb + u0 < qb * yn0 → Qs < qb := dig_more HY.out hY0 HbN.out hbR0 hvb.eq
              have hEb : qb * yn0 ≤ 4294967296 * rb + u0 → qb = Qs := dig_exit HY.out hY0 HbN.out hbR1 hvb.eq v3b
              generalize emb : qb * yn0 = mmb at *
              by_cases hgtb : 4294967296 * rb + u0 < mmb
              · have hltb := hDb hgtb
                clear hDb hEb
                by_cases hbb : 4294967296 ≤ rb + yn1
                · have hqfb := dig_break HY.out hY0 HbN.out hbR1 hbu0 hvb yc yd hltb hbb
                  clear hvb
                  go_wp2
                  go_ret2
                  exact ⟨ret2 rfl rfl, 0, rfl⟩
                · have HVb := Lib.hid (dig_step hvb (by omega) hltb hbQ0 hbb)
                  clear hvb
                  go_wp2
                  go_round
                  case rel => exact ⟨_, _, rfl, rfl, HVb.out⟩
                  case measure => simp [intOf]; omega
              · have hqfb := hEb (by omega)
                clear hDb hEb
                clear hvb
                subst hqfb
                go_wp2
                go_ret2
                exact ⟨ret2 rfl rfl, 0, rfl⟩
        · have HVa := Lib.hid (dig_step hva (by omega) hlta haQ0 hba)
          clear hva
          go_wp2
          go_round
          case rel => exact ⟨_, _, rfl, rfl, HVa.out⟩
          case measure => simp [intOf]; omega
      · have hqfa := hEa (by omega)
        clear hDa hEa
        clear hva
        subst hqfa
        go_wp2
        go_loop [18, 16] (fun a b => ∃ q r : Int, a = .int .u64 q ∧ b = .int .u64 r ∧ DigInv R yn1 Qs q r) (fun a _ => (intOf a).toNat)
        case atStart => exact ⟨_, _, rfl, rfl, by first | exact hbst | (rw [eqb]; exact hbst)⟩
        case round =>
          obtain ⟨qb, rb, rfl, rfl, hvb⟩ := hrel
          have v0b := hvb.r0
          have v1b := hvb.r1
          have v2b := hvb.q1
          have v3b := hvb.le
          have v4b := hvb.q0
          by_cases hgeb : 4294967296 ≤ qb
          · have hltb : Qs < qb := by omega
            by_cases hbb : 4294967296 ≤ rb + yn1
            · have hqfb := dig_break HY.out hY0 HbN.out hbR1 hbu0 hvb yc yd hltb hbb
              clear hvb
              go_wp2
              go_ret2
              exact ⟨ret2 rfl rfl, 0, rfl⟩
            · have HVb := Lib.hid (dig_step hvb (by omega) hltb hbQ0 hbb)
              clear hvb
              go_wp2
              go_round
              case rel => exact ⟨_, _, rfl, rfl, HVb.out⟩
              case measure => simp [intOf]; omega
          · have hm0b : 0 ≤ qb * yn0 := Int.mul_nonneg (by omega) yc
            have hm1b := mul_le32 (q := qb) (by omega) yc yd
            have hDb : 4294967296 * rb + u0 < qb * yn0 → Qs < qb := dig_more HY.out hY0 HbN.out hbR0 hvb.eq
            have hEb : qb * yn0 ≤ 4294967296 * rb + u0 → qb = Qs := dig_exit HY.out hY0 HbN.out hbR1 hvb.eq v3b
            generalize emb : qb * yn0 = mmb at *
            by_cases hgtb : 4294967296 * rb + u0 < mmb
            · have hltb := hDb hgtb
              clear hDb hEb
              by_cases hbb : 4294967296 ≤ rb + yn1
              · have hqfb := dig_break HY.out hY0 HbN.out hbR1 hbu0 hvb yc yd hltb hbb
                clear hvb
                go_wp2
                go_ret2
                exact ⟨ret2 rfl rfl, 0, rfl⟩
              · have HVb := Lib.hid (dig_step hvb (by omega) hltb hbQ0 hbb)
                clear hvb
                go_wp2
                go_round
                case rel => exact ⟨_, _, rfl, rfl, HVb.out⟩
                case measure => simp [intOf]; omega
            · have hqfb := hEb (by omega)
              clear hDb hEb
              clear hvb
              subst hqfb
              go_wp2
              go_ret2
              exact ⟨ret2 rfl rfl, 0, rfl⟩
end Go.Proofs.YtcgcnpcimfaecaaGreatDoor
namespace Go.Proofs.YtcgcnpcimfaecaaGreatDoor
open Go.Shelf Go.RowKit
set_option linter.unusedVariables false
theorem dig_init {U Y yn1 yn0 u Qt R : Int} (hY : Y = yn1 * 4294967296 + yn0) (ya : 2147483648 ≤ yn1) (yb : yn1 < 4294967296) (yc : 0 ≤ yn0) (yd : yn0 < 4294967296) (hU0 : 0 ≤ U) (hU1 : U < Y) (hu1 : u < 4294967296) (hN : Qt * Y + R = U * 4294967296 + u) (hR0 : 0 ≤ R) (hQ0 : 0 ≤ Qt) :
    DigInv U yn1 Qt (U / yn1) (U - U / yn1 * yn1) ∧ 0 ≤ U / yn1 * yn1 ∧ U / yn1 * yn1 ≤ U := by
  have h1 := Int.mul_ediv_add_emod U yn1
  have h2 := Int.emod_nonneg U (show yn1 ≠ 0 by omega)
  have h3 := Int.emod_lt_of_pos U (show 0 < yn1 by omega)
  have hq0 : 0 ≤ U / yn1 := Int.ediv_nonneg hU0 (by omega)
  have hp0 : 0 ≤ U / yn1 * yn1 := Int.mul_nonneg hq0 (by omega)
  rw [Int.mul_comm yn1] at h1
  have hq1 : U / yn1 < 4294967298 := by
    refine Int.lt_of_mul_lt_mul_right (a := yn1) ?_ (by omega)
    omega
  have hle : Qt ≤ U / yn1 := by
    rw [Int.le_ediv_iff_mul_le (by omega)]
    have e : Qt * Y = Qt * yn1 * 4294967296 + Qt * yn0 := by rw [hY, Int.mul_add, ← Int.mul_assoc]
    have : 0 ≤ Qt * yn0 := Int.mul_nonneg hQ0 yc
    omega
  exact ⟨⟨by omega, by omega, by omega, hq0, by omega, hle⟩, hp0, by omega⟩
theorem wrap_left {A B u R Y : Int} (h : B + R = A + u) (h0 : 0 ≤ R) (h1 : R < Y) (hY : Y < 18446744073709551616) : IntKind.u64.wrap (IntKind.u64.wrap (IntKind.u64.wrap A + u) - IntKind.u64.wrap B) = R := by
  simp only [wrapU]; omega
theorem and_low {x : Int} (h0 : 0 ≤ x) (h1 : x < 18446744073709551616) : bits BinOp.and IntKind.u64 x 4294967295 = x % 4294967296 := by
  obtain ⟨n, rfl⟩ := Int.eq_ofNat_of_zero_le h0
  have h := u64_and_nat n 4294967295 (by omega) (by omega)
  have e : n &&& 4294967295 = n % 4294967296 := Nat.and_two_pow_sub_one_eq_mod n 32
  rw [e] at h
  exact h
theorem or_parts {hi v : Int} {s : Nat} (h0 : 0 ≤ hi) (hv0 : 0 ≤ v) (hv1 : v < 2 ^ s) (h1 : hi * 2 ^ s < 18446744073709551616) (hv2 : v < 18446744073709551616) : bits BinOp.or IntKind.u64 (hi * 2 ^ s) v = hi * 2 ^ s + v := by
  obtain ⟨a, rfl⟩ := Int.eq_ofNat_of_zero_le h0
  obtain ⟨b, rfl⟩ := Int.eq_ofNat_of_zero_le hv0
  have e : ((a : Int) * 2 ^ s) = ((2 ^ s * a : Nat) : Int) := by rw [Nat.mul_comm]; push_cast; rfl
  rw [e] at h1 ⊢
  have hb : b < 2 ^ s := by exact_mod_cast hv1
  rw [u64_or_nat _ _ (by omega) (by omega), ← Nat.two_pow_add_eq_or_of_lt hb]
  push_cast; rfl
theorem lz_is (y : Int) (hy0 : 0 < y) (hy1 : y < 18446744073709551616) : ∃ s : Nat, s ≤ 63 ∧ LzIs y s ∧ 9223372036854775808 ≤ y * 2 ^ s ∧ y * 2 ^ s < 18446744073709551616 := by
  obtain ⟨n, rfl⟩ := Int.eq_ofNat_of_zero_le (Int.le_of_lt hy0)
  have hb := Lib.bitLenAux_bounds 64 n (by omega) (by omega)
  have hle : Lib.bitLen n ≤ 64 := Lib.bitLen_le n 64 (by omega) (by omega)
  change 1 ≤ Lib.bitLen n ∧ 2 ^ (Lib.bitLen n - 1) ≤ n ∧ n < 2 ^ Lib.bitLen n at hb
  obtain ⟨b1, b2, b3⟩ := hb
  generalize hbb : Lib.bitLen n = b at *
  have e1 : 2 ^ (b - 1) * 2 ^ (64 - b) = 9223372036854775808 := by rw [← Nat.pow_add, show b - 1 + (64 - b) = 63 by omega]
  have e2 : 2 ^ b * 2 ^ (64 - b) = 18446744073709551616 := by rw [← Nat.pow_add, show b + (64 - b) = 64 by omega]
  have c1 := Nat.mul_le_mul_right (2 ^ (64 - b)) b2
  have c2 := Nat.mul_lt_mul_of_pos_right b3 (Nat.pow_pos (n := 64 - b) (show 0 < 2 by decide))
  rw [e1] at c1
  rw [e2] at c2
  have e3 : ((n * 2 ^ (64 - b) : Nat) : Int) = (n : Int) * 2 ^ (64 - b) := by rw [Int.natCast_mul, Int.natCast_pow]; rfl
  refine ⟨64 - b, by omega, ?_, by rw [← e3]; exact Int.ofNat_le.2 c1, by rw [← e3]; exact Int.ofNat_lt.2 c2⟩
  intro w
  have c : Calls Tryz.prog 160 #[.int .u64 (n : Int)] w fun e w' => e = .returned (.int .i64 (64 - (Lib.bitLen (n : Int).toNat : Int))) ∧ w' = w := Any.bits_LeadingZeros64 Tryz.lays134 (n : Int) w (by omega) (by omega)
  rw [show (64 - (Lib.bitLen (n : Int).toNat : Int)) = (((64 - b : Nat) : Nat) : Int) by rw [Int.toNat_natCast, hbb]; omega] at c
  exact c
theorem div64_is (hi lo y : Int) (h0 : 0 < hi) (hhi : hi < y) (hlo : 0 ≤ lo) (h1 : lo < 18446744073709551616) (hy1 : y < 18446744073709551616) : DivIs hi lo y ((hi * 18446744073709551616 + lo) / y) ((hi * 18446744073709551616 + lo) % y) := by
  obtain ⟨s, hs, hlz, hYa, hYb⟩ := lz_is y (by omega) hy1
  intro w
  have hP0 : (0 : Int) < 2 ^ s := Int.pow_pos (by decide)
  have hT0 : (0 : Int) < 2 ^ (64 - s) := Int.pow_pos (by decide)
  have hPT : (2 : Int) ^ s * 2 ^ (64 - s) = 18446744073709551616 := by rw [← Int.pow_add, show s + (64 - s) = 64 by omega]; rfl
  -- the upper word
  have hv0 : 0 ≤ lo / 2 ^ (64 - s) := Int.ediv_nonneg hlo (by omega)
  have hv1 : lo / 2 ^ (64 - s) < 2 ^ s := by rw [Int.ediv_lt_iff_lt_mul hT0, hPT]; exact h1
  have hvle : lo / 2 ^ (64 - s) ≤ lo := Int.ediv_le_self _ hlo
  have hhiP : (hi + 1) * 2 ^ s ≤ y * 2 ^ s := Int.mul_le_mul_of_nonneg_right (by omega) (by omega)
  rw [Int.add_mul, Int.one_mul] at hhiP
  have hhP0 : 0 ≤ hi * 2 ^ s := Int.mul_nonneg (by omega) (by omega)
  have eU : bits BinOp.or IntKind.u64 (IntKind.u64.wrap (hi * 2 ^ s)) (lo / 2 ^ (64 - s)) = hi * 2 ^ s + lo / 2 ^ (64 - s) := by
    have : IntKind.u64.wrap (hi * 2 ^ s) = hi * 2 ^ s := by rw [wrapU]; omega
    rw [this]; exact or_parts (by omega) hv0 hv1 (by omega) (by omega)
  -- the lower word
  have hlow : lo * 2 ^ s / 18446744073709551616 = lo / 2 ^ (64 - s) := by
    rw [← hPT, Int.mul_comm lo]; exact Int.mul_ediv_mul_of_pos _ _ hP0
  have eL : IntKind.u64.wrap (lo * 2 ^ s) = lo * 2 ^ s % 18446744073709551616 := wrapU _
  have hLd := Int.mul_ediv_add_emod (lo * 2 ^ s) 18446744073709551616
  rw [hlow] at hLd
  have hL0 := Int.emod_nonneg (lo * 2 ^ s) (show (18446744073709551616 : Int) ≠ 0 by decide)
  have hL1 := Int.emod_lt_of_pos (lo * 2 ^ s) (show (0 : Int) < 18446744073709551616 by decide)
  have eY : IntKind.u64.wrap (y * 2 ^ s) = y * 2 ^ s := by rw [wrapU]; omega
  generalize hP : (2 : Int) ^ s = P at *
  generalize hT : (2 : Int) ^ (64 - s) = T at *
  generalize hYY : y * P = Y at *
  generalize hVV : lo / T = v at *
  generalize hLL : lo * P % 18446744073709551616 = L at *
  generalize hHH : hi * P = H at *
  -- the two digits
  have hY0 : 0 < Y := by omega
  have hN1 := Int.mul_ediv_add_emod ((H + v) * 4294967296 + L / 4294967296) Y
  have hR0 := Int.emod_nonneg ((H + v) * 4294967296 + L / 4294967296) (show Y ≠ 0 by omega)
  have hR1 := Int.emod_lt_of_pos ((H + v) * 4294967296 + L / 4294967296) hY0
  have hQ0 : 0 ≤ ((H + v) * 4294967296 + L / 4294967296) / Y := Int.ediv_nonneg (by omega) (by omega)
  generalize ((H + v) * 4294967296 + L / 4294967296) / Y = Qt at *
  generalize ((H + v) * 4294967296 + L / 4294967296) % Y = R at *
  have hN2 := Int.mul_ediv_add_emod (R * 4294967296 + L % 4294967296) Y
  have hS0 := Int.emod_nonneg (R * 4294967296 + L % 4294967296) (show Y ≠ 0 by omega)
  have hS1 := Int.emod_lt_of_pos (R * 4294967296 + L % 4294967296) hY0
  have hQs0 : 0 ≤ (R * 4294967296 + L % 4294967296) / Y := Int.ediv_nonneg (by omega) (by omega)
  generalize (R * 4294967296 + L % 4294967296) / Y = Qs at *
  generalize (R * 4294967296 + L % 4294967296) % Y = S at *
  rw [Int.mul_comm Y] at hN1 hN2
  have hYd : Y = Y / 4294967296 * 4294967296 + Y % 4294967296 := by omega
  have i1 := dig_init (u := L / 4294967296) hYd (by omega) (by omega) (by omega) (by omega) (show 0 ≤ H + v by omega) (by omega) (by omega) hN1 hR0 hQ0
  have i2 := dig_init (u := L % 4294967296) hYd (by omega) (by omega) (by omega) (by omega) hR0 hR1 (by omega) hN2 hS0 hQs0
  have hQt1 := dig_lt hY0 hN1 hR0 (by omega) (by omega)
  have hQs1 := dig_lt hY0 hN2 hS0 hR1 (by omega)
  have wk := div64_walk hi lo y Y (Y / 4294967296) (Y % 4294967296) (H + v) L (L / 4294967296) (L % 4294967296) _ _ Qt R _ _ Qs S s w h0 hhi hlo h1 hy1 hs hlz
    (by rw [hP, hYY]; exact eY) rfl (and_low (by omega) (by omega)) (by rw [hP, hT, hHH, hVV]; exact eU) (by rw [hP]; exact eL) rfl (and_low hL0 hL1)
    hYd (by omega) (by omega) (by omega) (by omega) (by omega) (by omega) (by omega) (by omega) (by omega) (by omega) (by omega)
    rfl rfl i1.2.1 i1.2.2 hN1 hR0 hR1 hQ0 hQt1 i1.1 (wrap_left hN1 hR0 hR1 (by omega))
    rfl rfl i2.2.1 i2.2.2 hN2 hS0 hS1 hQs0 hQs1 i2.1 (wrap_left hN2 hS0 hS1 (by omega))
  rw [hP] at wk
  -- as whole numbers
  have hy0 : 0 < y := by omega
  have key : (hi * 18446744073709551616 + lo) * P = (Qt * 4294967296 + Qs) * Y + S := by
    rw [Int.add_mul, Int.add_mul, Int.mul_right_comm Qt, Int.mul_right_comm hi, hHH]
    omega
  have hS : S = (hi * 18446744073709551616 + lo - y * (Qt * 4294967296 + Qs)) * P := by
    rw [Int.sub_mul, key, Int.mul_right_comm y, hYY, Int.mul_comm Y]; omega
  have hdiv : S / P = hi * 18446744073709551616 + lo - y * (Qt * 4294967296 + Qs) := by
    rw [hS]; exact Int.mul_ediv_cancel _ (by omega)
  have hr0 : 0 ≤ hi * 18446744073709551616 + lo - y * (Qt * 4294967296 + Qs) := by rw [← hdiv]; exact Int.ediv_nonneg hS0 (by omega)
  have hr1 : hi * 18446744073709551616 + lo - y * (Qt * 4294967296 + Qs) < y := by
    refine Int.lt_of_mul_lt_mul_right (a := P) ?_ (by omega)
    rw [← hS, hYY]; exact hS1
  have hu := (Int.ediv_emod_unique (a := hi * 18446744073709551616 + lo) (r := hi * 18446744073709551616 + lo - y * (Qt * 4294967296 + Qs)) (q := Qt * 4294967296 + Qs) hy0).2 ⟨by omega, hr0, hr1⟩
  rw [hu.1, hu.2, ← hdiv]
  exact wk
end Go.Proofs.YtcgcnpcimfaecaaGreatDoor
