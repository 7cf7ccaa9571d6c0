/- The contract of math/bits.Div64 for every upper word below the divisor: the quotient of the two words and what is left. Nothing is written (an order is drawn where the upper word is 0). -/
import Derived.Test.YtfpbcokfianjaaaQuot
namespace Go.Proofs.Ytfpbcokfianjaaa
open Go.Shelf Go.RowKit
set_option linter.unusedVariables false
/-- What LeadingZeros64 answers. -/
def LzIs (y : Int) (s : Nat) : Prop := ∀ w, Calls Try.prog 92 #[.int .u64 y] w fun e w' => e = .returned (.int .i64 s) ∧ w' = w
/-- What a digit's search holds: q times the divisor's upper half and r are U; q is not below the digit. -/
structure DigInv (U yn1 Qt q r : Int) : Prop where
  eq : q * yn1 + r = U
  r0 : 0 ≤ r
  r1 : r < 4294967296
  q0 : 0 ≤ q
  q1 : q ≤ 4294967297
  le : Qt ≤ q
theorem dig_exit {U Y yn1 yn0 u Qt R q r : Int} (hY : Y = yn1 * 4294967296 + yn0) (hY0 : 0 < Y) (hN : Qt * Y + R = U * 4294967296 + u) (hR : R < Y) (eq : q * yn1 + r = U) (hle : Qt ≤ q) (h : q * yn0 ≤ 4294967296 * r + u) : q = Qt := by
  have h1 : q * Y ≤ Qt * Y + R := by
    rw [hN, hY, Int.mul_add, ← Int.mul_assoc]
    have : q * yn1 = U - r := by omega
    rw [this]; omega
  have h2 : q < Qt + 1 := by
    refine Int.lt_of_mul_lt_mul_right (a := Y) ?_ (by omega)
    rw [Int.add_mul, Int.one_mul]; omega
  omega
theorem dig_more {U Y yn1 yn0 u Qt R q r : Int} (hY : Y = yn1 * 4294967296 + yn0) (hY0 : 0 < Y) (hN : Qt * Y + R = U * 4294967296 + u) (hR : 0 ≤ R) (eq : q * yn1 + r = U) (h : 4294967296 * r + u < q * yn0) : Qt < q := by
  refine Int.lt_of_mul_lt_mul_right (a := Y) ?_ (by omega)
  have : q * Y = (U - r) * 4294967296 + q * yn0 := by
    rw [hY, Int.mul_add, ← Int.mul_assoc]
    have : q * yn1 = U - r := by omega
    rw [this]
  rw [this]; omega
theorem dig_lt {U Y u Qt R : Int} (hY0 : 0 < Y) (hN : Qt * Y + R = U * 4294967296 + u) (hR : 0 ≤ R) (hU : U < Y) (hu : u < 4294967296) : Qt < 4294967296 := by
  refine Int.lt_of_mul_lt_mul_right (a := Y) ?_ (by omega)
  omega
theorem mul_le32 {q a : Int} (hq : q ≤ 4294967296) (ha0 : 0 ≤ a) (ha : a < 4294967296) : q * a ≤ 4294967296 * 4294967295 := by
  have h1 : q * a ≤ 4294967296 * a := Int.mul_le_mul_of_nonneg_right hq ha0
  omega
/-- The search ends by its second test: q less one is the digit. -/
theorem dig_break {U Y yn1 yn0 u Qt R q r : Int} (hY : Y = yn1 * 4294967296 + yn0) (hY0 : 0 < Y) (hN : Qt * Y + R = U * 4294967296 + u) (hR : R < Y) (hu : 0 ≤ u) (hv : DigInv U yn1 Qt q r) (h0 : 0 ≤ yn0) (h1 : yn0 < 4294967296) (hlt : Qt < q) (hb : 4294967296 ≤ r + yn1) : q - 1 = Qt := by
  have hv1 := hv.q1
  have := mul_le32 (q := q - 1) (by omega) h0 h1
  refine dig_exit (yn1 := yn1) (r := r + yn1) hY hY0 hN hR ?_ (by omega) (by omega)
  have := hv.eq
  rw [Int.sub_mul, Int.one_mul]; omega
theorem dig_step {U yn1 Qt q r : Int} (hv : DigInv U yn1 Qt q r) (hy : 0 ≤ yn1) (hlt : Qt < q) (hQ : 0 ≤ Qt) (hb : ¬ 4294967296 ≤ r + yn1) : DigInv U yn1 Qt (q - 1) (r + yn1) := by
  have h1 := hv.eq; have h2 := hv.r0; have h3 := hv.q1
  exact ⟨by rw [Int.sub_mul, Int.one_mul]; omega, by omega, by omega, by omega, by omega, by omega⟩
set_option maxHeartbeats 1000000 in
set_option maxRecDepth 100000 in
theorem div64_walk (hi lo y Y yn1 yn0 U L u1 u0 qa m Qt R qb mb Qs S : Int) (s : Nat) (w : World) (h0 : 0 < hi) (hhi : hi < y) (hlo : 0 ≤ lo) (h1 : lo < 18446744073709551616) (hy1 : y < 18446744073709551616) (hs : s ≤ 63) (hlz : LzIs y s)
   (eY : IntKind.u64.wrap (y * 2 ^ s) = Y) (eY1 : Y / 4294967296 = yn1) (eY0 : bits BinOp.and IntKind.u64 Y 4294967295 = yn0) (eU : bits BinOp.or IntKind.u64 (IntKind.u64.wrap (hi * 2 ^ s)) (lo / 2 ^ (64 - s)) = U) (eL : IntKind.u64.wrap (lo * 2 ^ s) = L) (eu1 : L / 4294967296 = u1) (eu0 : bits BinOp.and IntKind.u64 L 4294967295 = u0)
   (hY : Y = yn1 * 4294967296 + yn0) (ya : 2147483648 ≤ yn1) (yb : yn1 < 4294967296) (yc : 0 ≤ yn0) (yd : yn0 < 4294967296) (hU0 : 0 ≤ U) (hU1 : U < Y) (hY1 : Y < 18446744073709551616) (hau0 : 0 ≤ u1) (hu11 : u1 < 4294967296) (hbu0 : 0 ≤ u0) (hu01 : u0 < 4294967296)
   (eqa : U / yn1 = qa) (em : qa * yn1 = m) (hm0 : 0 ≤ m) (hm1 : m ≤ U) (haN : Qt * Y + R = U * 4294967296 + u1) (haR0 : 0 ≤ R) (haR1 : R < Y) (haQ0 : 0 ≤ Qt) (hQ1 : Qt < 4294967296) (hast : DigInv U yn1 Qt qa (U - m))
   (eR : IntKind.u64.wrap (IntKind.u64.wrap (IntKind.u64.wrap (U * 4294967296) + u1) - IntKind.u64.wrap (Qt * Y)) = R)
   (eqb : R / yn1 = qb) (emb : qb * yn1 = mb) (hmb0 : 0 ≤ mb) (hmb1 : mb ≤ R) (hbN : Qs * Y + S = R * 4294967296 + u0) (hbR0 : 0 ≤ S) (hbR1 : S < Y) (hbQ0 : 0 ≤ Qs) (hQs1 : Qs < 4294967296) (hbst : DigInv R yn1 Qs qb (R - mb))
   (eS : IntKind.u64.wrap (IntKind.u64.wrap (IntKind.u64.wrap (R * 4294967296) + u0) - IntKind.u64.wrap (Qs * Y)) = S) :
    Calls Try.prog 86 #[.int .u64 hi, .int .u64 lo, .int .u64 y] w fun e w' => e = .returned (.tuple #[.int .u64 (Qt * 4294967296 + Qs), .int .u64 (S / 2 ^ s)]) ∧ ∃ n, w' = w.drewN n := by
  have hY0 : 0 < Y := by omega
  have hz : (y == 0) = false := by rw [beq_eq_false_iff_ne]; omega
  have hz2 : (hi == 0) = false := by rw [beq_eq_false_iff_ne]; omega
  have hz3 : (yn1 == 0) = false := by rw [beq_eq_false_iff_ne]; omega
  have HY := Lib.hid hY
  have HaN := Lib.hid haN
  have HbN := Lib.hid hbN
  clear hY haN hbN
  go_enter Try.func86, Try.ntmps86
  go_wp2_with (go_at_call 92; refine (hlz _).mono ?_; rintro e w' ⟨rfl, rfl⟩)
  go_loop [15, 16] (fun a b => ∃ q r : Int, a = .int .u64 q ∧ b = .int .u64 r ∧ DigInv U yn1 Qt q r) (fun a _ => (intOf a).toNat)
  case atStart => exact ⟨_, _, rfl, rfl, by first | exact hast | (rw [eqa]; exact hast)⟩
  case round =>
    obtain ⟨qa, ra, rfl, rfl, hva⟩ := hrel
    have v0a := hva.r0
    have v1a := hva.r1
    have v2a := hva.q1
    have v3a := hva.le
    have v4a := hva.q0
    by_cases hgea : 4294967296 ≤ qa
    · have hlta : Qt < qa := by omega
      by_cases hba : 4294967296 ≤ ra + yn1
      · have hqfa := dig_break HY.out hY0 HaN.out haR1 hau0 hva yc yd hlta hba
        clear hva
        go_wp2
        go_loop [18, 16] (fun a b => ∃ q r : Int, a = .int .u64 q ∧ b = .int .u64 r ∧ DigInv R yn1 Qs q r) (fun a _ => (intOf a).toNat)
        case atStart => exact ⟨_, _, rfl, rfl, by first | exact hbst | (rw [eqb]; exact hbst)⟩
        case round =>
          obtain ⟨qb, rb, rfl, rfl, hvb⟩ := hrel
          have v0b := hvb.r0
          have v1b := hvb.r1
          have v2b := hvb.q1
          have v3b := hvb.le
          have v4b := hvb.q0
          by_cases hgeb : 4294967296 ≤ qb
          · have hltb : Qs < qb := by omega
            by_cases hbb : 4294967296 ≤ rb + yn1
            · have hqfb := dig_break HY.out hY0 HbN.out hbR1 hbu0 hvb yc yd hltb hbb
              clear hvb
              go_wp2
              go_ret2
              exact ⟨ret2 rfl rfl, 0, rfl⟩
            · have HVb := Lib.hid (dig_step hvb (by omega) hltb hbQ0 hbb)
              clear hvb
              go_wp2
              go_round
              case rel => exact ⟨_, _, rfl, rfl, HVb.out⟩
              case measure => simp [intOf]; omega
          · have hm0b : 0 ≤ qb * yn0 := Int.mul_nonneg (by omega) yc
            have hm1b := mul_le32 (q := qb) (by omega) yc yd
            have hDb : 4294967296 * rb + u0 < qb * yn0 → Qs < qb := dig_more HY.out hY0 HbN.out hbR0 hvb.eq
            have hEb : qb * yn0 ≤ 4294967296 * rb + u0 → qb = Qs := dig_exit HY.out hY0 HbN.out hbR1 hvb.eq v3b
            generalize emb : qb * yn0 = mmb at *
            by_cases hgtb : 4294967296 * rb + u0 < mmb
            · have hltb := hDb hgtb
              clear hDb hEb
              by_cases hbb : 4294967296 ≤ rb + yn1
              · have hqfb := dig_break HY.out hY0 HbN.out hbR1 hbu0 hvb yc yd hltb hbb
                clear hvb
                go_wp2
                go_ret2
                exact ⟨ret2 rfl rfl, 0, rfl⟩
              · have HVb := Lib.hid (dig_step hvb (by omega) hltb hbQ0 hbb)
                clear hvb
                go_wp2
                go_round
                case rel => exact ⟨_, _, rfl, rfl, HVb.out⟩
                case measure => simp [intOf]; omega
            · have hqfb := hEb (by omega)
              clear hDb hEb
              clear hvb
              subst hqfb
              go_wp2
              go_ret2
              exact ⟨ret2 rfl rfl, 0, rfl⟩
      · have HVa := Lib.hid (dig_step hva (by omega) hlta haQ0 hba)
        clear hva
        go_wp2
        go_round
        case rel => exact ⟨_, _, rfl, rfl, HVa.out⟩
        case measure => simp [intOf]; omega
    · have hm0a : 0 ≤ qa * yn0 := Int.mul_nonneg (by omega) yc
      have hm1a := mul_le32 (q := qa) (by omega) yc yd
      have hDa : 4294967296 * ra + u1 < qa * yn0 → Qt < qa := dig_more HY.out hY0 HaN.out haR0 hva.eq
      have hEa : qa * yn0 ≤ 4294967296 * ra + u1 → qa = Qt := dig_exit HY.out hY0 HaN.out haR1 hva.eq v3a
      generalize ema : qa * yn0 = mma at *
      by_cases hgta : 4294967296 * ra + u1 < mma
      · have hlta := hDa hgta
        clear hDa hEa
        by_cases hba : 4294967296 ≤ ra + yn1
        · have hqfa := dig_break HY.out hY0 HaN.out haR1 hau0 hva yc yd hlta hba
          clear hva
          go_wp2
          go_loop [18, 16] (fun a b => ∃ q r : Int, a = .int .u64 q ∧ b = .int .u64 r ∧ DigInv R yn1 Qs q r) (fun a _ => (intOf a).toNat)
          case atStart => exact ⟨_, _, rfl, rfl, by first | exact hbst | (rw [eqb]; exact hbst)⟩
          case round =>
            obtain ⟨qb, rb, rfl, rfl, hvb⟩ := hrel
            have v0b := hvb.r0
            have v1b := hvb.r1
            have v2b := hvb.q1
            have v3b := hvb.le
            have v4b := hvb.q0
            by_cases hgeb : 4294967296 ≤ qb
            · have hltb : Qs < qb := by omega
              by_cases hbb : 4294967296 ≤ rb + yn1
              · have hqfb := dig_break HY.out hY0 HbN.out hbR1 hbu0 hvb yc yd hltb hbb
                clear hvb
                go_wp2
                go_ret2
                exact ⟨ret2 rfl rfl, 0, rfl⟩
              · have HVb := Lib.hid (dig_step hvb (by omega) hltb hbQ0 hbb)
                clear hvb
                go_wp2
                go_round
                case rel => exact ⟨_, _, rfl, rfl, HVb.out⟩
                case measure => simp [intOf]; omega
            · have hm0b : 0 ≤ qb * yn0 := Int.mul_nonneg (by omega) yc
              have hm1b := mul_le32 (q := qb) (by omega) yc yd
              have hDb : 4294967296 * rb + u0 < qb * yn0 → Qs < qb := dig_more HY.out hY0 HbN.out hbR0 hvb.eq
              have hEb : qb * yn0 ≤ 4294967296 * rb + u0 → qb = Qs := dig_exit HY.out hY0 HbN.out hbR1 hvb.eq v3b
              generalize emb : qb * yn0 = mmb at *
              by_cases hgtb : 4294967296 * rb + u0 < mmb
              · have hltb := hDb hgtb
                clear hDb hEb
                by_cases hbb : 4294967296 ≤ rb + yn1
                · have hqfb := dig_break HY.out hY0 HbN.out hbR1 hbu0 hvb yc yd hltb hbb
                  clear hvb
                  go_wp2
                  go_ret2
                  exact ⟨ret2 rfl rfl, 0, rfl⟩
                · have HVb := Lib.hid (dig_step hvb (by omega) hltb hbQ0 hbb)
                  clear hvb
                  go_wp2
                  go_round
                  case rel => exact ⟨_, _, rfl, rfl, HVb.out⟩
                  case measure => simp [intOf]; omega
              · have hqfb := hEb (by omega)
                clear hDb hEb
                clear hvb
                subst hqfb
                go_wp2
                go_ret2
                exact ⟨ret2 rfl rfl, 0, rfl⟩
        · have HVa := Lib.hid (dig_step hva (by omega) hlta haQ0 hba)
          clear hva
          go_wp2
          go_round
          case rel => exact ⟨_, _, rfl, rfl, HVa.out⟩
          case measure => simp [intOf]; omega
      · have hqfa := hEa (by omega)
        clear hDa hEa
        clear hva
        subst hqfa
        go_wp2
        go_loop [18, 16] (fun a b => ∃ q r : Int, a = .int .u64 q ∧ b = .int .u64 r ∧ DigInv R yn1 Qs q r) (fun a _ => (intOf a).toNat)
        case atStart => exact ⟨_, _, rfl, rfl, by first | exact hbst | (rw [eqb]; exact hbst)⟩
        case round =>
          obtain ⟨qb, rb, rfl, rfl, hvb⟩ := hrel
          have v0b := hvb.r0
          have v1b := hvb.r1
          have v2b := hvb.q1
          have v3b := hvb.le
          have v4b := hvb.q0
          by_cases hgeb : 4294967296 ≤ qb
          · have hltb : Qs < qb := by omega
            by_cases hbb : 4294967296 ≤ rb + yn1
            · have hqfb := dig_break HY.out hY0 HbN.out hbR1 hbu0 hvb yc yd hltb hbb
              clear hvb
              go_wp2
              go_ret2
              exact ⟨ret2 rfl rfl, 0, rfl⟩
            · have HVb := Lib.hid (dig_step hvb (by omega) hltb hbQ0 hbb)
              clear hvb
              go_wp2
              go_round
              case rel => exact ⟨_, _, rfl, rfl, HVb.out⟩
              case measure => simp [intOf]; omega
          · have hm0b : 0 ≤ qb * yn0 := Int.mul_nonneg (by omega) yc
            have hm1b := mul_le32 (q := qb) (by omega) yc yd
            have hDb : 4294967296 * rb + u0 < qb * yn0 → Qs < qb := dig_more HY.out hY0 HbN.out hbR0 hvb.eq
            have hEb : qb * yn0 ≤ 4294967296 * rb + u0 → qb = Qs := dig_exit HY.out hY0 HbN.out hbR1 hvb.eq v3b
            generalize emb : qb * yn0 = mmb at *
            by_cases hgtb : 4294967296 * rb + u0 < mmb
            · have hltb := hDb hgtb
              clear hDb hEb
              by_cases hbb : 4294967296 ≤ rb + yn1
              · have hqfb := dig_break HY.out hY0 HbN.out hbR1 hbu0 hvb yc yd hltb hbb
                clear hvb
                go_wp2
                go_ret2
                exact ⟨ret2 rfl rfl, 0, rfl⟩
              · have HVb := Lib.hid (dig_step hvb (by omega) hltb hbQ0 hbb)
                clear hvb
                go_wp2
                go_round
                case rel => exact ⟨_, _, rfl, rfl, HVb.out⟩
                case measure => simp [intOf]; omega
            · have hqfb := hEb (by omega)
              clear hDb hEb
              clear hvb
              subst hqfb
              go_wp2
              go_ret2
              exact ⟨ret2 rfl rfl, 0, rfl⟩
end Go.Proofs.Ytfpbcokfianjaaa
