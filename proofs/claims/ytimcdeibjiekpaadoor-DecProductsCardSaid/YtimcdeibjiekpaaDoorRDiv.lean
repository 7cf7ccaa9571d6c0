/- The contract of the document's Div, of any two int64, in the words of dec.Div's. Nothing is written. -/
import Derived.Test.YtimcdeibjiekpaaDoorRRound
import Derived.Test.YtimcdeibjiekpaaDoorMul
namespace Go.Proofs.YtimcdeibjiekpaaDoor
open Go.Shelf Go.RowKit
set_option linter.unusedVariables false
/-- So many digits of m by n are found: q, and r is left. -/
structure DivInv (m n : Int) (j : Nat) (q r : Int) : Prop where
  eq : (p10 j : Int) * m = q * n + r
  r0 : 0 ≤ r
  r1 : r < n
  q0 : 0 ≤ q
/-- A digit's sum: k times r is c times n and t. -/
structure SumInv (n r : Int) (k c : Nat) (t : Int) : Prop where
  eq : (k : Int) * r = (c : Int) * n + t
  t0 : 0 ≤ t
  t1 : t < n
theorem SumInv.up {n r : Int} {k c : Nat} {t : Int} (h : SumInv n r k c t) (hr0 : 0 ≤ r) (hr1 : r < n) (hge : n ≤ t + r) : SumInv n r (k + 1) (c + 1) (t + r - n) := by
  have h1 := h.eq; have h2 := h.t0; have h3 := h.t1
  refine ⟨?_, by omega, by omega⟩
  have e1 : ((k + 1 : Nat) : Int) * r = (k : Int) * r + r := by rw [Int.natCast_add, Int.add_mul]; simp
  have e2 : ((c + 1 : Nat) : Int) * n = (c : Int) * n + n := by rw [Int.natCast_add, Int.add_mul]; simp
  rw [e1, e2]; omega
theorem SumInv.stay {n r : Int} {k c : Nat} {t : Int} (h : SumInv n r k c t) (hr0 : 0 ≤ r) (hlt : t + r < n) : SumInv n r (k + 1) c (t + r) := by
  have h1 := h.eq; have h2 := h.t0
  refine ⟨?_, by omega, by omega⟩
  have e1 : ((k + 1 : Nat) : Int) * r = (k : Int) * r + r := by rw [Int.natCast_add, Int.add_mul]; simp
  rw [e1]; omega
theorem DivInv.next {m n : Int} {j c : Nat} {q r t : Int} (h : DivInv m n j q r) (hs : SumInv n r 10 c t) : DivInv m n (j + 1) (10 * q + c) t := by
  have h1 := h.eq; have h2 := hs.eq; have h3 := hs.t0; have h4 := hs.t1; have h5 := h.q0
  refine ⟨?_, h3, h4, by omega⟩
  have e : ((p10 (j + 1) : Nat) : Int) * m = 10 * ((p10 j : Int) * m) := by rw [p10_succ, Int.natCast_mul, Int.mul_assoc]; rfl
  rw [e, h1, Int.add_mul, Int.mul_assoc]
  have h2' : (10 : Int) * r = (c : Int) * n + t := h2
  omega
theorem DivInv.done {m n q r : Int} (h : DivInv m n 4 q r) (hn : 0 < n) : m * 10000 / n = q ∧ m * 10000 % n = r := by
  refine (Int.ediv_emod_unique hn).2 ⟨?_, h.r0, h.r1⟩
  have h1 : (10000 : Int) * m = q * n + r := h.eq
  rw [Int.mul_comm n q]; omega
theorem DivInv.few {m n q r : Int} {j : Nat} (h : DivInv m n j q r) (hn : 0 < n) (hj : j < 4) (hm : 0 ≤ m) : 10 * q ≤ m * 10000 / n := by
  rw [Int.le_ediv_iff_mul_le hn]
  have h1 := h.eq; have h2 := h.r0; have h3 := h.q0
  have hp : (10 : Int) * (p10 j : Int) ≤ 10000 := by
    have := p10_le (j := j) (k := 3) (by omega)
    have e : p10 3 = 1000 := rfl
    omega
  have h4 : (10 : Int) * (p10 j : Int) * m ≤ 10000 * m := Int.mul_le_mul_of_nonneg_right hp hm
  rw [Int.mul_assoc, h1] at h4
  rw [Int.mul_assoc]; omega
set_option maxRecDepth 10000 in
theorem rdiv_big (a b Q M : Int) (w : World) (ha1 : -9223372036854775807 ≤ a) (ha2 : a ≤ 9223372036854775807) (hb1 : -9223372036854775807 ≤ b) (hb2 : b ≤ 9223372036854775807) (sa0 : 0 ≤ sizeV a) (sa1 : sizeV a ≤ 9223372036854775807) (sb0 : 0 < sizeV b) (sb1 : sizeV b ≤ 9223372036854775807) (hbz : b ≠ 0) (hQ : sizeV a * 10000 / sizeV b = Q) (hM : sizeV a * 10000 % sizeV b = M) (hB : 9223372036854775807 < Q ∨ (sizeV b - M ≤ M ∧ 9223372036854775807 < Q + 1)) : Calls Tryd.prog 22 #[.int .i64 a, .int .i64 b] w fun e w' => e = .returned (.tuple #[.int .i64 0, .int .i64 2]) ∧ w' = w := by
  have hz : (b == 0) = false := by rw [beq_eq_false_iff_ne]; exact hbz
  have hz2 : (sizeV b == 0) = false := by rw [beq_eq_false_iff_ne]; omega
  have HQ := Lib.hid hQ
  have HM := Lib.hid hM
  have hd0 : 0 ≤ sizeV a / sizeV b := Int.ediv_nonneg sa0 (by omega)
  have hd1 : sizeV a / sizeV b ≤ sizeV a := Int.ediv_le_self _ sa0
  have hr0 := Int.emod_nonneg (sizeV a) (show sizeV b ≠ 0 by omega)
  have hr1 := Int.emod_lt_of_pos (sizeV a) sb0
  have HS : DivInv (sizeV a) (sizeV b) 0 (sizeV a / sizeV b) (sizeV a % sizeV b) := ⟨by rw [p10_zero, Int.mul_comm (sizeV a / sizeV b)]; have := Int.mul_ediv_add_emod (sizeV a) (sizeV b); omega, hr0, hr1, hd0⟩
  clear hQ hM
  go_enter Tryd.func22, Tryd.ntmps22
  go_wp2_with (first | (go_at_call 17; refine (rmay_t _ _ (by omega)).mono ?_; rintro e w' ⟨rfl, rfl⟩) | (go_at_call 41; refine (rsize_any _ _ (by omega) (by omega)).mono ?_; rintro e w' ⟨rfl, rfl⟩))
  go_loop [10, 11, 12] (fun x y z => ∃ (j : Nat) (q r : Int), j ≤ 4 ∧ z = .int .i64 j ∧ x = .int .u64 q ∧ y = .int .u64 r ∧ q ≤ 9223372036854775810 ∧ DivInv (sizeV a) (sizeV b) j q r) (fun _ _ z => 4 - (intOf z).toNat)
  case atStart => exact ⟨0, _, _, by omega, rfl, rfl, rfl, by omega, HS⟩
  case round =>
    obtain ⟨j, q, r, hj, rfl, rfl, rfl, hq9, hv⟩ := hrel
    have r0 := hv.r0
    have r1 := hv.r1
    have q0 := hv.q0
    by_cases hlt : j < 4
    · have hlt' : (j : Int) < 4 := by omega
      by_cases hex : 922337203685477580 < q
      · clear hv HS
        go_wp2
        go_ret2
        exact ⟨rfl, rfl⟩
      · clear HS
        go_wp2
        go_loop [10, 13, 14] (fun a t x => ∃ (k c : Nat) (tt : Int), k ≤ 10 ∧ c ≤ k ∧ x = .int .i64 k ∧ t = .int .u64 tt ∧ a = .int .u64 (10 * q + (c : Int)) ∧ SumInv (sizeV b) r k c tt) (fun _ _ x => 10 - (intOf x).toNat)
        case atStart => exact ⟨0, 0, 0, by omega, by omega, rfl, rfl, by go_num, ⟨by omega, by omega, by omega⟩⟩
        case round =>
          obtain ⟨k, c, tt, hk, hc, rfl, rfl, rfl, hsv⟩ := hrel
          have t0 := hsv.t0
          have t1 := hsv.t1
          by_cases hlt : k < 10
          · have hlt' : (k : Int) < 10 := by omega
            by_cases hge : sizeV b ≤ tt + r
            · have HV := Lib.hid (hsv.up r0 r1 hge)
              clear hsv hv
              go_wp2
              go_round
              case rel => exact ⟨k + 1, c + 1, _, by omega, by omega, by go_num, rfl, by go_num, HV.out⟩
              case measure => simp [intOf]; omega
            · have HV := Lib.hid (hsv.stay r0 (by omega))
              clear hsv hv
              go_wp2
              go_round
              case rel => exact ⟨k + 1, c, _, by omega, by omega, by go_num, rfl, rfl, HV.out⟩
              case measure => simp [intOf]; omega
          · obtain rfl : k = 10 := by omega
            have HV := Lib.hid (hv.next hsv)
            clear hsv hv
            go_wp2
            go_round
            case rel => exact ⟨j + 1, _, _, by omega, by go_num, rfl, rfl, by omega, HV.out⟩
            case measure => simp [intOf]; omega
    · obtain rfl : j = 4 := by omega
      obtain ⟨hq, hr⟩ := hv.done sb0
      rw [HQ.out] at hq
      rw [HM.out] at hr
      subst hq
      subst hr
      clear hv HS
      by_cases hup : sizeV b - M ≤ M
      · have hb2 : 9223372036854775807 < Q + 1 := by rcases hB with h | h <;> omega
        go_wp2_with (go_at_call 42; refine (rsigned_big _ _ _ (by omega)).mono ?_; rintro e w' ⟨rfl, rfl⟩)
        go_ret2
        exact ⟨rfl, rfl⟩
      · have hb2 : 9223372036854775807 < Q := by rcases hB with h | h <;> omega
        go_wp2_with (go_at_call 42; refine (rsigned_big _ _ _ (by omega)).mono ?_; rintro e w' ⟨rfl, rfl⟩)
        go_ret2
        exact ⟨rfl, rfl⟩
set_option maxRecDepth 10000 in
theorem rdiv_pp0 (a b Q M : Int) (w : World) (ha1 : -9223372036854775807 ≤ a) (ha2 : a ≤ 9223372036854775807) (hb1 : -9223372036854775807 ≤ b) (hb2 : b ≤ 9223372036854775807) (sa0 : 0 ≤ sizeV a) (sa1 : sizeV a ≤ 9223372036854775807) (sb0 : 0 < sizeV b) (sb1 : sizeV b ≤ 9223372036854775807) (hbz : b ≠ 0) (hQ : sizeV a * 10000 / sizeV b = Q) (hM : sizeV a * 10000 % sizeV b = M) (hup : M < sizeV b - M) (hQ0 : 0 ≤ Q) (hB : Q ≤ 9223372036854775807) (ha0 : 0 ≤ a) (hb0 : 0 ≤ b) : Calls Tryd.prog 22 #[.int .i64 a, .int .i64 b] w fun e w' => e = .returned (.tuple #[.int .i64 (Q), .int .i64 0]) ∧ w' = w := by
  have da : decide (a < 0) = false := by exact decide_eq_false (by omega)
  have db : decide (b < 0) = false := by exact decide_eq_false (by omega)
  have hz : (b == 0) = false := by rw [beq_eq_false_iff_ne]; exact hbz
  have hz2 : (sizeV b == 0) = false := by rw [beq_eq_false_iff_ne]; omega
  have HQ := Lib.hid hQ
  have HM := Lib.hid hM
  have hd0 : 0 ≤ sizeV a / sizeV b := Int.ediv_nonneg sa0 (by omega)
  have hd1 : sizeV a / sizeV b ≤ sizeV a := Int.ediv_le_self _ sa0
  have hr0 := Int.emod_nonneg (sizeV a) (show sizeV b ≠ 0 by omega)
  have hr1 := Int.emod_lt_of_pos (sizeV a) sb0
  have HS : DivInv (sizeV a) (sizeV b) 0 (sizeV a / sizeV b) (sizeV a % sizeV b) := ⟨by rw [p10_zero, Int.mul_comm (sizeV a / sizeV b)]; have := Int.mul_ediv_add_emod (sizeV a) (sizeV b); omega, hr0, hr1, hd0⟩
  clear hQ hM
  go_enter Tryd.func22, Tryd.ntmps22
  go_wp2_with (first | (go_at_call 17; refine (rmay_t _ _ (by omega)).mono ?_; rintro e w' ⟨rfl, rfl⟩) | (go_at_call 41; refine (rsize_any _ _ (by omega) (by omega)).mono ?_; rintro e w' ⟨rfl, rfl⟩))
  go_loop [10, 11, 12] (fun x y z => ∃ (j : Nat) (q r : Int), j ≤ 4 ∧ z = .int .i64 j ∧ x = .int .u64 q ∧ y = .int .u64 r ∧ q ≤ 9223372036854775810 ∧ DivInv (sizeV a) (sizeV b) j q r) (fun _ _ z => 4 - (intOf z).toNat)
  case atStart => exact ⟨0, _, _, by omega, rfl, rfl, rfl, by omega, HS⟩
  case round =>
    obtain ⟨j, q, r, hj, rfl, rfl, rfl, hq9, hv⟩ := hrel
    have r0 := hv.r0
    have r1 := hv.r1
    have q0 := hv.q0
    by_cases hlt : j < 4
    · have hlt' : (j : Int) < 4 := by omega
      have hex : q ≤ 922337203685477580 := by have := hv.few sb0 hlt sa0; rw [HQ.out] at this; omega
      clear HS
      go_wp2
      go_loop [10, 13, 14] (fun a t x => ∃ (k c : Nat) (tt : Int), k ≤ 10 ∧ c ≤ k ∧ x = .int .i64 k ∧ t = .int .u64 tt ∧ a = .int .u64 (10 * q + (c : Int)) ∧ SumInv (sizeV b) r k c tt) (fun _ _ x => 10 - (intOf x).toNat)
      case atStart => exact ⟨0, 0, 0, by omega, by omega, rfl, rfl, by go_num, ⟨by omega, by omega, by omega⟩⟩
      case round =>
        obtain ⟨k, c, tt, hk, hc, rfl, rfl, rfl, hsv⟩ := hrel
        have t0 := hsv.t0
        have t1 := hsv.t1
        by_cases hlt : k < 10
        · have hlt' : (k : Int) < 10 := by omega
          by_cases hge : sizeV b ≤ tt + r
          · have HV := Lib.hid (hsv.up r0 r1 hge)
            clear hsv hv
            go_wp2
            go_round
            case rel => exact ⟨k + 1, c + 1, _, by omega, by omega, by go_num, rfl, by go_num, HV.out⟩
            case measure => simp [intOf]; omega
          · have HV := Lib.hid (hsv.stay r0 (by omega))
            clear hsv hv
            go_wp2
            go_round
            case rel => exact ⟨k + 1, c, _, by omega, by omega, by go_num, rfl, rfl, HV.out⟩
            case measure => simp [intOf]; omega
        · obtain rfl : k = 10 := by omega
          have HV := Lib.hid (hv.next hsv)
          clear hsv hv
          go_wp2
          go_round
          case rel => exact ⟨j + 1, _, _, by omega, by go_num, rfl, rfl, by omega, HV.out⟩
          case measure => simp [intOf]; omega
    · obtain rfl : j = 4 := by omega
      obtain ⟨hq, hr⟩ := hv.done sb0
      rw [HQ.out] at hq
      rw [HM.out] at hr
      subst hq
      subst hr
      clear hv HS
      go_wp2_with (go_at_call 42; refine (rsigned_pos _ _ (by omega) (by omega)).mono ?_; rintro e w' ⟨rfl, rfl⟩)
      go_ret2
      exact ⟨rfl, rfl⟩
set_option maxRecDepth 10000 in
theorem rdiv_pp1 (a b Q M : Int) (w : World) (ha1 : -9223372036854775807 ≤ a) (ha2 : a ≤ 9223372036854775807) (hb1 : -9223372036854775807 ≤ b) (hb2 : b ≤ 9223372036854775807) (sa0 : 0 ≤ sizeV a) (sa1 : sizeV a ≤ 9223372036854775807) (sb0 : 0 < sizeV b) (sb1 : sizeV b ≤ 9223372036854775807) (hbz : b ≠ 0) (hQ : sizeV a * 10000 / sizeV b = Q) (hM : sizeV a * 10000 % sizeV b = M) (hup : sizeV b - M ≤ M) (hQ0 : 0 ≤ Q) (hB : Q + 1 ≤ 9223372036854775807) (ha0 : 0 ≤ a) (hb0 : 0 ≤ b) : Calls Tryd.prog 22 #[.int .i64 a, .int .i64 b] w fun e w' => e = .returned (.tuple #[.int .i64 (Q + 1), .int .i64 0]) ∧ w' = w := by
  have da : decide (a < 0) = false := by exact decide_eq_false (by omega)
  have db : decide (b < 0) = false := by exact decide_eq_false (by omega)
  have hz : (b == 0) = false := by rw [beq_eq_false_iff_ne]; exact hbz
  have hz2 : (sizeV b == 0) = false := by rw [beq_eq_false_iff_ne]; omega
  have HQ := Lib.hid hQ
  have HM := Lib.hid hM
  have hd0 : 0 ≤ sizeV a / sizeV b := Int.ediv_nonneg sa0 (by omega)
  have hd1 : sizeV a / sizeV b ≤ sizeV a := Int.ediv_le_self _ sa0
  have hr0 := Int.emod_nonneg (sizeV a) (show sizeV b ≠ 0 by omega)
  have hr1 := Int.emod_lt_of_pos (sizeV a) sb0
  have HS : DivInv (sizeV a) (sizeV b) 0 (sizeV a / sizeV b) (sizeV a % sizeV b) := ⟨by rw [p10_zero, Int.mul_comm (sizeV a / sizeV b)]; have := Int.mul_ediv_add_emod (sizeV a) (sizeV b); omega, hr0, hr1, hd0⟩
  clear hQ hM
  go_enter Tryd.func22, Tryd.ntmps22
  go_wp2_with (first | (go_at_call 17; refine (rmay_t _ _ (by omega)).mono ?_; rintro e w' ⟨rfl, rfl⟩) | (go_at_call 41; refine (rsize_any _ _ (by omega) (by omega)).mono ?_; rintro e w' ⟨rfl, rfl⟩))
  go_loop [10, 11, 12] (fun x y z => ∃ (j : Nat) (q r : Int), j ≤ 4 ∧ z = .int .i64 j ∧ x = .int .u64 q ∧ y = .int .u64 r ∧ q ≤ 9223372036854775810 ∧ DivInv (sizeV a) (sizeV b) j q r) (fun _ _ z => 4 - (intOf z).toNat)
  case atStart => exact ⟨0, _, _, by omega, rfl, rfl, rfl, by omega, HS⟩
  case round =>
    obtain ⟨j, q, r, hj, rfl, rfl, rfl, hq9, hv⟩ := hrel
    have r0 := hv.r0
    have r1 := hv.r1
    have q0 := hv.q0
    by_cases hlt : j < 4
    · have hlt' : (j : Int) < 4 := by omega
      have hex : q ≤ 922337203685477580 := by have := hv.few sb0 hlt sa0; rw [HQ.out] at this; omega
      clear HS
      go_wp2
      go_loop [10, 13, 14] (fun a t x => ∃ (k c : Nat) (tt : Int), k ≤ 10 ∧ c ≤ k ∧ x = .int .i64 k ∧ t = .int .u64 tt ∧ a = .int .u64 (10 * q + (c : Int)) ∧ SumInv (sizeV b) r k c tt) (fun _ _ x => 10 - (intOf x).toNat)
      case atStart => exact ⟨0, 0, 0, by omega, by omega, rfl, rfl, by go_num, ⟨by omega, by omega, by omega⟩⟩
      case round =>
        obtain ⟨k, c, tt, hk, hc, rfl, rfl, rfl, hsv⟩ := hrel
        have t0 := hsv.t0
        have t1 := hsv.t1
        by_cases hlt : k < 10
        · have hlt' : (k : Int) < 10 := by omega
          by_cases hge : sizeV b ≤ tt + r
          · have HV := Lib.hid (hsv.up r0 r1 hge)
            clear hsv hv
            go_wp2
            go_round
            case rel => exact ⟨k + 1, c + 1, _, by omega, by omega, by go_num, rfl, by go_num, HV.out⟩
            case measure => simp [intOf]; omega
          · have HV := Lib.hid (hsv.stay r0 (by omega))
            clear hsv hv
            go_wp2
            go_round
            case rel => exact ⟨k + 1, c, _, by omega, by omega, by go_num, rfl, rfl, HV.out⟩
            case measure => simp [intOf]; omega
        · obtain rfl : k = 10 := by omega
          have HV := Lib.hid (hv.next hsv)
          clear hsv hv
          go_wp2
          go_round
          case rel => exact ⟨j + 1, _, _, by omega, by go_num, rfl, rfl, by omega, HV.out⟩
          case measure => simp [intOf]; omega
    · obtain rfl : j = 4 := by omega
      obtain ⟨hq, hr⟩ := hv.done sb0
      rw [HQ.out] at hq
      rw [HM.out] at hr
      subst hq
      subst hr
      clear hv HS
      go_wp2_with (go_at_call 42; refine (rsigned_pos _ _ (by omega) (by omega)).mono ?_; rintro e w' ⟨rfl, rfl⟩)
      go_ret2
      exact ⟨rfl, rfl⟩
set_option maxRecDepth 10000 in
theorem rdiv_nn0 (a b Q M : Int) (w : World) (ha1 : -9223372036854775807 ≤ a) (ha2 : a ≤ 9223372036854775807) (hb1 : -9223372036854775807 ≤ b) (hb2 : b ≤ 9223372036854775807) (sa0 : 0 ≤ sizeV a) (sa1 : sizeV a ≤ 9223372036854775807) (sb0 : 0 < sizeV b) (sb1 : sizeV b ≤ 9223372036854775807) (hbz : b ≠ 0) (hQ : sizeV a * 10000 / sizeV b = Q) (hM : sizeV a * 10000 % sizeV b = M) (hup : M < sizeV b - M) (hQ0 : 0 ≤ Q) (hB : Q ≤ 9223372036854775807) (ha0 : a < 0) (hb0 : b < 0) : Calls Tryd.prog 22 #[.int .i64 a, .int .i64 b] w fun e w' => e = .returned (.tuple #[.int .i64 (Q), .int .i64 0]) ∧ w' = w := by
  have da : decide (a < 0) = true := by exact decide_eq_true ha0
  have db : decide (b < 0) = true := by exact decide_eq_true hb0
  have hz : (b == 0) = false := by rw [beq_eq_false_iff_ne]; exact hbz
  have hz2 : (sizeV b == 0) = false := by rw [beq_eq_false_iff_ne]; omega
  have HQ := Lib.hid hQ
  have HM := Lib.hid hM
  have hd0 : 0 ≤ sizeV a / sizeV b := Int.ediv_nonneg sa0 (by omega)
  have hd1 : sizeV a / sizeV b ≤ sizeV a := Int.ediv_le_self _ sa0
  have hr0 := Int.emod_nonneg (sizeV a) (show sizeV b ≠ 0 by omega)
  have hr1 := Int.emod_lt_of_pos (sizeV a) sb0
  have HS : DivInv (sizeV a) (sizeV b) 0 (sizeV a / sizeV b) (sizeV a % sizeV b) := ⟨by rw [p10_zero, Int.mul_comm (sizeV a / sizeV b)]; have := Int.mul_ediv_add_emod (sizeV a) (sizeV b); omega, hr0, hr1, hd0⟩
  clear hQ hM
  go_enter Tryd.func22, Tryd.ntmps22
  go_wp2_with (first | (go_at_call 17; refine (rmay_t _ _ (by omega)).mono ?_; rintro e w' ⟨rfl, rfl⟩) | (go_at_call 41; refine (rsize_any _ _ (by omega) (by omega)).mono ?_; rintro e w' ⟨rfl, rfl⟩))
  go_loop [10, 11, 12] (fun x y z => ∃ (j : Nat) (q r : Int), j ≤ 4 ∧ z = .int .i64 j ∧ x = .int .u64 q ∧ y = .int .u64 r ∧ q ≤ 9223372036854775810 ∧ DivInv (sizeV a) (sizeV b) j q r) (fun _ _ z => 4 - (intOf z).toNat)
  case atStart => exact ⟨0, _, _, by omega, rfl, rfl, rfl, by omega, HS⟩
  case round =>
    obtain ⟨j, q, r, hj, rfl, rfl, rfl, hq9, hv⟩ := hrel
    have r0 := hv.r0
    have r1 := hv.r1
    have q0 := hv.q0
    by_cases hlt : j < 4
    · have hlt' : (j : Int) < 4 := by omega
      have hex : q ≤ 922337203685477580 := by have := hv.few sb0 hlt sa0; rw [HQ.out] at this; omega
      clear HS
      go_wp2
      go_loop [10, 13, 14] (fun a t x => ∃ (k c : Nat) (tt : Int), k ≤ 10 ∧ c ≤ k ∧ x = .int .i64 k ∧ t = .int .u64 tt ∧ a = .int .u64 (10 * q + (c : Int)) ∧ SumInv (sizeV b) r k c tt) (fun _ _ x => 10 - (intOf x).toNat)
      case atStart => exact ⟨0, 0, 0, by omega, by omega, rfl, rfl, by go_num, ⟨by omega, by omega, by omega⟩⟩
      case round =>
        obtain ⟨k, c, tt, hk, hc, rfl, rfl, rfl, hsv⟩ := hrel
        have t0 := hsv.t0
        have t1 := hsv.t1
        by_cases hlt : k < 10
        · have hlt' : (k : Int) < 10 := by omega
          by_cases hge : sizeV b ≤ tt + r
          · have HV := Lib.hid (hsv.up r0 r1 hge)
            clear hsv hv
            go_wp2
            go_round
            case rel => exact ⟨k + 1, c + 1, _, by omega, by omega, by go_num, rfl, by go_num, HV.out⟩
            case measure => simp [intOf]; omega
          · have HV := Lib.hid (hsv.stay r0 (by omega))
            clear hsv hv
            go_wp2
            go_round
            case rel => exact ⟨k + 1, c, _, by omega, by omega, by go_num, rfl, rfl, HV.out⟩
            case measure => simp [intOf]; omega
        · obtain rfl : k = 10 := by omega
          have HV := Lib.hid (hv.next hsv)
          clear hsv hv
          go_wp2
          go_round
          case rel => exact ⟨j + 1, _, _, by omega, by go_num, rfl, rfl, by omega, HV.out⟩
          case measure => simp [intOf]; omega
    · obtain rfl : j = 4 := by omega
      obtain ⟨hq, hr⟩ := hv.done sb0
      rw [HQ.out] at hq
      rw [HM.out] at hr
      subst hq
      subst hr
      clear hv HS
      go_wp2_with (go_at_call 42; refine (rsigned_pos _ _ (by omega) (by omega)).mono ?_; rintro e w' ⟨rfl, rfl⟩)
      go_ret2
      exact ⟨rfl, rfl⟩
set_option maxRecDepth 10000 in
theorem rdiv_nn1 (a b Q M : Int) (w : World) (ha1 : -9223372036854775807 ≤ a) (ha2 : a ≤ 9223372036854775807) (hb1 : -9223372036854775807 ≤ b) (hb2 : b ≤ 9223372036854775807) (sa0 : 0 ≤ sizeV a) (sa1 : sizeV a ≤ 9223372036854775807) (sb0 : 0 < sizeV b) (sb1 : sizeV b ≤ 9223372036854775807) (hbz : b ≠ 0) (hQ : sizeV a * 10000 / sizeV b = Q) (hM : sizeV a * 10000 % sizeV b = M) (hup : sizeV b - M ≤ M) (hQ0 : 0 ≤ Q) (hB : Q + 1 ≤ 9223372036854775807) (ha0 : a < 0) (hb0 : b < 0) : Calls Tryd.prog 22 #[.int .i64 a, .int .i64 b] w fun e w' => e = .returned (.tuple #[.int .i64 (Q + 1), .int .i64 0]) ∧ w' = w := by
  have da : decide (a < 0) = true := by exact decide_eq_true ha0
  have db : decide (b < 0) = true := by exact decide_eq_true hb0
  have hz : (b == 0) = false := by rw [beq_eq_false_iff_ne]; exact hbz
  have hz2 : (sizeV b == 0) = false := by rw [beq_eq_false_iff_ne]; omega
  have HQ := Lib.hid hQ
  have HM := Lib.hid hM
  have hd0 : 0 ≤ sizeV a / sizeV b := Int.ediv_nonneg sa0 (by omega)
  have hd1 : sizeV a / sizeV b ≤ sizeV a := Int.ediv_le_self _ sa0
  have hr0 := Int.emod_nonneg (sizeV a) (show sizeV b ≠ 0 by omega)
  have hr1 := Int.emod_lt_of_pos (sizeV a) sb0
  have HS : DivInv (sizeV a) (sizeV b) 0 (sizeV a / sizeV b) (sizeV a % sizeV b) := ⟨by rw [p10_zero, Int.mul_comm (sizeV a / sizeV b)]; have := Int.mul_ediv_add_emod (sizeV a) (sizeV b); omega, hr0, hr1, hd0⟩
  clear hQ hM
  go_enter Tryd.func22, Tryd.ntmps22
  go_wp2_with (first | (go_at_call 17; refine (rmay_t _ _ (by omega)).mono ?_; rintro e w' ⟨rfl, rfl⟩) | (go_at_call 41; refine (rsize_any _ _ (by omega) (by omega)).mono ?_; rintro e w' ⟨rfl, rfl⟩))
  go_loop [10, 11, 12] (fun x y z => ∃ (j : Nat) (q r : Int), j ≤ 4 ∧ z = .int .i64 j ∧ x = .int .u64 q ∧ y = .int .u64 r ∧ q ≤ 9223372036854775810 ∧ DivInv (sizeV a) (sizeV b) j q r) (fun _ _ z => 4 - (intOf z).toNat)
  case atStart => exact ⟨0, _, _, by omega, rfl, rfl, rfl, by omega, HS⟩
  case round =>
    obtain ⟨j, q, r, hj, rfl, rfl, rfl, hq9, hv⟩ := hrel
    have r0 := hv.r0
    have r1 := hv.r1
    have q0 := hv.q0
    by_cases hlt : j < 4
    · have hlt' : (j : Int) < 4 := by omega
      have hex : q ≤ 922337203685477580 := by have := hv.few sb0 hlt sa0; rw [HQ.out] at this; omega
      clear HS
      go_wp2
      go_loop [10, 13, 14] (fun a t x => ∃ (k c : Nat) (tt : Int), k ≤ 10 ∧ c ≤ k ∧ x = .int .i64 k ∧ t = .int .u64 tt ∧ a = .int .u64 (10 * q + (c : Int)) ∧ SumInv (sizeV b) r k c tt) (fun _ _ x => 10 - (intOf x).toNat)
      case atStart => exact ⟨0, 0, 0, by omega, by omega, rfl, rfl, by go_num, ⟨by omega, by omega, by omega⟩⟩
      case round =>
        obtain ⟨k, c, tt, hk, hc, rfl, rfl, rfl, hsv⟩ := hrel
        have t0 := hsv.t0
        have t1 := hsv.t1
        by_cases hlt : k < 10
        · have hlt' : (k : Int) < 10 := by omega
          by_cases hge : sizeV b ≤ tt + r
          · have HV := Lib.hid (hsv.up r0 r1 hge)
            clear hsv hv
            go_wp2
            go_round
            case rel => exact ⟨k + 1, c + 1, _, by omega, by omega, by go_num, rfl, by go_num, HV.out⟩
            case measure => simp [intOf]; omega
          · have HV := Lib.hid (hsv.stay r0 (by omega))
            clear hsv hv
            go_wp2
            go_round
            case rel => exact ⟨k + 1, c, _, by omega, by omega, by go_num, rfl, rfl, HV.out⟩
            case measure => simp [intOf]; omega
        · obtain rfl : k = 10 := by omega
          have HV := Lib.hid (hv.next hsv)
          clear hsv hv
          go_wp2
          go_round
          case rel => exact ⟨j + 1, _, _, by omega, by go_num, rfl, rfl, by omega, HV.out⟩
          case measure => simp [intOf]; omega
    · obtain rfl : j = 4 := by omega
      obtain ⟨hq, hr⟩ := hv.done sb0
      rw [HQ.out] at hq
      rw [HM.out] at hr
      subst hq
      subst hr
      clear hv HS
      go_wp2_with (go_at_call 42; refine (rsigned_pos _ _ (by omega) (by omega)).mono ?_; rintro e w' ⟨rfl, rfl⟩)
      go_ret2
      exact ⟨rfl, rfl⟩
set_option maxRecDepth 10000 in
theorem rdiv_np0 (a b Q M : Int) (w : World) (ha1 : -9223372036854775807 ≤ a) (ha2 : a ≤ 9223372036854775807) (hb1 : -9223372036854775807 ≤ b) (hb2 : b ≤ 9223372036854775807) (sa0 : 0 ≤ sizeV a) (sa1 : sizeV a ≤ 9223372036854775807) (sb0 : 0 < sizeV b) (sb1 : sizeV b ≤ 9223372036854775807) (hbz : b ≠ 0) (hQ : sizeV a * 10000 / sizeV b = Q) (hM : sizeV a * 10000 % sizeV b = M) (hup : M < sizeV b - M) (hQ0 : 0 ≤ Q) (hB : Q ≤ 9223372036854775807) (ha0 : a < 0) (hb0 : 0 ≤ b) : Calls Tryd.prog 22 #[.int .i64 a, .int .i64 b] w fun e w' => e = .returned (.tuple #[.int .i64 (-(Q)), .int .i64 0]) ∧ w' = w := by
  have da : decide (a < 0) = true := by exact decide_eq_true ha0
  have db : decide (b < 0) = false := by exact decide_eq_false (by omega)
  have hz : (b == 0) = false := by rw [beq_eq_false_iff_ne]; exact hbz
  have hz2 : (sizeV b == 0) = false := by rw [beq_eq_false_iff_ne]; omega
  have HQ := Lib.hid hQ
  have HM := Lib.hid hM
  have hd0 : 0 ≤ sizeV a / sizeV b := Int.ediv_nonneg sa0 (by omega)
  have hd1 : sizeV a / sizeV b ≤ sizeV a := Int.ediv_le_self _ sa0
  have hr0 := Int.emod_nonneg (sizeV a) (show sizeV b ≠ 0 by omega)
  have hr1 := Int.emod_lt_of_pos (sizeV a) sb0
  have HS : DivInv (sizeV a) (sizeV b) 0 (sizeV a / sizeV b) (sizeV a % sizeV b) := ⟨by rw [p10_zero, Int.mul_comm (sizeV a / sizeV b)]; have := Int.mul_ediv_add_emod (sizeV a) (sizeV b); omega, hr0, hr1, hd0⟩
  clear hQ hM
  go_enter Tryd.func22, Tryd.ntmps22
  go_wp2_with (first | (go_at_call 17; refine (rmay_t _ _ (by omega)).mono ?_; rintro e w' ⟨rfl, rfl⟩) | (go_at_call 41; refine (rsize_any _ _ (by omega) (by omega)).mono ?_; rintro e w' ⟨rfl, rfl⟩))
  go_loop [10, 11, 12] (fun x y z => ∃ (j : Nat) (q r : Int), j ≤ 4 ∧ z = .int .i64 j ∧ x = .int .u64 q ∧ y = .int .u64 r ∧ q ≤ 9223372036854775810 ∧ DivInv (sizeV a) (sizeV b) j q r) (fun _ _ z => 4 - (intOf z).toNat)
  case atStart => exact ⟨0, _, _, by omega, rfl, rfl, rfl, by omega, HS⟩
  case round =>
    obtain ⟨j, q, r, hj, rfl, rfl, rfl, hq9, hv⟩ := hrel
    have r0 := hv.r0
    have r1 := hv.r1
    have q0 := hv.q0
    by_cases hlt : j < 4
    · have hlt' : (j : Int) < 4 := by omega
      have hex : q ≤ 922337203685477580 := by have := hv.few sb0 hlt sa0; rw [HQ.out] at this; omega
      clear HS
      go_wp2
      go_loop [10, 13, 14] (fun a t x => ∃ (k c : Nat) (tt : Int), k ≤ 10 ∧ c ≤ k ∧ x = .int .i64 k ∧ t = .int .u64 tt ∧ a = .int .u64 (10 * q + (c : Int)) ∧ SumInv (sizeV b) r k c tt) (fun _ _ x => 10 - (intOf x).toNat)
      case atStart => exact ⟨0, 0, 0, by omega, by omega, rfl, rfl, by go_num, ⟨by omega, by omega, by omega⟩⟩
      case round =>
        obtain ⟨k, c, tt, hk, hc, rfl, rfl, rfl, hsv⟩ := hrel
        have t0 := hsv.t0
        have t1 := hsv.t1
        by_cases hlt : k < 10
        · have hlt' : (k : Int) < 10 := by omega
          by_cases hge : sizeV b ≤ tt + r
          · have HV := Lib.hid (hsv.up r0 r1 hge)
            clear hsv hv
            go_wp2
            go_round
            case rel => exact ⟨k + 1, c + 1, _, by omega, by omega, by go_num, rfl, by go_num, HV.out⟩
            case measure => simp [intOf]; omega
          · have HV := Lib.hid (hsv.stay r0 (by omega))
            clear hsv hv
            go_wp2
            go_round
            case rel => exact ⟨k + 1, c, _, by omega, by omega, by go_num, rfl, rfl, HV.out⟩
            case measure => simp [intOf]; omega
        · obtain rfl : k = 10 := by omega
          have HV := Lib.hid (hv.next hsv)
          clear hsv hv
          go_wp2
          go_round
          case rel => exact ⟨j + 1, _, _, by omega, by go_num, rfl, rfl, by omega, HV.out⟩
          case measure => simp [intOf]; omega
    · obtain rfl : j = 4 := by omega
      obtain ⟨hq, hr⟩ := hv.done sb0
      rw [HQ.out] at hq
      rw [HM.out] at hr
      subst hq
      subst hr
      clear hv HS
      go_wp2_with (go_at_call 42; refine (rsigned_neg _ _ (by omega) (by omega)).mono ?_; rintro e w' ⟨rfl, rfl⟩)
      go_ret2
      exact ⟨rfl, rfl⟩
set_option maxRecDepth 10000 in
theorem rdiv_np1 (a b Q M : Int) (w : World) (ha1 : -9223372036854775807 ≤ a) (ha2 : a ≤ 9223372036854775807) (hb1 : -9223372036854775807 ≤ b) (hb2 : b ≤ 9223372036854775807) (sa0 : 0 ≤ sizeV a) (sa1 : sizeV a ≤ 9223372036854775807) (sb0 : 0 < sizeV b) (sb1 : sizeV b ≤ 9223372036854775807) (hbz : b ≠ 0) (hQ : sizeV a * 10000 / sizeV b = Q) (hM : sizeV a * 10000 % sizeV b = M) (hup : sizeV b - M ≤ M) (hQ0 : 0 ≤ Q) (hB : Q + 1 ≤ 9223372036854775807) (ha0 : a < 0) (hb0 : 0 ≤ b) : Calls Tryd.prog 22 #[.int .i64 a, .int .i64 b] w fun e w' => e = .returned (.tuple #[.int .i64 (-(Q + 1)), .int .i64 0]) ∧ w' = w := by
  have da : decide (a < 0) = true := by exact decide_eq_true ha0
  have db : decide (b < 0) = false := by exact decide_eq_false (by omega)
  have hz : (b == 0) = false := by rw [beq_eq_false_iff_ne]; exact hbz
  have hz2 : (sizeV b == 0) = false := by rw [beq_eq_false_iff_ne]; omega
  have HQ := Lib.hid hQ
  have HM := Lib.hid hM
  have hd0 : 0 ≤ sizeV a / sizeV b := Int.ediv_nonneg sa0 (by omega)
  have hd1 : sizeV a / sizeV b ≤ sizeV a := Int.ediv_le_self _ sa0
  have hr0 := Int.emod_nonneg (sizeV a) (show sizeV b ≠ 0 by omega)
  have hr1 := Int.emod_lt_of_pos (sizeV a) sb0
  have HS : DivInv (sizeV a) (sizeV b) 0 (sizeV a / sizeV b) (sizeV a % sizeV b) := ⟨by rw [p10_zero, Int.mul_comm (sizeV a / sizeV b)]; have := Int.mul_ediv_add_emod (sizeV a) (sizeV b); omega, hr0, hr1, hd0⟩
  clear hQ hM
  go_enter Tryd.func22, Tryd.ntmps22
  go_wp2_with (first | (go_at_call 17; refine (rmay_t _ _ (by omega)).mono ?_; rintro e w' ⟨rfl, rfl⟩) | (go_at_call 41; refine (rsize_any _ _ (by omega) (by omega)).mono ?_; rintro e w' ⟨rfl, rfl⟩))
  go_loop [10, 11, 12] (fun x y z => ∃ (j : Nat) (q r : Int), j ≤ 4 ∧ z = .int .i64 j ∧ x = .int .u64 q ∧ y = .int .u64 r ∧ q ≤ 9223372036854775810 ∧ DivInv (sizeV a) (sizeV b) j q r) (fun _ _ z => 4 - (intOf z).toNat)
  case atStart => exact ⟨0, _, _, by omega, rfl, rfl, rfl, by omega, HS⟩
  case round =>
    obtain ⟨j, q, r, hj, rfl, rfl, rfl, hq9, hv⟩ := hrel
    have r0 := hv.r0
    have r1 := hv.r1
    have q0 := hv.q0
    by_cases hlt : j < 4
    · have hlt' : (j : Int) < 4 := by omega
      have hex : q ≤ 922337203685477580 := by have := hv.few sb0 hlt sa0; rw [HQ.out] at this; omega
      clear HS
      go_wp2
      go_loop [10, 13, 14] (fun a t x => ∃ (k c : Nat) (tt : Int), k ≤ 10 ∧ c ≤ k ∧ x = .int .i64 k ∧ t = .int .u64 tt ∧ a = .int .u64 (10 * q + (c : Int)) ∧ SumInv (sizeV b) r k c tt) (fun _ _ x => 10 - (intOf x).toNat)
      case atStart => exact ⟨0, 0, 0, by omega, by omega, rfl, rfl, by go_num, ⟨by omega, by omega, by omega⟩⟩
      case round =>
        obtain ⟨k, c, tt, hk, hc, rfl, rfl, rfl, hsv⟩ := hrel
        have t0 := hsv.t0
        have t1 := hsv.t1
        by_cases hlt : k < 10
        · have hlt' : (k : Int) < 10 := by omega
          by_cases hge : sizeV b ≤ tt + r
          · have HV := Lib.hid (hsv.up r0 r1 hge)
            clear hsv hv
            go_wp2
            go_round
            case rel => exact ⟨k + 1, c + 1, _, by omega, by omega, by go_num, rfl, by go_num, HV.out⟩
            case measure => simp [intOf]; omega
          · have HV := Lib.hid (hsv.stay r0 (by omega))
            clear hsv hv
            go_wp2
            go_round
            case rel => exact ⟨k + 1, c, _, by omega, by omega, by go_num, rfl, rfl, HV.out⟩
            case measure => simp [intOf]; omega
        · obtain rfl : k = 10 := by omega
          have HV := Lib.hid (hv.next hsv)
          clear hsv hv
          go_wp2
          go_round
          case rel => exact ⟨j + 1, _, _, by omega, by go_num, rfl, rfl, by omega, HV.out⟩
          case measure => simp [intOf]; omega
    · obtain rfl : j = 4 := by omega
      obtain ⟨hq, hr⟩ := hv.done sb0
      rw [HQ.out] at hq
      rw [HM.out] at hr
      subst hq
      subst hr
      clear hv HS
      go_wp2_with (go_at_call 42; refine (rsigned_neg _ _ (by omega) (by omega)).mono ?_; rintro e w' ⟨rfl, rfl⟩)
      go_ret2
      exact ⟨rfl, rfl⟩
set_option maxRecDepth 10000 in
theorem rdiv_pn0 (a b Q M : Int) (w : World) (ha1 : -9223372036854775807 ≤ a) (ha2 : a ≤ 9223372036854775807) (hb1 : -9223372036854775807 ≤ b) (hb2 : b ≤ 9223372036854775807) (sa0 : 0 ≤ sizeV a) (sa1 : sizeV a ≤ 9223372036854775807) (sb0 : 0 < sizeV b) (sb1 : sizeV b ≤ 9223372036854775807) (hbz : b ≠ 0) (hQ : sizeV a * 10000 / sizeV b = Q) (hM : sizeV a * 10000 % sizeV b = M) (hup : M < sizeV b - M) (hQ0 : 0 ≤ Q) (hB : Q ≤ 9223372036854775807) (ha0 : 0 ≤ a) (hb0 : b < 0) : Calls Tryd.prog 22 #[.int .i64 a, .int .i64 b] w fun e w' => e = .returned (.tuple #[.int .i64 (-(Q)), .int .i64 0]) ∧ w' = w := by
  have da : decide (a < 0) = false := by exact decide_eq_false (by omega)
  have db : decide (b < 0) = true := by exact decide_eq_true hb0
  have hz : (b == 0) = false := by rw [beq_eq_false_iff_ne]; exact hbz
  have hz2 : (sizeV b == 0) = false := by rw [beq_eq_false_iff_ne]; omega
  have HQ := Lib.hid hQ
  have HM := Lib.hid hM
  have hd0 : 0 ≤ sizeV a / sizeV b := Int.ediv_nonneg sa0 (by omega)
  have hd1 : sizeV a / sizeV b ≤ sizeV a := Int.ediv_le_self _ sa0
  have hr0 := Int.emod_nonneg (sizeV a) (show sizeV b ≠ 0 by omega)
  have hr1 := Int.emod_lt_of_pos (sizeV a) sb0
  have HS : DivInv (sizeV a) (sizeV b) 0 (sizeV a / sizeV b) (sizeV a % sizeV b) := ⟨by rw [p10_zero, Int.mul_comm (sizeV a / sizeV b)]; have := Int.mul_ediv_add_emod (sizeV a) (sizeV b); omega, hr0, hr1, hd0⟩
  clear hQ hM
  go_enter Tryd.func22, Tryd.ntmps22
  go_wp2_with (first | (go_at_call 17; refine (rmay_t _ _ (by omega)).mono ?_; rintro e w' ⟨rfl, rfl⟩) | (go_at_call 41; refine (rsize_any _ _ (by omega) (by omega)).mono ?_; rintro e w' ⟨rfl, rfl⟩))
  go_loop [10, 11, 12] (fun x y z => ∃ (j : Nat) (q r : Int), j ≤ 4 ∧ z = .int .i64 j ∧ x = .int .u64 q ∧ y = .int .u64 r ∧ q ≤ 9223372036854775810 ∧ DivInv (sizeV a) (sizeV b) j q r) (fun _ _ z => 4 - (intOf z).toNat)
  case atStart => exact ⟨0, _, _, by omega, rfl, rfl, rfl, by omega, HS⟩
  case round =>
    obtain ⟨j, q, r, hj, rfl, rfl, rfl, hq9, hv⟩ := hrel
    have r0 := hv.r0
    have r1 := hv.r1
    have q0 := hv.q0
    by_cases hlt : j < 4
    · have hlt' : (j : Int) < 4 := by omega
      have hex : q ≤ 922337203685477580 := by have := hv.few sb0 hlt sa0; rw [HQ.out] at this; omega
      clear HS
      go_wp2
      go_loop [10, 13, 14] (fun a t x => ∃ (k c : Nat) (tt : Int), k ≤ 10 ∧ c ≤ k ∧ x = .int .i64 k ∧ t = .int .u64 tt ∧ a = .int .u64 (10 * q + (c : Int)) ∧ SumInv (sizeV b) r k c tt) (fun _ _ x => 10 - (intOf x).toNat)
      case atStart => exact ⟨0, 0, 0, by omega, by omega, rfl, rfl, by go_num, ⟨by omega, by omega, by omega⟩⟩
      case round =>
        obtain ⟨k, c, tt, hk, hc, rfl, rfl, rfl, hsv⟩ := hrel
        have t0 := hsv.t0
        have t1 := hsv.t1
        by_cases hlt : k < 10
        · have hlt' : (k : Int) < 10 := by omega
          by_cases hge : sizeV b ≤ tt + r
          · have HV := Lib.hid (hsv.up r0 r1 hge)
            clear hsv hv
            go_wp2
            go_round
            case rel => exact ⟨k + 1, c + 1, _, by omega, by omega, by go_num, rfl, by go_num, HV.out⟩
            case measure => simp [intOf]; omega
          · have HV := Lib.hid (hsv.stay r0 (by omega))
            clear hsv hv
            go_wp2
            go_round
            case rel => exact ⟨k + 1, c, _, by omega, by omega, by go_num, rfl, rfl, HV.out⟩
            case measure => simp [intOf]; omega
        · obtain rfl : k = 10 := by omega
          have HV := Lib.hid (hv.next hsv)
          clear hsv hv
          go_wp2
          go_round
          case rel => exact ⟨j + 1, _, _, by omega, by go_num, rfl, rfl, by omega, HV.out⟩
          case measure => simp [intOf]; omega
    · obtain rfl : j = 4 := by omega
      obtain ⟨hq, hr⟩ := hv.done sb0
      rw [HQ.out] at hq
      rw [HM.out] at hr
      subst hq
      subst hr
      clear hv HS
      go_wp2_with (go_at_call 42; refine (rsigned_neg _ _ (by omega) (by omega)).mono ?_; rintro e w' ⟨rfl, rfl⟩)
      go_ret2
      exact ⟨rfl, rfl⟩
set_option maxRecDepth 10000 in
theorem rdiv_pn1 (a b Q M : Int) (w : World) (ha1 : -9223372036854775807 ≤ a) (ha2 : a ≤ 9223372036854775807) (hb1 : -9223372036854775807 ≤ b) (hb2 : b ≤ 9223372036854775807) (sa0 : 0 ≤ sizeV a) (sa1 : sizeV a ≤ 9223372036854775807) (sb0 : 0 < sizeV b) (sb1 : sizeV b ≤ 9223372036854775807) (hbz : b ≠ 0) (hQ : sizeV a * 10000 / sizeV b = Q) (hM : sizeV a * 10000 % sizeV b = M) (hup : sizeV b - M ≤ M) (hQ0 : 0 ≤ Q) (hB : Q + 1 ≤ 9223372036854775807) (ha0 : 0 ≤ a) (hb0 : b < 0) : Calls Tryd.prog 22 #[.int .i64 a, .int .i64 b] w fun e w' => e = .returned (.tuple #[.int .i64 (-(Q + 1)), .int .i64 0]) ∧ w' = w := by
  have da : decide (a < 0) = false := by exact decide_eq_false (by omega)
  have db : decide (b < 0) = true := by exact decide_eq_true hb0
  have hz : (b == 0) = false := by rw [beq_eq_false_iff_ne]; exact hbz
  have hz2 : (sizeV b == 0) = false := by rw [beq_eq_false_iff_ne]; omega
  have HQ := Lib.hid hQ
  have HM := Lib.hid hM
  have hd0 : 0 ≤ sizeV a / sizeV b := Int.ediv_nonneg sa0 (by omega)
  have hd1 : sizeV a / sizeV b ≤ sizeV a := Int.ediv_le_self _ sa0
  have hr0 := Int.emod_nonneg (sizeV a) (show sizeV b ≠ 0 by omega)
  have hr1 := Int.emod_lt_of_pos (sizeV a) sb0
  have HS : DivInv (sizeV a) (sizeV b) 0 (sizeV a / sizeV b) (sizeV a % sizeV b) := ⟨by rw [p10_zero, Int.mul_comm (sizeV a / sizeV b)]; have := Int.mul_ediv_add_emod (sizeV a) (sizeV b); omega, hr0, hr1, hd0⟩
  clear hQ hM
  go_enter Tryd.func22, Tryd.ntmps22
  go_wp2_with (first | (go_at_call 17; refine (rmay_t _ _ (by omega)).mono ?_; rintro e w' ⟨rfl, rfl⟩) | (go_at_call 41; refine (rsize_any _ _ (by omega) (by omega)).mono ?_; rintro e w' ⟨rfl, rfl⟩))
  go_loop [10, 11, 12] (fun x y z => ∃ (j : Nat) (q r : Int), j ≤ 4 ∧ z = .int .i64 j ∧ x = .int .u64 q ∧ y = .int .u64 r ∧ q ≤ 9223372036854775810 ∧ DivInv (sizeV a) (sizeV b) j q r) (fun _ _ z => 4 - (intOf z).toNat)
  case atStart => exact ⟨0, _, _, by omega, rfl, rfl, rfl, by omega, HS⟩
  case round =>
    obtain ⟨j, q, r, hj, rfl, rfl, rfl, hq9, hv⟩ := hrel
    have r0 := hv.r0
    have r1 := hv.r1
    have q0 := hv.q0
    by_cases hlt : j < 4
    · have hlt' : (j : Int) < 4 := by omega
      have hex : q ≤ 922337203685477580 := by have := hv.few sb0 hlt sa0; rw [HQ.out] at this; omega
      clear HS
      go_wp2
      go_loop [10, 13, 14] (fun a t x => ∃ (k c : Nat) (tt : Int), k ≤ 10 ∧ c ≤ k ∧ x = .int .i64 k ∧ t = .int .u64 tt ∧ a = .int .u64 (10 * q + (c : Int)) ∧ SumInv (sizeV b) r k c tt) (fun _ _ x => 10 - (intOf x).toNat)
      case atStart => exact ⟨0, 0, 0, by omega, by omega, rfl, rfl, by go_num, ⟨by omega, by omega, by omega⟩⟩
      case round =>
        obtain ⟨k, c, tt, hk, hc, rfl, rfl, rfl, hsv⟩ := hrel
        have t0 := hsv.t0
        have t1 := hsv.t1
        by_cases hlt : k < 10
        · have hlt' : (k : Int) < 10 := by omega
          by_cases hge : sizeV b ≤ tt + r
          · have HV := Lib.hid (hsv.up r0 r1 hge)
            clear hsv hv
            go_wp2
            go_round
            case rel => exact ⟨k + 1, c + 1, _, by omega, by omega, by go_num, rfl, by go_num, HV.out⟩
            case measure => simp [intOf]; omega
          · have HV := Lib.hid (hsv.stay r0 (by omega))
            clear hsv hv
            go_wp2
            go_round
            case rel => exact ⟨k + 1, c, _, by omega, by omega, by go_num, rfl, rfl, HV.out⟩
            case measure => simp [intOf]; omega
        · obtain rfl : k = 10 := by omega
          have HV := Lib.hid (hv.next hsv)
          clear hsv hv
          go_wp2
          go_round
          case rel => exact ⟨j + 1, _, _, by omega, by go_num, rfl, rfl, by omega, HV.out⟩
          case measure => simp [intOf]; omega
    · obtain rfl : j = 4 := by omega
      obtain ⟨hq, hr⟩ := hv.done sb0
      rw [HQ.out] at hq
      rw [HM.out] at hr
      subst hq
      subst hr
      clear hv HS
      go_wp2_with (go_at_call 42; refine (rsigned_neg _ _ (by omega) (by omega)).mono ?_; rintro e w' ⟨rfl, rfl⟩)
      go_ret2
      exact ⟨rfl, rfl⟩
end Go.Proofs.YtimcdeibjiekpaaDoor
