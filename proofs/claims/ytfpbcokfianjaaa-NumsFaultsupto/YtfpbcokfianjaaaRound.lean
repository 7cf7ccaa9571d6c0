/- The contracts of dec.Round, dec.Floor and dec.Whole, of any int64 and any places: what each answers. Nothing is written (orders are drawn). -/
import Derived.Test.YtfpbcokfianjaaaQuot
namespace Go.Proofs.Ytfpbcokfianjaaa
open Go.Shelf Go.RowKit
set_option linter.unusedVariables false
/-- Powers of ten. -/
def p10 (j : Nat) : Nat := 10 ^ j
theorem p10_zero : p10 0 = 1 := rfl
theorem p10_succ (j : Nat) : p10 (j + 1) = 10 * p10 j := by unfold p10; rw [Nat.pow_succ]; omega
theorem p10_le {j k : Nat} (h : j ≤ k) : p10 j ≤ p10 k := Nat.pow_le_pow_right (by decide) h
theorem p10_18 {j : Nat} (h : j ≤ 18) : p10 j ≤ 1000000000000000000 := p10_le h
theorem p10_19 {j : Nat} (h : j ≤ 19) : p10 j ≤ 10000000000000000000 := p10_le h
theorem p10_pos (j : Nat) : 1 ≤ p10 j := Nat.pos_of_ne_zero (by unfold p10; simp)
theorem p10_1 {j : Nat} (h : 1 ≤ j) : 10 ≤ p10 j := p10_le h
/-- A size rounded to a multiple of y. -/
def rnd (n y : Int) : Int := (n / y + (if y ≤ 2 * (n % y) then 1 else 0)) * y
theorem qr_rnd {n y : Int} (h0 : 0 ≤ n) (h1 : n ≤ 9223372036854775807) (hy : 10 ≤ y) : qr n y * y = rnd n y ∧ 0 ≤ qr n y := by
  have hd : n / y ≤ n := Int.ediv_le_self _ h0
  have hd0 : 0 ≤ n / y := Int.ediv_nonneg h0 (by omega)
  have hb : ¬ 9223372036854775808 ≤ n / y := by omega
  unfold qr rnd
  rw [if_neg hb]
  refine ⟨rfl, ?_⟩
  split <;> omega
theorem rnd_bd {n y : Int} (h0 : 0 ≤ n) (hy : 0 < y) : 0 ≤ rnd n y ∧ 2 * rnd n y ≤ 2 * n + y := by
  have hm := Int.mul_ediv_add_emod n y
  have hm0 := Int.emod_nonneg n (show y ≠ 0 by omega)
  have hm1 := Int.emod_lt_of_pos n hy
  have hd0 : 0 ≤ n / y := Int.ediv_nonneg h0 (by omega)
  have hp : 0 ≤ y * (n / y) := Int.mul_nonneg (by omega) hd0
  unfold rnd
  rw [Int.add_mul, Int.mul_comm (n / y) y]
  split
  · rw [Int.one_mul]; omega
  · rw [Int.zero_mul]; omega
theorem round_big (x places v P : Int) (k : Nat) (w : World) (hx1 : -9223372036854775807 ≤ x) (hx2 : x ≤ 9223372036854775807) (hp1 : -15 ≤ places) (hp2 : places ≤ 3) (hk : (k : Int) = 4 - places) (hq : QuotIs 0 (sizeV x) (p10 k) v) (hP : v * (p10 k : Int) = P) (hP0 : 0 ≤ P) (hPu : P < 18446744073709551616) (hb : 9223372036854775807 < P) :
    Calls Try.prog 60 #[.int .i64 x, .int .i64 places] w fun e w' => e = .returned (.tuple #[.int .i64 0, .int .i64 2]) ∧ ∃ n, w' = w.drewN n := by
  go_enter Try.func60, Try.ntmps60
  go_wp2_with (first | (go_at_call 74; refine (may_t _ _ (by omega)).mono ?_; rintro e w' ⟨rfl, rfl⟩))
  go_loop [6, 17] (fun st i => ∃ j : Nat, j ≤ k ∧ i = .int .i64 j ∧ st = .int .u64 (p10 j : Nat)) (fun _ i => k - (intOf i).toNat)
  case atStart => exact ⟨0, Nat.zero_le _, rfl, rfl⟩
  case round =>
    obtain ⟨j, hj, rfl, rfl⟩ := hrel
    by_cases hlt : j < k
    · have h18 := p10_18 (j := j) (by omega)
      have HS := Lib.hid (p10_succ j)
      have hlt' : (j : Int) < 4 - places := by omega
      go_wp2
      go_round
      case rel => exact ⟨j + 1, by omega, by go_num, by rw [HS.out]; go_num⟩
      case measure => simp [intOf]; omega
    · obtain rfl : j = k := by omega
      have hnlt : ¬ (j : Int) < 4 - places := by omega
      go_wp2_with (first | (go_at_call 79; refine (size_any _ _ (by omega) (by omega)).mono ?_; rintro e w' ⟨rfl, rfl⟩) | (go_at_call 78; refine (hq _).mono ?_; rintro e w' ⟨rfl, n, rfl⟩) | (go_at_call 77; refine (signed_big _ _ _ (by omega)).mono ?_; rintro e w' ⟨rfl, rfl⟩))
      go_ret2
      exact ⟨rfl, n, rfl⟩
theorem round_pos (x places v P : Int) (k : Nat) (w : World) (hx1 : -9223372036854775807 ≤ x) (hx2 : x ≤ 9223372036854775807) (hp1 : -15 ≤ places) (hp2 : places ≤ 3) (hk : (k : Int) = 4 - places) (hq : QuotIs 0 (sizeV x) (p10 k) v) (hP : v * (p10 k : Int) = P) (hP0 : 0 ≤ P) (hPu : P < 18446744073709551616) (hb : P ≤ 9223372036854775807) (hx0 : 0 ≤ x) :
    Calls Try.prog 60 #[.int .i64 x, .int .i64 places] w fun e w' => e = .returned (.tuple #[.int .i64 P, .int .i64 0]) ∧ ∃ n, w' = w.drewN n := by
  have dx : decide (x < 0) = false := decide_eq_false (by omega)
  go_enter Try.func60, Try.ntmps60
  go_wp2_with (first | (go_at_call 74; refine (may_t _ _ (by omega)).mono ?_; rintro e w' ⟨rfl, rfl⟩))
  go_loop [6, 17] (fun st i => ∃ j : Nat, j ≤ k ∧ i = .int .i64 j ∧ st = .int .u64 (p10 j : Nat)) (fun _ i => k - (intOf i).toNat)
  case atStart => exact ⟨0, Nat.zero_le _, rfl, rfl⟩
  case round =>
    obtain ⟨j, hj, rfl, rfl⟩ := hrel
    by_cases hlt : j < k
    · have h18 := p10_18 (j := j) (by omega)
      have HS := Lib.hid (p10_succ j)
      have hlt' : (j : Int) < 4 - places := by omega
      go_wp2
      go_round
      case rel => exact ⟨j + 1, by omega, by go_num, by rw [HS.out]; go_num⟩
      case measure => simp [intOf]; omega
    · obtain rfl : j = k := by omega
      have hnlt : ¬ (j : Int) < 4 - places := by omega
      go_wp2_with (first | (go_at_call 79; refine (size_any _ _ (by omega) (by omega)).mono ?_; rintro e w' ⟨rfl, rfl⟩) | (go_at_call 78; refine (hq _).mono ?_; rintro e w' ⟨rfl, n, rfl⟩) | (go_at_call 77; refine (signed_pos _ _ (by omega) (by omega)).mono ?_; rintro e w' ⟨rfl, rfl⟩))
      go_ret2
      exact ⟨rfl, n, rfl⟩
theorem round_neg (x places v P : Int) (k : Nat) (w : World) (hx1 : -9223372036854775807 ≤ x) (hx2 : x ≤ 9223372036854775807) (hp1 : -15 ≤ places) (hp2 : places ≤ 3) (hk : (k : Int) = 4 - places) (hq : QuotIs 0 (sizeV x) (p10 k) v) (hP : v * (p10 k : Int) = P) (hP0 : 0 ≤ P) (hPu : P < 18446744073709551616) (hb : P ≤ 9223372036854775807) (hx0 : x < 0) :
    Calls Try.prog 60 #[.int .i64 x, .int .i64 places] w fun e w' => e = .returned (.tuple #[.int .i64 (-P), .int .i64 0]) ∧ ∃ n, w' = w.drewN n := by
  have dx : decide (x < 0) = true := decide_eq_true hx0
  go_enter Try.func60, Try.ntmps60
  go_wp2_with (first | (go_at_call 74; refine (may_t _ _ (by omega)).mono ?_; rintro e w' ⟨rfl, rfl⟩))
  go_loop [6, 17] (fun st i => ∃ j : Nat, j ≤ k ∧ i = .int .i64 j ∧ st = .int .u64 (p10 j : Nat)) (fun _ i => k - (intOf i).toNat)
  case atStart => exact ⟨0, Nat.zero_le _, rfl, rfl⟩
  case round =>
    obtain ⟨j, hj, rfl, rfl⟩ := hrel
    by_cases hlt : j < k
    · have h18 := p10_18 (j := j) (by omega)
      have HS := Lib.hid (p10_succ j)
      have hlt' : (j : Int) < 4 - places := by omega
      go_wp2
      go_round
      case rel => exact ⟨j + 1, by omega, by go_num, by rw [HS.out]; go_num⟩
      case measure => simp [intOf]; omega
    · obtain rfl : j = k := by omega
      have hnlt : ¬ (j : Int) < 4 - places := by omega
      go_wp2_with (first | (go_at_call 79; refine (size_any _ _ (by omega) (by omega)).mono ?_; rintro e w' ⟨rfl, rfl⟩) | (go_at_call 78; refine (hq _).mono ?_; rintro e w' ⟨rfl, n, rfl⟩) | (go_at_call 77; refine (signed_neg _ _ (by omega) (by omega)).mono ?_; rintro e w' ⟨rfl, rfl⟩))
      go_ret2
      exact ⟨rfl, n, rfl⟩
/-- Rounded, of a size. -/
theorem rnd_room {n : Int} {k : Nat} (h0 : 0 ≤ n) (h1 : n ≤ 9223372036854775807) (hk1 : 1 ≤ k) (hk : k ≤ 19) : 0 ≤ rnd n (p10 k) ∧ rnd n (p10 k) < 18446744073709551616 := by
  have h := rnd_bd (n := n) (y := (p10 k : Int)) h0 (by have := p10_pos k; omega)
  have := p10_19 hk
  omega
/-- A number rounded to so many places; how it can't be. -/
def roundStep (places : Int) : Nat := p10 (4 - places).toNat
def roundOk (x places : Int) : Bool := mayOk x && (decide (3 < places) || decide (places < -15) || decide (rnd (sizeV x) (roundStep places) ≤ 9223372036854775807))
def roundN (x places : Int) : Int := if 3 < places then x else if places < -15 then 0 else if x < 0 then -rnd (sizeV x) (roundStep places) else rnd (sizeV x) (roundStep places)
theorem round_any (x places : Int) (w : World) (hx : I64 x) (hp : I64 places) : Calls Try.prog 60 #[.int .i64 x, .int .i64 places] w fun e w' => e = .returned (.tuple #[.int .i64 (okV (roundOk x places) (roundN x places)), .int .i64 (okC (roundOk x places))]) ∧ ∃ n, w' = w.drewN n := by
  obtain ⟨hx1, hx2⟩ := hx
  obtain ⟨hp1, hp2⟩ := hp
  by_cases hm : x = -9223372036854775808
  · have ok : roundOk x places = false := by unfold roundOk; rw [mayOk_f hm]; rfl
    rw [okV_f ok, okC_f ok]
    go_enter Try.func60, Try.ntmps60
    go_wp2_with (go_at_call 74; refine (may_f _ _ (by omega)).mono ?_; rintro e w' ⟨rfl, rfl⟩)
    go_ret2
    exact ⟨rfl, 0, rfl⟩
  have hx3 : -9223372036854775807 ≤ x := by omega
  have hmay := mayOk_t hx3
  by_cases h3 : 3 < places
  · have ok : roundOk x places = true := by unfold roundOk; rw [hmay, decide_eq_true h3]; rfl
    have hN : roundN x places = x := by unfold roundN; rw [if_pos h3]
    rw [okV_t ok, okC_t ok, hN]
    go_enter Try.func60, Try.ntmps60
    go_wp2_with (go_at_call 74; refine (may_t _ _ (by omega)).mono ?_; rintro e w' ⟨rfl, rfl⟩)
    go_ret2
    exact ⟨rfl, 0, rfl⟩
  by_cases h15 : places < -15
  · have ok : roundOk x places = true := by unfold roundOk; rw [hmay, decide_eq_true h15]; simp
    have hN : roundN x places = 0 := by unfold roundN; rw [if_neg h3, if_pos h15]
    rw [okV_t ok, okC_t ok, hN]
    go_enter Try.func60, Try.ntmps60
    go_wp2_with (go_at_call 74; refine (may_t _ _ (by omega)).mono ?_; rintro e w' ⟨rfl, rfl⟩)
    go_ret2
    exact ⟨rfl, 0, rfl⟩
  have hk : (((4 - places).toNat : Nat) : Int) = 4 - places := by omega
  generalize hkk : (4 - places).toNat = k at hk
  have hst : roundStep places = p10 k := by unfold roundStep; rw [hkk]
  have hsz := sizeV_range hx3 hx2
  have h10 := p10_1 (j := k) (by omega)
  have h19 := p10_19 (j := k) (by omega)
  have hq := quot_0 (sizeV x) (p10 k) hsz.1 (by omega) (by omega) (by omega)
  have hr := qr_rnd (n := sizeV x) (y := (p10 k : Int)) hsz.1 hsz.2 (by omega)
  have hroom := rnd_room (k := k) hsz.1 hsz.2 (by omega) (by omega)
  by_cases hb : 9223372036854775807 < rnd (sizeV x) (p10 k)
  · have ok : roundOk x places = false := by unfold roundOk; rw [hst, decide_eq_false h3, decide_eq_false h15, decide_eq_false (by omega)]; simp
    rw [okV_f ok, okC_f ok]
    exact round_big x places _ _ k w hx3 hx2 (by omega) (by omega) hk hq hr.1 hroom.1 hroom.2 hb
  · have ok : roundOk x places = true := by unfold roundOk; rw [hst, hmay, decide_eq_true (show rnd (sizeV x) (p10 k) ≤ 9223372036854775807 by omega)]; simp
    rw [okV_t ok, okC_t ok]
    by_cases h0 : x < 0
    · have hN : roundN x places = -rnd (sizeV x) (p10 k) := by unfold roundN; rw [if_neg h3, if_neg h15, if_pos h0, hst]
      rw [hN]
      exact round_neg x places _ _ k w hx3 hx2 (by omega) (by omega) hk hq hr.1 hroom.1 hroom.2 (by omega) h0
    · have hN : roundN x places = rnd (sizeV x) (p10 k) := by unfold roundN; rw [if_neg h3, if_neg h15, if_neg h0, hst]
      rw [hN]
      exact round_pos x places _ _ k w hx3 hx2 (by omega) (by omega) hk hq hr.1 hroom.1 hroom.2 (by omega) (by omega)
end Go.Proofs.Ytfpbcokfianjaaa
