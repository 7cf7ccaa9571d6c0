/- The contract of the document's Round, of any int64 and any places, in the words of dec.Round's. Nothing is written. -/
import Derived.Test.YtimcdeibjiekpaaDoorRound
import Derived.Test.YtimcdeibjiekpaaDoorRMod
namespace Go.Proofs.YtimcdeibjiekpaaDoor
open Go.Shelf Go.RowKit
set_option linter.unusedVariables false
theorem rsize_any (x : Int) (w : World) (h1 : -9223372036854775807 ≤ x) (h2 : x ≤ 9223372036854775807) : Calls Tryd.prog 41 #[.int .i64 x] w fun e w' => e = .returned (.tuple #[.int .u64 (sizeV x), .bool (decide (x < 0))]) ∧ w' = w := by
  by_cases h0 : x < 0
  · rw [sizeV_neg h0, decide_eq_true h0]
    go_enter Tryd.func41, Tryd.ntmps41
    go_wp2
    go_ret2
    exact ⟨rfl, rfl⟩
  · rw [sizeV_pos (by omega), decide_eq_false h0]
    go_enter Tryd.func41, Tryd.ntmps41
    go_wp2
    go_ret2
    exact ⟨rfl, rfl⟩
theorem rsigned_big (n : Int) (b : Bool) (w : World) (h : 9223372036854775807 < n) : Calls Tryd.prog 42 #[.int .u64 n, .bool b] w fun e w' => e = .returned (.tuple #[.int .i64 0, .int .i64 2]) ∧ w' = w := by
  go_enter Tryd.func42, Tryd.ntmps42
  go_wp2
  go_ret2
  exact ⟨rfl, rfl⟩
theorem rsigned_pos (n : Int) (w : World) (h0 : 0 ≤ n) (h : n ≤ 9223372036854775807) : Calls Tryd.prog 42 #[.int .u64 n, .bool false] w fun e w' => e = .returned (.tuple #[.int .i64 n, .int .i64 0]) ∧ w' = w := by
  go_enter Tryd.func42, Tryd.ntmps42
  go_wp2
  go_ret2
  exact ⟨rfl, rfl⟩
theorem rsigned_neg (n : Int) (w : World) (h0 : 0 ≤ n) (h : n ≤ 9223372036854775807) : Calls Tryd.prog 42 #[.int .u64 n, .bool true] w fun e w' => e = .returned (.tuple #[.int .i64 (-n), .int .i64 0]) ∧ w' = w := by
  go_enter Tryd.func42, Tryd.ntmps42
  go_wp2
  go_ret2
  exact ⟨rfl, rfl⟩
theorem rround_big0 (x places q r P g : Int) (k : Nat) (w : World) (hx1 : -9223372036854775807 ≤ x) (hx2 : x ≤ 9223372036854775807) (hp1 : -15 ≤ places) (hp2 : places ≤ 3) (hk : (k : Int) = 4 - places) (h10 : 10 ≤ p10 k) (h19 : p10 k ≤ 10000000000000000000) (hs0 : 0 ≤ sizeV x) (hs1 : sizeV x ≤ 9223372036854775807) (hq : sizeV x / (p10 k : Int) = q) (hr : sizeV x % (p10 k : Int) = r) (hq0 : 0 ≤ q) (hq1 : q ≤ 9223372036854775807) (hr0 : 0 ≤ r) (hr1 : r < p10 k) (hg : 9223372036854775807 / (p10 k : Int) = g) (hg0 : 0 ≤ g) (hg1 : g ≤ 9223372036854775807) (hu : r < (p10 k : Int) / 2) (hb : g < q) :
    Calls Tryd.prog 26 #[.int .i64 x, .int .i64 places] w fun e w' => e = .returned (.tuple #[.int .i64 0, .int .i64 2]) ∧ w' = w := by
  have hyz : ((p10 k : Int) == 0) = false := by rw [beq_eq_false_iff_ne]; omega
  go_enter Tryd.func26, Tryd.ntmps26
  go_wp2_with (first | (go_at_call 17; refine (rmay_t _ _ (by omega)).mono ?_; rintro e w' ⟨rfl, rfl⟩))
  go_loop [6, 7] (fun st i => ∃ j : Nat, j ≤ k ∧ i = .int .i64 (4 - (j : Int)) ∧ st = .int .u64 (p10 j : Nat)) (fun _ i => (intOf i - places).toNat)
  case atStart => exact ⟨0, Nat.zero_le _, rfl, rfl⟩
  case round =>
    obtain ⟨j, hj, rfl, rfl⟩ := hrel
    by_cases hlt : j < k
    · have h18 := p10_18 (j := j) (by omega)
      have HS := Lib.hid (p10_succ j)
      have hlt' : places < 4 - (j : Int) := by omega
      go_wp2
      go_round
      case rel => exact ⟨j + 1, by omega, by go_num, by rw [HS.out]; go_num⟩
      case measure => simp [intOf]; omega
    · obtain rfl : j = k := by omega
      have hnlt : ¬ places < 4 - (j : Int) := by omega
      go_wp2_with (first | (go_at_call 41; refine (rsize_any _ _ (by omega) (by omega)).mono ?_; rintro e w' ⟨rfl, rfl⟩))
      go_ret2
      exact ⟨rfl, rfl⟩
theorem rround_pos0 (x places q r P g : Int) (k : Nat) (w : World) (hx1 : -9223372036854775807 ≤ x) (hx2 : x ≤ 9223372036854775807) (hp1 : -15 ≤ places) (hp2 : places ≤ 3) (hk : (k : Int) = 4 - places) (h10 : 10 ≤ p10 k) (h19 : p10 k ≤ 10000000000000000000) (hs0 : 0 ≤ sizeV x) (hs1 : sizeV x ≤ 9223372036854775807) (hq : sizeV x / (p10 k : Int) = q) (hr : sizeV x % (p10 k : Int) = r) (hq0 : 0 ≤ q) (hq1 : q ≤ 9223372036854775807) (hr0 : 0 ≤ r) (hr1 : r < p10 k) (hg : 9223372036854775807 / (p10 k : Int) = g) (hg0 : 0 ≤ g) (hg1 : g ≤ 9223372036854775807) (hu : r < (p10 k : Int) / 2) (hb : q ≤ g) (hP : (q) * (p10 k : Int) = P) (hP0 : 0 ≤ P) (hP1 : P ≤ 9223372036854775807) (hx0 : 0 ≤ x) :
    Calls Tryd.prog 26 #[.int .i64 x, .int .i64 places] w fun e w' => e = .returned (.tuple #[.int .i64 P, .int .i64 0]) ∧ w' = w := by
  have dx : decide (x < 0) = false := decide_eq_false (by omega)
  have hyz : ((p10 k : Int) == 0) = false := by rw [beq_eq_false_iff_ne]; omega
  go_enter Tryd.func26, Tryd.ntmps26
  go_wp2_with (first | (go_at_call 17; refine (rmay_t _ _ (by omega)).mono ?_; rintro e w' ⟨rfl, rfl⟩))
  go_loop [6, 7] (fun st i => ∃ j : Nat, j ≤ k ∧ i = .int .i64 (4 - (j : Int)) ∧ st = .int .u64 (p10 j : Nat)) (fun _ i => (intOf i - places).toNat)
  case atStart => exact ⟨0, Nat.zero_le _, rfl, rfl⟩
  case round =>
    obtain ⟨j, hj, rfl, rfl⟩ := hrel
    by_cases hlt : j < k
    · have h18 := p10_18 (j := j) (by omega)
      have HS := Lib.hid (p10_succ j)
      have hlt' : places < 4 - (j : Int) := by omega
      go_wp2
      go_round
      case rel => exact ⟨j + 1, by omega, by go_num, by rw [HS.out]; go_num⟩
      case measure => simp [intOf]; omega
    · obtain rfl : j = k := by omega
      have hnlt : ¬ places < 4 - (j : Int) := by omega
      go_wp2_with (first | (go_at_call 41; refine (rsize_any _ _ (by omega) (by omega)).mono ?_; rintro e w' ⟨rfl, rfl⟩) | (go_at_call 42; refine (rsigned_pos _ _ (by omega) (by omega)).mono ?_; rintro e w' ⟨rfl, rfl⟩))
      go_ret2
      exact ⟨rfl, rfl⟩
theorem rround_neg0 (x places q r P g : Int) (k : Nat) (w : World) (hx1 : -9223372036854775807 ≤ x) (hx2 : x ≤ 9223372036854775807) (hp1 : -15 ≤ places) (hp2 : places ≤ 3) (hk : (k : Int) = 4 - places) (h10 : 10 ≤ p10 k) (h19 : p10 k ≤ 10000000000000000000) (hs0 : 0 ≤ sizeV x) (hs1 : sizeV x ≤ 9223372036854775807) (hq : sizeV x / (p10 k : Int) = q) (hr : sizeV x % (p10 k : Int) = r) (hq0 : 0 ≤ q) (hq1 : q ≤ 9223372036854775807) (hr0 : 0 ≤ r) (hr1 : r < p10 k) (hg : 9223372036854775807 / (p10 k : Int) = g) (hg0 : 0 ≤ g) (hg1 : g ≤ 9223372036854775807) (hu : r < (p10 k : Int) / 2) (hb : q ≤ g) (hP : (q) * (p10 k : Int) = P) (hP0 : 0 ≤ P) (hP1 : P ≤ 9223372036854775807) (hx0 : x < 0) :
    Calls Tryd.prog 26 #[.int .i64 x, .int .i64 places] w fun e w' => e = .returned (.tuple #[.int .i64 (-P), .int .i64 0]) ∧ w' = w := by
  have dx : decide (x < 0) = true := decide_eq_true hx0
  have hyz : ((p10 k : Int) == 0) = false := by rw [beq_eq_false_iff_ne]; omega
  go_enter Tryd.func26, Tryd.ntmps26
  go_wp2_with (first | (go_at_call 17; refine (rmay_t _ _ (by omega)).mono ?_; rintro e w' ⟨rfl, rfl⟩))
  go_loop [6, 7] (fun st i => ∃ j : Nat, j ≤ k ∧ i = .int .i64 (4 - (j : Int)) ∧ st = .int .u64 (p10 j : Nat)) (fun _ i => (intOf i - places).toNat)
  case atStart => exact ⟨0, Nat.zero_le _, rfl, rfl⟩
  case round =>
    obtain ⟨j, hj, rfl, rfl⟩ := hrel
    by_cases hlt : j < k
    · have h18 := p10_18 (j := j) (by omega)
      have HS := Lib.hid (p10_succ j)
      have hlt' : places < 4 - (j : Int) := by omega
      go_wp2
      go_round
      case rel => exact ⟨j + 1, by omega, by go_num, by rw [HS.out]; go_num⟩
      case measure => simp [intOf]; omega
    · obtain rfl : j = k := by omega
      have hnlt : ¬ places < 4 - (j : Int) := by omega
      go_wp2_with (first | (go_at_call 41; refine (rsize_any _ _ (by omega) (by omega)).mono ?_; rintro e w' ⟨rfl, rfl⟩) | (go_at_call 42; refine (rsigned_neg _ _ (by omega) (by omega)).mono ?_; rintro e w' ⟨rfl, rfl⟩))
      go_ret2
      exact ⟨rfl, rfl⟩
theorem rround_big1 (x places q r P g : Int) (k : Nat) (w : World) (hx1 : -9223372036854775807 ≤ x) (hx2 : x ≤ 9223372036854775807) (hp1 : -15 ≤ places) (hp2 : places ≤ 3) (hk : (k : Int) = 4 - places) (h10 : 10 ≤ p10 k) (h19 : p10 k ≤ 10000000000000000000) (hs0 : 0 ≤ sizeV x) (hs1 : sizeV x ≤ 9223372036854775807) (hq : sizeV x / (p10 k : Int) = q) (hr : sizeV x % (p10 k : Int) = r) (hq0 : 0 ≤ q) (hq1 : q ≤ 9223372036854775807) (hr0 : 0 ≤ r) (hr1 : r < p10 k) (hg : 9223372036854775807 / (p10 k : Int) = g) (hg0 : 0 ≤ g) (hg1 : g ≤ 9223372036854775807) (hu : (p10 k : Int) / 2 ≤ r) (hb : g < q + 1) :
    Calls Tryd.prog 26 #[.int .i64 x, .int .i64 places] w fun e w' => e = .returned (.tuple #[.int .i64 0, .int .i64 2]) ∧ w' = w := by
  have hyz : ((p10 k : Int) == 0) = false := by rw [beq_eq_false_iff_ne]; omega
  go_enter Tryd.func26, Tryd.ntmps26
  go_wp2_with (first | (go_at_call 17; refine (rmay_t _ _ (by omega)).mono ?_; rintro e w' ⟨rfl, rfl⟩))
  go_loop [6, 7] (fun st i => ∃ j : Nat, j ≤ k ∧ i = .int .i64 (4 - (j : Int)) ∧ st = .int .u64 (p10 j : Nat)) (fun _ i => (intOf i - places).toNat)
  case atStart => exact ⟨0, Nat.zero_le _, rfl, rfl⟩
  case round =>
    obtain ⟨j, hj, rfl, rfl⟩ := hrel
    by_cases hlt : j < k
    · have h18 := p10_18 (j := j) (by omega)
      have HS := Lib.hid (p10_succ j)
      have hlt' : places < 4 - (j : Int) := by omega
      go_wp2
      go_round
      case rel => exact ⟨j + 1, by omega, by go_num, by rw [HS.out]; go_num⟩
      case measure => simp [intOf]; omega
    · obtain rfl : j = k := by omega
      have hnlt : ¬ places < 4 - (j : Int) := by omega
      go_wp2_with (first | (go_at_call 41; refine (rsize_any _ _ (by omega) (by omega)).mono ?_; rintro e w' ⟨rfl, rfl⟩))
      go_ret2
      exact ⟨rfl, rfl⟩
theorem rround_pos1 (x places q r P g : Int) (k : Nat) (w : World) (hx1 : -9223372036854775807 ≤ x) (hx2 : x ≤ 9223372036854775807) (hp1 : -15 ≤ places) (hp2 : places ≤ 3) (hk : (k : Int) = 4 - places) (h10 : 10 ≤ p10 k) (h19 : p10 k ≤ 10000000000000000000) (hs0 : 0 ≤ sizeV x) (hs1 : sizeV x ≤ 9223372036854775807) (hq : sizeV x / (p10 k : Int) = q) (hr : sizeV x % (p10 k : Int) = r) (hq0 : 0 ≤ q) (hq1 : q ≤ 9223372036854775807) (hr0 : 0 ≤ r) (hr1 : r < p10 k) (hg : 9223372036854775807 / (p10 k : Int) = g) (hg0 : 0 ≤ g) (hg1 : g ≤ 9223372036854775807) (hu : (p10 k : Int) / 2 ≤ r) (hb : q + 1 ≤ g) (hP : (q + 1) * (p10 k : Int) = P) (hP0 : 0 ≤ P) (hP1 : P ≤ 9223372036854775807) (hx0 : 0 ≤ x) :
    Calls Tryd.prog 26 #[.int .i64 x, .int .i64 places] w fun e w' => e = .returned (.tuple #[.int .i64 P, .int .i64 0]) ∧ w' = w := by
  have dx : decide (x < 0) = false := decide_eq_false (by omega)
  have hyz : ((p10 k : Int) == 0) = false := by rw [beq_eq_false_iff_ne]; omega
  go_enter Tryd.func26, Tryd.ntmps26
  go_wp2_with (first | (go_at_call 17; refine (rmay_t _ _ (by omega)).mono ?_; rintro e w' ⟨rfl, rfl⟩))
  go_loop [6, 7] (fun st i => ∃ j : Nat, j ≤ k ∧ i = .int .i64 (4 - (j : Int)) ∧ st = .int .u64 (p10 j : Nat)) (fun _ i => (intOf i - places).toNat)
  case atStart => exact ⟨0, Nat.zero_le _, rfl, rfl⟩
  case round =>
    obtain ⟨j, hj, rfl, rfl⟩ := hrel
    by_cases hlt : j < k
    · have h18 := p10_18 (j := j) (by omega)
      have HS := Lib.hid (p10_succ j)
      have hlt' : places < 4 - (j : Int) := by omega
      go_wp2
      go_round
      case rel => exact ⟨j + 1, by omega, by go_num, by rw [HS.out]; go_num⟩
      case measure => simp [intOf]; omega
    · obtain rfl : j = k := by omega
      have hnlt : ¬ places < 4 - (j : Int) := by omega
      go_wp2_with (first | (go_at_call 41; refine (rsize_any _ _ (by omega) (by omega)).mono ?_; rintro e w' ⟨rfl, rfl⟩) | (go_at_call 42; refine (rsigned_pos _ _ (by omega) (by omega)).mono ?_; rintro e w' ⟨rfl, rfl⟩))
      go_ret2
      exact ⟨rfl, rfl⟩
theorem rround_neg1 (x places q r P g : Int) (k : Nat) (w : World) (hx1 : -9223372036854775807 ≤ x) (hx2 : x ≤ 9223372036854775807) (hp1 : -15 ≤ places) (hp2 : places ≤ 3) (hk : (k : Int) = 4 - places) (h10 : 10 ≤ p10 k) (h19 : p10 k ≤ 10000000000000000000) (hs0 : 0 ≤ sizeV x) (hs1 : sizeV x ≤ 9223372036854775807) (hq : sizeV x / (p10 k : Int) = q) (hr : sizeV x % (p10 k : Int) = r) (hq0 : 0 ≤ q) (hq1 : q ≤ 9223372036854775807) (hr0 : 0 ≤ r) (hr1 : r < p10 k) (hg : 9223372036854775807 / (p10 k : Int) = g) (hg0 : 0 ≤ g) (hg1 : g ≤ 9223372036854775807) (hu : (p10 k : Int) / 2 ≤ r) (hb : q + 1 ≤ g) (hP : (q + 1) * (p10 k : Int) = P) (hP0 : 0 ≤ P) (hP1 : P ≤ 9223372036854775807) (hx0 : x < 0) :
    Calls Tryd.prog 26 #[.int .i64 x, .int .i64 places] w fun e w' => e = .returned (.tuple #[.int .i64 (-P), .int .i64 0]) ∧ w' = w := by
  have dx : decide (x < 0) = true := decide_eq_true hx0
  have hyz : ((p10 k : Int) == 0) = false := by rw [beq_eq_false_iff_ne]; omega
  go_enter Tryd.func26, Tryd.ntmps26
  go_wp2_with (first | (go_at_call 17; refine (rmay_t _ _ (by omega)).mono ?_; rintro e w' ⟨rfl, rfl⟩))
  go_loop [6, 7] (fun st i => ∃ j : Nat, j ≤ k ∧ i = .int .i64 (4 - (j : Int)) ∧ st = .int .u64 (p10 j : Nat)) (fun _ i => (intOf i - places).toNat)
  case atStart => exact ⟨0, Nat.zero_le _, rfl, rfl⟩
  case round =>
    obtain ⟨j, hj, rfl, rfl⟩ := hrel
    by_cases hlt : j < k
    · have h18 := p10_18 (j := j) (by omega)
      have HS := Lib.hid (p10_succ j)
      have hlt' : places < 4 - (j : Int) := by omega
      go_wp2
      go_round
      case rel => exact ⟨j + 1, by omega, by go_num, by rw [HS.out]; go_num⟩
      case measure => simp [intOf]; omega
    · obtain rfl : j = k := by omega
      have hnlt : ¬ places < 4 - (j : Int) := by omega
      go_wp2_with (first | (go_at_call 41; refine (rsize_any _ _ (by omega) (by omega)).mono ?_; rintro e w' ⟨rfl, rfl⟩) | (go_at_call 42; refine (rsigned_neg _ _ (by omega) (by omega)).mono ?_; rintro e w' ⟨rfl, rfl⟩))
      go_ret2
      exact ⟨rfl, rfl⟩
theorem p10_even {k : Nat} (h : 1 ≤ k) : p10 k = 2 * (p10 k / 2) := by
  obtain ⟨j, rfl⟩ : ∃ j, k = j + 1 := ⟨k - 1, by omega⟩
  rw [p10_succ]; omega
theorem rround_any (x places : Int) (w : World) (hx : I64 x) (hp : I64 places) : Calls Tryd.prog 26 #[.int .i64 x, .int .i64 places] w fun e w' => e = .returned (.tuple #[.int .i64 (okV (roundOk x places) (roundN x places)), .int .i64 (okC (roundOk x places))]) ∧ w' = w := by
  obtain ⟨hx1, hx2⟩ := hx
  obtain ⟨hp1, hp2⟩ := hp
  by_cases hm : x = -9223372036854775808
  · have ok : roundOk x places = false := by unfold roundOk; rw [mayOk_f hm]; rfl
    rw [okV_f ok, okC_f ok]
    go_enter Tryd.func26, Tryd.ntmps26
    go_wp2_with (go_at_call 17; refine (rmay_f _ _ (by omega)).mono ?_; rintro e w' ⟨rfl, rfl⟩)
    go_ret2
    exact ⟨rfl, rfl⟩
  have hx3 : -9223372036854775807 ≤ x := by omega
  have hmay := mayOk_t hx3
  by_cases h3 : 3 < places
  · have ok : roundOk x places = true := by unfold roundOk; rw [hmay, decide_eq_true h3]; rfl
    have hN : roundN x places = x := by unfold roundN; rw [if_pos h3]
    rw [okV_t ok, okC_t ok, hN]
    go_enter Tryd.func26, Tryd.ntmps26
    go_wp2_with (go_at_call 17; refine (rmay_t _ _ (by omega)).mono ?_; rintro e w' ⟨rfl, rfl⟩)
    go_ret2
    exact ⟨rfl, rfl⟩
  by_cases h15 : places < -15
  · have ok : roundOk x places = true := by unfold roundOk; rw [hmay, decide_eq_true h15]; simp
    have hN : roundN x places = 0 := by unfold roundN; rw [if_neg h3, if_pos h15]
    rw [okV_t ok, okC_t ok, hN]
    go_enter Tryd.func26, Tryd.ntmps26
    go_wp2_with (go_at_call 17; refine (rmay_t _ _ (by omega)).mono ?_; rintro e w' ⟨rfl, rfl⟩)
    go_ret2
    exact ⟨rfl, rfl⟩
  have hk : (((4 - places).toNat : Nat) : Int) = 4 - places := by omega
  generalize hkk : (4 - places).toNat = k at hk
  have hst : roundStep places = p10 k := by unfold roundStep; rw [hkk]
  have hsz := sizeV_range hx3 hx2
  have h10 := p10_1 (j := k) (by omega)
  have h19 := p10_19 (j := k) (by omega)
  have hev := p10_even (k := k) (by omega)
  have hypos : (0 : Int) < (p10 k : Int) := by omega
  have hroom := rnd_room (k := k) hsz.1 hsz.2 (by omega) (by omega)
  have hq0 : 0 ≤ sizeV x / (p10 k : Int) := Int.ediv_nonneg hsz.1 (by omega)
  have hq1 : sizeV x / (p10 k : Int) ≤ sizeV x := Int.ediv_le_self _ hsz.1
  have hr0 := Int.emod_nonneg (sizeV x) (show (p10 k : Int) ≠ 0 by omega)
  have hr1 := Int.emod_lt_of_pos (sizeV x) hypos
  have hg0 : (0 : Int) ≤ 9223372036854775807 / (p10 k : Int) := Int.ediv_nonneg (by omega) (by omega)
  have hg1 : 9223372036854775807 / (p10 k : Int) ≤ 9223372036854775807 := Int.ediv_le_self _ (by omega)
  have hle : ∀ v : Int, v ≤ 9223372036854775807 / (p10 k : Int) ↔ v * (p10 k : Int) ≤ 9223372036854775807 := fun v => Int.le_ediv_iff_mul_le hypos
  by_cases hu : (p10 k : Int) / 2 ≤ sizeV x % (p10 k : Int)
  · have hrn : rnd (sizeV x) (p10 k) = (sizeV x / (p10 k : Int) + 1) * (p10 k : Int) := by unfold rnd; rw [if_pos (by omega)]
    by_cases hb : 9223372036854775807 < rnd (sizeV x) (p10 k)
    · have ok : roundOk x places = false := by unfold roundOk; rw [hst, decide_eq_false h3, decide_eq_false h15, decide_eq_false (by omega)]; simp
      rw [okV_f ok, okC_f ok]
      exact rround_big1 x places _ _ 0 _ k w hx3 hx2 (by omega) (by omega) hk h10 h19 hsz.1 hsz.2 rfl rfl hq0 (by omega) hr0 hr1 rfl hg0 hg1 hu (Int.not_le.1 fun hc => by have hc2 := (hle (sizeV x / (p10 k : Int) + 1)).1 hc; rw [← hrn] at hc2; omega)
    · have ok : roundOk x places = true := by unfold roundOk; rw [hst, hmay, decide_eq_true (show rnd (sizeV x) (p10 k) ≤ 9223372036854775807 by omega)]; simp
      rw [okV_t ok, okC_t ok]
      have hvg := (hle (sizeV x / (p10 k : Int) + 1)).2 (by rw [← hrn]; omega)
      by_cases h0 : x < 0
      · have hN : roundN x places = -rnd (sizeV x) (p10 k) := by unfold roundN; rw [if_neg h3, if_neg h15, if_pos h0, hst]
        rw [hN]
        exact rround_neg1 x places _ _ _ _ k w hx3 hx2 (by omega) (by omega) hk h10 h19 hsz.1 hsz.2 rfl rfl hq0 (by omega) hr0 hr1 rfl hg0 hg1 hu hvg hrn.symm hroom.1 (by omega) h0
      · have hN : roundN x places = rnd (sizeV x) (p10 k) := by unfold roundN; rw [if_neg h3, if_neg h15, if_neg h0, hst]
        rw [hN]
        exact rround_pos1 x places _ _ _ _ k w hx3 hx2 (by omega) (by omega) hk h10 h19 hsz.1 hsz.2 rfl rfl hq0 (by omega) hr0 hr1 rfl hg0 hg1 hu hvg hrn.symm hroom.1 (by omega) (by omega)
  · have hrn : rnd (sizeV x) (p10 k) = (sizeV x / (p10 k : Int)) * (p10 k : Int) := by unfold rnd; rw [if_neg (by omega), Int.add_zero]
    by_cases hb : 9223372036854775807 < rnd (sizeV x) (p10 k)
    · have ok : roundOk x places = false := by unfold roundOk; rw [hst, decide_eq_false h3, decide_eq_false h15, decide_eq_false (by omega)]; simp
      rw [okV_f ok, okC_f ok]
      exact rround_big0 x places _ _ 0 _ k w hx3 hx2 (by omega) (by omega) hk h10 h19 hsz.1 hsz.2 rfl rfl hq0 (by omega) hr0 hr1 rfl hg0 hg1 (by omega) (Int.not_le.1 fun hc => by have hc2 := (hle (sizeV x / (p10 k : Int))).1 hc; rw [← hrn] at hc2; omega)
    · have ok : roundOk x places = true := by unfold roundOk; rw [hst, hmay, decide_eq_true (show rnd (sizeV x) (p10 k) ≤ 9223372036854775807 by omega)]; simp
      rw [okV_t ok, okC_t ok]
      have hvg := (hle (sizeV x / (p10 k : Int))).2 (by rw [← hrn]; omega)
      by_cases h0 : x < 0
      · have hN : roundN x places = -rnd (sizeV x) (p10 k) := by unfold roundN; rw [if_neg h3, if_neg h15, if_pos h0, hst]
        rw [hN]
        exact rround_neg0 x places _ _ _ _ k w hx3 hx2 (by omega) (by omega) hk h10 h19 hsz.1 hsz.2 rfl rfl hq0 (by omega) hr0 hr1 rfl hg0 hg1 (by omega) hvg hrn.symm hroom.1 (by omega) h0
      · have hN : roundN x places = rnd (sizeV x) (p10 k) := by unfold roundN; rw [if_neg h3, if_neg h15, if_neg h0, hst]
        rw [hN]
        exact rround_pos0 x places _ _ _ _ k w hx3 hx2 (by omega) (by omega) hk h10 h19 hsz.1 hsz.2 rfl rfl hq0 (by omega) hr0 hr1 rfl hg0 hg1 (by omega) hvg hrn.symm hroom.1 (by omega) (by omega)
end Go.Proofs.YtimcdeibjiekpaaDoor
