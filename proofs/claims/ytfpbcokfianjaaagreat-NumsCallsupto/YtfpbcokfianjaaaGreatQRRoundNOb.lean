/- The contract of the document's Round, of any int64 and any places, in the words of dec.Round's. Nothing is written. · The contract of the document's two (package orielref08): its functions of two numbers that may be, but POWER, in the words of the code's side. New memory alone is made. -/
import Derived.Test.YtfpbcokfianjaaaGreatQNTiRound
import Derived.Test.YtfpbcokfianjaaaGreatQModRMod
import Derived.Test.YtfpbcokfianjaaaGreatQNTzNOa
namespace Go.Proofs.YtfpbcokfianjaaaGreat
open Go.Shelf Go.RowKit
set_option linter.unusedVariables false
theorem rsize_any (x : Int) (w : World) (h1 : -9223372036854775807 ≤ x) (h2 : x ≤ 9223372036854775807) : Calls Tryz.prog 77 #[.int .i64 x] w fun e w' => e = .returned (.tuple #[.int .u64 (sizeV x), .bool (decide (x < 0))]) ∧ w' = w := by
  by_cases h0 : x < 0
  · rw [sizeV_neg h0, decide_eq_true h0]
    go_enter Tryz.func77, Tryz.ntmps77
    go_wp2
    go_ret2
    exact ⟨rfl, rfl⟩
  · rw [sizeV_pos (by omega), decide_eq_false h0]
    go_enter Tryz.func77, Tryz.ntmps77
    go_wp2
    go_ret2
    exact ⟨rfl, rfl⟩
theorem rsigned_pos (n : Int) (w : World) (h0 : 0 ≤ n) (h : n ≤ 9223372036854775807) : Calls Tryz.prog 78 #[.int .u64 n, .bool false] w fun e w' => e = .returned (.tuple #[.int .i64 n, .int .i64 0]) ∧ w' = w := by
  go_enter Tryz.func78, Tryz.ntmps78
  go_wp2
  go_ret2
  exact ⟨rfl, rfl⟩
theorem rsigned_neg (n : Int) (w : World) (h0 : 0 ≤ n) (h : n ≤ 9223372036854775807) : Calls Tryz.prog 78 #[.int .u64 n, .bool true] w fun e w' => e = .returned (.tuple #[.int .i64 (-n), .int .i64 0]) ∧ w' = w := by
  go_enter Tryz.func78, Tryz.ntmps78
  go_wp2
  go_ret2
  exact ⟨rfl, rfl⟩
theorem rround_big0 (x places q r P g : Int) (k : Nat) (w : World) (hx1 : -9223372036854775807 ≤ x) (hx2 : x ≤ 9223372036854775807) (hp1 : -15 ≤ places) (hp2 : places ≤ 3) (hk : (k : Int) = 4 - places) (h10 : 10 ≤ p10 k) (h19 : p10 k ≤ 10000000000000000000) (hs0 : 0 ≤ sizeV x) (hs1 : sizeV x ≤ 9223372036854775807) (hq : sizeV x / (p10 k : Int) = q) (hr : sizeV x % (p10 k : Int) = r) (hq0 : 0 ≤ q) (hq1 : q ≤ 9223372036854775807) (hr0 : 0 ≤ r) (hr1 : r < p10 k) (hg : 9223372036854775807 / (p10 k : Int) = g) (hg0 : 0 ≤ g) (hg1 : g ≤ 9223372036854775807) (hu : r < (p10 k : Int) / 2) (hb : g < q) :
    Calls Tryz.prog 44 #[.int .i64 x, .int .i64 places] w fun e w' => e = .returned (.tuple #[.int .i64 0, .int .i64 2]) ∧ w' = w := by
  have hyz : ((p10 k : Int) == 0) = false := by rw [beq_eq_false_iff_ne]; omega
  go_enter Tryz.func44, Tryz.ntmps44
  go_wp2_with (first | (go_at_call 37; refine (rmay_t _ _ (by omega)).mono ?_; rintro e w' ⟨rfl, rfl⟩))
  go_loop [6, 7] (fun st i => ∃ j : Nat, j ≤ k ∧ i = .int .i64 (4 - (j : Int)) ∧ st = .int .u64 (p10 j : Nat)) (fun _ i => (intOf i - places).toNat)
  case atStart => exact ⟨0, Nat.zero_le _, rfl, rfl⟩
  case round =>
    obtain ⟨j, hj, rfl, rfl⟩ := hrel
    by_cases hlt : j < k
    · have h18 := p10_18 (j := j) (by omega)
      have HS := Lib.hid (p10_succ j)
      have hlt' : places < 4 - (j : Int) := by omega
      go_wp2
      go_round
      case rel => exact ⟨j + 1, by omega, by go_num, by rw [HS.out]; go_num⟩
      case measure => simp [intOf]; omega
    · obtain rfl : j = k := by omega
      have hnlt : ¬ places < 4 - (j : Int) := by omega
      go_wp2_with (first | (go_at_call 77; refine (rsize_any _ _ (by omega) (by omega)).mono ?_; rintro e w' ⟨rfl, rfl⟩))
      go_ret2
      exact ⟨rfl, rfl⟩
theorem rround_pos0 (x places q r P g : Int) (k : Nat) (w : World) (hx1 : -9223372036854775807 ≤ x) (hx2 : x ≤ 9223372036854775807) (hp1 : -15 ≤ places) (hp2 : places ≤ 3) (hk : (k : Int) = 4 - places) (h10 : 10 ≤ p10 k) (h19 : p10 k ≤ 10000000000000000000) (hs0 : 0 ≤ sizeV x) (hs1 : sizeV x ≤ 9223372036854775807) (hq : sizeV x / (p10 k : Int) = q) (hr : sizeV x % (p10 k : Int) = r) (hq0 : 0 ≤ q) (hq1 : q ≤ 9223372036854775807) (hr0 : 0 ≤ r) (hr1 : r < p10 k) (hg : 9223372036854775807 / (p10 k : Int) = g) (hg0 : 0 ≤ g) (hg1 : g ≤ 9223372036854775807) (hu : r < (p10 k : Int) / 2) (hb : q ≤ g) (hP : (q) * (p10 k : Int) = P) (hP0 : 0 ≤ P) (hP1 : P ≤ 9223372036854775807) (hx0 : 0 ≤ x) :
    Calls Tryz.prog 44 #[.int .i64 x, .int .i64 places] w fun e w' => e = .returned (.tuple #[.int .i64 P, .int .i64 0]) ∧ w' = w := by
  have dx : decide (x < 0) = false := decide_eq_false (by omega)
  have hyz : ((p10 k : Int) == 0) = false := by rw [beq_eq_false_iff_ne]; omega
  go_enter Tryz.func44, Tryz.ntmps44
  go_wp2_with (first | (go_at_call 37; refine (rmay_t _ _ (by omega)).mono ?_; rintro e w' ⟨rfl, rfl⟩))
  go_loop [6, 7] (fun st i => ∃ j : Nat, j ≤ k ∧ i = .int .i64 (4 - (j : Int)) ∧ st = .int .u64 (p10 j : Nat)) (fun _ i => (intOf i - places).toNat)
  case atStart => exact ⟨0, Nat.zero_le _, rfl, rfl⟩
  case round =>
    obtain ⟨j, hj, rfl, rfl⟩ := hrel
    by_cases hlt : j < k
    · have h18 := p10_18 (j := j) (by omega)
      have HS := Lib.hid (p10_succ j)
      have hlt' : places < 4 - (j : Int) := by omega
      go_wp2
      go_round
      case rel => exact ⟨j + 1, by omega, by go_num, by rw [HS.out]; go_num⟩
      case measure => simp [intOf]; omega
    · obtain rfl : j = k := by omega
      have hnlt : ¬ places < 4 - (j : Int) := by omega
      go_wp2_with (first | (go_at_call 77; refine (rsize_any _ _ (by omega) (by omega)).mono ?_; rintro e w' ⟨rfl, rfl⟩) | (go_at_call 78; refine (rsigned_pos _ _ (by omega) (by omega)).mono ?_; rintro e w' ⟨rfl, rfl⟩))
      go_ret2
      exact ⟨rfl, rfl⟩
theorem rround_neg0 (x places q r P g : Int) (k : Nat) (w : World) (hx1 : -9223372036854775807 ≤ x) (hx2 : x ≤ 9223372036854775807) (hp1 : -15 ≤ places) (hp2 : places ≤ 3) (hk : (k : Int) = 4 - places) (h10 : 10 ≤ p10 k) (h19 : p10 k ≤ 10000000000000000000) (hs0 : 0 ≤ sizeV x) (hs1 : sizeV x ≤ 9223372036854775807) (hq : sizeV x / (p10 k : Int) = q) (hr : sizeV x % (p10 k : Int) = r) (hq0 : 0 ≤ q) (hq1 : q ≤ 9223372036854775807) (hr0 : 0 ≤ r) (hr1 : r < p10 k) (hg : 9223372036854775807 / (p10 k : Int) = g) (hg0 : 0 ≤ g) (hg1 : g ≤ 9223372036854775807) (hu : r < (p10 k : Int) / 2) (hb : q ≤ g) (hP : (q) * (p10 k : Int) = P) (hP0 : 0 ≤ P) (hP1 : P ≤ 9223372036854775807) (hx0 : x < 0) :
    Calls Tryz.prog 44 #[.int .i64 x, .int .i64 places] w fun e w' => e = .returned (.tuple #[.int .i64 (-P), .int .i64 0]) ∧ w' = w := by
  have dx : decide (x < 0) = true := decide_eq_true hx0
  have hyz : ((p10 k : Int) == 0) = false := by rw [beq_eq_false_iff_ne]; omega
  go_enter Tryz.func44, Tryz.ntmps44
  go_wp2_with (first | (go_at_call 37; refine (rmay_t _ _ (by omega)).mono ?_; rintro e w' ⟨rfl, rfl⟩))
  go_loop [6, 7] (fun st i => ∃ j : Nat, j ≤ k ∧ i = .int .i64 (4 - (j : Int)) ∧ st = .int .u64 (p10 j : Nat)) (fun _ i => (intOf i - places).toNat)
  case atStart => exact ⟨0, Nat.zero_le _, rfl, rfl⟩
  case round =>
    obtain ⟨j, hj, rfl, rfl⟩ := hrel
    by_cases hlt : j < k
    · have h18 := p10_18 (j := j) (by omega)
      have HS := Lib.hid (p10_succ j)
      have hlt' : places < 4 - (j : Int) := by omega
      go_wp2
      go_round
      case rel => exact ⟨j + 1, by omega, by go_num, by rw [HS.out]; go_num⟩
      case measure => simp [intOf]; omega
    · obtain rfl : j = k := by omega
      have hnlt : ¬ places < 4 - (j : Int) := by omega
      go_wp2_with (first | (go_at_call 77; refine (rsize_any _ _ (by omega) (by omega)).mono ?_; rintro e w' ⟨rfl, rfl⟩) | (go_at_call 78; refine (rsigned_neg _ _ (by omega) (by omega)).mono ?_; rintro e w' ⟨rfl, rfl⟩))
      go_ret2
      exact ⟨rfl, rfl⟩
theorem rround_big1 (x places q r P g : Int) (k : Nat) (w : World) (hx1 : -9223372036854775807 ≤ x) (hx2 : x ≤ 9223372036854775807) (hp1 : -15 ≤ places) (hp2 : places ≤ 3) (hk : (k : Int) = 4 - places) (h10 : 10 ≤ p10 k) (h19 : p10 k ≤ 10000000000000000000) (hs0 : 0 ≤ sizeV x) (hs1 : sizeV x ≤ 9223372036854775807) (hq : sizeV x / (p10 k : Int) = q) (hr : sizeV x % (p10 k : Int) = r) (hq0 : 0 ≤ q) (hq1 : q ≤ 9223372036854775807) (hr0 : 0 ≤ r) (hr1 : r < p10 k) (hg : 9223372036854775807 / (p10 k : Int) = g) (hg0 : 0 ≤ g) (hg1 : g ≤ 9223372036854775807) (hu : (p10 k : Int) / 2 ≤ r) (hb : g < q + 1) :
    Calls Tryz.prog 44 #[.int .i64 x, .int .i64 places] w fun e w' => e = .returned (.tuple #[.int .i64 0, .int .i64 2]) ∧ w' = w := by
  have hyz : ((p10 k : Int) == 0) = false := by rw [beq_eq_false_iff_ne]; omega
  go_enter Tryz.func44, Tryz.ntmps44
  go_wp2_with (first | (go_at_call 37; refine (rmay_t _ _ (by omega)).mono ?_; rintro e w' ⟨rfl, rfl⟩))
  go_loop [6, 7] (fun st i => ∃ j : Nat, j ≤ k ∧ i = .int .i64 (4 - (j : Int)) ∧ st = .int .u64 (p10 j : Nat)) (fun _ i => (intOf i - places).toNat)
  case atStart => exact ⟨0, Nat.zero_le _, rfl, rfl⟩
  case round =>
    obtain ⟨j, hj, rfl, rfl⟩ := hrel
    by_cases hlt : j < k
    · have h18 := p10_18 (j := j) (by omega)
      have HS := Lib.hid (p10_succ j)
      have hlt' : places < 4 - (j : Int) := by omega
      go_wp2
      go_round
      case rel => exact ⟨j + 1, by omega, by go_num, by rw [HS.out]; go_num⟩
      case measure => simp [intOf]; omega
    · obtain rfl : j = k := by omega
      have hnlt : ¬ places < 4 - (j : Int) := by omega
      go_wp2_with (first | (go_at_call 77; refine (rsize_any _ _ (by omega) (by omega)).mono ?_; rintro e w' ⟨rfl, rfl⟩))
      go_ret2
      exact ⟨rfl, rfl⟩
theorem rround_pos1 (x places q r P g : Int) (k : Nat) (w : World) (hx1 : -9223372036854775807 ≤ x) (hx2 : x ≤ 9223372036854775807) (hp1 : -15 ≤ places) (hp2 : places ≤ 3) (hk : (k : Int) = 4 - places) (h10 : 10 ≤ p10 k) (h19 : p10 k ≤ 10000000000000000000) (hs0 : 0 ≤ sizeV x) (hs1 : sizeV x ≤ 9223372036854775807) (hq : sizeV x / (p10 k : Int) = q) (hr : sizeV x % (p10 k : Int) = r) (hq0 : 0 ≤ q) (hq1 : q ≤ 9223372036854775807) (hr0 : 0 ≤ r) (hr1 : r < p10 k) (hg : 9223372036854775807 / (p10 k : Int) = g) (hg0 : 0 ≤ g) (hg1 : g ≤ 9223372036854775807) (hu : (p10 k : Int) / 2 ≤ r) (hb : q + 1 ≤ g) (hP : (q + 1) * (p10 k : Int) = P) (hP0 : 0 ≤ P) (hP1 : P ≤ 9223372036854775807) (hx0 : 0 ≤ x) :
    Calls Tryz.prog 44 #[.int .i64 x, .int .i64 places] w fun e w' => e = .returned (.tuple #[.int .i64 P, .int .i64 0]) ∧ w' = w := by
  have dx : decide (x < 0) = false := decide_eq_false (by omega)
  have hyz : ((p10 k : Int) == 0) = false := by rw [beq_eq_false_iff_ne]; omega
  go_enter Tryz.func44, Tryz.ntmps44
  go_wp2_with (first | (go_at_call 37; refine (rmay_t _ _ (by omega)).mono ?_; rintro e w' ⟨rfl, rfl⟩))
  go_loop [6, 7] (fun st i => ∃ j : Nat, j ≤ k ∧ i = .int .i64 (4 - (j : Int)) ∧ st = .int .u64 (p10 j : Nat)) (fun _ i => (intOf i - places).toNat)
  case atStart => exact ⟨0, Nat.zero_le _, rfl, rfl⟩
  case round =>
    obtain ⟨j, hj, rfl, rfl⟩ := hrel
    by_cases hlt : j < k
    · have h18 := p10_18 (j := j) (by omega)
      have HS := Lib.hid (p10_succ j)
      have hlt' : places < 4 - (j : Int) := by omega
      go_wp2
      go_round
      case rel => exact ⟨j + 1, by omega, by go_num, by rw [HS.out]; go_num⟩
      case measure => simp [intOf]; omega
    · obtain rfl : j = k := by omega
      have hnlt : ¬ places < 4 - (j : Int) := by omega
      go_wp2_with (first | (go_at_call 77; refine (rsize_any _ _ (by omega) (by omega)).mono ?_; rintro e w' ⟨rfl, rfl⟩) | (go_at_call 78; refine (rsigned_pos _ _ (by omega) (by omega)).mono ?_; rintro e w' ⟨rfl, rfl⟩))
      go_ret2
      exact ⟨rfl, rfl⟩
theorem rround_neg1 (x places q r P g : Int) (k : Nat) (w : World) (hx1 : -9223372036854775807 ≤ x) (hx2 : x ≤ 9223372036854775807) (hp1 : -15 ≤ places) (hp2 : places ≤ 3) (hk : (k : Int) = 4 - places) (h10 : 10 ≤ p10 k) (h19 : p10 k ≤ 10000000000000000000) (hs0 : 0 ≤ sizeV x) (hs1 : sizeV x ≤ 9223372036854775807) (hq : sizeV x / (p10 k : Int) = q) (hr : sizeV x % (p10 k : Int) = r) (hq0 : 0 ≤ q) (hq1 : q ≤ 9223372036854775807) (hr0 : 0 ≤ r) (hr1 : r < p10 k) (hg : 9223372036854775807 / (p10 k : Int) = g) (hg0 : 0 ≤ g) (hg1 : g ≤ 9223372036854775807) (hu : (p10 k : Int) / 2 ≤ r) (hb : q + 1 ≤ g) (hP : (q + 1) * (p10 k : Int) = P) (hP0 : 0 ≤ P) (hP1 : P ≤ 9223372036854775807) (hx0 : x < 0) :
    Calls Tryz.prog 44 #[.int .i64 x, .int .i64 places] w fun e w' => e = .returned (.tuple #[.int .i64 (-P), .int .i64 0]) ∧ w' = w := by
  have dx : decide (x < 0) = true := decide_eq_true hx0
  have hyz : ((p10 k : Int) == 0) = false := by rw [beq_eq_false_iff_ne]; omega
  go_enter Tryz.func44, Tryz.ntmps44
  go_wp2_with (first | (go_at_call 37; refine (rmay_t _ _ (by omega)).mono ?_; rintro e w' ⟨rfl, rfl⟩))
  go_loop [6, 7] (fun st i => ∃ j : Nat, j ≤ k ∧ i = .int .i64 (4 - (j : Int)) ∧ st = .int .u64 (p10 j : Nat)) (fun _ i => (intOf i - places).toNat)
  case atStart => exact ⟨0, Nat.zero_le _, rfl, rfl⟩
  case round =>
    obtain ⟨j, hj, rfl, rfl⟩ := hrel
    by_cases hlt : j < k
    · have h18 := p10_18 (j := j) (by omega)
      have HS := Lib.hid (p10_succ j)
      have hlt' : places < 4 - (j : Int) := by omega
      go_wp2
      go_round
      case rel => exact ⟨j + 1, by omega, by go_num, by rw [HS.out]; go_num⟩
      case measure => simp [intOf]; omega
    · obtain rfl : j = k := by omega
      have hnlt : ¬ places < 4 - (j : Int) := by omega
      go_wp2_with (first | (go_at_call 77; refine (rsize_any _ _ (by omega) (by omega)).mono ?_; rintro e w' ⟨rfl, rfl⟩) | (go_at_call 78; refine (rsigned_neg _ _ (by omega) (by omega)).mono ?_; rintro e w' ⟨rfl, rfl⟩))
      go_ret2
      exact ⟨rfl, rfl⟩
theorem p10_even {k : Nat} (h : 1 ≤ k) : p10 k = 2 * (p10 k / 2) := by
  obtain ⟨j, rfl⟩ : ∃ j, k = j + 1 := ⟨k - 1, by omega⟩
  rw [p10_succ]; omega
theorem rround_any (x places : Int) (w : World) (hx : I64 x) (hp : I64 places) : Calls Tryz.prog 44 #[.int .i64 x, .int .i64 places] w fun e w' => e = .returned (.tuple #[.int .i64 (okV (roundOk x places) (roundN x places)), .int .i64 (okC (roundOk x places))]) ∧ w' = w := by
  obtain ⟨hx1, hx2⟩ := hx
  obtain ⟨hp1, hp2⟩ := hp
  by_cases hm : x = -9223372036854775808
  · have ok : roundOk x places = false := by unfold roundOk; rw [mayOk_f hm]; rfl
    rw [okV_f ok, okC_f ok]
    go_enter Tryz.func44, Tryz.ntmps44
    go_wp2_with (go_at_call 37; refine (rmay_f _ _ (by omega)).mono ?_; rintro e w' ⟨rfl, rfl⟩)
    go_ret2
    exact ⟨rfl, rfl⟩
  have hx3 : -9223372036854775807 ≤ x := by omega
  have hmay := mayOk_t hx3
  by_cases h3 : 3 < places
  · have ok : roundOk x places = true := by unfold roundOk; rw [hmay, decide_eq_true h3]; rfl
    have hN : roundN x places = x := by unfold roundN; rw [if_pos h3]
    rw [okV_t ok, okC_t ok, hN]
    go_enter Tryz.func44, Tryz.ntmps44
    go_wp2_with (go_at_call 37; refine (rmay_t _ _ (by omega)).mono ?_; rintro e w' ⟨rfl, rfl⟩)
    go_ret2
    exact ⟨rfl, rfl⟩
  by_cases h15 : places < -15
  · have ok : roundOk x places = true := by unfold roundOk; rw [hmay, decide_eq_true h15]; simp
    have hN : roundN x places = 0 := by unfold roundN; rw [if_neg h3, if_pos h15]
    rw [okV_t ok, okC_t ok, hN]
    go_enter Tryz.func44, Tryz.ntmps44
    go_wp2_with (go_at_call 37; refine (rmay_t _ _ (by omega)).mono ?_; rintro e w' ⟨rfl, rfl⟩)
    go_ret2
    exact ⟨rfl, rfl⟩
  have hk : (((4 - places).toNat : Nat) : Int) = 4 - places := by omega
  generalize hkk : (4 - places).toNat = k at hk
  have hst : roundStep places = p10 k := by unfold roundStep; rw [hkk]
  have hsz := sizeV_range hx3 hx2
  have h10 := p10_1 (j := k) (by omega)
  have h19 := p10_19 (j := k) (by omega)
  have hev := p10_even (k := k) (by omega)
  have hypos : (0 : Int) < (p10 k : Int) := by omega
  have hroom := rnd_room (k := k) hsz.1 hsz.2 (by omega) (by omega)
  have hq0 : 0 ≤ sizeV x / (p10 k : Int) := Int.ediv_nonneg hsz.1 (by omega)
  have hq1 : sizeV x / (p10 k : Int) ≤ sizeV x := Int.ediv_le_self _ hsz.1
  have hr0 := Int.emod_nonneg (sizeV x) (show (p10 k : Int) ≠ 0 by omega)
  have hr1 := Int.emod_lt_of_pos (sizeV x) hypos
  have hg0 : (0 : Int) ≤ 9223372036854775807 / (p10 k : Int) := Int.ediv_nonneg (by omega) (by omega)
  have hg1 : 9223372036854775807 / (p10 k : Int) ≤ 9223372036854775807 := Int.ediv_le_self _ (by omega)
  have hle : ∀ v : Int, v ≤ 9223372036854775807 / (p10 k : Int) ↔ v * (p10 k : Int) ≤ 9223372036854775807 := fun v => Int.le_ediv_iff_mul_le hypos
  by_cases hu : (p10 k : Int) / 2 ≤ sizeV x % (p10 k : Int)
  · have hrn : rnd (sizeV x) (p10 k) = (sizeV x / (p10 k : Int) + 1) * (p10 k : Int) := by unfold rnd; rw [if_pos (by omega)]
    by_cases hb : 9223372036854775807 < rnd (sizeV x) (p10 k)
    · have ok : roundOk x places = false := by unfold roundOk; rw [hst, decide_eq_false h3, decide_eq_false h15, decide_eq_false (by omega)]; simp
      rw [okV_f ok, okC_f ok]
      exact rround_big1 x places _ _ 0 _ k w hx3 hx2 (by omega) (by omega) hk h10 h19 hsz.1 hsz.2 rfl rfl hq0 (by omega) hr0 hr1 rfl hg0 hg1 hu (Int.not_le.1 fun hc => by have hc2 := (hle (sizeV x / (p10 k : Int) + 1)).1 hc; rw [← hrn] at hc2; omega)
    · have ok : roundOk x places = true := by unfold roundOk; rw [hst, hmay, decide_eq_true (show rnd (sizeV x) (p10 k) ≤ 9223372036854775807 by omega)]; simp
      rw [okV_t ok, okC_t ok]
      have hvg := (hle (sizeV x / (p10 k : Int) + 1)).2 (by rw [← hrn]; omega)
      by_cases h0 : x < 0
      · have hN : roundN x places = -rnd (sizeV x) (p10 k) := by unfold roundN; rw [if_neg h3, if_neg h15, if_pos h0, hst]
        rw [hN]
        exact rround_neg1 x places _ _ _ _ k w hx3 hx2 (by omega) (by omega) hk h10 h19 hsz.1 hsz.2 rfl rfl hq0 (by omega) hr0 hr1 rfl hg0 hg1 hu hvg hrn.symm hroom.1 (by omega) h0
      · have hN : roundN x places = rnd (sizeV x) (p10 k) := by unfold roundN; rw [if_neg h3, if_neg h15, if_neg h0, hst]
        rw [hN]
        exact rround_pos1 x places _ _ _ _ k w hx3 hx2 (by omega) (by omega) hk h10 h19 hsz.1 hsz.2 rfl rfl hq0 (by omega) hr0 hr1 rfl hg0 hg1 hu hvg hrn.symm hroom.1 (by omega) (by omega)
  · have hrn : rnd (sizeV x) (p10 k) = (sizeV x / (p10 k : Int)) * (p10 k : Int) := by unfold rnd; rw [if_neg (by omega), Int.add_zero]
    by_cases hb : 9223372036854775807 < rnd (sizeV x) (p10 k)
    · have ok : roundOk x places = false := by unfold roundOk; rw [hst, decide_eq_false h3, decide_eq_false h15, decide_eq_false (by omega)]; simp
      rw [okV_f ok, okC_f ok]
      exact rround_big0 x places _ _ 0 _ k w hx3 hx2 (by omega) (by omega) hk h10 h19 hsz.1 hsz.2 rfl rfl hq0 (by omega) hr0 hr1 rfl hg0 hg1 (by omega) (Int.not_le.1 fun hc => by have hc2 := (hle (sizeV x / (p10 k : Int))).1 hc; rw [← hrn] at hc2; omega)
    · have ok : roundOk x places = true := by unfold roundOk; rw [hst, hmay, decide_eq_true (show rnd (sizeV x) (p10 k) ≤ 9223372036854775807 by omega)]; simp
      rw [okV_t ok, okC_t ok]
      have hvg := (hle (sizeV x / (p10 k : Int))).2 (by rw [← hrn]; omega)
      by_cases h0 : x < 0
      · have hN : roundN x places = -rnd (sizeV x) (p10 k) := by unfold roundN; rw [if_neg h3, if_neg h15, if_pos h0, hst]
        rw [hN]
        exact rround_neg0 x places _ _ _ _ k w hx3 hx2 (by omega) (by omega) hk h10 h19 hsz.1 hsz.2 rfl rfl hq0 (by omega) hr0 hr1 rfl hg0 hg1 (by omega) hvg hrn.symm hroom.1 (by omega) h0
      · have hN : roundN x places = rnd (sizeV x) (p10 k) := by unfold roundN; rw [if_neg h3, if_neg h15, if_neg h0, hst]
        rw [hN]
        exact rround_pos0 x places _ _ _ _ k w hx3 hx2 (by omega) (by omega) hk h10 h19 hsz.1 hsz.2 rfl rfl hq0 (by omega) hr0 hr1 rfl hg0 hg1 (by omega) hvg hrn.symm hroom.1 (by omega) (by omega)
end Go.Proofs.YtfpbcokfianjaaaGreat
namespace Go.Proofs.YtfpbcokfianjaaaGreat
open Go.RowKit
set_option linter.all false
theorem two_trunc_no (x y : Int) (w : World) (hy : In y) (hw : wholeOk y = false) : Calls Tryz.prog 20 #[.string ⟨#[84, 82, 85, 78, 67]⟩, .int .i64 x, .int .i64 y] w fun e w' => e = .returned (.agg #[.int .i64 (4), .int .i64 (0), .string ⟨#[]⟩, .bool false, .int .i64 (8)]) ∧ Below w.heap.size w w' := by
  have ht : (y.tmod 10000 != 0) = true := by
    unfold wholeOk at hw; rw [mayOk_t hy.1] at hw; simpa using hw
  have hb := tmod_bd y 10000 (by decide)
  revert ht hb
  generalize hg : y.tmod 10000 = r
  intro ht hb
  have hw1 : wrap64 r = r := by unfold wrap64; omega
  go_enter Tryz.func20, Tryz.ntmps20
  go_wp2_with (go_at_call 14; refine (derr_ok _ _ (by decide) (by decide)).mono ?_; rintro e wa ⟨rfl, hbwa⟩; have hBwa : Below w.heap.size w wa := bup (by with_reducible (repeat' first | assumption | exact Below.refl _ _ | refine Below.drew ?_ | refine bdrewN ?_ _ | refine Below.setCell ?_ (by first | exact Nat.le_refl _ | (simp; done) | (simp; omega) | omega) _ | refine Below.alloc ?_ (by first | exact Nat.le_refl _ | (simp; done) | (simp; omega) | omega) _)) hbwa; have zwa := hBwa.size; have o0wa : Own wa (w.heap.size) #[.int .i64 0, .int .i64 0, .string ⟨#[]⟩, .bool false, .int .i64 0] := Own.keep (by with_reducible (repeat' first | assumption | refine Own.drew ?_ | refine Own.drewN ?_ _ | (refine Own.at ?_; first | rfl | (simp; done)) | refine Own.past ?_ _)) hbwa; have c0 := o0wa.cell; have f0 := o0wa.fro; have l0 := o0wa.lt)
  exact bodyPost_ret (v := (.agg #[.int .i64 (4), .int .i64 (0), .string ⟨#[]⟩, .bool false, .int .i64 (8)])) (by simp [results, Tryz.results20, go_sem, c0, f0, l0]) rfl ⟨rfl, by with_reducible (repeat' first | assumption | exact Below.refl _ _ | refine Below.drew ?_ | refine bdrewN ?_ _ | refine Below.setCell ?_ (by first | exact Nat.le_refl _ | (simp; done) | (simp; omega) | omega) _ | refine Below.alloc ?_ (by first | exact Nat.le_refl _ | (simp; done) | (simp; omega) | omega) _)⟩
theorem two_round_no (x y : Int) (w : World) (hy : In y) (hw : wholeOk y = false) : Calls Tryz.prog 20 #[.string ⟨#[82, 79, 85, 78, 68]⟩, .int .i64 x, .int .i64 y] w fun e w' => e = .returned (.agg #[.int .i64 (4), .int .i64 (0), .string ⟨#[]⟩, .bool false, .int .i64 (8)]) ∧ Below w.heap.size w w' := by
  have ht : (y.tmod 10000 != 0) = true := by
    unfold wholeOk at hw; rw [mayOk_t hy.1] at hw; simpa using hw
  have hb := tmod_bd y 10000 (by decide)
  revert ht hb
  generalize hg : y.tmod 10000 = r
  intro ht hb
  have hw1 : wrap64 r = r := by unfold wrap64; omega
  go_enter Tryz.func20, Tryz.ntmps20
  go_wp2_with (go_at_call 14; refine (derr_ok _ _ (by decide) (by decide)).mono ?_; rintro e wa ⟨rfl, hbwa⟩; have hBwa : Below w.heap.size w wa := bup (by with_reducible (repeat' first | assumption | exact Below.refl _ _ | refine Below.drew ?_ | refine bdrewN ?_ _ | refine Below.setCell ?_ (by first | exact Nat.le_refl _ | (simp; done) | (simp; omega) | omega) _ | refine Below.alloc ?_ (by first | exact Nat.le_refl _ | (simp; done) | (simp; omega) | omega) _)) hbwa; have zwa := hBwa.size; have o0wa : Own wa (w.heap.size) #[.int .i64 0, .int .i64 0, .string ⟨#[]⟩, .bool false, .int .i64 0] := Own.keep (by with_reducible (repeat' first | assumption | refine Own.drew ?_ | refine Own.drewN ?_ _ | (refine Own.at ?_; first | rfl | (simp; done)) | refine Own.past ?_ _)) hbwa; have c0 := o0wa.cell; have f0 := o0wa.fro; have l0 := o0wa.lt)
  exact bodyPost_ret (v := (.agg #[.int .i64 (4), .int .i64 (0), .string ⟨#[]⟩, .bool false, .int .i64 (8)])) (by simp [results, Tryz.results20, go_sem, c0, f0, l0]) rfl ⟨rfl, by with_reducible (repeat' first | assumption | exact Below.refl _ _ | refine Below.drew ?_ | refine bdrewN ?_ _ | refine Below.setCell ?_ (by first | exact Nat.le_refl _ | (simp; done) | (simp; omega) | omega) _ | refine Below.alloc ?_ (by first | exact Nat.le_refl _ | (simp; done) | (simp; omega) | omega) _)⟩
theorem two_power_no (x y : Int) (w : World) (hy : In y) (hw : wholeOk y = false) : Calls Tryz.prog 20 #[.string ⟨#[80, 79, 87, 69, 82]⟩, .int .i64 x, .int .i64 y] w fun e w' => e = .returned (.agg #[.int .i64 (4), .int .i64 (0), .string ⟨#[]⟩, .bool false, .int .i64 (8)]) ∧ Below w.heap.size w w' := by
  have ht : (y.tmod 10000 != 0) = true := by
    unfold wholeOk at hw; rw [mayOk_t hy.1] at hw; simpa using hw
  have hb := tmod_bd y 10000 (by decide)
  revert ht hb
  generalize hg : y.tmod 10000 = r
  intro ht hb
  have hw1 : wrap64 r = r := by unfold wrap64; omega
  go_enter Tryz.func20, Tryz.ntmps20
  go_wp2_with (go_at_call 14; refine (derr_ok _ _ (by decide) (by decide)).mono ?_; rintro e wa ⟨rfl, hbwa⟩; have hBwa : Below w.heap.size w wa := bup (by with_reducible (repeat' first | assumption | exact Below.refl _ _ | refine Below.drew ?_ | refine bdrewN ?_ _ | refine Below.setCell ?_ (by first | exact Nat.le_refl _ | (simp; done) | (simp; omega) | omega) _ | refine Below.alloc ?_ (by first | exact Nat.le_refl _ | (simp; done) | (simp; omega) | omega) _)) hbwa; have zwa := hBwa.size; have o0wa : Own wa (w.heap.size) #[.int .i64 0, .int .i64 0, .string ⟨#[]⟩, .bool false, .int .i64 0] := Own.keep (by with_reducible (repeat' first | assumption | refine Own.drew ?_ | refine Own.drewN ?_ _ | (refine Own.at ?_; first | rfl | (simp; done)) | refine Own.past ?_ _)) hbwa; have c0 := o0wa.cell; have f0 := o0wa.fro; have l0 := o0wa.lt)
  exact bodyPost_ret (v := (.agg #[.int .i64 (4), .int .i64 (0), .string ⟨#[]⟩, .bool false, .int .i64 (8)])) (by simp [results, Tryz.results20, go_sem, c0, f0, l0]) rfl ⟨rfl, by with_reducible (repeat' first | assumption | exact Below.refl _ _ | refine Below.drew ?_ | refine bdrewN ?_ _ | refine Below.setCell ?_ (by first | exact Nat.le_refl _ | (simp; done) | (simp; omega) | omega) _ | refine Below.alloc ?_ (by first | exact Nat.le_refl _ | (simp; done) | (simp; omega) | omega) _)⟩
theorem two_trunc_hi (x y : Int) (w : World) (hx : In x) (hy : In y) (hw : wholeOk y = true) (h : 3 < y.tdiv 10000) : Calls Tryz.prog 20 #[.string ⟨#[84, 82, 85, 78, 67]⟩, .int .i64 x, .int .i64 y] w fun e w' => e = .returned (.agg #[.int .i64 (1), .int .i64 (x), .string ⟨#[]⟩, .bool false, .int .i64 (0)]) ∧ Below w.heap.size w w' := by
  have ht : y.tmod 10000 = 0 := by unfold wholeOk at hw; simp at hw; exact hw.2
  have hq : -922337203685477 ≤ y.tdiv 10000 ∧ y.tdiv 10000 ≤ 922337203685477 := by
    obtain ⟨h1, h2⟩ := hy
    have := Int.mul_tdiv_add_tmod y 10000
    rw [ht] at this
    omega
  revert h
  revert hq
  generalize hg : y.tdiv 10000 = q
  intro hq
  have hw2 : wrap64 q = q := by unfold wrap64; omega
  intro h
  go_enter Tryz.func20, Tryz.ntmps20
  go_wp2_with (go_at_call 43; refine (dtrunc_hi _ _ _ hx h).mono ?_; rintro e wa ⟨rfl, hbwa⟩; have hBwa : Below w.heap.size w wa := bup (by with_reducible (repeat' first | assumption | exact Below.refl _ _ | refine Below.drew ?_ | refine bdrewN ?_ _ | refine Below.setCell ?_ (by first | exact Nat.le_refl _ | (simp; done) | (simp; omega) | omega) _ | refine Below.alloc ?_ (by first | exact Nat.le_refl _ | (simp; done) | (simp; omega) | omega) _)) hbwa; have zwa := hBwa.size; have o0wa : Own wa (w.heap.size) #[.int .i64 0, .int .i64 0, .string ⟨#[]⟩, .bool false, .int .i64 0] := Own.keep (by with_reducible (repeat' first | assumption | refine Own.drew ?_ | refine Own.drewN ?_ _ | (refine Own.at ?_; first | rfl | (simp; done)) | refine Own.past ?_ _)) hbwa; have c0 := o0wa.cell; have f0 := o0wa.fro; have l0 := o0wa.lt)
  exact bodyPost_ret (v := (.agg #[.int .i64 (1), .int .i64 (x), .string ⟨#[]⟩, .bool false, .int .i64 (0)])) (by simp [results, Tryz.results20, go_sem, c0, f0, l0]) rfl ⟨rfl, by with_reducible (repeat' first | assumption | exact Below.refl _ _ | refine Below.drew ?_ | refine bdrewN ?_ _ | refine Below.setCell ?_ (by first | exact Nat.le_refl _ | (simp; done) | (simp; omega) | omega) _ | refine Below.alloc ?_ (by first | exact Nat.le_refl _ | (simp; done) | (simp; omega) | omega) _)⟩
theorem two_trunc_lo (x y : Int) (w : World) (hy : In y) (hw : wholeOk y = true) (h : y.tdiv 10000 < -14) : Calls Tryz.prog 20 #[.string ⟨#[84, 82, 85, 78, 67]⟩, .int .i64 x, .int .i64 y] w fun e w' => e = .returned (.agg #[.int .i64 (1), .int .i64 (0), .string ⟨#[]⟩, .bool false, .int .i64 (0)]) ∧ Below w.heap.size w w' := by
  have ht : y.tmod 10000 = 0 := by unfold wholeOk at hw; simp at hw; exact hw.2
  have hq : -922337203685477 ≤ y.tdiv 10000 ∧ y.tdiv 10000 ≤ 922337203685477 := by
    obtain ⟨h1, h2⟩ := hy
    have := Int.mul_tdiv_add_tmod y 10000
    rw [ht] at this
    omega
  revert h
  revert hq
  generalize hg : y.tdiv 10000 = q
  intro hq
  have hw2 : wrap64 q = q := by unfold wrap64; omega
  intro h
  go_enter Tryz.func20, Tryz.ntmps20
  go_wp2_with (go_at_call 43; refine (dtrunc_lo _ _ _ h).mono ?_; rintro e wa ⟨rfl, hbwa⟩; have hBwa : Below w.heap.size w wa := bup (by with_reducible (repeat' first | assumption | exact Below.refl _ _ | refine Below.drew ?_ | refine bdrewN ?_ _ | refine Below.setCell ?_ (by first | exact Nat.le_refl _ | (simp; done) | (simp; omega) | omega) _ | refine Below.alloc ?_ (by first | exact Nat.le_refl _ | (simp; done) | (simp; omega) | omega) _)) hbwa; have zwa := hBwa.size; have o0wa : Own wa (w.heap.size) #[.int .i64 0, .int .i64 0, .string ⟨#[]⟩, .bool false, .int .i64 0] := Own.keep (by with_reducible (repeat' first | assumption | refine Own.drew ?_ | refine Own.drewN ?_ _ | (refine Own.at ?_; first | rfl | (simp; done)) | refine Own.past ?_ _)) hbwa; have c0 := o0wa.cell; have f0 := o0wa.fro; have l0 := o0wa.lt)
  exact bodyPost_ret (v := (.agg #[.int .i64 (1), .int .i64 (0), .string ⟨#[]⟩, .bool false, .int .i64 (0)])) (by simp [results, Tryz.results20, go_sem, c0, f0, l0]) rfl ⟨rfl, by with_reducible (repeat' first | assumption | exact Below.refl _ _ | refine Below.drew ?_ | refine bdrewN ?_ _ | refine Below.setCell ?_ (by first | exact Nat.le_refl _ | (simp; done) | (simp; omega) | omega) _ | refine Below.alloc ?_ (by first | exact Nat.le_refl _ | (simp; done) | (simp; omega) | omega) _)⟩
theorem two_trunc_in (x y : Int) (k : Nat) (w : World) (hx : In x) (hy : In y) (hw : wholeOk y = true) (h : y.tdiv 10000 = 4 - (k : Int)) (hk1 : 1 ≤ k) (hk2 : k ≤ 18) : Calls Tryz.prog 20 #[.string ⟨#[84, 82, 85, 78, 67]⟩, .int .i64 x, .int .i64 y] w fun e w' => e = .returned (.agg #[.int .i64 (1), .int .i64 (x - x.tmod ((10 ^ k : Nat) : Int)), .string ⟨#[]⟩, .bool false, .int .i64 (0)]) ∧ Below w.heap.size w w' := by
  have ht : y.tmod 10000 = 0 := by unfold wholeOk at hw; simp at hw; exact hw.2
  have hq : -922337203685477 ≤ y.tdiv 10000 ∧ y.tdiv 10000 ≤ 922337203685477 := by
    obtain ⟨h1, h2⟩ := hy
    have := Int.mul_tdiv_add_tmod y 10000
    rw [ht] at this
    omega
  revert h
  revert hq
  generalize hg : y.tdiv 10000 = q
  intro hq
  have hw2 : wrap64 q = q := by unfold wrap64; omega
  intro h
  have h3 := fun w1 => dtrunc_in x q k w1 hx h hk1 hk2
  generalize x - x.tmod ((10 ^ k : Nat) : Int) = r at h3 ⊢
  clear h
  go_enter Tryz.func20, Tryz.ntmps20
  go_wp2_with (go_at_call 43; refine (h3 _).mono ?_; rintro e wa ⟨rfl, hbwa⟩; have hBwa : Below w.heap.size w wa := bup (by with_reducible (repeat' first | assumption | exact Below.refl _ _ | refine Below.drew ?_ | refine bdrewN ?_ _ | refine Below.setCell ?_ (by first | exact Nat.le_refl _ | (simp; done) | (simp; omega) | omega) _ | refine Below.alloc ?_ (by first | exact Nat.le_refl _ | (simp; done) | (simp; omega) | omega) _)) hbwa; have zwa := hBwa.size; have o0wa : Own wa (w.heap.size) #[.int .i64 0, .int .i64 0, .string ⟨#[]⟩, .bool false, .int .i64 0] := Own.keep (by with_reducible (repeat' first | assumption | refine Own.drew ?_ | refine Own.drewN ?_ _ | (refine Own.at ?_; first | rfl | (simp; done)) | refine Own.past ?_ _)) hbwa; have c0 := o0wa.cell; have f0 := o0wa.fro; have l0 := o0wa.lt)
  exact bodyPost_ret (v := (.agg #[.int .i64 (1), .int .i64 (r), .string ⟨#[]⟩, .bool false, .int .i64 (0)])) (by simp [results, Tryz.results20, go_sem, c0, f0, l0]) rfl ⟨rfl, by with_reducible (repeat' first | assumption | exact Below.refl _ _ | refine Below.drew ?_ | refine bdrewN ?_ _ | refine Below.setCell ?_ (by first | exact Nat.le_refl _ | (simp; done) | (simp; omega) | omega) _ | refine Below.alloc ?_ (by first | exact Nat.le_refl _ | (simp; done) | (simp; omega) | omega) _)⟩
theorem two_round (x y : Int) (w : World) (hx : In x) (hy : In y) (hw : wholeOk y = true) : Calls Tryz.prog 20 #[.string ⟨#[82, 79, 85, 78, 68]⟩, .int .i64 x, .int .i64 y] w fun e w' => e = .returned (.agg #[.int .i64 (tT (okC (roundOk x (y.tdiv 10000)))), .int .i64 (okV (roundOk x (y.tdiv 10000)) (roundN x (y.tdiv 10000))), .string ⟨#[]⟩, .bool false, .int .i64 (okC (roundOk x (y.tdiv 10000)))]) ∧ Below w.heap.size w w' := by
  have ht : y.tmod 10000 = 0 := by unfold wholeOk at hw; simp at hw; exact hw.2
  have hq : -922337203685477 ≤ y.tdiv 10000 ∧ y.tdiv 10000 ≤ 922337203685477 := by
    obtain ⟨h1, h2⟩ := hy
    have := Int.mul_tdiv_add_tmod y 10000
    rw [ht] at this
    omega
  revert hq
  generalize hg : y.tdiv 10000 = q
  intro hq
  have hw2 : wrap64 q = q := by unfold wrap64; omega
  have h1 := fun w1 => rround_any x q w1 hx.i64 ⟨by omega, by omega⟩
  have h3 := fun w1 => dtold_any _ _ w1 (rou_in (p := q) hx) (okVC (roundOk x q) (roundN x q))
  generalize okV (roundOk x q) (roundN x q) = r at h1 h3 ⊢
  generalize okC (roundOk x q) = c at h1 h3 ⊢
  generalize tT c = t at h3 ⊢
  go_enter Tryz.func20, Tryz.ntmps20
  go_wp2_with (first | (go_at_call 44; refine (h1 _).mono ?_; rintro e w5 ⟨rfl, e5⟩; rw [e5]; clear e5 w5) | (go_at_call 38; refine (h3 _).mono ?_; rintro e wa ⟨rfl, hbwa⟩; have hBwa : Below w.heap.size w wa := bup (by with_reducible (repeat' first | assumption | exact Below.refl _ _ | refine Below.drew ?_ | refine bdrewN ?_ _ | refine Below.setCell ?_ (by first | exact Nat.le_refl _ | (simp; done) | (simp; omega) | omega) _ | refine Below.alloc ?_ (by first | exact Nat.le_refl _ | (simp; done) | (simp; omega) | omega) _)) hbwa; have zwa := hBwa.size; have o0wa : Own wa (w.heap.size) #[.int .i64 0, .int .i64 0, .string ⟨#[]⟩, .bool false, .int .i64 0] := Own.keep (by with_reducible (repeat' first | assumption | refine Own.drew ?_ | refine Own.drewN ?_ _ | (refine Own.at ?_; first | rfl | (simp; done)) | refine Own.past ?_ _)) hbwa; have c0 := o0wa.cell; have f0 := o0wa.fro; have l0 := o0wa.lt))
  exact bodyPost_ret (v := (.agg #[.int .i64 t, .int .i64 r, .string ⟨#[]⟩, .bool false, .int .i64 c])) (by simp [results, Tryz.results20, go_sem, c0, f0, l0]) rfl ⟨rfl, by with_reducible (repeat' first | assumption | exact Below.refl _ _ | refine Below.drew ?_ | refine bdrewN ?_ _ | refine Below.setCell ?_ (by first | exact Nat.le_refl _ | (simp; done) | (simp; omega) | omega) _ | refine Below.alloc ?_ (by first | exact Nat.le_refl _ | (simp; done) | (simp; omega) | omega) _)⟩
theorem two_floor_no (x y : Int) (w : World) (hs : y ≤ 0) : Calls Tryz.prog 20 #[.string ⟨#[70, 76, 79, 79, 82]⟩, .int .i64 x, .int .i64 y] w fun e w' => e = .returned (.agg #[.int .i64 (4), .int .i64 (0), .string ⟨#[]⟩, .bool false, .int .i64 (8)]) ∧ Below w.heap.size w w' := by
  go_enter Tryz.func20, Tryz.ntmps20
  go_wp2_with (first | (go_at_call 46; refine (dfloor_no _ _ _ hs).mono ?_; rintro e w5 ⟨rfl, e5⟩; rw [e5]; clear e5 w5) | (go_at_call 38; refine (dtold_no _ _ _ (by decide) (by decide) (by decide)).mono ?_; rintro e wa ⟨rfl, hbwa⟩; have hBwa : Below w.heap.size w wa := bup (by with_reducible (repeat' first | assumption | exact Below.refl _ _ | refine Below.drew ?_ | refine bdrewN ?_ _ | refine Below.setCell ?_ (by first | exact Nat.le_refl _ | (simp; done) | (simp; omega) | omega) _ | refine Below.alloc ?_ (by first | exact Nat.le_refl _ | (simp; done) | (simp; omega) | omega) _)) hbwa; have zwa := hBwa.size; have o0wa : Own wa (w.heap.size) #[.int .i64 0, .int .i64 0, .string ⟨#[]⟩, .bool false, .int .i64 0] := Own.keep (by with_reducible (repeat' first | assumption | refine Own.drew ?_ | refine Own.drewN ?_ _ | (refine Own.at ?_; first | rfl | (simp; done)) | refine Own.past ?_ _)) hbwa; have c0 := o0wa.cell; have f0 := o0wa.fro; have l0 := o0wa.lt))
  exact bodyPost_ret (v := (.agg #[.int .i64 (4), .int .i64 (0), .string ⟨#[]⟩, .bool false, .int .i64 (8)])) (by simp [results, Tryz.results20, go_sem, c0, f0, l0]) rfl ⟨rfl, by with_reducible (repeat' first | assumption | exact Below.refl _ _ | refine Below.drew ?_ | refine bdrewN ?_ _ | refine Below.setCell ?_ (by first | exact Nat.le_refl _ | (simp; done) | (simp; omega) | omega) _ | refine Below.alloc ?_ (by first | exact Nat.le_refl _ | (simp; done) | (simp; omega) | omega) _)⟩
theorem two_floor_ok (x y : Int) (w : World) (hx : In x) (hy : In y) (hs : 0 < y) : Calls Tryz.prog 20 #[.string ⟨#[70, 76, 79, 79, 82]⟩, .int .i64 x, .int .i64 y] w fun e w' => e = .returned (.agg #[.int .i64 (tT (okC (subOk x (modV x y)))), .int .i64 (okV (subOk x (modV x y)) (x - modV x y)), .string ⟨#[]⟩, .bool false, .int .i64 (okC (subOk x (modV x y)))]) ∧ Below w.heap.size w w' := by
  have h1 := fun w1 => dfloor_ok x y w1 hs hx hy
  have h3 := fun w1 => dtold_any _ _ w1 (sub_in (b := modV x y) hx) (okVC (subOk x (modV x y)) (x - modV x y))
  generalize okV (subOk x (modV x y)) (x - modV x y) = r at h1 h3 ⊢
  generalize okC (subOk x (modV x y)) = c at h1 h3 ⊢
  generalize tT c = t at h3 ⊢
  go_enter Tryz.func20, Tryz.ntmps20
  go_wp2_with (first | (go_at_call 46; refine (h1 _).mono ?_; rintro e w5 ⟨rfl, e5⟩; rw [e5]; clear e5 w5) | (go_at_call 38; refine (h3 _).mono ?_; rintro e wa ⟨rfl, hbwa⟩; have hBwa : Below w.heap.size w wa := bup (by with_reducible (repeat' first | assumption | exact Below.refl _ _ | refine Below.drew ?_ | refine bdrewN ?_ _ | refine Below.setCell ?_ (by first | exact Nat.le_refl _ | (simp; done) | (simp; omega) | omega) _ | refine Below.alloc ?_ (by first | exact Nat.le_refl _ | (simp; done) | (simp; omega) | omega) _)) hbwa; have zwa := hBwa.size; have o0wa : Own wa (w.heap.size) #[.int .i64 0, .int .i64 0, .string ⟨#[]⟩, .bool false, .int .i64 0] := Own.keep (by with_reducible (repeat' first | assumption | refine Own.drew ?_ | refine Own.drewN ?_ _ | (refine Own.at ?_; first | rfl | (simp; done)) | refine Own.past ?_ _)) hbwa; have c0 := o0wa.cell; have f0 := o0wa.fro; have l0 := o0wa.lt))
  exact bodyPost_ret (v := (.agg #[.int .i64 t, .int .i64 r, .string ⟨#[]⟩, .bool false, .int .i64 c])) (by simp [results, Tryz.results20, go_sem, c0, f0, l0]) rfl ⟨rfl, by with_reducible (repeat' first | assumption | exact Below.refl _ _ | refine Below.drew ?_ | refine bdrewN ?_ _ | refine Below.setCell ?_ (by first | exact Nat.le_refl _ | (simp; done) | (simp; omega) | omega) _ | refine Below.alloc ?_ (by first | exact Nat.le_refl _ | (simp; done) | (simp; omega) | omega) _)⟩
theorem two_ceil_no (x y : Int) (w : World) (hx : In x) (hs : y ≤ 0) : Calls Tryz.prog 20 #[.string ⟨#[67, 69, 73, 76]⟩, .int .i64 x, .int .i64 y] w fun e w' => e = .returned (.agg #[.int .i64 (4), .int .i64 (0), .string ⟨#[]⟩, .bool false, .int .i64 (8)]) ∧ Below w.heap.size w w' := by
  have hw1 : wrap64 (-x) = -x := by obtain ⟨h1, h2⟩ := hx; unfold wrap64; omega
  go_enter Tryz.func20, Tryz.ntmps20
  go_wp2_with (first | (go_at_call 46; refine (dfloor_no _ _ _ hs).mono ?_; rintro e w5 ⟨rfl, e5⟩; rw [e5]; clear e5 w5) | (go_at_call 38; refine (dtold_no _ _ _ (by decide) (by decide) (by decide)).mono ?_; rintro e wa ⟨rfl, hbwa⟩; have hBwa : Below w.heap.size w wa := bup (by with_reducible (repeat' first | assumption | exact Below.refl _ _ | refine Below.drew ?_ | refine bdrewN ?_ _ | refine Below.setCell ?_ (by first | exact Nat.le_refl _ | (simp; done) | (simp; omega) | omega) _ | refine Below.alloc ?_ (by first | exact Nat.le_refl _ | (simp; done) | (simp; omega) | omega) _)) hbwa; have zwa := hBwa.size; have o0wa : Own wa (w.heap.size) #[.int .i64 0, .int .i64 0, .string ⟨#[]⟩, .bool false, .int .i64 0] := Own.keep (by with_reducible (repeat' first | assumption | refine Own.drew ?_ | refine Own.drewN ?_ _ | (refine Own.at ?_; first | rfl | (simp; done)) | refine Own.past ?_ _)) hbwa; have c0 := o0wa.cell; have f0 := o0wa.fro; have l0 := o0wa.lt))
  exact bodyPost_ret (v := (.agg #[.int .i64 (4), .int .i64 (0), .string ⟨#[]⟩, .bool false, .int .i64 (8)])) (by simp [results, Tryz.results20, go_sem, c0, f0, l0]) rfl ⟨rfl, by with_reducible (repeat' first | assumption | exact Below.refl _ _ | refine Below.drew ?_ | refine bdrewN ?_ _ | refine Below.setCell ?_ (by first | exact Nat.le_refl _ | (simp; done) | (simp; omega) | omega) _ | refine Below.alloc ?_ (by first | exact Nat.le_refl _ | (simp; done) | (simp; omega) | omega) _)⟩
theorem neg_vc {ok : Bool} {x : Int} : okC ok = 0 ∨ (1 ≤ okC ok ∧ okC ok ≤ 8 ∧ -okV ok x = 0) := by cases ok <;> simp [okC, okV]
theorem two_ceil_ok (x y : Int) (w : World) (hx : In x) (hy : In y) (hs : 0 < y) : Calls Tryz.prog 20 #[.string ⟨#[67, 69, 73, 76]⟩, .int .i64 x, .int .i64 y] w fun e w' => e = .returned (.agg #[.int .i64 (tT (okC (subOk (-x) (modV (-x) y)))), .int .i64 (-okV (subOk (-x) (modV (-x) y)) (-x - modV (-x) y)), .string ⟨#[]⟩, .bool false, .int .i64 (okC (subOk (-x) (modV (-x) y)))]) ∧ Below w.heap.size w w' := by
  have hw1 : wrap64 (-x) = -x := by obtain ⟨h1, h2⟩ := hx; unfold wrap64; omega
  have h1 := fun w1 => dfloor_ok (-x) y w1 hs (neg_in hx) hy
  have hi := neg_in (sub_in (b := modV (-x) y) (neg_in hx))
  have h3 := fun w1 => dtold_any _ _ w1 hi (neg_vc (ok := subOk (-x) (modV (-x) y)) (x := -x - modV (-x) y))
  generalize okV (subOk (-x) (modV (-x) y)) (-x - modV (-x) y) = r at h1 h3 hi ⊢
  generalize okC (subOk (-x) (modV (-x) y)) = c at h1 h3 ⊢
  generalize tT c = t at h3 ⊢
  have hw2 : wrap64 (-r) = -r := by obtain ⟨h1, h2⟩ := hi; unfold wrap64; omega
  go_enter Tryz.func20, Tryz.ntmps20
  go_wp2_with (first | (go_at_call 46; refine (h1 _).mono ?_; rintro e w5 ⟨rfl, e5⟩; rw [e5]; clear e5 w5) | (go_at_call 38; refine (h3 _).mono ?_; rintro e wa ⟨rfl, hbwa⟩; have hBwa : Below w.heap.size w wa := bup (by with_reducible (repeat' first | assumption | exact Below.refl _ _ | refine Below.drew ?_ | refine bdrewN ?_ _ | refine Below.setCell ?_ (by first | exact Nat.le_refl _ | (simp; done) | (simp; omega) | omega) _ | refine Below.alloc ?_ (by first | exact Nat.le_refl _ | (simp; done) | (simp; omega) | omega) _)) hbwa; have zwa := hBwa.size; have o0wa : Own wa (w.heap.size) #[.int .i64 0, .int .i64 0, .string ⟨#[]⟩, .bool false, .int .i64 0] := Own.keep (by with_reducible (repeat' first | assumption | refine Own.drew ?_ | refine Own.drewN ?_ _ | (refine Own.at ?_; first | rfl | (simp; done)) | refine Own.past ?_ _)) hbwa; have c0 := o0wa.cell; have f0 := o0wa.fro; have l0 := o0wa.lt))
  exact bodyPost_ret (v := (.agg #[.int .i64 t, .int .i64 (-r), .string ⟨#[]⟩, .bool false, .int .i64 c])) (by simp [results, Tryz.results20, go_sem, c0, f0, l0]) rfl ⟨rfl, by with_reducible (repeat' first | assumption | exact Below.refl _ _ | refine Below.drew ?_ | refine bdrewN ?_ _ | refine Below.setCell ?_ (by first | exact Nat.le_refl _ | (simp; done) | (simp; omega) | omega) _ | refine Below.alloc ?_ (by first | exact Nat.le_refl _ | (simp; done) | (simp; omega) | omega) _)⟩
theorem rmod_all (a b : Int) (w : World) (ha : In a) (hb : In b) : Calls Tryz.prog 47 #[.int .i64 a, .int .i64 b] w fun e w' => e = .returned (.tuple #[.int .i64 (modX a b), .int .i64 (modC b)]) ∧ w' = w := by
  unfold modX modC
  by_cases h : b = 0
  · rw [if_pos h, if_pos h]; exact rmod_bZero a b w ha.1 h
  · rw [if_neg h, if_neg h]; exact rmod_ok a b w ha.1 ha.2 hb.1 hb.2 h
theorem two_mod (x y : Int) (w : World) (hx : In x) (hy : In y) : Calls Tryz.prog 20 #[.string ⟨#[77, 79, 68]⟩, .int .i64 x, .int .i64 y] w fun e w' => e = .returned (.agg #[.int .i64 (tT (modC y)), .int .i64 (modX x y), .string ⟨#[]⟩, .bool false, .int .i64 (modC y)]) ∧ Below w.heap.size w w' := by
  have h1 := fun w1 => rmod_all x y w1 hx hy
  have h3 := fun w1 => dtold_any _ _ w1 (modX_in (a := x) hy) (modXC x y)
  generalize modX x y = r at h1 h3 ⊢
  generalize modC y = c at h1 h3 ⊢
  generalize tT c = t at h3 ⊢
  go_enter Tryz.func20, Tryz.ntmps20
  go_wp2_with (first | (go_at_call 47; refine (h1 _).mono ?_; rintro e w5 ⟨rfl, e5⟩; rw [e5]; clear e5 w5) | (go_at_call 38; refine (h3 _).mono ?_; rintro e wa ⟨rfl, hbwa⟩; have hBwa : Below w.heap.size w wa := bup (by with_reducible (repeat' first | assumption | exact Below.refl _ _ | refine Below.drew ?_ | refine bdrewN ?_ _ | refine Below.setCell ?_ (by first | exact Nat.le_refl _ | (simp; done) | (simp; omega) | omega) _ | refine Below.alloc ?_ (by first | exact Nat.le_refl _ | (simp; done) | (simp; omega) | omega) _)) hbwa; have zwa := hBwa.size; have o0wa : Own wa (w.heap.size) #[.int .i64 0, .int .i64 0, .string ⟨#[]⟩, .bool false, .int .i64 0] := Own.keep (by with_reducible (repeat' first | assumption | refine Own.drew ?_ | refine Own.drewN ?_ _ | (refine Own.at ?_; first | rfl | (simp; done)) | refine Own.past ?_ _)) hbwa; have c0 := o0wa.cell; have f0 := o0wa.fro; have l0 := o0wa.lt))
  exact bodyPost_ret (v := (.agg #[.int .i64 t, .int .i64 r, .string ⟨#[]⟩, .bool false, .int .i64 c])) (by simp [results, Tryz.results20, go_sem, c0, f0, l0]) rfl ⟨rfl, by with_reducible (repeat' first | assumption | exact Below.refl _ _ | refine Below.drew ?_ | refine bdrewN ?_ _ | refine Below.setCell ?_ (by first | exact Nat.le_refl _ | (simp; done) | (simp; omega) | omega) _ | refine Below.alloc ?_ (by first | exact Nat.le_refl _ | (simp; done) | (simp; omega) | omega) _)⟩
theorem two_quot_no (x y : Int) (w : World) (h : y = 0) : Calls Tryz.prog 20 #[.string ⟨#[81, 85, 79, 84]⟩, .int .i64 x, .int .i64 y] w fun e w' => e = .returned (.agg #[.int .i64 (4), .int .i64 (0), .string ⟨#[]⟩, .bool false, .int .i64 (3)]) ∧ Below w.heap.size w w' := by
  subst h
  go_enter Tryz.func20, Tryz.ntmps20
  go_wp2_with (go_at_call 14; refine (derr_ok _ _ (by decide) (by decide)).mono ?_; rintro e wa ⟨rfl, hbwa⟩; have hBwa : Below w.heap.size w wa := bup (by with_reducible (repeat' first | assumption | exact Below.refl _ _ | refine Below.drew ?_ | refine bdrewN ?_ _ | refine Below.setCell ?_ (by first | exact Nat.le_refl _ | (simp; done) | (simp; omega) | omega) _ | refine Below.alloc ?_ (by first | exact Nat.le_refl _ | (simp; done) | (simp; omega) | omega) _)) hbwa; have zwa := hBwa.size; have o0wa : Own wa (w.heap.size) #[.int .i64 0, .int .i64 0, .string ⟨#[]⟩, .bool false, .int .i64 0] := Own.keep (by with_reducible (repeat' first | assumption | refine Own.drew ?_ | refine Own.drewN ?_ _ | (refine Own.at ?_; first | rfl | (simp; done)) | refine Own.past ?_ _)) hbwa; have c0 := o0wa.cell; have f0 := o0wa.fro; have l0 := o0wa.lt)
  exact bodyPost_ret (v := (.agg #[.int .i64 (4), .int .i64 (0), .string ⟨#[]⟩, .bool false, .int .i64 (3)])) (by simp [results, Tryz.results20, go_sem, c0, f0, l0]) rfl ⟨rfl, by with_reducible (repeat' first | assumption | exact Below.refl _ _ | refine Below.drew ?_ | refine bdrewN ?_ _ | refine Below.setCell ?_ (by first | exact Nat.le_refl _ | (simp; done) | (simp; omega) | omega) _ | refine Below.alloc ?_ (by first | exact Nat.le_refl _ | (simp; done) | (simp; omega) | omega) _)⟩
end Go.Proofs.YtfpbcokfianjaaaGreat
