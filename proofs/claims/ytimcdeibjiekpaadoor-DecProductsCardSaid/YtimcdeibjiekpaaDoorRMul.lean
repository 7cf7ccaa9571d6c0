/- The contract of the document's Mul, of any two int64, in the words of dec.Mul's. New memory alone is made. -/
import Derived.Test.YtimcdeibjiekpaaDoorRRound
import Derived.Test.YtimcdeibjiekpaaDoorMul
namespace Go.Proofs.YtimcdeibjiekpaaDoor
open Go.Shelf Go.RowKit
set_option linter.unusedVariables false
/-- The parts of the product that are added up so far. -/
def psum (pq v1 v2 v3 : Int) : Nat → Int
  | 0 => 0
  | 1 => pq * 10000
  | 2 => pq * 10000 + v1
  | 3 => pq * 10000 + v1 + v2
  | _ => pq * 10000 + v1 + v2 + (v3 + 5000) / 10000
set_option maxRecDepth 10000 in
theorem rmul_zbig (a b pq v1 v2 v3 : Int) (w : World) (ha1 : -9223372036854775807 ≤ a) (ha2 : a ≤ 9223372036854775807) (hb1 : -9223372036854775807 ≤ b) (hb2 : b ≤ 9223372036854775807) (sa0 : 0 ≤ sizeV a) (sa1 : sizeV a ≤ 9223372036854775807) (sb0 : 0 ≤ sizeV b) (sb1 : sizeV b ≤ 9223372036854775807) (e0 : sizeV a / 10000 * (sizeV b / 10000) = pq) (pq0 : 0 ≤ pq) (pq1 : pq ≤ 922337203685477) (e1 : sizeV a / 10000 * (sizeV b % 10000) = v1) (v10 : 0 ≤ v1) (v11 : v1 ≤ 9223372036854775807) (e2 : sizeV b / 10000 * (sizeV a % 10000) = v2) (v20 : 0 ≤ v2) (v21 : v2 ≤ 9223372036854775807) (e3 : sizeV a % 10000 * (sizeV b % 10000) = v3) (v30 : 0 ≤ v3) (v31 : v3 ≤ 99980001) (hp : sizeV a / 10000 ≤ 0) (hs : 9223372036854775807 < pq * 10000 + v1 + v2 + (v3 + 5000) / 10000)  : Calls Tryd.prog 20 #[.int .i64 a, .int .i64 b] w fun e w' => e = .returned (.tuple #[.int .i64 0, .int .i64 2]) ∧ Below w.heap.size w w' := by
  go_enter Tryd.func20, Tryd.ntmps20
  go_wp2_with (first | (go_at_call 17; refine (rmay_t _ _ (by omega)).mono ?_; rintro e w' ⟨rfl, rfl⟩) | (go_at_call 41; refine (rsize_any _ _ (by omega) (by omega)).mono ?_; rintro e w' ⟨rfl, rfl⟩))
  go_loop [13, 14] (fun st i => ∃ k : Nat, k ≤ 4 ∧ i = .int .i64 k ∧ st = .int .u64 (psum pq v1 v2 v3 k) ∧ psum pq v1 v2 v3 k ≤ 9223372036854775807) (fun _ i => 4 - (intOf i).toNat)
  case atStart => exact ⟨0, by omega, rfl, rfl, by simp only [psum]; omega⟩
  case round =>
    obtain ⟨k, hk, rfl, rfl, hle⟩ := hrel
    have hk5 : k = 0 ∨ k = 1 ∨ k = 2 ∨ k = 3 ∨ k = 4 := by omega
    rcases hk5 with rfl | rfl | rfl | rfl | rfl
    · simp only [psum] at hle ⊢
      go_wp2
      go_round
      case rel => exact ⟨1, by omega, by go_num, by simp only, by simp only; omega⟩
      case measure => simp [intOf]
    · simp only [psum] at hle ⊢
      by_cases hn : pq * 10000 + v1 ≤ 9223372036854775807
      · go_wp2
        go_round
        case rel => exact ⟨2, by omega, by go_num, by simp only, by simp only; omega⟩
        case measure => simp [intOf]
      · go_wp2
        go_ret2
        exact ⟨rfl, (Below.refl _ _).alloc (Nat.le_refl _) _⟩
    · simp only [psum] at hle ⊢
      by_cases hn : pq * 10000 + v1 + v2 ≤ 9223372036854775807
      · go_wp2
        go_round
        case rel => exact ⟨3, by omega, by go_num, by simp only, by simp only; omega⟩
        case measure => simp [intOf]
      · go_wp2
        go_ret2
        exact ⟨rfl, (Below.refl _ _).alloc (Nat.le_refl _) _⟩
    · simp only [psum] at hle ⊢
      go_wp2
      go_ret2
      exact ⟨rfl, (Below.refl _ _).alloc (Nat.le_refl _) _⟩
    · simp only [psum] at hle
      exact absurd hle (by omega)
set_option maxRecDepth 10000 in
theorem rmul_zpp (a b pq v1 v2 v3 : Int) (w : World) (ha1 : -9223372036854775807 ≤ a) (ha2 : a ≤ 9223372036854775807) (hb1 : -9223372036854775807 ≤ b) (hb2 : b ≤ 9223372036854775807) (sa0 : 0 ≤ sizeV a) (sa1 : sizeV a ≤ 9223372036854775807) (sb0 : 0 ≤ sizeV b) (sb1 : sizeV b ≤ 9223372036854775807) (e0 : sizeV a / 10000 * (sizeV b / 10000) = pq) (pq0 : 0 ≤ pq) (pq1 : pq ≤ 922337203685477) (e1 : sizeV a / 10000 * (sizeV b % 10000) = v1) (v10 : 0 ≤ v1) (v11 : v1 ≤ 9223372036854775807) (e2 : sizeV b / 10000 * (sizeV a % 10000) = v2) (v20 : 0 ≤ v2) (v21 : v2 ≤ 9223372036854775807) (e3 : sizeV a % 10000 * (sizeV b % 10000) = v3) (v30 : 0 ≤ v3) (v31 : v3 ≤ 99980001) (hp : sizeV a / 10000 ≤ 0) (hs : pq * 10000 + v1 + v2 + (v3 + 5000) / 10000 ≤ 9223372036854775807) (ha0 : 0 ≤ a) (hb0 : 0 ≤ b) : Calls Tryd.prog 20 #[.int .i64 a, .int .i64 b] w fun e w' => e = .returned (.tuple #[.int .i64 (pq * 10000 + v1 + v2 + (v3 + 5000) / 10000), .int .i64 0]) ∧ Below w.heap.size w w' := by
  have da : decide (a < 0) = false := by exact decide_eq_false (by omega)
  have db : decide (b < 0) = false := by exact decide_eq_false (by omega)
  go_enter Tryd.func20, Tryd.ntmps20
  go_wp2_with (first | (go_at_call 17; refine (rmay_t _ _ (by omega)).mono ?_; rintro e w' ⟨rfl, rfl⟩) | (go_at_call 41; refine (rsize_any _ _ (by omega) (by omega)).mono ?_; rintro e w' ⟨rfl, rfl⟩))
  go_loop [13, 14] (fun st i => ∃ k : Nat, k ≤ 4 ∧ i = .int .i64 k ∧ st = .int .u64 (psum pq v1 v2 v3 k) ∧ psum pq v1 v2 v3 k ≤ 9223372036854775807) (fun _ i => 4 - (intOf i).toNat)
  case atStart => exact ⟨0, by omega, rfl, rfl, by simp only [psum]; omega⟩
  case round =>
    obtain ⟨k, hk, rfl, rfl, hle⟩ := hrel
    have hk5 : k = 0 ∨ k = 1 ∨ k = 2 ∨ k = 3 ∨ k = 4 := by omega
    rcases hk5 with rfl | rfl | rfl | rfl | rfl
    · simp only [psum] at hle ⊢
      go_wp2
      go_round
      case rel => exact ⟨1, by omega, by go_num, by simp only, by simp only; omega⟩
      case measure => simp [intOf]
    · simp only [psum] at hle ⊢
      go_wp2
      go_round
      case rel => exact ⟨2, by omega, by go_num, by simp only, by simp only; omega⟩
      case measure => simp [intOf]
    · simp only [psum] at hle ⊢
      go_wp2
      go_round
      case rel => exact ⟨3, by omega, by go_num, by simp only, by simp only; omega⟩
      case measure => simp [intOf]
    · simp only [psum] at hle ⊢
      go_wp2
      go_round
      case rel => exact ⟨4, by omega, by go_num, by simp only, by simp only; omega⟩
      case measure => simp [intOf]
    · simp only [psum] at hle ⊢
      go_wp2_with (go_at_call 42; refine (rsigned_pos _ _ (by omega) (by omega)).mono ?_; rintro e w' ⟨rfl, rfl⟩)
      go_ret2
      exact ⟨rfl, (Below.refl _ _).alloc (Nat.le_refl _) _⟩
set_option maxRecDepth 10000 in
theorem rmul_znn (a b pq v1 v2 v3 : Int) (w : World) (ha1 : -9223372036854775807 ≤ a) (ha2 : a ≤ 9223372036854775807) (hb1 : -9223372036854775807 ≤ b) (hb2 : b ≤ 9223372036854775807) (sa0 : 0 ≤ sizeV a) (sa1 : sizeV a ≤ 9223372036854775807) (sb0 : 0 ≤ sizeV b) (sb1 : sizeV b ≤ 9223372036854775807) (e0 : sizeV a / 10000 * (sizeV b / 10000) = pq) (pq0 : 0 ≤ pq) (pq1 : pq ≤ 922337203685477) (e1 : sizeV a / 10000 * (sizeV b % 10000) = v1) (v10 : 0 ≤ v1) (v11 : v1 ≤ 9223372036854775807) (e2 : sizeV b / 10000 * (sizeV a % 10000) = v2) (v20 : 0 ≤ v2) (v21 : v2 ≤ 9223372036854775807) (e3 : sizeV a % 10000 * (sizeV b % 10000) = v3) (v30 : 0 ≤ v3) (v31 : v3 ≤ 99980001) (hp : sizeV a / 10000 ≤ 0) (hs : pq * 10000 + v1 + v2 + (v3 + 5000) / 10000 ≤ 9223372036854775807) (ha0 : a < 0) (hb0 : b < 0) : Calls Tryd.prog 20 #[.int .i64 a, .int .i64 b] w fun e w' => e = .returned (.tuple #[.int .i64 (pq * 10000 + v1 + v2 + (v3 + 5000) / 10000), .int .i64 0]) ∧ Below w.heap.size w w' := by
  have da : decide (a < 0) = true := by exact decide_eq_true ha0
  have db : decide (b < 0) = true := by exact decide_eq_true hb0
  go_enter Tryd.func20, Tryd.ntmps20
  go_wp2_with (first | (go_at_call 17; refine (rmay_t _ _ (by omega)).mono ?_; rintro e w' ⟨rfl, rfl⟩) | (go_at_call 41; refine (rsize_any _ _ (by omega) (by omega)).mono ?_; rintro e w' ⟨rfl, rfl⟩))
  go_loop [13, 14] (fun st i => ∃ k : Nat, k ≤ 4 ∧ i = .int .i64 k ∧ st = .int .u64 (psum pq v1 v2 v3 k) ∧ psum pq v1 v2 v3 k ≤ 9223372036854775807) (fun _ i => 4 - (intOf i).toNat)
  case atStart => exact ⟨0, by omega, rfl, rfl, by simp only [psum]; omega⟩
  case round =>
    obtain ⟨k, hk, rfl, rfl, hle⟩ := hrel
    have hk5 : k = 0 ∨ k = 1 ∨ k = 2 ∨ k = 3 ∨ k = 4 := by omega
    rcases hk5 with rfl | rfl | rfl | rfl | rfl
    · simp only [psum] at hle ⊢
      go_wp2
      go_round
      case rel => exact ⟨1, by omega, by go_num, by simp only, by simp only; omega⟩
      case measure => simp [intOf]
    · simp only [psum] at hle ⊢
      go_wp2
      go_round
      case rel => exact ⟨2, by omega, by go_num, by simp only, by simp only; omega⟩
      case measure => simp [intOf]
    · simp only [psum] at hle ⊢
      go_wp2
      go_round
      case rel => exact ⟨3, by omega, by go_num, by simp only, by simp only; omega⟩
      case measure => simp [intOf]
    · simp only [psum] at hle ⊢
      go_wp2
      go_round
      case rel => exact ⟨4, by omega, by go_num, by simp only, by simp only; omega⟩
      case measure => simp [intOf]
    · simp only [psum] at hle ⊢
      go_wp2_with (go_at_call 42; refine (rsigned_pos _ _ (by omega) (by omega)).mono ?_; rintro e w' ⟨rfl, rfl⟩)
      go_ret2
      exact ⟨rfl, (Below.refl _ _).alloc (Nat.le_refl _) _⟩
set_option maxRecDepth 10000 in
theorem rmul_znp (a b pq v1 v2 v3 : Int) (w : World) (ha1 : -9223372036854775807 ≤ a) (ha2 : a ≤ 9223372036854775807) (hb1 : -9223372036854775807 ≤ b) (hb2 : b ≤ 9223372036854775807) (sa0 : 0 ≤ sizeV a) (sa1 : sizeV a ≤ 9223372036854775807) (sb0 : 0 ≤ sizeV b) (sb1 : sizeV b ≤ 9223372036854775807) (e0 : sizeV a / 10000 * (sizeV b / 10000) = pq) (pq0 : 0 ≤ pq) (pq1 : pq ≤ 922337203685477) (e1 : sizeV a / 10000 * (sizeV b % 10000) = v1) (v10 : 0 ≤ v1) (v11 : v1 ≤ 9223372036854775807) (e2 : sizeV b / 10000 * (sizeV a % 10000) = v2) (v20 : 0 ≤ v2) (v21 : v2 ≤ 9223372036854775807) (e3 : sizeV a % 10000 * (sizeV b % 10000) = v3) (v30 : 0 ≤ v3) (v31 : v3 ≤ 99980001) (hp : sizeV a / 10000 ≤ 0) (hs : pq * 10000 + v1 + v2 + (v3 + 5000) / 10000 ≤ 9223372036854775807) (ha0 : a < 0) (hb0 : 0 ≤ b) : Calls Tryd.prog 20 #[.int .i64 a, .int .i64 b] w fun e w' => e = .returned (.tuple #[.int .i64 (-(pq * 10000 + v1 + v2 + (v3 + 5000) / 10000)), .int .i64 0]) ∧ Below w.heap.size w w' := by
  have da : decide (a < 0) = true := by exact decide_eq_true ha0
  have db : decide (b < 0) = false := by exact decide_eq_false (by omega)
  go_enter Tryd.func20, Tryd.ntmps20
  go_wp2_with (first | (go_at_call 17; refine (rmay_t _ _ (by omega)).mono ?_; rintro e w' ⟨rfl, rfl⟩) | (go_at_call 41; refine (rsize_any _ _ (by omega) (by omega)).mono ?_; rintro e w' ⟨rfl, rfl⟩))
  go_loop [13, 14] (fun st i => ∃ k : Nat, k ≤ 4 ∧ i = .int .i64 k ∧ st = .int .u64 (psum pq v1 v2 v3 k) ∧ psum pq v1 v2 v3 k ≤ 9223372036854775807) (fun _ i => 4 - (intOf i).toNat)
  case atStart => exact ⟨0, by omega, rfl, rfl, by simp only [psum]; omega⟩
  case round =>
    obtain ⟨k, hk, rfl, rfl, hle⟩ := hrel
    have hk5 : k = 0 ∨ k = 1 ∨ k = 2 ∨ k = 3 ∨ k = 4 := by omega
    rcases hk5 with rfl | rfl | rfl | rfl | rfl
    · simp only [psum] at hle ⊢
      go_wp2
      go_round
      case rel => exact ⟨1, by omega, by go_num, by simp only, by simp only; omega⟩
      case measure => simp [intOf]
    · simp only [psum] at hle ⊢
      go_wp2
      go_round
      case rel => exact ⟨2, by omega, by go_num, by simp only, by simp only; omega⟩
      case measure => simp [intOf]
    · simp only [psum] at hle ⊢
      go_wp2
      go_round
      case rel => exact ⟨3, by omega, by go_num, by simp only, by simp only; omega⟩
      case measure => simp [intOf]
    · simp only [psum] at hle ⊢
      go_wp2
      go_round
      case rel => exact ⟨4, by omega, by go_num, by simp only, by simp only; omega⟩
      case measure => simp [intOf]
    · simp only [psum] at hle ⊢
      go_wp2_with (go_at_call 42; refine (rsigned_neg _ _ (by omega) (by omega)).mono ?_; rintro e w' ⟨rfl, rfl⟩)
      go_ret2
      exact ⟨rfl, (Below.refl _ _).alloc (Nat.le_refl _) _⟩
set_option maxRecDepth 10000 in
theorem rmul_zpn (a b pq v1 v2 v3 : Int) (w : World) (ha1 : -9223372036854775807 ≤ a) (ha2 : a ≤ 9223372036854775807) (hb1 : -9223372036854775807 ≤ b) (hb2 : b ≤ 9223372036854775807) (sa0 : 0 ≤ sizeV a) (sa1 : sizeV a ≤ 9223372036854775807) (sb0 : 0 ≤ sizeV b) (sb1 : sizeV b ≤ 9223372036854775807) (e0 : sizeV a / 10000 * (sizeV b / 10000) = pq) (pq0 : 0 ≤ pq) (pq1 : pq ≤ 922337203685477) (e1 : sizeV a / 10000 * (sizeV b % 10000) = v1) (v10 : 0 ≤ v1) (v11 : v1 ≤ 9223372036854775807) (e2 : sizeV b / 10000 * (sizeV a % 10000) = v2) (v20 : 0 ≤ v2) (v21 : v2 ≤ 9223372036854775807) (e3 : sizeV a % 10000 * (sizeV b % 10000) = v3) (v30 : 0 ≤ v3) (v31 : v3 ≤ 99980001) (hp : sizeV a / 10000 ≤ 0) (hs : pq * 10000 + v1 + v2 + (v3 + 5000) / 10000 ≤ 9223372036854775807) (ha0 : 0 ≤ a) (hb0 : b < 0) : Calls Tryd.prog 20 #[.int .i64 a, .int .i64 b] w fun e w' => e = .returned (.tuple #[.int .i64 (-(pq * 10000 + v1 + v2 + (v3 + 5000) / 10000)), .int .i64 0]) ∧ Below w.heap.size w w' := by
  have da : decide (a < 0) = false := by exact decide_eq_false (by omega)
  have db : decide (b < 0) = true := by exact decide_eq_true hb0
  go_enter Tryd.func20, Tryd.ntmps20
  go_wp2_with (first | (go_at_call 17; refine (rmay_t _ _ (by omega)).mono ?_; rintro e w' ⟨rfl, rfl⟩) | (go_at_call 41; refine (rsize_any _ _ (by omega) (by omega)).mono ?_; rintro e w' ⟨rfl, rfl⟩))
  go_loop [13, 14] (fun st i => ∃ k : Nat, k ≤ 4 ∧ i = .int .i64 k ∧ st = .int .u64 (psum pq v1 v2 v3 k) ∧ psum pq v1 v2 v3 k ≤ 9223372036854775807) (fun _ i => 4 - (intOf i).toNat)
  case atStart => exact ⟨0, by omega, rfl, rfl, by simp only [psum]; omega⟩
  case round =>
    obtain ⟨k, hk, rfl, rfl, hle⟩ := hrel
    have hk5 : k = 0 ∨ k = 1 ∨ k = 2 ∨ k = 3 ∨ k = 4 := by omega
    rcases hk5 with rfl | rfl | rfl | rfl | rfl
    · simp only [psum] at hle ⊢
      go_wp2
      go_round
      case rel => exact ⟨1, by omega, by go_num, by simp only, by simp only; omega⟩
      case measure => simp [intOf]
    · simp only [psum] at hle ⊢
      go_wp2
      go_round
      case rel => exact ⟨2, by omega, by go_num, by simp only, by simp only; omega⟩
      case measure => simp [intOf]
    · simp only [psum] at hle ⊢
      go_wp2
      go_round
      case rel => exact ⟨3, by omega, by go_num, by simp only, by simp only; omega⟩
      case measure => simp [intOf]
    · simp only [psum] at hle ⊢
      go_wp2
      go_round
      case rel => exact ⟨4, by omega, by go_num, by simp only, by simp only; omega⟩
      case measure => simp [intOf]
    · simp only [psum] at hle ⊢
      go_wp2_with (go_at_call 42; refine (rsigned_neg _ _ (by omega) (by omega)).mono ?_; rintro e w' ⟨rfl, rfl⟩)
      go_ret2
      exact ⟨rfl, (Below.refl _ _).alloc (Nat.le_refl _) _⟩
set_option maxRecDepth 10000 in
theorem rmul_pbig (a b pq v1 v2 v3 : Int) (w : World) (ha1 : -9223372036854775807 ≤ a) (ha2 : a ≤ 9223372036854775807) (hb1 : -9223372036854775807 ≤ b) (hb2 : b ≤ 9223372036854775807) (sa0 : 0 ≤ sizeV a) (sa1 : sizeV a ≤ 9223372036854775807) (sb0 : 0 ≤ sizeV b) (sb1 : sizeV b ≤ 9223372036854775807) (e0 : sizeV a / 10000 * (sizeV b / 10000) = pq) (pq0 : 0 ≤ pq) (pq1 : pq ≤ 922337203685477) (e1 : sizeV a / 10000 * (sizeV b % 10000) = v1) (v10 : 0 ≤ v1) (v11 : v1 ≤ 9223372036854775807) (e2 : sizeV b / 10000 * (sizeV a % 10000) = v2) (v20 : 0 ≤ v2) (v21 : v2 ≤ 9223372036854775807) (e3 : sizeV a % 10000 * (sizeV b % 10000) = v3) (v30 : 0 ≤ v3) (v31 : v3 ≤ 99980001) (hp : 0 < sizeV a / 10000) (hg : sizeV b / 10000 ≤ 922337203685477 / (sizeV a / 10000)) (hs : 9223372036854775807 < pq * 10000 + v1 + v2 + (v3 + 5000) / 10000)  : Calls Tryd.prog 20 #[.int .i64 a, .int .i64 b] w fun e w' => e = .returned (.tuple #[.int .i64 0, .int .i64 2]) ∧ Below w.heap.size w w' := by
  have hg2 : ¬ 922337203685477 / (sizeV a / 10000) < sizeV b / 10000 := by omega
  have hz : (sizeV a / 10000 == 0) = false := by rw [beq_eq_false_iff_ne]; omega
  go_enter Tryd.func20, Tryd.ntmps20
  go_wp2_with (first | (go_at_call 17; refine (rmay_t _ _ (by omega)).mono ?_; rintro e w' ⟨rfl, rfl⟩) | (go_at_call 41; refine (rsize_any _ _ (by omega) (by omega)).mono ?_; rintro e w' ⟨rfl, rfl⟩))
  go_loop [13, 14] (fun st i => ∃ k : Nat, k ≤ 4 ∧ i = .int .i64 k ∧ st = .int .u64 (psum pq v1 v2 v3 k) ∧ psum pq v1 v2 v3 k ≤ 9223372036854775807) (fun _ i => 4 - (intOf i).toNat)
  case atStart => exact ⟨0, by omega, rfl, rfl, by simp only [psum]; omega⟩
  case round =>
    obtain ⟨k, hk, rfl, rfl, hle⟩ := hrel
    have hk5 : k = 0 ∨ k = 1 ∨ k = 2 ∨ k = 3 ∨ k = 4 := by omega
    rcases hk5 with rfl | rfl | rfl | rfl | rfl
    · simp only [psum] at hle ⊢
      go_wp2
      go_round
      case rel => exact ⟨1, by omega, by go_num, by simp only, by simp only; omega⟩
      case measure => simp [intOf]
    · simp only [psum] at hle ⊢
      by_cases hn : pq * 10000 + v1 ≤ 9223372036854775807
      · go_wp2
        go_round
        case rel => exact ⟨2, by omega, by go_num, by simp only, by simp only; omega⟩
        case measure => simp [intOf]
      · go_wp2
        go_ret2
        exact ⟨rfl, (Below.refl _ _).alloc (Nat.le_refl _) _⟩
    · simp only [psum] at hle ⊢
      by_cases hn : pq * 10000 + v1 + v2 ≤ 9223372036854775807
      · go_wp2
        go_round
        case rel => exact ⟨3, by omega, by go_num, by simp only, by simp only; omega⟩
        case measure => simp [intOf]
      · go_wp2
        go_ret2
        exact ⟨rfl, (Below.refl _ _).alloc (Nat.le_refl _) _⟩
    · simp only [psum] at hle ⊢
      go_wp2
      go_ret2
      exact ⟨rfl, (Below.refl _ _).alloc (Nat.le_refl _) _⟩
    · simp only [psum] at hle
      exact absurd hle (by omega)
set_option maxRecDepth 10000 in
theorem rmul_ppp (a b pq v1 v2 v3 : Int) (w : World) (ha1 : -9223372036854775807 ≤ a) (ha2 : a ≤ 9223372036854775807) (hb1 : -9223372036854775807 ≤ b) (hb2 : b ≤ 9223372036854775807) (sa0 : 0 ≤ sizeV a) (sa1 : sizeV a ≤ 9223372036854775807) (sb0 : 0 ≤ sizeV b) (sb1 : sizeV b ≤ 9223372036854775807) (e0 : sizeV a / 10000 * (sizeV b / 10000) = pq) (pq0 : 0 ≤ pq) (pq1 : pq ≤ 922337203685477) (e1 : sizeV a / 10000 * (sizeV b % 10000) = v1) (v10 : 0 ≤ v1) (v11 : v1 ≤ 9223372036854775807) (e2 : sizeV b / 10000 * (sizeV a % 10000) = v2) (v20 : 0 ≤ v2) (v21 : v2 ≤ 9223372036854775807) (e3 : sizeV a % 10000 * (sizeV b % 10000) = v3) (v30 : 0 ≤ v3) (v31 : v3 ≤ 99980001) (hp : 0 < sizeV a / 10000) (hg : sizeV b / 10000 ≤ 922337203685477 / (sizeV a / 10000)) (hs : pq * 10000 + v1 + v2 + (v3 + 5000) / 10000 ≤ 9223372036854775807) (ha0 : 0 ≤ a) (hb0 : 0 ≤ b) : Calls Tryd.prog 20 #[.int .i64 a, .int .i64 b] w fun e w' => e = .returned (.tuple #[.int .i64 (pq * 10000 + v1 + v2 + (v3 + 5000) / 10000), .int .i64 0]) ∧ Below w.heap.size w w' := by
  have hg2 : ¬ 922337203685477 / (sizeV a / 10000) < sizeV b / 10000 := by omega
  have hz : (sizeV a / 10000 == 0) = false := by rw [beq_eq_false_iff_ne]; omega
  have da : decide (a < 0) = false := by exact decide_eq_false (by omega)
  have db : decide (b < 0) = false := by exact decide_eq_false (by omega)
  go_enter Tryd.func20, Tryd.ntmps20
  go_wp2_with (first | (go_at_call 17; refine (rmay_t _ _ (by omega)).mono ?_; rintro e w' ⟨rfl, rfl⟩) | (go_at_call 41; refine (rsize_any _ _ (by omega) (by omega)).mono ?_; rintro e w' ⟨rfl, rfl⟩))
  go_loop [13, 14] (fun st i => ∃ k : Nat, k ≤ 4 ∧ i = .int .i64 k ∧ st = .int .u64 (psum pq v1 v2 v3 k) ∧ psum pq v1 v2 v3 k ≤ 9223372036854775807) (fun _ i => 4 - (intOf i).toNat)
  case atStart => exact ⟨0, by omega, rfl, rfl, by simp only [psum]; omega⟩
  case round =>
    obtain ⟨k, hk, rfl, rfl, hle⟩ := hrel
    have hk5 : k = 0 ∨ k = 1 ∨ k = 2 ∨ k = 3 ∨ k = 4 := by omega
    rcases hk5 with rfl | rfl | rfl | rfl | rfl
    · simp only [psum] at hle ⊢
      go_wp2
      go_round
      case rel => exact ⟨1, by omega, by go_num, by simp only, by simp only; omega⟩
      case measure => simp [intOf]
    · simp only [psum] at hle ⊢
      go_wp2
      go_round
      case rel => exact ⟨2, by omega, by go_num, by simp only, by simp only; omega⟩
      case measure => simp [intOf]
    · simp only [psum] at hle ⊢
      go_wp2
      go_round
      case rel => exact ⟨3, by omega, by go_num, by simp only, by simp only; omega⟩
      case measure => simp [intOf]
    · simp only [psum] at hle ⊢
      go_wp2
      go_round
      case rel => exact ⟨4, by omega, by go_num, by simp only, by simp only; omega⟩
      case measure => simp [intOf]
    · simp only [psum] at hle ⊢
      go_wp2_with (go_at_call 42; refine (rsigned_pos _ _ (by omega) (by omega)).mono ?_; rintro e w' ⟨rfl, rfl⟩)
      go_ret2
      exact ⟨rfl, (Below.refl _ _).alloc (Nat.le_refl _) _⟩
set_option maxRecDepth 10000 in
theorem rmul_pnn (a b pq v1 v2 v3 : Int) (w : World) (ha1 : -9223372036854775807 ≤ a) (ha2 : a ≤ 9223372036854775807) (hb1 : -9223372036854775807 ≤ b) (hb2 : b ≤ 9223372036854775807) (sa0 : 0 ≤ sizeV a) (sa1 : sizeV a ≤ 9223372036854775807) (sb0 : 0 ≤ sizeV b) (sb1 : sizeV b ≤ 9223372036854775807) (e0 : sizeV a / 10000 * (sizeV b / 10000) = pq) (pq0 : 0 ≤ pq) (pq1 : pq ≤ 922337203685477) (e1 : sizeV a / 10000 * (sizeV b % 10000) = v1) (v10 : 0 ≤ v1) (v11 : v1 ≤ 9223372036854775807) (e2 : sizeV b / 10000 * (sizeV a % 10000) = v2) (v20 : 0 ≤ v2) (v21 : v2 ≤ 9223372036854775807) (e3 : sizeV a % 10000 * (sizeV b % 10000) = v3) (v30 : 0 ≤ v3) (v31 : v3 ≤ 99980001) (hp : 0 < sizeV a / 10000) (hg : sizeV b / 10000 ≤ 922337203685477 / (sizeV a / 10000)) (hs : pq * 10000 + v1 + v2 + (v3 + 5000) / 10000 ≤ 9223372036854775807) (ha0 : a < 0) (hb0 : b < 0) : Calls Tryd.prog 20 #[.int .i64 a, .int .i64 b] w fun e w' => e = .returned (.tuple #[.int .i64 (pq * 10000 + v1 + v2 + (v3 + 5000) / 10000), .int .i64 0]) ∧ Below w.heap.size w w' := by
  have hg2 : ¬ 922337203685477 / (sizeV a / 10000) < sizeV b / 10000 := by omega
  have hz : (sizeV a / 10000 == 0) = false := by rw [beq_eq_false_iff_ne]; omega
  have da : decide (a < 0) = true := by exact decide_eq_true ha0
  have db : decide (b < 0) = true := by exact decide_eq_true hb0
  go_enter Tryd.func20, Tryd.ntmps20
  go_wp2_with (first | (go_at_call 17; refine (rmay_t _ _ (by omega)).mono ?_; rintro e w' ⟨rfl, rfl⟩) | (go_at_call 41; refine (rsize_any _ _ (by omega) (by omega)).mono ?_; rintro e w' ⟨rfl, rfl⟩))
  go_loop [13, 14] (fun st i => ∃ k : Nat, k ≤ 4 ∧ i = .int .i64 k ∧ st = .int .u64 (psum pq v1 v2 v3 k) ∧ psum pq v1 v2 v3 k ≤ 9223372036854775807) (fun _ i => 4 - (intOf i).toNat)
  case atStart => exact ⟨0, by omega, rfl, rfl, by simp only [psum]; omega⟩
  case round =>
    obtain ⟨k, hk, rfl, rfl, hle⟩ := hrel
    have hk5 : k = 0 ∨ k = 1 ∨ k = 2 ∨ k = 3 ∨ k = 4 := by omega
    rcases hk5 with rfl | rfl | rfl | rfl | rfl
    · simp only [psum] at hle ⊢
      go_wp2
      go_round
      case rel => exact ⟨1, by omega, by go_num, by simp only, by simp only; omega⟩
      case measure => simp [intOf]
    · simp only [psum] at hle ⊢
      go_wp2
      go_round
      case rel => exact ⟨2, by omega, by go_num, by simp only, by simp only; omega⟩
      case measure => simp [intOf]
    · simp only [psum] at hle ⊢
      go_wp2
      go_round
      case rel => exact ⟨3, by omega, by go_num, by simp only, by simp only; omega⟩
      case measure => simp [intOf]
    · simp only [psum] at hle ⊢
      go_wp2
      go_round
      case rel => exact ⟨4, by omega, by go_num, by simp only, by simp only; omega⟩
      case measure => simp [intOf]
    · simp only [psum] at hle ⊢
      go_wp2_with (go_at_call 42; refine (rsigned_pos _ _ (by omega) (by omega)).mono ?_; rintro e w' ⟨rfl, rfl⟩)
      go_ret2
      exact ⟨rfl, (Below.refl _ _).alloc (Nat.le_refl _) _⟩
set_option maxRecDepth 10000 in
theorem rmul_pnp (a b pq v1 v2 v3 : Int) (w : World) (ha1 : -9223372036854775807 ≤ a) (ha2 : a ≤ 9223372036854775807) (hb1 : -9223372036854775807 ≤ b) (hb2 : b ≤ 9223372036854775807) (sa0 : 0 ≤ sizeV a) (sa1 : sizeV a ≤ 9223372036854775807) (sb0 : 0 ≤ sizeV b) (sb1 : sizeV b ≤ 9223372036854775807) (e0 : sizeV a / 10000 * (sizeV b / 10000) = pq) (pq0 : 0 ≤ pq) (pq1 : pq ≤ 922337203685477) (e1 : sizeV a / 10000 * (sizeV b % 10000) = v1) (v10 : 0 ≤ v1) (v11 : v1 ≤ 9223372036854775807) (e2 : sizeV b / 10000 * (sizeV a % 10000) = v2) (v20 : 0 ≤ v2) (v21 : v2 ≤ 9223372036854775807) (e3 : sizeV a % 10000 * (sizeV b % 10000) = v3) (v30 : 0 ≤ v3) (v31 : v3 ≤ 99980001) (hp : 0 < sizeV a / 10000) (hg : sizeV b / 10000 ≤ 922337203685477 / (sizeV a / 10000)) (hs : pq * 10000 + v1 + v2 + (v3 + 5000) / 10000 ≤ 9223372036854775807) (ha0 : a < 0) (hb0 : 0 ≤ b) : Calls Tryd.prog 20 #[.int .i64 a, .int .i64 b] w fun e w' => e = .returned (.tuple #[.int .i64 (-(pq * 10000 + v1 + v2 + (v3 + 5000) / 10000)), .int .i64 0]) ∧ Below w.heap.size w w' := by
  have hg2 : ¬ 922337203685477 / (sizeV a / 10000) < sizeV b / 10000 := by omega
  have hz : (sizeV a / 10000 == 0) = false := by rw [beq_eq_false_iff_ne]; omega
  have da : decide (a < 0) = true := by exact decide_eq_true ha0
  have db : decide (b < 0) = false := by exact decide_eq_false (by omega)
  go_enter Tryd.func20, Tryd.ntmps20
  go_wp2_with (first | (go_at_call 17; refine (rmay_t _ _ (by omega)).mono ?_; rintro e w' ⟨rfl, rfl⟩) | (go_at_call 41; refine (rsize_any _ _ (by omega) (by omega)).mono ?_; rintro e w' ⟨rfl, rfl⟩))
  go_loop [13, 14] (fun st i => ∃ k : Nat, k ≤ 4 ∧ i = .int .i64 k ∧ st = .int .u64 (psum pq v1 v2 v3 k) ∧ psum pq v1 v2 v3 k ≤ 9223372036854775807) (fun _ i => 4 - (intOf i).toNat)
  case atStart => exact ⟨0, by omega, rfl, rfl, by simp only [psum]; omega⟩
  case round =>
    obtain ⟨k, hk, rfl, rfl, hle⟩ := hrel
    have hk5 : k = 0 ∨ k = 1 ∨ k = 2 ∨ k = 3 ∨ k = 4 := by omega
    rcases hk5 with rfl | rfl | rfl | rfl | rfl
    · simp only [psum] at hle ⊢
      go_wp2
      go_round
      case rel => exact ⟨1, by omega, by go_num, by simp only, by simp only; omega⟩
      case measure => simp [intOf]
    · simp only [psum] at hle ⊢
      go_wp2
      go_round
      case rel => exact ⟨2, by omega, by go_num, by simp only, by simp only; omega⟩
      case measure => simp [intOf]
    · simp only [psum] at hle ⊢
      go_wp2
      go_round
      case rel => exact ⟨3, by omega, by go_num, by simp only, by simp only; omega⟩
      case measure => simp [intOf]
    · simp only [psum] at hle ⊢
      go_wp2
      go_round
      case rel => exact ⟨4, by omega, by go_num, by simp only, by simp only; omega⟩
      case measure => simp [intOf]
    · simp only [psum] at hle ⊢
      go_wp2_with (go_at_call 42; refine (rsigned_neg _ _ (by omega) (by omega)).mono ?_; rintro e w' ⟨rfl, rfl⟩)
      go_ret2
      exact ⟨rfl, (Below.refl _ _).alloc (Nat.le_refl _) _⟩
set_option maxRecDepth 10000 in
theorem rmul_ppn (a b pq v1 v2 v3 : Int) (w : World) (ha1 : -9223372036854775807 ≤ a) (ha2 : a ≤ 9223372036854775807) (hb1 : -9223372036854775807 ≤ b) (hb2 : b ≤ 9223372036854775807) (sa0 : 0 ≤ sizeV a) (sa1 : sizeV a ≤ 9223372036854775807) (sb0 : 0 ≤ sizeV b) (sb1 : sizeV b ≤ 9223372036854775807) (e0 : sizeV a / 10000 * (sizeV b / 10000) = pq) (pq0 : 0 ≤ pq) (pq1 : pq ≤ 922337203685477) (e1 : sizeV a / 10000 * (sizeV b % 10000) = v1) (v10 : 0 ≤ v1) (v11 : v1 ≤ 9223372036854775807) (e2 : sizeV b / 10000 * (sizeV a % 10000) = v2) (v20 : 0 ≤ v2) (v21 : v2 ≤ 9223372036854775807) (e3 : sizeV a % 10000 * (sizeV b % 10000) = v3) (v30 : 0 ≤ v3) (v31 : v3 ≤ 99980001) (hp : 0 < sizeV a / 10000) (hg : sizeV b / 10000 ≤ 922337203685477 / (sizeV a / 10000)) (hs : pq * 10000 + v1 + v2 + (v3 + 5000) / 10000 ≤ 9223372036854775807) (ha0 : 0 ≤ a) (hb0 : b < 0) : Calls Tryd.prog 20 #[.int .i64 a, .int .i64 b] w fun e w' => e = .returned (.tuple #[.int .i64 (-(pq * 10000 + v1 + v2 + (v3 + 5000) / 10000)), .int .i64 0]) ∧ Below w.heap.size w w' := by
  have hg2 : ¬ 922337203685477 / (sizeV a / 10000) < sizeV b / 10000 := by omega
  have hz : (sizeV a / 10000 == 0) = false := by rw [beq_eq_false_iff_ne]; omega
  have da : decide (a < 0) = false := by exact decide_eq_false (by omega)
  have db : decide (b < 0) = true := by exact decide_eq_true hb0
  go_enter Tryd.func20, Tryd.ntmps20
  go_wp2_with (first | (go_at_call 17; refine (rmay_t _ _ (by omega)).mono ?_; rintro e w' ⟨rfl, rfl⟩) | (go_at_call 41; refine (rsize_any _ _ (by omega) (by omega)).mono ?_; rintro e w' ⟨rfl, rfl⟩))
  go_loop [13, 14] (fun st i => ∃ k : Nat, k ≤ 4 ∧ i = .int .i64 k ∧ st = .int .u64 (psum pq v1 v2 v3 k) ∧ psum pq v1 v2 v3 k ≤ 9223372036854775807) (fun _ i => 4 - (intOf i).toNat)
  case atStart => exact ⟨0, by omega, rfl, rfl, by simp only [psum]; omega⟩
  case round =>
    obtain ⟨k, hk, rfl, rfl, hle⟩ := hrel
    have hk5 : k = 0 ∨ k = 1 ∨ k = 2 ∨ k = 3 ∨ k = 4 := by omega
    rcases hk5 with rfl | rfl | rfl | rfl | rfl
    · simp only [psum] at hle ⊢
      go_wp2
      go_round
      case rel => exact ⟨1, by omega, by go_num, by simp only, by simp only; omega⟩
      case measure => simp [intOf]
    · simp only [psum] at hle ⊢
      go_wp2
      go_round
      case rel => exact ⟨2, by omega, by go_num, by simp only, by simp only; omega⟩
      case measure => simp [intOf]
    · simp only [psum] at hle ⊢
      go_wp2
      go_round
      case rel => exact ⟨3, by omega, by go_num, by simp only, by simp only; omega⟩
      case measure => simp [intOf]
    · simp only [psum] at hle ⊢
      go_wp2
      go_round
      case rel => exact ⟨4, by omega, by go_num, by simp only, by simp only; omega⟩
      case measure => simp [intOf]
    · simp only [psum] at hle ⊢
      go_wp2_with (go_at_call 42; refine (rsigned_neg _ _ (by omega) (by omega)).mono ?_; rintro e w' ⟨rfl, rfl⟩)
      go_ret2
      exact ⟨rfl, (Below.refl _ _).alloc (Nat.le_refl _) _⟩
theorem rmul_over (a b : Int) (w : World) (ha1 : -9223372036854775807 ≤ a) (ha2 : a ≤ 9223372036854775807) (hb1 : -9223372036854775807 ≤ b) (hb2 : b ≤ 9223372036854775807) (sa0 : 0 ≤ sizeV a) (sa1 : sizeV a ≤ 9223372036854775807) (sb0 : 0 ≤ sizeV b) (sb1 : sizeV b ≤ 9223372036854775807) (hp : 0 < sizeV a / 10000) (hg : 922337203685477 / (sizeV a / 10000) < sizeV b / 10000) : Calls Tryd.prog 20 #[.int .i64 a, .int .i64 b] w fun e w' => e = .returned (.tuple #[.int .i64 0, .int .i64 2]) ∧ Below w.heap.size w w' := by
  have hz : (sizeV a / 10000 == 0) = false := by rw [beq_eq_false_iff_ne]; omega
  go_enter Tryd.func20, Tryd.ntmps20
  go_wp2_with (first | (go_at_call 17; refine (rmay_t _ _ (by omega)).mono ?_; rintro e w' ⟨rfl, rfl⟩) | (go_at_call 41; refine (rsize_any _ _ (by omega) (by omega)).mono ?_; rintro e w' ⟨rfl, rfl⟩))
  go_ret2
  exact ⟨rfl, Below.refl _ _⟩
theorem rmul_aMin (a b : Int) (w : World) (ha : a = -9223372036854775808) : Calls Tryd.prog 20 #[.int .i64 a, .int .i64 b] w fun e w' => e = .returned (.tuple #[.int .i64 0, .int .i64 2]) ∧ Below w.heap.size w w' := by
  go_enter Tryd.func20, Tryd.ntmps20
  go_wp2_with (go_at_call 17; refine (rmay_f _ _ (by omega)).mono ?_; rintro e w' ⟨rfl, rfl⟩)
  go_ret2
  exact ⟨rfl, Below.refl _ _⟩
theorem rmul_bMin (a b : Int) (w : World) (ha : -9223372036854775807 ≤ a) (hb : b = -9223372036854775808) : Calls Tryd.prog 20 #[.int .i64 a, .int .i64 b] w fun e w' => e = .returned (.tuple #[.int .i64 0, .int .i64 2]) ∧ Below w.heap.size w w' := by
  go_enter Tryd.func20, Tryd.ntmps20
  go_wp2_with (first | (go_at_call 17; refine (rmay_t _ _ (by omega)).mono ?_; rintro e w' ⟨rfl, rfl⟩) | (go_at_call 17; refine (rmay_f _ _ (by omega)).mono ?_; rintro e w' ⟨rfl, rfl⟩))
  go_ret2
  exact ⟨rfl, Below.refl _ _⟩
end Go.Proofs.YtimcdeibjiekpaaDoor
