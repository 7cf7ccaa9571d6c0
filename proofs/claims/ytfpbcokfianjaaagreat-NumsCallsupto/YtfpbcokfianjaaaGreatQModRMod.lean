/- The contract of dec.Mod, of any two int64: what is left of a when it is divided by b, with b's sign. Nothing is written. · The contract of orielref01.Mod, of any two int64: what is left of a when it is divided by b, with b's sign. Nothing is written. -/
import Derived.Test.YtfpbcokfianjaaaGreatQShelfASums
import Derived.Test.YtfpbcokfianjaaaGreatQRSumsV1
namespace Go.Proofs.YtfpbcokfianjaaaGreat
open Go.Shelf Go.RowKit
set_option linter.unusedVariables false
/-- What is left, with the divisor's sign. -/
def modV (a b : Int) : Int := if 0 < b then a % b else -((-a) % (-b))
theorem emod_is {a b q v : Int} (hb : 0 < b) (h0 : 0 ≤ v) (h1 : v < b) (h : v + b * q = a) : a % b = v := ((Int.ediv_emod_unique hb).2 ⟨h, h0, h1⟩).2
theorem tmod_bd (a b : Int) (hb : b ≠ 0) : (a.tmod b).natAbs < b.natAbs := by
  rw [Int.natAbs_tmod]; exact Nat.mod_lt _ (by omega)
theorem mod_pp {a b : Int} (hb : 0 < b) (h : 0 ≤ a.tmod b) : modV a b = a.tmod b := by
  have h1 := tmod_bd a b (by omega)
  unfold modV; rw [if_pos hb]
  exact emod_is hb h (by omega) (Int.tmod_add_mul_tdiv a b)
theorem mod_pn {a b : Int} (hb : 0 < b) (h : a.tmod b < 0) : modV a b = a.tmod b + b := by
  have h1 := tmod_bd a b (by omega)
  unfold modV; rw [if_pos hb]
  refine emod_is (q := a.tdiv b - 1) hb (by omega) (by omega) ?_
  have := Int.tmod_add_mul_tdiv a b
  rw [Int.mul_sub, Int.mul_one]; omega
theorem mod_np {a b : Int} (hb : b < 0) (h : a.tmod b ≤ 0) : modV a b = a.tmod b := by
  have h1 := tmod_bd a b (by omega)
  unfold modV; rw [if_neg (by omega)]
  have e : (-a) % (-b) = -(a.tmod b) := by
    refine emod_is (q := a.tdiv b) (by omega) (by omega) (by omega) ?_
    have := Int.tmod_add_mul_tdiv a b
    rw [Int.neg_mul]; omega
  omega
theorem mod_nn {a b : Int} (hb : b < 0) (h : 0 < a.tmod b) : modV a b = a.tmod b + b := by
  have h1 := tmod_bd a b (by omega)
  unfold modV; rw [if_neg (by omega)]
  have e : (-a) % (-b) = -(a.tmod b) + (-b) := by
    refine emod_is (q := a.tdiv b - 1) (by omega) (by omega) (by omega) ?_
    have := Int.tmod_add_mul_tdiv a b
    rw [Int.mul_sub, Int.mul_one, Int.neg_mul]; omega
  omega
theorem modw_z (a b r : Int) (w : World) (ha1 : -9223372036854775807 ≤ a) (ha2 : a ≤ 9223372036854775807) (hb1 : -9223372036854775807 ≤ b) (hb2 : b ≤ 9223372036854775807) (hr : a.tmod b = r) (hrb : r.natAbs < b.natAbs) (hb0 : b ≠ 0) (hr0 : r = 0) : Calls Tryz.prog 91 #[.int .i64 a, .int .i64 b] w fun e w' => e = .returned (.tuple #[.int .i64 (0), .int .i64 0]) ∧ w' = w := by
  have hw : wrap64 r = r := by unfold wrap64; omega
  go_enter Tryz.func91, Tryz.ntmps91
  go_wp2_with (go_at_call 109; refine (may_t _ _ (by omega)).mono ?_; rintro e w' ⟨rfl, rfl⟩)
  go_ret2
  exact ⟨ret2 (by omega) rfl, rfl⟩
theorem modw_pp (a b r : Int) (w : World) (ha1 : -9223372036854775807 ≤ a) (ha2 : a ≤ 9223372036854775807) (hb1 : -9223372036854775807 ≤ b) (hb2 : b ≤ 9223372036854775807) (hr : a.tmod b = r) (hrb : r.natAbs < b.natAbs) (hb0 : 0 < b) (hr0 : 0 < r) : Calls Tryz.prog 91 #[.int .i64 a, .int .i64 b] w fun e w' => e = .returned (.tuple #[.int .i64 (r), .int .i64 0]) ∧ w' = w := by
  have hw : wrap64 r = r := by unfold wrap64; omega
  have hrz : (r != 0) = true := by simp; omega
  have db : decide (b < 0) = false := by simp; omega
  have dr : decide (r < 0) = false := by simp; omega
  go_enter Tryz.func91, Tryz.ntmps91
  go_wp2_with (go_at_call 109; refine (may_t _ _ (by omega)).mono ?_; rintro e w' ⟨rfl, rfl⟩)
  go_ret2
  exact ⟨ret2 (by omega) rfl, rfl⟩
theorem modw_pn (a b r : Int) (w : World) (ha1 : -9223372036854775807 ≤ a) (ha2 : a ≤ 9223372036854775807) (hb1 : -9223372036854775807 ≤ b) (hb2 : b ≤ 9223372036854775807) (hr : a.tmod b = r) (hrb : r.natAbs < b.natAbs) (hb0 : 0 < b) (hr0 : r < 0) : Calls Tryz.prog 91 #[.int .i64 a, .int .i64 b] w fun e w' => e = .returned (.tuple #[.int .i64 (r + b), .int .i64 0]) ∧ w' = w := by
  have hw : wrap64 r = r := by unfold wrap64; omega
  have hrz : (r != 0) = true := by simp; omega
  have db : decide (b < 0) = false := by simp; omega
  have dr : decide (r < 0) = true := by simp; omega
  go_enter Tryz.func91, Tryz.ntmps91
  go_wp2_with (go_at_call 109; refine (may_t _ _ (by omega)).mono ?_; rintro e w' ⟨rfl, rfl⟩)
  go_ret2
  exact ⟨ret2 (by omega) rfl, rfl⟩
theorem modw_np (a b r : Int) (w : World) (ha1 : -9223372036854775807 ≤ a) (ha2 : a ≤ 9223372036854775807) (hb1 : -9223372036854775807 ≤ b) (hb2 : b ≤ 9223372036854775807) (hr : a.tmod b = r) (hrb : r.natAbs < b.natAbs) (hb0 : b < 0) (hr0 : 0 < r) : Calls Tryz.prog 91 #[.int .i64 a, .int .i64 b] w fun e w' => e = .returned (.tuple #[.int .i64 (r + b), .int .i64 0]) ∧ w' = w := by
  have hw : wrap64 r = r := by unfold wrap64; omega
  have hrz : (r != 0) = true := by simp; omega
  have db : decide (b < 0) = true := by simp; omega
  have dr : decide (r < 0) = false := by simp; omega
  go_enter Tryz.func91, Tryz.ntmps91
  go_wp2_with (go_at_call 109; refine (may_t _ _ (by omega)).mono ?_; rintro e w' ⟨rfl, rfl⟩)
  go_ret2
  exact ⟨ret2 (by omega) rfl, rfl⟩
theorem modw_nn (a b r : Int) (w : World) (ha1 : -9223372036854775807 ≤ a) (ha2 : a ≤ 9223372036854775807) (hb1 : -9223372036854775807 ≤ b) (hb2 : b ≤ 9223372036854775807) (hr : a.tmod b = r) (hrb : r.natAbs < b.natAbs) (hb0 : b < 0) (hr0 : r < 0) : Calls Tryz.prog 91 #[.int .i64 a, .int .i64 b] w fun e w' => e = .returned (.tuple #[.int .i64 (r), .int .i64 0]) ∧ w' = w := by
  have hw : wrap64 r = r := by unfold wrap64; omega
  have hrz : (r != 0) = true := by simp; omega
  have db : decide (b < 0) = true := by simp; omega
  have dr : decide (r < 0) = true := by simp; omega
  go_enter Tryz.func91, Tryz.ntmps91
  go_wp2_with (go_at_call 109; refine (may_t _ _ (by omega)).mono ?_; rintro e w' ⟨rfl, rfl⟩)
  go_ret2
  exact ⟨ret2 (by omega) rfl, rfl⟩
theorem modw_bZero (a b : Int) (w : World) (ha : -9223372036854775807 ≤ a) (hb : b = 0) : Calls Tryz.prog 91 #[.int .i64 a, .int .i64 b] w fun e w' => e = .returned (.tuple #[.int .i64 0, .int .i64 3]) ∧ w' = w := by
  go_enter Tryz.func91, Tryz.ntmps91
  go_wp2_with (go_at_call 109; refine (may_t _ _ (by omega)).mono ?_; rintro e w' ⟨rfl, rfl⟩)
  go_ret2
  exact ⟨rfl, rfl⟩
theorem modw_ok (a b : Int) (w : World) (ha1 : -9223372036854775807 ≤ a) (ha2 : a ≤ 9223372036854775807) (hb1 : -9223372036854775807 ≤ b) (hb2 : b ≤ 9223372036854775807) (hb : b ≠ 0) : Calls Tryz.prog 91 #[.int .i64 a, .int .i64 b] w fun e w' => e = .returned (.tuple #[.int .i64 (modV a b), .int .i64 0]) ∧ w' = w := by
  have hbd := tmod_bd a b hb
  by_cases hbp : 0 < b
  · by_cases hz : a.tmod b = 0
    · rw [mod_pp hbp (by omega), hz]; exact modw_z a b _ w ha1 ha2 hb1 hb2 rfl hbd hb hz
    by_cases hp : 0 < a.tmod b
    · rw [mod_pp hbp (by omega)]; exact modw_pp a b _ w ha1 ha2 hb1 hb2 rfl hbd hbp hp
    · rw [mod_pn hbp (by omega)]; exact modw_pn a b _ w ha1 ha2 hb1 hb2 rfl hbd hbp (by omega)
  · by_cases hz : a.tmod b = 0
    · rw [mod_np (by omega) (by omega), hz]; exact modw_z a b _ w ha1 ha2 hb1 hb2 rfl hbd hb hz
    by_cases hp : 0 < a.tmod b
    · rw [mod_nn (by omega) hp]; exact modw_np a b _ w ha1 ha2 hb1 hb2 rfl hbd (by omega) hp
    · rw [mod_np (by omega) (by omega)]; exact modw_nn a b _ w ha1 ha2 hb1 hb2 rfl hbd (by omega) (by omega)
end Go.Proofs.YtfpbcokfianjaaaGreat
namespace Go.Proofs.YtfpbcokfianjaaaGreat
open Go.Shelf Go.RowKit
set_option linter.unusedVariables false
theorem rmay_t (x : Int) (w : World) (h : -9223372036854775807 ≤ x) : Calls Tryz.prog 37 #[.int .i64 x] w fun e w' => e = .returned (.bool true) ∧ w' = w := by
  go_enter Tryz.func37, Tryz.ntmps37
  go_wp2
  go_ret
  exact ⟨rfl, rfl⟩
theorem rmay_f (x : Int) (w : World) (h : x = -9223372036854775808) : Calls Tryz.prog 37 #[.int .i64 x] w fun e w' => e = .returned (.bool false) ∧ w' = w := by
  subst h
  go_enter Tryz.func37, Tryz.ntmps37
  go_wp2
  go_ret
  exact ⟨rfl, rfl⟩
theorem rmod_z (a b r : Int) (w : World) (ha1 : -9223372036854775807 ≤ a) (ha2 : a ≤ 9223372036854775807) (hb1 : -9223372036854775807 ≤ b) (hb2 : b ≤ 9223372036854775807) (hr : a.tmod b = r) (hrb : r.natAbs < b.natAbs) (hb0 : b ≠ 0) (hr0 : r = 0) : Calls Tryz.prog 47 #[.int .i64 a, .int .i64 b] w fun e w' => e = .returned (.tuple #[.int .i64 (0), .int .i64 0]) ∧ w' = w := by
  have hw : wrap64 r = r := by unfold wrap64; omega
  go_enter Tryz.func47, Tryz.ntmps47
  go_wp2_with (go_at_call 37; refine (rmay_t _ _ (by omega)).mono ?_; rintro e w' ⟨rfl, rfl⟩)
  go_ret2
  exact ⟨ret2 (by omega) rfl, rfl⟩
theorem rmod_pp (a b r : Int) (w : World) (ha1 : -9223372036854775807 ≤ a) (ha2 : a ≤ 9223372036854775807) (hb1 : -9223372036854775807 ≤ b) (hb2 : b ≤ 9223372036854775807) (hr : a.tmod b = r) (hrb : r.natAbs < b.natAbs) (hb0 : 0 < b) (hr0 : 0 < r) : Calls Tryz.prog 47 #[.int .i64 a, .int .i64 b] w fun e w' => e = .returned (.tuple #[.int .i64 (r), .int .i64 0]) ∧ w' = w := by
  have hw : wrap64 r = r := by unfold wrap64; omega
  have hrz : (r != 0) = true := by simp; omega
  have db : decide (b < 0) = false := by simp; omega
  have dr : decide (r < 0) = false := by simp; omega
  go_enter Tryz.func47, Tryz.ntmps47
  go_wp2_with (go_at_call 37; refine (rmay_t _ _ (by omega)).mono ?_; rintro e w' ⟨rfl, rfl⟩)
  go_ret2
  exact ⟨ret2 (by omega) rfl, rfl⟩
theorem rmod_pn (a b r : Int) (w : World) (ha1 : -9223372036854775807 ≤ a) (ha2 : a ≤ 9223372036854775807) (hb1 : -9223372036854775807 ≤ b) (hb2 : b ≤ 9223372036854775807) (hr : a.tmod b = r) (hrb : r.natAbs < b.natAbs) (hb0 : 0 < b) (hr0 : r < 0) : Calls Tryz.prog 47 #[.int .i64 a, .int .i64 b] w fun e w' => e = .returned (.tuple #[.int .i64 (r + b), .int .i64 0]) ∧ w' = w := by
  have hw : wrap64 r = r := by unfold wrap64; omega
  have hrz : (r != 0) = true := by simp; omega
  have db : decide (b < 0) = false := by simp; omega
  have dr : decide (r < 0) = true := by simp; omega
  go_enter Tryz.func47, Tryz.ntmps47
  go_wp2_with (go_at_call 37; refine (rmay_t _ _ (by omega)).mono ?_; rintro e w' ⟨rfl, rfl⟩)
  go_ret2
  exact ⟨ret2 (by omega) rfl, rfl⟩
theorem rmod_np (a b r : Int) (w : World) (ha1 : -9223372036854775807 ≤ a) (ha2 : a ≤ 9223372036854775807) (hb1 : -9223372036854775807 ≤ b) (hb2 : b ≤ 9223372036854775807) (hr : a.tmod b = r) (hrb : r.natAbs < b.natAbs) (hb0 : b < 0) (hr0 : 0 < r) : Calls Tryz.prog 47 #[.int .i64 a, .int .i64 b] w fun e w' => e = .returned (.tuple #[.int .i64 (r + b), .int .i64 0]) ∧ w' = w := by
  have hw : wrap64 r = r := by unfold wrap64; omega
  have hrz : (r != 0) = true := by simp; omega
  have db : decide (b < 0) = true := by simp; omega
  have dr : decide (r < 0) = false := by simp; omega
  go_enter Tryz.func47, Tryz.ntmps47
  go_wp2_with (go_at_call 37; refine (rmay_t _ _ (by omega)).mono ?_; rintro e w' ⟨rfl, rfl⟩)
  go_ret2
  exact ⟨ret2 (by omega) rfl, rfl⟩
theorem rmod_nn (a b r : Int) (w : World) (ha1 : -9223372036854775807 ≤ a) (ha2 : a ≤ 9223372036854775807) (hb1 : -9223372036854775807 ≤ b) (hb2 : b ≤ 9223372036854775807) (hr : a.tmod b = r) (hrb : r.natAbs < b.natAbs) (hb0 : b < 0) (hr0 : r < 0) : Calls Tryz.prog 47 #[.int .i64 a, .int .i64 b] w fun e w' => e = .returned (.tuple #[.int .i64 (r), .int .i64 0]) ∧ w' = w := by
  have hw : wrap64 r = r := by unfold wrap64; omega
  have hrz : (r != 0) = true := by simp; omega
  have db : decide (b < 0) = true := by simp; omega
  have dr : decide (r < 0) = true := by simp; omega
  go_enter Tryz.func47, Tryz.ntmps47
  go_wp2_with (go_at_call 37; refine (rmay_t _ _ (by omega)).mono ?_; rintro e w' ⟨rfl, rfl⟩)
  go_ret2
  exact ⟨ret2 (by omega) rfl, rfl⟩
theorem rmod_bZero (a b : Int) (w : World) (ha : -9223372036854775807 ≤ a) (hb : b = 0) : Calls Tryz.prog 47 #[.int .i64 a, .int .i64 b] w fun e w' => e = .returned (.tuple #[.int .i64 0, .int .i64 3]) ∧ w' = w := by
  go_enter Tryz.func47, Tryz.ntmps47
  go_wp2_with (go_at_call 37; refine (rmay_t _ _ (by omega)).mono ?_; rintro e w' ⟨rfl, rfl⟩)
  go_ret2
  exact ⟨rfl, rfl⟩
theorem rmod_ok (a b : Int) (w : World) (ha1 : -9223372036854775807 ≤ a) (ha2 : a ≤ 9223372036854775807) (hb1 : -9223372036854775807 ≤ b) (hb2 : b ≤ 9223372036854775807) (hb : b ≠ 0) : Calls Tryz.prog 47 #[.int .i64 a, .int .i64 b] w fun e w' => e = .returned (.tuple #[.int .i64 (modV a b), .int .i64 0]) ∧ w' = w := by
  have hbd := tmod_bd a b hb
  by_cases hbp : 0 < b
  · by_cases hz : a.tmod b = 0
    · rw [mod_pp hbp (by omega), hz]; exact rmod_z a b _ w ha1 ha2 hb1 hb2 rfl hbd hb hz
    by_cases hp : 0 < a.tmod b
    · rw [mod_pp hbp (by omega)]; exact rmod_pp a b _ w ha1 ha2 hb1 hb2 rfl hbd hbp hp
    · rw [mod_pn hbp (by omega)]; exact rmod_pn a b _ w ha1 ha2 hb1 hb2 rfl hbd hbp (by omega)
  · by_cases hz : a.tmod b = 0
    · rw [mod_np (by omega) (by omega), hz]; exact rmod_z a b _ w ha1 ha2 hb1 hb2 rfl hbd hb hz
    by_cases hp : 0 < a.tmod b
    · rw [mod_nn (by omega) hp]; exact rmod_np a b _ w ha1 ha2 hb1 hb2 rfl hbd (by omega) hp
    · rw [mod_np (by omega) (by omega)]; exact rmod_nn a b _ w ha1 ha2 hb1 hb2 rfl hbd (by omega) (by omega)
end Go.Proofs.YtfpbcokfianjaaaGreat
