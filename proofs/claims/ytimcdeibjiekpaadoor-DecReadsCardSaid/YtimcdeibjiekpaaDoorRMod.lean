/- The contract of orielref01.Mod, of any two int64: what is left of a when it is divided by b, with b's sign. Nothing is written. -/
import Derived.Test.YtimcdeibjiekpaaDoorMod
import Derived.Test.YtimcdeibjiekpaaDoorRSums
namespace Go.Proofs.YtimcdeibjiekpaaDoor
open Go.Shelf Go.RowKit
set_option linter.unusedVariables false
theorem rmay_t (x : Int) (w : World) (h : -9223372036854775807 ≤ x) : Calls Tryd.prog 17 #[.int .i64 x] w fun e w' => e = .returned (.bool true) ∧ w' = w := by
  go_enter Tryd.func17, Tryd.ntmps17
  go_wp2
  go_ret
  exact ⟨rfl, rfl⟩
theorem rmay_f (x : Int) (w : World) (h : x = -9223372036854775808) : Calls Tryd.prog 17 #[.int .i64 x] w fun e w' => e = .returned (.bool false) ∧ w' = w := by
  subst h
  go_enter Tryd.func17, Tryd.ntmps17
  go_wp2
  go_ret
  exact ⟨rfl, rfl⟩
theorem rmod_z (a b r : Int) (w : World) (ha1 : -9223372036854775807 ≤ a) (ha2 : a ≤ 9223372036854775807) (hb1 : -9223372036854775807 ≤ b) (hb2 : b ≤ 9223372036854775807) (hr : a.tmod b = r) (hrb : r.natAbs < b.natAbs) (hb0 : b ≠ 0) (hr0 : r = 0) : Calls Tryd.prog 24 #[.int .i64 a, .int .i64 b] w fun e w' => e = .returned (.tuple #[.int .i64 (0), .int .i64 0]) ∧ w' = w := by
  have hw : wrap64 r = r := by unfold wrap64; omega
  go_enter Tryd.func24, Tryd.ntmps24
  go_wp2_with (go_at_call 17; refine (rmay_t _ _ (by omega)).mono ?_; rintro e w' ⟨rfl, rfl⟩)
  go_ret2
  exact ⟨ret2 (by omega) rfl, rfl⟩
theorem rmod_pp (a b r : Int) (w : World) (ha1 : -9223372036854775807 ≤ a) (ha2 : a ≤ 9223372036854775807) (hb1 : -9223372036854775807 ≤ b) (hb2 : b ≤ 9223372036854775807) (hr : a.tmod b = r) (hrb : r.natAbs < b.natAbs) (hb0 : 0 < b) (hr0 : 0 < r) : Calls Tryd.prog 24 #[.int .i64 a, .int .i64 b] w fun e w' => e = .returned (.tuple #[.int .i64 (r), .int .i64 0]) ∧ w' = w := by
  have hw : wrap64 r = r := by unfold wrap64; omega
  have hrz : (r != 0) = true := by simp; omega
  have db : decide (b < 0) = false := by simp; omega
  have dr : decide (r < 0) = false := by simp; omega
  go_enter Tryd.func24, Tryd.ntmps24
  go_wp2_with (go_at_call 17; refine (rmay_t _ _ (by omega)).mono ?_; rintro e w' ⟨rfl, rfl⟩)
  go_ret2
  exact ⟨ret2 (by omega) rfl, rfl⟩
theorem rmod_pn (a b r : Int) (w : World) (ha1 : -9223372036854775807 ≤ a) (ha2 : a ≤ 9223372036854775807) (hb1 : -9223372036854775807 ≤ b) (hb2 : b ≤ 9223372036854775807) (hr : a.tmod b = r) (hrb : r.natAbs < b.natAbs) (hb0 : 0 < b) (hr0 : r < 0) : Calls Tryd.prog 24 #[.int .i64 a, .int .i64 b] w fun e w' => e = .returned (.tuple #[.int .i64 (r + b), .int .i64 0]) ∧ w' = w := by
  have hw : wrap64 r = r := by unfold wrap64; omega
  have hrz : (r != 0) = true := by simp; omega
  have db : decide (b < 0) = false := by simp; omega
  have dr : decide (r < 0) = true := by simp; omega
  go_enter Tryd.func24, Tryd.ntmps24
  go_wp2_with (go_at_call 17; refine (rmay_t _ _ (by omega)).mono ?_; rintro e w' ⟨rfl, rfl⟩)
  go_ret2
  exact ⟨ret2 (by omega) rfl, rfl⟩
theorem rmod_np (a b r : Int) (w : World) (ha1 : -9223372036854775807 ≤ a) (ha2 : a ≤ 9223372036854775807) (hb1 : -9223372036854775807 ≤ b) (hb2 : b ≤ 9223372036854775807) (hr : a.tmod b = r) (hrb : r.natAbs < b.natAbs) (hb0 : b < 0) (hr0 : 0 < r) : Calls Tryd.prog 24 #[.int .i64 a, .int .i64 b] w fun e w' => e = .returned (.tuple #[.int .i64 (r + b), .int .i64 0]) ∧ w' = w := by
  have hw : wrap64 r = r := by unfold wrap64; omega
  have hrz : (r != 0) = true := by simp; omega
  have db : decide (b < 0) = true := by simp; omega
  have dr : decide (r < 0) = false := by simp; omega
  go_enter Tryd.func24, Tryd.ntmps24
  go_wp2_with (go_at_call 17; refine (rmay_t _ _ (by omega)).mono ?_; rintro e w' ⟨rfl, rfl⟩)
  go_ret2
  exact ⟨ret2 (by omega) rfl, rfl⟩
theorem rmod_nn (a b r : Int) (w : World) (ha1 : -9223372036854775807 ≤ a) (ha2 : a ≤ 9223372036854775807) (hb1 : -9223372036854775807 ≤ b) (hb2 : b ≤ 9223372036854775807) (hr : a.tmod b = r) (hrb : r.natAbs < b.natAbs) (hb0 : b < 0) (hr0 : r < 0) : Calls Tryd.prog 24 #[.int .i64 a, .int .i64 b] w fun e w' => e = .returned (.tuple #[.int .i64 (r), .int .i64 0]) ∧ w' = w := by
  have hw : wrap64 r = r := by unfold wrap64; omega
  have hrz : (r != 0) = true := by simp; omega
  have db : decide (b < 0) = true := by simp; omega
  have dr : decide (r < 0) = true := by simp; omega
  go_enter Tryd.func24, Tryd.ntmps24
  go_wp2_with (go_at_call 17; refine (rmay_t _ _ (by omega)).mono ?_; rintro e w' ⟨rfl, rfl⟩)
  go_ret2
  exact ⟨ret2 (by omega) rfl, rfl⟩
theorem rmod_aMin (a b : Int) (w : World) (ha : a = -9223372036854775808) : Calls Tryd.prog 24 #[.int .i64 a, .int .i64 b] w fun e w' => e = .returned (.tuple #[.int .i64 0, .int .i64 2]) ∧ w' = w := by
  go_enter Tryd.func24, Tryd.ntmps24
  go_wp2_with (go_at_call 17; refine (rmay_f _ _ (by omega)).mono ?_; rintro e w' ⟨rfl, rfl⟩)
  go_ret2
  exact ⟨rfl, rfl⟩
theorem rmod_bMin (a b : Int) (w : World) (ha : -9223372036854775807 ≤ a) (hb : b = -9223372036854775808) : Calls Tryd.prog 24 #[.int .i64 a, .int .i64 b] w fun e w' => e = .returned (.tuple #[.int .i64 0, .int .i64 2]) ∧ w' = w := by
  go_enter Tryd.func24, Tryd.ntmps24
  go_wp2_with (first | (go_at_call 17; refine (rmay_t _ _ (by omega)).mono ?_; rintro e w' ⟨rfl, rfl⟩) | (go_at_call 17; refine (rmay_f _ _ (by omega)).mono ?_; rintro e w' ⟨rfl, rfl⟩))
  go_ret2
  exact ⟨rfl, rfl⟩
theorem rmod_bZero (a b : Int) (w : World) (ha : -9223372036854775807 ≤ a) (hb : b = 0) : Calls Tryd.prog 24 #[.int .i64 a, .int .i64 b] w fun e w' => e = .returned (.tuple #[.int .i64 0, .int .i64 3]) ∧ w' = w := by
  go_enter Tryd.func24, Tryd.ntmps24
  go_wp2_with (go_at_call 17; refine (rmay_t _ _ (by omega)).mono ?_; rintro e w' ⟨rfl, rfl⟩)
  go_ret2
  exact ⟨rfl, rfl⟩
theorem rmod_ok (a b : Int) (w : World) (ha1 : -9223372036854775807 ≤ a) (ha2 : a ≤ 9223372036854775807) (hb1 : -9223372036854775807 ≤ b) (hb2 : b ≤ 9223372036854775807) (hb : b ≠ 0) : Calls Tryd.prog 24 #[.int .i64 a, .int .i64 b] w fun e w' => e = .returned (.tuple #[.int .i64 (modV a b), .int .i64 0]) ∧ w' = w := by
  have hbd := tmod_bd a b hb
  by_cases hbp : 0 < b
  · by_cases hz : a.tmod b = 0
    · rw [mod_pp hbp (by omega), hz]; exact rmod_z a b _ w ha1 ha2 hb1 hb2 rfl hbd hb hz
    by_cases hp : 0 < a.tmod b
    · rw [mod_pp hbp (by omega)]; exact rmod_pp a b _ w ha1 ha2 hb1 hb2 rfl hbd hbp hp
    · rw [mod_pn hbp (by omega)]; exact rmod_pn a b _ w ha1 ha2 hb1 hb2 rfl hbd hbp (by omega)
  · by_cases hz : a.tmod b = 0
    · rw [mod_np (by omega) (by omega), hz]; exact rmod_z a b _ w ha1 ha2 hb1 hb2 rfl hbd hb hz
    by_cases hp : 0 < a.tmod b
    · rw [mod_nn (by omega) hp]; exact rmod_np a b _ w ha1 ha2 hb1 hb2 rfl hbd (by omega) hp
    · rw [mod_np (by omega) (by omega)]; exact rmod_nn a b _ w ha1 ha2 hb1 hb2 rfl hbd (by omega) (by omega)
end Go.Proofs.YtimcdeibjiekpaaDoor
