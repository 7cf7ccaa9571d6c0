/- The library's contracts of math/bits.Add64, Mul64, LeadingZeros64, laid at this program: for each the table of numbers and that the program bears that very body. No condition. · Contracts of May, Neg, Add, Sub (of package dec and of the document's answer): for every pair of int64, each returns the same number and the same code. No condition but that the arguments are int64. -/
import Derived.Ground.NamesProg
import Derived.Ground.Names7Prog
import Derived.Shelf.Spec.BitsCarry
import Derived.Shelf.Bits.Mul64
import Derived.Shelf.Small.Bits
import Derived.Test.YtfpbcokfianjaaaGreatProg
import Derived.Test.YtfpbcokfianjaaaGreatRows
import Derived.WalkKit
import Derived.WalkSpells
import Derived.Outline
namespace Go.Proofs
open Go.Shelf
def Tryz.lays7x25_ren : Go.Shelf.Ren := ⟨fun | 25 => 125 | n => n, fun | 22 => 71 | n => n, fun | n => n⟩
theorem Tryz.lays7x25 : Go.Proofs.Lays7.n25 Tryz.prog Tryz.lays7x25_ren := {
  mixed := by kernel_rfl
  f25 := Tryz.func125.trans (congrArg some (by kernel_rfl))
  t22 := Tryz.underlying71
  a22 := Tryz.isAgg71
  z22 := Tryz.sizeOf71
  v22 := Tryz.zeroValue71
  i22 := by kernel_rfl }
def Tryz.lays264_ren : Go.Shelf.Ren := ⟨fun | 264 => 115 | n => n, fun | 53 => 71 | 46 => 121 | n => n, fun | n => n⟩
theorem Tryz.lays264 : Go.Proofs.Lays.n264 Tryz.prog Tryz.lays264_ren := {
  mixed := by kernel_rfl
  f264 := Tryz.func115.trans (congrArg some (by kernel_rfl))
  t46 := Tryz.underlying121
  a46 := Tryz.isAgg121
  z46 := Tryz.sizeOf121
  v46 := Tryz.zeroValue121
  t53 := Tryz.underlying71
  a53 := Tryz.isAgg71
  z53 := Tryz.sizeOf71
  v53 := Tryz.zeroValue71 }
def Tryz.lays134_ren : Go.Shelf.Ren := ⟨fun | 134 => 127 | 129 => 129 | n => n, fun | 53 => 71 | 3 => 3 | 4 => 4 | 46 => 121 | 5 => 5 | 9 => 9 | n => n, fun | n => n⟩
theorem Tryz.lays134 : Go.Proofs.Lays.n134 Tryz.prog Tryz.lays134_ren := {
  mixed := by kernel_rfl
  f129 := Tryz.func129.trans (congrArg some (by kernel_rfl))
  f134 := Tryz.func127.trans (congrArg some (by kernel_rfl))
  t3 := Tryz.underlying3
  a3 := Tryz.isAgg3
  z3 := Tryz.sizeOf3
  v3 := Tryz.zeroValue3
  t4 := Tryz.underlying4
  a4 := Tryz.isAgg4
  z4 := Tryz.sizeOf4
  v4 := Tryz.zeroValue4
  t5 := Tryz.underlying5
  a5 := Tryz.isAgg5
  z5 := Tryz.sizeOf5
  v5 := Tryz.zeroValue5
  t9 := Tryz.underlying9
  a9 := Tryz.isAgg9
  z9 := Tryz.sizeOf9
  v9 := Tryz.zeroValue9
  t46 := Tryz.underlying121
  a46 := Tryz.isAgg121
  z46 := Tryz.sizeOf121
  v46 := Tryz.zeroValue121
  t53 := Tryz.underlying71
  a53 := Tryz.isAgg71
  z53 := Tryz.sizeOf71
  v53 := Tryz.zeroValue71 }
end Go.Proofs
namespace Go.Proofs.YtfpbcokfianjaaaGreat
open Go.RowKit Go.Shelf
set_option linter.unusedVariables false

/-- An int64. -/
def I64 (x : Int) : Prop := -9223372036854775808 ≤ x ∧ x ≤ 9223372036854775807
/-- The sum may be. -/
def addOk (a b : Int) : Bool := decide (a ≠ -9223372036854775808 ∧ b ≠ -9223372036854775808 ∧ -9223372036854775807 ≤ a + b ∧ a + b ≤ 9223372036854775807)
/-- A number where it may be, else 0. -/
def okV (ok : Bool) (x : Int) : Int := if ok then x else 0
/-- CodeNone where it may be, else CodeNum. -/
def okC (ok : Bool) : Int := if ok then 0 else 2

theorem wrapU (n : Int) : IntKind.u64.wrap n = n % 18446744073709551616 := by simp [IntKind.wrap, IntKind.bits, IntKind.signed]
theorem wrapU_neg (n : Int) (h : n < 0) (h' : -18446744073709551616 ≤ n) : IntKind.u64.wrap n = n + 18446744073709551616 := by rw [wrapU]; omega
theorem ret2 {k k' : IntKind} {a b c d : Int} (h : a = b) (h' : c = d) : Ending.returned (.tuple #[.int k a, .int k' c]) = .returned (.tuple #[.int k b, .int k' d]) := by rw [h, h']
theorem ret1 {k : IntKind} {a b : Int} (h : a = b) : Ending.returned (.int k a) = .returned (.int k b) := by rw [h]
theorem add64_r (x y r c : Int) (hx : 0 ≤ x) (hy : 0 ≤ y) (hr : 0 ≤ r) (hr' : r < 18446744073709551616) (hc : c = 0 ∨ c = 1) (h : x + y = r + c * 18446744073709551616) (w : World) : (callFunc 125 #[.int .u64 x, .int .u64 y, .int .u64 0]).run Tryz.prog w =
    .ok (.value (.tuple #[.int .u64 r, .int .u64 c])) w := by
  obtain ⟨x, rfl⟩ := Int.eq_ofNat_of_zero_le hx
  obtain ⟨y, rfl⟩ := Int.eq_ofNat_of_zero_le hy
  have k := Any7.bits_Add64 Tryz.lays7x25 x y 0 (by omega) w
  rw [show (((x + y + 0) % 18446744073709551616 : Nat) : Int) = r by omega, show (((x + y + 0) / 18446744073709551616 : Nat) : Int) = c by omega] at k
  exact k

theorem may_t (x : Int) (w : World) (h : -9223372036854775807 ≤ x) : Calls Tryz.prog 109 #[.int .i64 x] w fun e w' => e = .returned (.bool true) ∧ w' = w := by
  have hx : (x != -9223372036854775808) = true := by simp; omega
  go_enter Tryz.func109, Tryz.ntmps109
  go_wp2
  go_ret
  exact ⟨rfl, rfl⟩
theorem may_f (x : Int) (w : World) (h : x = -9223372036854775808) : Calls Tryz.prog 109 #[.int .i64 x] w fun e w' => e = .returned (.bool false) ∧ w' = w := by
  subst h
  go_enter Tryz.func109, Tryz.ntmps109
  go_wp2
  go_ret
  exact ⟨rfl, rfl⟩
theorem sw_neg (x : Int) (w : World) (h1 : -9223372036854775808 ≤ x) (h2 : x < 0) : Calls Tryz.prog 126 #[.int .i64 x] w fun e w' => e = .returned (.int .u64 18446744073709551615) ∧ w' = w := by
  have hx : x / 9223372036854775808 = -1 := by omega
  go_enter Tryz.func126, Tryz.ntmps126
  go_wp2
  go_ret
  exact ⟨rfl, rfl⟩
theorem sw_pos (x : Int) (w : World) (h1 : 0 ≤ x) (h2 : x ≤ 9223372036854775807) : Calls Tryz.prog 126 #[.int .i64 x] w fun e w' => e = .returned (.int .u64 0) ∧ w' = w := by
  have hx : x / 9223372036854775808 = 0 := by omega
  go_enter Tryz.func126, Tryz.ntmps126
  go_wp2
  go_ret
  exact ⟨rfl, rfl⟩

theorem add_aMin (a b : Int) (w : World) (ha : a = -9223372036854775808) : Calls Tryz.prog 120 #[.int .i64 a, .int .i64 b] w fun e w' => e = .returned (.tuple #[.int .i64 0, .int .i64 2]) ∧ w' = w := by
  go_enter Tryz.func120, Tryz.ntmps120
  go_wp2_with (first | (go_at_call 109; refine (may_t _ _ (by omega)).mono ?_; rintro e w' ⟨rfl, rfl⟩) | (go_at_call 109; refine (may_f _ _ (by omega)).mono ?_; rintro e w' ⟨rfl, rfl⟩) | (go_at_call 126; refine (sw_pos _ _ (by omega) (by omega)).mono ?_; rintro e w' ⟨rfl, rfl⟩) | (go_at_call 126; refine (sw_neg _ _ (by omega) (by omega)).mono ?_; rintro e w' ⟨rfl, rfl⟩) | fail)
  go_ret2
  exact ⟨ret2 (by omega) rfl, rfl⟩
theorem add_bMin (a b : Int) (w : World) (ha : -9223372036854775807 ≤ a) (hb : b = -9223372036854775808) : Calls Tryz.prog 120 #[.int .i64 a, .int .i64 b] w fun e w' => e = .returned (.tuple #[.int .i64 0, .int .i64 2]) ∧ w' = w := by
  go_enter Tryz.func120, Tryz.ntmps120
  go_wp2_with (first | (go_at_call 109; refine (may_t _ _ (by omega)).mono ?_; rintro e w' ⟨rfl, rfl⟩) | (go_at_call 109; refine (may_f _ _ (by omega)).mono ?_; rintro e w' ⟨rfl, rfl⟩) | (go_at_call 126; refine (sw_pos _ _ (by omega) (by omega)).mono ?_; rintro e w' ⟨rfl, rfl⟩) | (go_at_call 126; refine (sw_neg _ _ (by omega) (by omega)).mono ?_; rintro e w' ⟨rfl, rfl⟩) | fail)
  go_ret2
  exact ⟨ret2 (by omega) rfl, rfl⟩
theorem add_pp (a b : Int) (w : World) (ha1 : -9223372036854775807 ≤ a) (ha2 : a ≤ 9223372036854775807) (hb1 : -9223372036854775807 ≤ b) (hb2 : b ≤ 9223372036854775807)(ha0 : 0 ≤ a) (hb0 : 0 ≤ b)(hs : a + b ≤ 9223372036854775807) : Calls Tryz.prog 120 #[.int .i64 a, .int .i64 b] w fun e w' => e = .returned (.tuple #[.int .i64 (a + b), .int .i64 0]) ∧ w' = w := by
  go_enter Tryz.func120, Tryz.ntmps120
  go_wp2_with (first | (go_at_call 109; refine (may_t _ _ (by omega)).mono ?_; rintro e w' ⟨rfl, rfl⟩) | (go_at_call 109; refine (may_f _ _ (by omega)).mono ?_; rintro e w' ⟨rfl, rfl⟩) | (go_at_call 126; refine (sw_pos _ _ (by omega) (by omega)).mono ?_; rintro e w' ⟨rfl, rfl⟩) | (go_at_call 126; refine (sw_neg _ _ (by omega) (by omega)).mono ?_; rintro e w' ⟨rfl, rfl⟩) | simp only [add64_r (a) (b) (a + b) 0 (by omega) (by omega) (by omega) (by omega) (by omega) (by omega)])
  go_ret2
  exact ⟨ret2 (by omega) rfl, rfl⟩
theorem add_pp_bad (a b : Int) (w : World) (ha1 : -9223372036854775807 ≤ a) (ha2 : a ≤ 9223372036854775807) (hb1 : -9223372036854775807 ≤ b) (hb2 : b ≤ 9223372036854775807)(ha0 : 0 ≤ a) (hb0 : 0 ≤ b)(hs : 9223372036854775807 < a + b) : Calls Tryz.prog 120 #[.int .i64 a, .int .i64 b] w fun e w' => e = .returned (.tuple #[.int .i64 0, .int .i64 2]) ∧ w' = w := by
  have ws : wrap64 (a + b) = a + b - 18446744073709551616 := by unfold wrap64; omega
  go_enter Tryz.func120, Tryz.ntmps120
  go_wp2_with (first | (go_at_call 109; refine (may_t _ _ (by omega)).mono ?_; rintro e w' ⟨rfl, rfl⟩) | (go_at_call 109; refine (may_f _ _ (by omega)).mono ?_; rintro e w' ⟨rfl, rfl⟩) | (go_at_call 126; refine (sw_pos _ _ (by omega) (by omega)).mono ?_; rintro e w' ⟨rfl, rfl⟩) | (go_at_call 126; refine (sw_neg _ _ (by omega) (by omega)).mono ?_; rintro e w' ⟨rfl, rfl⟩) | simp only [add64_r (a) (b) (a + b) 0 (by omega) (by omega) (by omega) (by omega) (by omega) (by omega)])
  go_ret2
  exact ⟨ret2 (by omega) rfl, rfl⟩
theorem add_nn (a b : Int) (w : World) (ha1 : -9223372036854775807 ≤ a) (ha2 : a ≤ 9223372036854775807) (hb1 : -9223372036854775807 ≤ b) (hb2 : b ≤ 9223372036854775807)(ha0 : a < 0) (hb0 : b < 0)(hs : -9223372036854775807 ≤ a + b) : Calls Tryz.prog 120 #[.int .i64 a, .int .i64 b] w fun e w' => e = .returned (.tuple #[.int .i64 (a + b), .int .i64 0]) ∧ w' = w := by
  have wa := wrapU_neg a (by omega) (by omega)
  have wb := wrapU_neg b (by omega) (by omega)
  have k1 : IntKind.u64.wrap 36893488147419103230 = 18446744073709551614 := by rw [wrapU]; rfl
  have ws : wrap64 (a + b + 18446744073709551616) = a + b := by unfold wrap64; omega
  go_enter Tryz.func120, Tryz.ntmps120
  go_wp2_with (first | (go_at_call 109; refine (may_t _ _ (by omega)).mono ?_; rintro e w' ⟨rfl, rfl⟩) | (go_at_call 109; refine (may_f _ _ (by omega)).mono ?_; rintro e w' ⟨rfl, rfl⟩) | (go_at_call 126; refine (sw_pos _ _ (by omega) (by omega)).mono ?_; rintro e w' ⟨rfl, rfl⟩) | (go_at_call 126; refine (sw_neg _ _ (by omega) (by omega)).mono ?_; rintro e w' ⟨rfl, rfl⟩) | simp only [add64_r (a + 18446744073709551616) (b + 18446744073709551616) (a + b + 18446744073709551616) 1 (by omega) (by omega) (by omega) (by omega) (by omega) (by omega)])
  go_ret2
  exact ⟨ret2 (by omega) rfl, rfl⟩
theorem add_nn_bad (a b : Int) (w : World) (ha1 : -9223372036854775807 ≤ a) (ha2 : a ≤ 9223372036854775807) (hb1 : -9223372036854775807 ≤ b) (hb2 : b ≤ 9223372036854775807)(ha0 : a < 0) (hb0 : b < 0)(hs : a + b < -9223372036854775808) : Calls Tryz.prog 120 #[.int .i64 a, .int .i64 b] w fun e w' => e = .returned (.tuple #[.int .i64 0, .int .i64 2]) ∧ w' = w := by
  have wa := wrapU_neg a (by omega) (by omega)
  have wb := wrapU_neg b (by omega) (by omega)
  have k1 : IntKind.u64.wrap 36893488147419103230 = 18446744073709551614 := by rw [wrapU]; rfl
  go_enter Tryz.func120, Tryz.ntmps120
  go_wp2_with (first | (go_at_call 109; refine (may_t _ _ (by omega)).mono ?_; rintro e w' ⟨rfl, rfl⟩) | (go_at_call 109; refine (may_f _ _ (by omega)).mono ?_; rintro e w' ⟨rfl, rfl⟩) | (go_at_call 126; refine (sw_pos _ _ (by omega) (by omega)).mono ?_; rintro e w' ⟨rfl, rfl⟩) | (go_at_call 126; refine (sw_neg _ _ (by omega) (by omega)).mono ?_; rintro e w' ⟨rfl, rfl⟩) | simp only [add64_r (a + 18446744073709551616) (b + 18446744073709551616) (a + b + 18446744073709551616) 1 (by omega) (by omega) (by omega) (by omega) (by omega) (by omega)])
  go_ret2
  exact ⟨ret2 (by omega) rfl, rfl⟩
theorem add_nn_min (a b : Int) (w : World) (ha1 : -9223372036854775807 ≤ a) (ha2 : a ≤ 9223372036854775807) (hb1 : -9223372036854775807 ≤ b) (hb2 : b ≤ 9223372036854775807)(ha0 : a < 0) (hb0 : b < 0)(hs : a + b = -9223372036854775808) : Calls Tryz.prog 120 #[.int .i64 a, .int .i64 b] w fun e w' => e = .returned (.tuple #[.int .i64 0, .int .i64 2]) ∧ w' = w := by
  have wa := wrapU_neg a (by omega) (by omega)
  have wb := wrapU_neg b (by omega) (by omega)
  have k1 : IntKind.u64.wrap 36893488147419103230 = 18446744073709551614 := by rw [wrapU]; rfl
  have ws : wrap64 (9223372036854775808) = -9223372036854775808 := by unfold wrap64; omega
  go_enter Tryz.func120, Tryz.ntmps120
  go_wp2_with (first | (go_at_call 109; refine (may_t _ _ (by omega)).mono ?_; rintro e w' ⟨rfl, rfl⟩) | (go_at_call 109; refine (may_f _ _ (by omega)).mono ?_; rintro e w' ⟨rfl, rfl⟩) | (go_at_call 126; refine (sw_pos _ _ (by omega) (by omega)).mono ?_; rintro e w' ⟨rfl, rfl⟩) | (go_at_call 126; refine (sw_neg _ _ (by omega) (by omega)).mono ?_; rintro e w' ⟨rfl, rfl⟩) | simp only [add64_r (a + 18446744073709551616) (b + 18446744073709551616) (9223372036854775808) 1 (by omega) (by omega) (by omega) (by omega) (by omega) (by omega)])
  go_ret2
  exact ⟨ret2 (by omega) rfl, rfl⟩
theorem add_np0 (a b : Int) (w : World) (ha1 : -9223372036854775807 ≤ a) (ha2 : a ≤ 9223372036854775807) (hb1 : -9223372036854775807 ≤ b) (hb2 : b ≤ 9223372036854775807)(ha0 : a < 0) (hb0 : 0 ≤ b)(hs : a + b < 0) : Calls Tryz.prog 120 #[.int .i64 a, .int .i64 b] w fun e w' => e = .returned (.tuple #[.int .i64 (a + b), .int .i64 0]) ∧ w' = w := by
  have wa := wrapU_neg a (by omega) (by omega)
  have ws : wrap64 (a + b + 18446744073709551616) = a + b := by unfold wrap64; omega
  go_enter Tryz.func120, Tryz.ntmps120
  go_wp2_with (first | (go_at_call 109; refine (may_t _ _ (by omega)).mono ?_; rintro e w' ⟨rfl, rfl⟩) | (go_at_call 109; refine (may_f _ _ (by omega)).mono ?_; rintro e w' ⟨rfl, rfl⟩) | (go_at_call 126; refine (sw_pos _ _ (by omega) (by omega)).mono ?_; rintro e w' ⟨rfl, rfl⟩) | (go_at_call 126; refine (sw_neg _ _ (by omega) (by omega)).mono ?_; rintro e w' ⟨rfl, rfl⟩) | simp only [add64_r (a + 18446744073709551616) (b) (a + b + 18446744073709551616) 0 (by omega) (by omega) (by omega) (by omega) (by omega) (by omega)])
  go_ret2
  exact ⟨ret2 (by omega) rfl, rfl⟩
theorem add_np1 (a b : Int) (w : World) (ha1 : -9223372036854775807 ≤ a) (ha2 : a ≤ 9223372036854775807) (hb1 : -9223372036854775807 ≤ b) (hb2 : b ≤ 9223372036854775807)(ha0 : a < 0) (hb0 : 0 ≤ b)(hs : 0 ≤ a + b) : Calls Tryz.prog 120 #[.int .i64 a, .int .i64 b] w fun e w' => e = .returned (.tuple #[.int .i64 (a + b), .int .i64 0]) ∧ w' = w := by
  have wa := wrapU_neg a (by omega) (by omega)
  have k3 : IntKind.u64.wrap 18446744073709551616 = 0 := by rw [wrapU]; rfl
  go_enter Tryz.func120, Tryz.ntmps120
  go_wp2_with (first | (go_at_call 109; refine (may_t _ _ (by omega)).mono ?_; rintro e w' ⟨rfl, rfl⟩) | (go_at_call 109; refine (may_f _ _ (by omega)).mono ?_; rintro e w' ⟨rfl, rfl⟩) | (go_at_call 126; refine (sw_pos _ _ (by omega) (by omega)).mono ?_; rintro e w' ⟨rfl, rfl⟩) | (go_at_call 126; refine (sw_neg _ _ (by omega) (by omega)).mono ?_; rintro e w' ⟨rfl, rfl⟩) | simp only [add64_r (a + 18446744073709551616) (b) (a + b) 1 (by omega) (by omega) (by omega) (by omega) (by omega) (by omega)])
  go_ret2
  exact ⟨ret2 (by omega) rfl, rfl⟩
theorem add_pn0 (a b : Int) (w : World) (ha1 : -9223372036854775807 ≤ a) (ha2 : a ≤ 9223372036854775807) (hb1 : -9223372036854775807 ≤ b) (hb2 : b ≤ 9223372036854775807)(ha0 : 0 ≤ a) (hb0 : b < 0)(hs : a + b < 0) : Calls Tryz.prog 120 #[.int .i64 a, .int .i64 b] w fun e w' => e = .returned (.tuple #[.int .i64 (a + b), .int .i64 0]) ∧ w' = w := by
  have wb := wrapU_neg b (by omega) (by omega)
  have ws : wrap64 (a + b + 18446744073709551616) = a + b := by unfold wrap64; omega
  go_enter Tryz.func120, Tryz.ntmps120
  go_wp2_with (first | (go_at_call 109; refine (may_t _ _ (by omega)).mono ?_; rintro e w' ⟨rfl, rfl⟩) | (go_at_call 109; refine (may_f _ _ (by omega)).mono ?_; rintro e w' ⟨rfl, rfl⟩) | (go_at_call 126; refine (sw_pos _ _ (by omega) (by omega)).mono ?_; rintro e w' ⟨rfl, rfl⟩) | (go_at_call 126; refine (sw_neg _ _ (by omega) (by omega)).mono ?_; rintro e w' ⟨rfl, rfl⟩) | simp only [add64_r (a) (b + 18446744073709551616) (a + b + 18446744073709551616) 0 (by omega) (by omega) (by omega) (by omega) (by omega) (by omega)])
  go_ret2
  exact ⟨ret2 (by omega) rfl, rfl⟩
theorem add_pn1 (a b : Int) (w : World) (ha1 : -9223372036854775807 ≤ a) (ha2 : a ≤ 9223372036854775807) (hb1 : -9223372036854775807 ≤ b) (hb2 : b ≤ 9223372036854775807)(ha0 : 0 ≤ a) (hb0 : b < 0)(hs : 0 ≤ a + b) : Calls Tryz.prog 120 #[.int .i64 a, .int .i64 b] w fun e w' => e = .returned (.tuple #[.int .i64 (a + b), .int .i64 0]) ∧ w' = w := by
  have wb := wrapU_neg b (by omega) (by omega)
  have k3 : IntKind.u64.wrap 18446744073709551616 = 0 := by rw [wrapU]; rfl
  go_enter Tryz.func120, Tryz.ntmps120
  go_wp2_with (first | (go_at_call 109; refine (may_t _ _ (by omega)).mono ?_; rintro e w' ⟨rfl, rfl⟩) | (go_at_call 109; refine (may_f _ _ (by omega)).mono ?_; rintro e w' ⟨rfl, rfl⟩) | (go_at_call 126; refine (sw_pos _ _ (by omega) (by omega)).mono ?_; rintro e w' ⟨rfl, rfl⟩) | (go_at_call 126; refine (sw_neg _ _ (by omega) (by omega)).mono ?_; rintro e w' ⟨rfl, rfl⟩) | simp only [add64_r (a) (b + 18446744073709551616) (a + b) 1 (by omega) (by omega) (by omega) (by omega) (by omega) (by omega)])
  go_ret2
  exact ⟨ret2 (by omega) rfl, rfl⟩
theorem okV_t {o : Bool} {x : Int} (h : o = true) : okV o x = x := by simp [okV, h]
theorem okV_f {o : Bool} {x : Int} (h : o = false) : okV o x = 0 := by simp [okV, h]
theorem okC_t {o : Bool} (h : o = true) : okC o = 0 := by simp [okC, h]
theorem okC_f {o : Bool} (h : o = false) : okC o = 2 := by simp [okC, h]
theorem addOk_t {a b : Int} (h : -9223372036854775808 < a) (h' : -9223372036854775808 < b) (h1 : -9223372036854775807 ≤ a + b) (h2 : a + b ≤ 9223372036854775807) : addOk a b = true := by
  simp [addOk]; omega
theorem addOk_f {a b : Int} (h : a = -9223372036854775808 ∨ b = -9223372036854775808 ∨ a + b < -9223372036854775807 ∨ 9223372036854775807 < a + b) : addOk a b = false := by
  simp [addOk]; omega
/-- Add, of any two int64. -/
theorem add_any (a b : Int) (w : World) (ha : I64 a) (hb : I64 b) : Calls Tryz.prog 120 #[.int .i64 a, .int .i64 b] w fun e w' => e = .returned (.tuple #[.int .i64 (okV (addOk a b) (a + b)), .int .i64 (okC (addOk a b))]) ∧ w' = w := by
  obtain ⟨ha1, ha2⟩ := ha
  obtain ⟨hb1, hb2⟩ := hb
  by_cases hbad : a = -9223372036854775808 ∨ b = -9223372036854775808 ∨ a + b < -9223372036854775807 ∨ 9223372036854775807 < a + b
  · rw [okV_f (addOk_f hbad), okC_f (addOk_f hbad)]
    by_cases hA : a = -9223372036854775808
    · exact add_aMin a b w hA
    by_cases hB : b = -9223372036854775808
    · exact add_bMin a b w (by omega) hB
    by_cases hs : 9223372036854775807 < a + b
    · exact add_pp_bad a b w (by omega) ha2 (by omega) hb2 (by omega) (by omega) hs
    by_cases hs' : a + b = -9223372036854775808
    · exact add_nn_min a b w (by omega) ha2 (by omega) hb2 (by omega) (by omega) hs'
    · exact add_nn_bad a b w (by omega) ha2 (by omega) hb2 (by omega) (by omega) (by omega)
  · have hok := addOk_t (a := a) (b := b) (by omega) (by omega) (by omega) (by omega)
    rw [okV_t hok, okC_t hok]
    by_cases hA : a < 0
    · by_cases hB : b < 0
      · exact add_nn a b w (by omega) ha2 (by omega) hb2 hA hB (by omega)
      by_cases hs : a + b < 0
      · exact add_np0 a b w (by omega) ha2 (by omega) hb2 hA (by omega) hs
      · exact add_np1 a b w (by omega) ha2 (by omega) hb2 hA (by omega) (by omega)
    · by_cases hB : b < 0
      · by_cases hs : a + b < 0
        · exact add_pn0 a b w (by omega) ha2 (by omega) hb2 (by omega) hB hs
        · exact add_pn1 a b w (by omega) ha2 (by omega) hb2 (by omega) hB (by omega)
      · exact add_pp a b w (by omega) ha2 (by omega) hb2 (by omega) (by omega) (by omega)
/-- The difference may be. -/
def subOk (a b : Int) : Bool := decide (a ≠ -9223372036854775808 ∧ b ≠ -9223372036854775808 ∧ -9223372036854775807 ≤ a - b ∧ a - b ≤ 9223372036854775807)
theorem subOk_t {a b : Int} (h : -9223372036854775808 < a) (h' : -9223372036854775808 < b) (h1 : -9223372036854775807 ≤ a - b) (h2 : a - b ≤ 9223372036854775807) : subOk a b = true := by
  simp [subOk]; omega
theorem subOk_f {a b : Int} (h : a = -9223372036854775808 ∨ b = -9223372036854775808 ∨ a - b < -9223372036854775807 ∨ 9223372036854775807 < a - b) : subOk a b = false := by
  simp [subOk]; omega
theorem subOk_add {a b : Int} (ha : -9223372036854775808 ≤ a) (hb : -9223372036854775807 ≤ b) (hb2 : b ≤ 9223372036854775807) : addOk a (-b) = subOk a b := by
  by_cases h : a = -9223372036854775808 ∨ b = -9223372036854775808 ∨ a - b < -9223372036854775807 ∨ 9223372036854775807 < a - b
  · rw [subOk_f h, addOk_f (by omega)]
  · rw [subOk_t (by omega) (by omega) (by omega) (by omega), addOk_t (by omega) (by omega) (by omega) (by omega)]
theorem sub_any (a b : Int) (w : World) (ha : I64 a) (hb : I64 b) : Calls Tryz.prog 111 #[.int .i64 a, .int .i64 b] w fun e w' => e = .returned (.tuple #[.int .i64 (okV (subOk a b) (a - b)), .int .i64 (okC (subOk a b))]) ∧ w' = w := by
  obtain ⟨ha1, ha2⟩ := ha
  obtain ⟨hb1, hb2⟩ := hb
  by_cases hB : b = -9223372036854775808
  · rw [okV_f (subOk_f (.inr (.inl hB))), okC_f (subOk_f (.inr (.inl hB)))]
    go_enter Tryz.func111, Tryz.ntmps111
    go_wp2_with (first | (go_at_call 109; refine (may_t _ _ (by omega)).mono ?_; rintro e w' ⟨rfl, rfl⟩) | (go_at_call 109; refine (may_f _ _ (by omega)).mono ?_; rintro e w' ⟨rfl, rfl⟩))
    go_ret2
    exact ⟨rfl, rfl⟩
  · have hb3 : -9223372036854775807 ≤ b := by omega
    go_enter Tryz.func111, Tryz.ntmps111
    go_wp2_with (first | (go_at_call 109; refine (may_t _ _ (by omega)).mono ?_; rintro e w' ⟨rfl, rfl⟩) | (go_at_call 109; refine (may_f _ _ (by omega)).mono ?_; rintro e w' ⟨rfl, rfl⟩) | (go_at_call 120; refine (add_any a (-b) _ ⟨ha1, ha2⟩ ⟨by omega, by omega⟩).mono ?_; rintro e w' ⟨rfl, rfl⟩))
    go_ret2
    exact ⟨ret2 (by rw [subOk_add ha1 hb3 hb2, Int.sub_eq_add_neg]) (by rw [subOk_add ha1 hb3 hb2]), rfl⟩
/-- A number may be. -/
def mayOk (x : Int) : Bool := decide (x ≠ -9223372036854775808)
theorem mayOk_t {x : Int} (h : -9223372036854775807 ≤ x) : mayOk x = true := by simp [mayOk]; omega
theorem mayOk_f {x : Int} (h : x = -9223372036854775808) : mayOk x = false := by simp [mayOk, h]
theorem mayAny (x : Int) (w : World) (hx : I64 x) : Calls Tryz.prog 109 #[.int .i64 x] w fun e w' => e = .returned (.bool (mayOk x)) ∧ w' = w := by
  obtain ⟨hx1, hx2⟩ := hx
  by_cases hB : x = -9223372036854775808
  · rw [mayOk_f hB]; exact may_f x w hB
  · rw [mayOk_t (by omega)]; exact may_t x w (by omega)
end Go.Proofs.YtfpbcokfianjaaaGreat
