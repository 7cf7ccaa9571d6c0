/- Plain facts of the greatest divisor and the least multiple of two whole numbers; what the law's call answers of them. -/
import Derived.Test.YtfpbcokfianjaaaNTh
import Derived.Test.YtfpbcokfianjaaaNTe
namespace Go.Proofs.Ytfpbcokfianjaaa
open Go.RowKit
set_option linter.all false
theorem natAbs_k (a : Int) : (a * 10000).natAbs = 10000 * a.natAbs := by rw [Int.natAbs_mul, Nat.mul_comm]; rfl
theorem gcd_x (a b : Int) : gcdL [a * 10000, b * 10000] = 10000 * (Nat.gcd a.natAbs b.natAbs : Nat) := by
  show gcdI (gcdI 0 (a * 10000)) (b * 10000) = _
  unfold gcdI
  rw [Int.natAbs_natCast, Int.natAbs_zero, Nat.gcd_zero_left, natAbs_k, natAbs_k, Nat.gcd_mul_left]
  omega
theorem brk_x (a : Int) (ha : In (a * 10000)) : brk (a * 10000) = false := by
  unfold brk wholeOk
  rw [mayOk_t ha.1, Int.mul_tmod_left]
  rfl
theorem zro_x {a : Int} (h : a ≠ 0) : zro (a * 10000) = false := by
  unfold zro; simp; omega
theorem lcm_x {a b : Int} (ha : a ≠ 0) (hb : b ≠ 0) (ha1 : -100000 < a) (ha2 : a < 100000) (hb1 : -100000 < b) (hb2 : b < 100000) : lcmF 10000 [a * 10000, b * 10000] = (some (10000 * ((Nat.lcm a.natAbs b.natAbs : Nat) : Int)) : Option Int) := by
  have e1 : gcdI 10000 (a * 10000) = 10000 := by
    unfold gcdI
    rw [natAbs_k, show ((10000 : Int)).natAbs = 10000 * 1 from rfl, Nat.gcd_mul_left, Nat.gcd_one_left]
    rfl
  have s1 : sz (a * 10000) = 10000 * (a.natAbs : Int) := by unfold sz; rw [natAbs_k]; omega
  have s2 : sz (b * 10000) = 10000 * (b.natAbs : Int) := by unfold sz; rw [natAbs_k]; omega
  have q1 : (10000 : Int) / 10000 * (10000 * (a.natAbs : Int)) = 10000 * (a.natAbs : Int) := by omega
  show (if 10000 / gcdI 10000 (a * 10000) * sz (a * 10000) ≤ 9223372036854775807 then lcmF (10000 / gcdI 10000 (a * 10000) * sz (a * 10000)) [b * 10000] else none) = _
  rw [e1, s1, q1, if_pos (by omega)]
  have e2 : gcdI (10000 * (a.natAbs : Int)) (b * 10000) = 10000 * ((Nat.gcd a.natAbs b.natAbs : Nat) : Int) := by
    unfold gcdI
    rw [natAbs_k, show (10000 * (a.natAbs : Int)).natAbs = 10000 * a.natAbs by omega, Nat.gcd_mul_left]
    omega
  have gp : 0 < Nat.gcd a.natAbs b.natAbs := Nat.gcd_pos_of_pos_left _ (by omega)
  have hl : (10000 * (a.natAbs : Int)) / (10000 * ((Nat.gcd a.natAbs b.natAbs : Nat) : Int)) * (10000 * (b.natAbs : Int)) = 10000 * ((Nat.lcm a.natAbs b.natAbs : Nat) : Int) := by
    rw [Int.mul_ediv_mul_of_pos _ _ (by decide)]
    have h1 : ((a.natAbs / Nat.gcd a.natAbs b.natAbs : Nat) : Int) * (b.natAbs : Int) = ((Nat.lcm a.natAbs b.natAbs : Nat) : Int) := by
      rw [← Int.natCast_mul]
      congr 1
      unfold Nat.lcm
      rw [Nat.mul_comm, ← Nat.mul_div_assoc _ (Nat.gcd_dvd_left _ _), Nat.mul_comm]
    rw [← Int.natCast_ediv, ← h1]
    generalize ((a.natAbs / Nat.gcd a.natAbs b.natAbs : Nat) : Int) = u
    rw [Int.mul_left_comm]
  have hlb : ((Nat.lcm a.natAbs b.natAbs : Nat) : Int) ≤ 10000000000 := by
    have h1 : Nat.lcm a.natAbs b.natAbs ≤ a.natAbs * b.natAbs := by
      unfold Nat.lcm; exact Nat.div_le_self _ _
    have h2 : a.natAbs * b.natAbs ≤ 100000 * 100000 := Nat.mul_le_mul (by omega) (by omega)
    omega
  show (if (10000 * (a.natAbs : Int)) / gcdI (10000 * (a.natAbs : Int)) (b * 10000) * sz (b * 10000) ≤ 9223372036854775807 then some ((10000 * (a.natAbs : Int)) / gcdI (10000 * (a.natAbs : Int)) (b * 10000) * sz (b * 10000)) else none) = _
  rw [e2, s2, hl, if_pos (by omega)]
theorem nm_l : nmI ⟨#[76, 67, 77]⟩ = 12 := by kernel_rfl
theorem in_x {a : Int} (h1 : -100000 < a) (h2 : a < 100000) : In (a * 10000) := ⟨by omega, by omega⟩
/-- GCD of two. -/
theorem c_gcd (a b : Int) (w : World) (bl : Nat) (hb : NB w bl [a * 10000, b * 10000]) (ha1 : -100000 < a) (ha2 : a < 100000) (hb1 : -100000 < b) (hb2 : b < 100000) : Calls Try.prog 15 #[.string ⟨#[71, 67, 68]⟩, .slice (some ⟨bl, 0, none⟩) 2 2] w fun e w' => e = .returned (.agg #[.int .i64 (1), .int .i64 (10000 * (Nat.gcd a.natAbs b.natAbs : Nat)), .string ⟨#[]⟩, .bool false, .int .i64 (0)]) ∧ Below w.heap.size w w' :=
  calln _ 11 nm_gcd (by decide) w bl 2 _ hb rfl (by decide) (by decide) (ins2 (in_x ha1 ha2) (in_x hb1 hb2)) (by decide) _ _ _ _ _ fun W b3 h => by
    have q := gcd_ok W b3 2 _ h rfl (ins2 (in_x ha1 ha2) (in_x hb1 hb2)) (by decide) (by simp [brk_x a (in_x ha1 ha2), brk_x b (in_x hb1 hb2)])
    rw [gcd_x] at q
    exact q
def lcmN (a b : Int) : Int := if a = 0 ∨ b = 0 then 0 else 10000 * (Nat.lcm a.natAbs b.natAbs : Nat)
theorem c_lcm (a b : Int) (w : World) (bl : Nat) (hb : NB w bl [a * 10000, b * 10000]) (ha1 : -100000 < a) (ha2 : a < 100000) (hb1 : -100000 < b) (hb2 : b < 100000) : Calls Try.prog 15 #[.string ⟨#[76, 67, 77]⟩, .slice (some ⟨bl, 0, none⟩) 2 2] w fun e w' => e = .returned (.agg #[.int .i64 (1), .int .i64 (lcmN a b), .string ⟨#[]⟩, .bool false, .int .i64 (0)]) ∧ Below w.heap.size w w' :=
  calln _ 12 nm_l (by decide) w bl 2 _ hb rfl (by decide) (by decide) (ins2 (in_x ha1 ha2) (in_x hb1 hb2)) (by decide) _ _ _ _ _ fun W b3 h => by
    have hi := ins2 (in_x ha1 ha2) (in_x hb1 hb2)
    have hk : [a * 10000, b * 10000].any brk = false := by simp [brk_x a (in_x ha1 ha2), brk_x b (in_x hb1 hb2)]
    unfold lcmN
    by_cases h0 : a = 0 ∨ b = 0
    · rw [if_pos h0]
      have hz : [a * 10000, b * 10000].any zro = true := by
        rcases h0 with rfl | rfl <;> simp [zro]
      exact lcm_zero W b3 2 _ h rfl hi (by decide) hk hz
    · rw [if_neg h0]
      have ha : a ≠ 0 := fun q => h0 (.inl q)
      have hb0 : b ≠ 0 := fun q => h0 (.inr q)
      have q := lcm_ok W b3 2 _ h rfl hi (by decide) hk (by simp [zro_x ha, zro_x hb0])
      rw [lcm_x ha hb0 ha1 ha2 hb1 hb2] at q
      exact q
theorem lcmN_swap (a b : Int) : lcmN (-b) a = lcmN a b := by
  unfold lcmN
  rw [Int.natAbs_neg, Nat.lcm_comm]
  by_cases h : a = 0 ∨ b = 0
  · rw [if_pos h, if_pos (by omega)]
  · rw [if_neg h, if_neg (by omega)]
theorem lcmN_bd {a b : Int} (ha1 : -100000 < a) (ha2 : a < 100000) (hb1 : -100000 < b) (hb2 : b < 100000) : 0 ≤ lcmN a b ∧ lcmN a b ≤ 100000000000000 := by
  unfold lcmN
  split
  · omega
  · have h1 : Nat.lcm a.natAbs b.natAbs ≤ a.natAbs * b.natAbs := by
      unfold Nat.lcm; exact Nat.div_le_self _ _
    have h2 : a.natAbs * b.natAbs ≤ 100000 * 100000 := Nat.mul_le_mul (by omega) (by omega)
    omega
theorem gcdN_bd {a b : Int} (ha1 : -100000 < a) (ha2 : a < 100000) (hb1 : -100000 < b) (hb2 : b < 100000) : (Nat.gcd a.natAbs b.natAbs : Int) ≤ 100000 := by
  by_cases h : a.natAbs = 0
  · rw [h, Nat.gcd_zero_left]; omega
  · have := Nat.gcd_le_left b.natAbs (Nat.pos_of_ne_zero h); omega
theorem zero_way {a b : Int} (h : a = 0 ∨ b = 0) : lcmN a b = 0 ∧ ((10000 * (Nat.gcd a.natAbs b.natAbs : Nat) : Int) = a * 10000 ∨ (10000 * (Nat.gcd a.natAbs b.natAbs : Nat) : Int) = -(a * 10000) ∨ (10000 * (Nat.gcd a.natAbs b.natAbs : Nat) : Int) = b * 10000 ∨ (10000 * (Nat.gcd a.natAbs b.natAbs : Nat) : Int) = -(b * 10000)) := by
  refine ⟨if_pos h, ?_⟩
  rcases h with rfl | rfl
  · rw [Int.natAbs_zero, Nat.gcd_zero_left]; omega
  · rw [Int.natAbs_zero, Nat.gcd_zero_right]; omega
theorem full_way {a b : Int} (ha : a ≠ 0) (hb : b ≠ 0) : 0 < (10000 * (Nat.gcd a.natAbs b.natAbs : Nat) : Int) ∧ (a * 10000).tmod (10000 * (Nat.gcd a.natAbs b.natAbs : Nat)) = 0 ∧ (b * 10000).tmod (10000 * (Nat.gcd a.natAbs b.natAbs : Nat)) = 0 ∧ (lcmN a b).tmod (a * 10000) = 0 ∧ (lcmN a b).tmod (b * 10000) = 0 ∧
    (10000 * (Nat.gcd a.natAbs b.natAbs : Nat) : Int).tdiv 10000 = (Nat.gcd a.natAbs b.natAbs : Nat) ∧ (lcmN a b).tdiv 10000 = (Nat.lcm a.natAbs b.natAbs : Nat) ∧ ((Nat.gcd a.natAbs b.natAbs : Nat) : Int) * (Nat.lcm a.natAbs b.natAbs : Nat) = ((a * b).natAbs : Int) := by
  have gp : 0 < Nat.gcd a.natAbs b.natAbs := Nat.gcd_pos_of_pos_left _ (by omega)
  have el : lcmN a b = 10000 * (Nat.lcm a.natAbs b.natAbs : Nat) := if_neg (by omega)
  have d1 : ((Nat.gcd a.natAbs b.natAbs : Nat) : Int) ∣ a := Int.ofNat_dvd_left.2 (Nat.gcd_dvd_left _ _)
  have d2 : ((Nat.gcd a.natAbs b.natAbs : Nat) : Int) ∣ b := Int.ofNat_dvd_left.2 (Nat.gcd_dvd_right _ _)
  have d3 : a ∣ ((Nat.lcm a.natAbs b.natAbs : Nat) : Int) := Int.natAbs_dvd.1 (Int.natCast_dvd_natCast.2 (Nat.dvd_lcm_left _ _))
  have d4 : b ∣ ((Nat.lcm a.natAbs b.natAbs : Nat) : Int) := Int.natAbs_dvd.1 (Int.natCast_dvd_natCast.2 (Nat.dvd_lcm_right _ _))
  refine ⟨by omega, Int.tmod_eq_zero_of_dvd ?_, Int.tmod_eq_zero_of_dvd ?_, Int.tmod_eq_zero_of_dvd ?_, Int.tmod_eq_zero_of_dvd ?_, ?_, ?_, ?_⟩
  · rw [Int.mul_comm a]; exact Int.mul_dvd_mul_left _ d1
  · rw [Int.mul_comm b]; exact Int.mul_dvd_mul_left _ d2
  · rw [el, Int.mul_comm a]; exact Int.mul_dvd_mul_left _ d3
  · rw [el, Int.mul_comm b]; exact Int.mul_dvd_mul_left _ d4
  · exact Int.mul_tdiv_cancel_left _ (by decide)
  · rw [el]; exact Int.mul_tdiv_cancel_left _ (by decide)
  · rw [← Int.natCast_mul, Nat.gcd_mul_lcm, Int.natAbs_mul]
end Go.Proofs.Ytfpbcokfianjaaa
