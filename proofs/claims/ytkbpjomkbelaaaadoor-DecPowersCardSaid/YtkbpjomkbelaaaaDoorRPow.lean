/- The contract of the document's Power, of every int64 and every int. New memory alone is made. -/
import Derived.Test.YtkbpjomkbelaaaaDoorPQuo
import Derived.Test.YtkbpjomkbelaaaaDoorDPow
namespace Go.Proofs.YtkbpjomkbelaaaaDoor
open Go.Shelf Go.RowKit
set_option linter.all false
/-- In the document's order: the powers above 0. -/
theorem rnd_pos (M n : Nat) (hn : 1 ≤ n) : rnd (M * 10000) (10000 ^ n) = (2 * M + 10000 ^ (n - 1)) / (2 * 10000 ^ (n - 1)) := by
  unfold rnd
  obtain ⟨k, rfl⟩ : ∃ k, n = k + 1 := ⟨n - 1, by omega⟩
  rw [Nat.add_sub_cancel, Nat.pow_succ, show 2 * (M * 10000) + 10000 ^ k * 10000 = (2 * M + 10000 ^ k) * 10000 by rw [Nat.add_mul, Nat.mul_assoc], show 2 * (10000 ^ k * 10000) = 2 * 10000 ^ k * 10000 by rw [Nat.mul_assoc], Nat.mul_div_mul_right _ _ (by decide)]
theorem rnd_split (L Q D : Nat) (hL : L < D) : (2 * (L + D * Q) + D) / (2 * D) = Q + (if D ≤ 2 * L then 1 else 0) := by
  have e : 2 * (L + D * Q) + D = (2 * L + D) + 2 * D * Q := by rw [Nat.mul_add, ← Nat.mul_assoc]; omega
  rw [e, Nat.add_mul_div_left _ _ (by omega), Nat.add_comm]
  congr 1
  split
  · rw [Nat.div_eq_iff (by omega)]; omega
  · rw [Nat.div_eq_of_lt (by omega)]
set_option maxRecDepth 100000 in
/-- Halves are told by the word behind the cut. -/
theorem half_word (p : List Nat) (wp : Wds p) (n : Nat) (hn : 2 ≤ n) (hl : n - 2 < p.length) : 10000 ^ (n - 1) ≤ 2 * wv (p.take (n - 1)) ↔ 5000 ≤ p[n - 2] := by
  obtain ⟨k, rfl⟩ : ∃ k, n = k + 2 := ⟨n - 2, by omega⟩
  simp only [show k + 2 - 2 = k by omega, show k + 2 - 1 = k + 1 by omega] at *
  rw [take_succ_wv p k hl, Nat.pow_succ]
  have hlt := wv_lt _ (wp.take k)
  rw [List.length_take, Nat.min_eq_left (by omega)] at hlt
  generalize 10000 ^ k = E at *
  constructor
  · intro h
    apply Nat.le_of_not_lt
    intro hp
    have : E * p[k] ≤ E * 4999 := Nat.mul_le_mul_left _ (by omega)
    omega
  · intro h
    have : E * 5000 ≤ E * p[k] := Nat.mul_le_mul_left _ h
    omega
/-- What is told where the number has too few words. -/
theorem rnd_few (p : List Nat) (wp : Wds p) (n : Nat) (hl : p.length < n - 1) : rnd (wv p * 10000) (10000 ^ n) = 0 := by
  rw [rnd_pos _ n (by omega)]
  have h := wv_lt p wp
  have h2 : 10000 ^ p.length ≤ 10000 ^ (n - 2) := Nat.pow_le_pow_right (by decide) (by omega)
  have h3 : 10000 ^ (n - 1) = 10000 ^ (n - 2) * 10000 := by rw [← Nat.pow_succ]; congr 1; omega
  rw [Nat.div_eq_of_lt (by omega)]
theorem rnd_cut (p : List Nat) (wp : Wds p) (n : Nat) (hn : 1 ≤ n) (hl : n - 1 ≤ p.length) : rnd (wv p * 10000) (10000 ^ n) = wv (p.drop (n - 1)) + (if 10000 ^ (n - 1) ≤ 2 * wv (p.take (n - 1)) then 1 else 0) := by
  rw [rnd_pos _ n hn]
  have hlt := wv_lt _ (wp.take (n - 1))
  rw [List.length_take, Nat.min_eq_left hl] at hlt
  rw [wv_split p (n - 1) hl]
  exact rnd_split _ _ _ hlt
end Go.Proofs.YtkbpjomkbelaaaaDoor
