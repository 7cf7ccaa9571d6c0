/- The contract of the document's Power, of every int64 and every int. New memory alone is made. · Parts of the contract of the document's Power: where it is refused, at the exponent 0 and below. New memory alone is made. -/
import Derived.Test.YtfpbcokfianjaaaGreatQPwPWordPwPQuo
import Derived.Test.YtfpbcokfianjaaaGreatQPwUPowPwDPow
namespace Go.Proofs.YtfpbcokfianjaaaGreat.Pw
open Go.Shelf Go.RowKit
set_option linter.all false
theorem rsize_n (n : Nat) (x : Int) (l : Bool) (w : World) (h : (x = n ∧ 0 ≤ x ∧ l = false) ∨ (x = -(n : Int) ∧ x < 0 ∧ l = true)) (hn : n ≤ 9223372036854775807) : Calls Tryz.prog 77 #[.int .i64 x] w fun e w' => e = .returned (.tuple #[.int .u64 n, .bool l]) ∧ w' = w := by
  rcases h with ⟨hx, h0, rfl⟩ | ⟨hx, h0, rfl⟩
  · have h1 : ¬ x < 0 := by omega
    go_enter Tryz.func77, Tryz.ntmps77
    go_wp2
    go_ret2
    exact ⟨rfl, rfl⟩
  · go_enter Tryz.func77, Tryz.ntmps77
    go_wp2
    go_ret2
    exact ⟨rfl, rfl⟩
/-- In the document's order: the powers above 0. -/
theorem rnd_pos (M n : Nat) (hn : 1 ≤ n) : rnd (M * 10000) (10000 ^ n) = (2 * M + 10000 ^ (n - 1)) / (2 * 10000 ^ (n - 1)) := by
  unfold rnd
  obtain ⟨k, rfl⟩ : ∃ k, n = k + 1 := ⟨n - 1, by omega⟩
  rw [Nat.add_sub_cancel, Nat.pow_succ, show 2 * (M * 10000) + 10000 ^ k * 10000 = (2 * M + 10000 ^ k) * 10000 by rw [Nat.add_mul, Nat.mul_assoc], show 2 * (10000 ^ k * 10000) = 2 * 10000 ^ k * 10000 by rw [Nat.mul_assoc], Nat.mul_div_mul_right _ _ (by decide)]
theorem rnd_split (L Q D : Nat) (hL : L < D) : (2 * (L + D * Q) + D) / (2 * D) = Q + (if D ≤ 2 * L then 1 else 0) := by
  have e : 2 * (L + D * Q) + D = (2 * L + D) + 2 * D * Q := by rw [Nat.mul_add, ← Nat.mul_assoc]; omega
  rw [e, Nat.add_mul_div_left _ _ (by omega), Nat.add_comm]
  congr 1
  split
  · rw [Nat.div_eq_iff (by omega)]; omega
  · rw [Nat.div_eq_of_lt (by omega)]
set_option maxRecDepth 100000 in
/-- Halves are told by the word behind the cut. -/
theorem half_word (p : List Nat) (wp : Wds p) (n : Nat) (hn : 2 ≤ n) (hl : n - 2 < p.length) : 10000 ^ (n - 1) ≤ 2 * wv (p.take (n - 1)) ↔ 5000 ≤ p[n - 2] := by
  obtain ⟨k, rfl⟩ : ∃ k, n = k + 2 := ⟨n - 2, by omega⟩
  simp only [show k + 2 - 2 = k by omega, show k + 2 - 1 = k + 1 by omega] at *
  rw [take_succ_wv p k hl, Nat.pow_succ]
  have hlt := wv_lt _ (wp.take k)
  rw [List.length_take, Nat.min_eq_left (by omega)] at hlt
  generalize 10000 ^ k = E at *
  constructor
  · intro h
    apply Nat.le_of_not_lt
    intro hp
    have : E * p[k] ≤ E * 4999 := Nat.mul_le_mul_left _ (by omega)
    omega
  · intro h
    have : E * 5000 ≤ E * p[k] := Nat.mul_le_mul_left _ h
    omega
/-- What is told where the number has too few words. -/
theorem rnd_few (p : List Nat) (wp : Wds p) (n : Nat) (hl : p.length < n - 1) : rnd (wv p * 10000) (10000 ^ n) = 0 := by
  rw [rnd_pos _ n (by omega)]
  have h := wv_lt p wp
  have h2 : 10000 ^ p.length ≤ 10000 ^ (n - 2) := Nat.pow_le_pow_right (by decide) (by omega)
  have h3 : 10000 ^ (n - 1) = 10000 ^ (n - 2) * 10000 := by rw [← Nat.pow_succ]; congr 1; omega
  rw [Nat.div_eq_of_lt (by omega)]
theorem rnd_cut (p : List Nat) (wp : Wds p) (n : Nat) (hn : 1 ≤ n) (hl : n - 1 ≤ p.length) : rnd (wv p * 10000) (10000 ^ n) = wv (p.drop (n - 1)) + (if 10000 ^ (n - 1) ≤ 2 * wv (p.take (n - 1)) then 1 else 0) := by
  rw [rnd_pos _ n hn]
  have hlt := wv_lt _ (wp.take (n - 1))
  rw [List.length_take, Nat.min_eq_left hl] at hlt
  rw [wv_split p (n - 1) hl]
  exact rnd_split _ _ _ hlt
end Go.Proofs.YtfpbcokfianjaaaGreat.Pw
namespace Go.Proofs.YtfpbcokfianjaaaGreat.Pw
open Go.Shelf Go.RowKit
set_option linter.all false
theorem rp_lo (x n : Int) (w : World) (hi : I64 x) (hm : mayOk x = true) (hn : n < -64) : Calls Tryz.prog 45 #[.int .i64 x, .int .i64 n] w fun e w' => e = .returned (.tuple #[.int .i64 0, .int .i64 8]) ∧ Below w.heap.size w w' := by
  go_enter Tryz.func45, Tryz.ntmps45
  go_wp2_with (go_at_call 37; refine (rmayAny _ _ hi).mono ?_; rintro e w ⟨rfl, rfl⟩)
  go_ret2
  exact ⟨rfl, Below.refl _ _⟩
theorem rp_hi (x n : Int) (w : World) (hi : I64 x) (hm : mayOk x = true) (hn : 64 < n) : Calls Tryz.prog 45 #[.int .i64 x, .int .i64 n] w fun e w' => e = .returned (.tuple #[.int .i64 0, .int .i64 8]) ∧ Below w.heap.size w w' := by
  have h1 : ¬ n < -64 := by omega
  go_enter Tryz.func45, Tryz.ntmps45
  go_wp2_with (go_at_call 37; refine (rmayAny _ _ hi).mono ?_; rintro e w ⟨rfl, rfl⟩)
  go_ret2
  exact ⟨rfl, Below.refl _ _⟩
theorem rp_n0 (x : Int) (w : World) (hi : I64 x) (hm : mayOk x = true) : Calls Tryz.prog 45 #[.int .i64 x, .int .i64 0] w fun e w' => e = .returned (.tuple #[.int .i64 10000, .int .i64 0]) ∧ Below w.heap.size w w' := by
  go_enter Tryz.func45, Tryz.ntmps45
  go_wp2_with (go_at_call 37; refine (rmayAny _ _ hi).mono ?_; rintro e w ⟨rfl, rfl⟩)
  go_ret2
  exact ⟨rfl, Below.refl _ _⟩
theorem rp_0n (n : Int) (w : World) (h1 : -64 ≤ n) (h2 : n < 0) : Calls Tryz.prog 45 #[.int .i64 0, .int .i64 n] w fun e w' => e = .returned (.tuple #[.int .i64 0, .int .i64 3]) ∧ Below w.heap.size w w' := by
  have hi : I64 0 := ⟨by decide, by decide⟩
  have hm : mayOk 0 = true := mayOk_t (by decide)
  have d1 : decide (64 < n) = false := decide_eq_false (by omega)
  have d2 : ¬ n < -64 := by omega
  have d3 : (n == 0) = false := by simp; omega
  go_enter Tryz.func45, Tryz.ntmps45
  go_wp2_with (first
    | (go_at_call 37; refine (rmayAny _ _ hi).mono ?_; rintro e w ⟨rfl, rfl⟩)
    | (go_at_call 77; refine (rsize_n 0 0 false _ (.inl ⟨rfl, by decide, rfl⟩) (by decide)).mono ?_; rintro e w ⟨rfl, rfl⟩))
  go_ret2
  exact ⟨rfl, Below.refl _ _⟩
theorem pw_sm (R : Nat) (neg : Bool) (h : R ≤ 9223372036854775807) : pwV (smV R) neg = pwV R neg ∧ pwC (smV R) = pwC R := by
  unfold smV; rw [if_pos h]; exact ⟨rfl, rfl⟩
theorem pw_big (R : Nat) (neg : Bool) (h : ¬ R ≤ 9223372036854775807) : pwV R neg = 0 ∧ pwC R = 2 := by
  unfold pwV pwC; rw [if_neg h, if_neg h]; exact ⟨rfl, rfl⟩
theorem smV_le (R : Nat) : smV R ≤ 9223372036854775807 := by unfold smV; split <;> omega
theorem parI (k : Nat) : ((-(k : Int)).tmod 2 != 0) = decide (k % 2 = 1) := by
  rw [Int.neg_tmod, Int.tmod_eq_emod_of_nonneg (by omega)]
  by_cases h : k % 2 = 1
  · rw [decide_eq_true h]; simp; omega
  · rw [decide_eq_false h]; simp; omega
theorem nle_of {q : Nat} (h : (!decide (q ≤ 9223372036854775807)) = true) : ¬ q ≤ 9223372036854775807 := by simpa using h
theorem le_of {q : Nat} (h : (!decide (q ≤ 9223372036854775807)) = false) : q ≤ 9223372036854775807 := by simpa using h
theorem parJ (k : Nat) : (-((k : Int) % 2) != 0) = decide (k % 2 = 1) := by
  by_cases h : k % 2 = 1
  · rw [decide_eq_true h]; simp; omega
  · rw [decide_eq_false h]; simp; omega
set_option maxRecDepth 100000 in
set_option maxHeartbeats 1000000 in
theorem rp_neg (x : Int) (s k : Nat) (low : Bool) (w : World) (hi : I64 x) (hm : mayOk x = true) (hs : (x = s ∧ 0 ≤ x ∧ low = false) ∨ (x = -(s : Int) ∧ x < 0 ∧ low = true)) (hs1 : 1 ≤ s) (hs2 : s ≤ 9223372036854775807) (hk1 : 1 ≤ k) (hk2 : k ≤ 64) :
    Calls Tryz.prog 45 #[.int .i64 x, .int .i64 (-(k : Int))] w fun e w' => e = .returned (.tuple #[.int .i64 (pwV (rnd (10000 ^ k * 10000) (s ^ k)) (sgp low k)), .int .i64 (pwC (rnd (10000 ^ k * 10000) (s ^ k)))]) ∧ Below w.heap.size w w' := by
  have d1 : decide (64 < -(k : Int)) = false := decide_eq_false (by omega)
  have d2 : ¬ -(k : Int) < -64 := by omega
  have d3 : (-(k : Int) == 0) = false := by simp; omega
  have d5 : -(k : Int) < 0 := by omega
  have d6 : (x == 0) = false := by simp; omega
  have e1 : (1 : Int) - -(k : Int) = ((k + 1 : Nat) : Int) := by omega
  have HS := Lib.hid hs
  have HP := Lib.hid (show 0 < s ^ k from Nat.pow_pos hs1)
  have hpar := parI k
  clear hs
  go_enter Tryz.func45, Tryz.ntmps45
  go_wp2_with (first
    | (go_at_call 37; refine (rmayAny _ _ hi).mono ?_; rintro e w ⟨rfl, rfl⟩)
    | (go_at_call 77; refine (rsize_n s x low _ HS.out hs2).mono ?_; rintro e w ⟨rfl, rfl⟩)
    | (go_at_call 75; refine (great_any s _ (by omega)).mono ?_; rintro e w2 ⟨g, vg, rfl, g1, g2, g3, g4, g5, g6⟩; have G1 := Lib.hid g1; have G2 := Lib.hid g2; have G4 := Lib.hid g4; clear g1 g2 g3 g4)
    | (go_at_call 80; refine (raised_any _ g k _ G1.out G2.out g5 hk2).mono ?_; rintro e w3 ⟨p, vp, rfl, p1, p2, p3, p4, p5, p6⟩; have P1 := Lib.hid p1; have P2 := Lib.hid p2; have P3 := Lib.hid p3; have P4 := Lib.hid (show wv p = s ^ k by rw [p4, G4.out]); clear p1 p2 p3 p4)
    | (go_at_call 79; refine (quotient_any _ p (k + 1) _ P1.out P2.out P3.out (by rw [P4.out]; exact HP.out) (by omega) (by omega)).mono ?_; rintro e w4 ⟨q, vq, rfl, q1, q2, q3, q4, q6⟩; have Q1 := Lib.hid q1; have Q2 := Lib.hid q2; have Q3 := Lib.hid q3; have Q4 := Lib.hid (show wv q = rnd (10000 ^ k * 10000) (s ^ k) by rw [q4, P4.out, Nat.pow_succ]; rfl); clear q1 q2 q3 q4)
    | (go_at_call 81; refine (small_any _ q _ Q1.out Q2.out Q3.out).mono ?_; rintro e w4 ⟨rfl, rfl⟩)
    | (go_at_call 78; refine (rsgn_any _ _ _ (smV_le _)).mono ?_; rintro e w4 ⟨rfl, rfl⟩))
  all_goals go_ret2
  all_goals refine ⟨?_, bup (bup g6 p6) q6⟩
  · have hb : ¬ wv q ≤ 9223372036854775807 := nle_of (by assumption)
    rw [Q4.out] at hb
    exact ret2 (pw_big _ _ hb).1.symm (pw_big _ true hb).2.symm
  · have hb : wv q ≤ 9223372036854775807 := le_of (by assumption)
    have hl : low = true := by assumption
    subst hl
    refine ret2 (b := pwV (rnd (10000 ^ k * 10000) (s ^ k)) (sgp true k)) (d := pwC (rnd (10000 ^ k * 10000) (s ^ k))) ((pw_sm _ _ hb).1.trans ?_) ((pw_sm _ true hb).2.trans ?_)
    · rw [Q4.out, parJ]; rfl
    · rw [Q4.out]
  · have hb : wv q ≤ 9223372036854775807 := le_of (by assumption)
    have hl : low = false := by first | assumption | exact Bool.eq_false_iff.mpr (by assumption) | exact eq_false_of_ne_true (by assumption)
    subst hl
    refine ret2 (b := pwV (rnd (10000 ^ k * 10000) (s ^ k)) (sgp false k)) (d := pwC (rnd (10000 ^ k * 10000) (s ^ k))) ((pw_sm _ _ hb).1.trans ?_) ((pw_sm _ true hb).2.trans ?_)
    · rw [Q4.out]; rfl
    · rw [Q4.out]
end Go.Proofs.YtfpbcokfianjaaaGreat.Pw
