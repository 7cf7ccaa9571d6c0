/- The contracts of dec's powerOf and Power, of every int64 and every int. New memory alone is made. -/
import Derived.Test.YtfpbcokfianjaaaPwUPow
namespace Go.Proofs.Ytfpbcokfianjaaa.Pw
open Go.Shelf Go.RowKit
set_option linter.all false
theorem size_n (n : Nat) (x : Int) (w : World) (h : x = n ∨ x = -(n : Int)) (hn : n ≤ 9223372036854775807) : Calls Try.prog 79 #[.int .i64 x] w fun e w' => e = .returned (.int .u64 n) ∧ w' = w := by
  by_cases h0 : x < 0
  · go_enter Try.func79, Try.ntmps79
    go_wp2
    go_ret
    exact ⟨ret1 (by omega), rfl⟩
  · go_enter Try.func79, Try.ntmps79
    go_wp2
    go_ret
    exact ⟨ret1 (by omega), rfl⟩
/-- A size with its sign, where it may be; else 0; the code. -/
def pwV (R : Nat) (neg : Bool) : Int := if R ≤ 9223372036854775807 then (if neg then -(R : Int) else (R : Int)) else 0
def pwC (R : Nat) : Int := if R ≤ 9223372036854775807 then 0 else 2
theorem near_pw (T B : Nat) (neg : Bool) : pwV (near T B) neg = pwV (rnd T B) neg ∧ pwC (near T B) = pwC (rnd T B) := by
  unfold near
  by_cases h : 9223372036854775808 ≤ rnd T B
  · rw [if_pos h]; unfold pwV pwC; rw [if_neg (by decide), if_neg (by omega), if_neg (by decide), if_neg (by omega)]; exact ⟨rfl, rfl⟩
  · rw [if_neg h]; exact ⟨rfl, rfl⟩
theorem sgn_any (n : Nat) (neg : Bool) (w : World) : Calls Try.prog 77 #[.int .u64 n, .bool neg] w fun e w' => e = .returned (.tuple #[.int .i64 (pwV n neg), .int .i64 (pwC n)]) ∧ w' = w := by
  unfold pwV pwC
  by_cases h : n ≤ 9223372036854775807
  · rw [if_pos h, if_pos h]
    cases neg
    · exact signed_pos n w (by omega) (by omega)
    · exact signed_neg n w (by omega) (by omega)
  · rw [if_neg h, if_neg h]; exact signed_big n neg w (by omega)
/-- The sign of a power. -/
def sgp (low : Bool) (n : Nat) : Bool := low && decide (n % 2 = 1)
set_option maxRecDepth 100000 in
set_option maxHeartbeats 1000000 in
theorem powerOf_w (t b n : Nat) (low sg : Bool) (w : World) (ht : n = 0 ∨ 1 ≤ t) (ht64 : t < 18446744073709551616) (hb : n = 0 ∨ 1 ≤ b) (hb64 : b < 18446744073709551616) (hn : n ≤ 64) (hcase : Hid (sg = sgp low n)) (hl : low = false ∨ (low = true ∧ (((n : Int) % 2 != 0) = sg))) (hlf : low = false → sg = false) :
    Calls Try.prog 81 #[.int .u64 t, .int .u64 b, .int .i64 n, .bool low] w fun e w' => e = .returned (.tuple #[.int .i64 (pwV (rnd (t ^ n * 10000) (b ^ n)) sg), .int .i64 (pwC (rnd (t ^ n * 10000) (b ^ n)))]) ∧ Below w.heap.size w w' := by
  have HT := Lib.hid ht
  have HT64 := Lib.hid ht64
  have HBB := Lib.hid hb
  have HB64 := Lib.hid hb64
  have TP := Lib.hid (show 1 ≤ t ^ n from ht.elim (fun k => by rw [k]; simp) (fun k => Nat.pow_pos k))
  have BP := Lib.hid (show 1 ≤ b ^ n from hb.elim (fun k => by rw [k]; simp) (fun k => Nat.pow_pos k))
  clear ht ht64 hb hb64
  have fin : ∀ (wx : World) (lt lb : List Nat), uv lt = t ^ n * 10000 → uv lb = b ^ n → True := fun _ _ _ _ _ => trivial
  rcases hl with rfl | ⟨rfl, hq⟩
  · obtain rfl := hlf rfl
    clear hlf fin
    go_enter Try.func81, Try.ntmps81
    go_wp2_with fail
    go_at_call 88
    refine (raise_any t n _ HT.out HT64.out hn).mono ?_
    rintro e w2 ⟨m2, v2, rfl, q1, q2, q3, q4, q5, q6⟩
    have Q := Lib.hid (And.intro q1 (And.intro q2 (And.intro q3 q4)))
    clear q1 q2 q3 q4
    go_wp2_with fail
    go_at_call 89
    refine (times_any _ m2 10000 _ Q.out.1 Q.out.2.1 Q.out.2.2.1 (ne_of_pos (by rw [Q.out.2.2.2]; exact TP.out)) (by decide) (by decide) (by omega)).mono ?_
    rintro e w3 ⟨m3, v3, rfl, r1, r2, r3, r4, r5, r6⟩
    have R := Lib.hid (And.intro r1 (And.intro r2 (And.intro r3 (show uv m3 = t ^ n * 10000 by rw [r4, Q.out.2.2.2]))))
    clear r1 r2 r3 r4
    go_wp2_with fail
    go_at_call 88
    refine (raise_any b n _ HBB.out HB64.out hn).mono ?_
    rintro e w4 ⟨m4, v4, rfl, s1, s2, s3, s4, s5, s6⟩
    have S := Lib.hid (And.intro s1 (And.intro s2 (And.intro s3 s4)))
    clear s1 s2 s3 s4
    go_wp2_with (first
      | (go_at_call 87; refine (nearest_any _ _ m3 m4 _ (R.out.1.keep s6) S.out.1 R.out.2.1 S.out.2.1 R.out.2.2.1 S.out.2.2.1 (ne_of_pos (by rw [R.out.2.2.2]; have := TP.out; omega)) (ne_of_pos (by rw [S.out.2.2.2]; exact BP.out)) (by rw [S.out.2.2.2]; exact BP.out) (by omega) (by omega)).mono ?_; rintro e w5 ⟨rfl, b5⟩)
      | (go_at_call 77; refine (sgn_any _ _ _).mono ?_; rintro e w5 ⟨rfl, rfl⟩))
    go_ret2
    have N := near_pw (uv m3) (uv m4) false
    rw [R.out.2.2.2, S.out.2.2.2] at N
    exact ⟨ret2 (by rw [R.out.2.2.2, S.out.2.2.2]; exact N.1) (by rw [R.out.2.2.2, S.out.2.2.2]; exact N.2), bup (bup (bup q6 r6) s6) b5⟩
  · clear hlf fin
    go_enter Try.func81, Try.ntmps81
    go_wp2_with fail
    go_at_call 88
    refine (raise_any t n _ HT.out HT64.out hn).mono ?_
    rintro e w2 ⟨m2, v2, rfl, q1, q2, q3, q4, q5, q6⟩
    have Q := Lib.hid (And.intro q1 (And.intro q2 (And.intro q3 q4)))
    clear q1 q2 q3 q4
    go_wp2_with fail
    go_at_call 89
    refine (times_any _ m2 10000 _ Q.out.1 Q.out.2.1 Q.out.2.2.1 (ne_of_pos (by rw [Q.out.2.2.2]; exact TP.out)) (by decide) (by decide) (by omega)).mono ?_
    rintro e w3 ⟨m3, v3, rfl, r1, r2, r3, r4, r5, r6⟩
    have R := Lib.hid (And.intro r1 (And.intro r2 (And.intro r3 (show uv m3 = t ^ n * 10000 by rw [r4, Q.out.2.2.2]))))
    clear r1 r2 r3 r4
    go_wp2_with fail
    go_at_call 88
    refine (raise_any b n _ HBB.out HB64.out hn).mono ?_
    rintro e w4 ⟨m4, v4, rfl, s1, s2, s3, s4, s5, s6⟩
    have S := Lib.hid (And.intro s1 (And.intro s2 (And.intro s3 s4)))
    clear s1 s2 s3 s4
    go_wp2_with (first
      | (go_at_call 87; refine (nearest_any _ _ m3 m4 _ (R.out.1.keep s6) S.out.1 R.out.2.1 S.out.2.1 R.out.2.2.1 S.out.2.2.1 (ne_of_pos (by rw [R.out.2.2.2]; have := TP.out; omega)) (ne_of_pos (by rw [S.out.2.2.2]; exact BP.out)) (by rw [S.out.2.2.2]; exact BP.out) (by omega) (by omega)).mono ?_; rintro e w5 ⟨rfl, b5⟩)
      | (go_at_call 77; refine (sgn_any _ _ _).mono ?_; rintro e w5 ⟨rfl, rfl⟩))
    go_ret2
    have N := near_pw (uv m3) (uv m4) sg
    rw [R.out.2.2.2, S.out.2.2.2] at N
    exact ⟨ret2 (by rw [R.out.2.2.2, S.out.2.2.2]; exact N.1) (by rw [R.out.2.2.2, S.out.2.2.2]; exact N.2), bup (bup (bup q6 r6) s6) b5⟩
theorem par (n : Nat) : ((n : Int) % 2 != 0) = decide (n % 2 = 1) := by
  by_cases h : n % 2 = 1
  · rw [decide_eq_true h]; simp; omega
  · rw [decide_eq_false h]; simp; omega
theorem powerOf_any (t b n : Nat) (low : Bool) (w : World) (ht : n = 0 ∨ 1 ≤ t) (ht64 : t < 18446744073709551616) (hb : n = 0 ∨ 1 ≤ b) (hb64 : b < 18446744073709551616) (hn : n ≤ 64) :
    Calls Try.prog 81 #[.int .u64 t, .int .u64 b, .int .i64 n, .bool low] w fun e w' => e = .returned (.tuple #[.int .i64 (pwV (rnd (t ^ n * 10000) (b ^ n)) (sgp low n)), .int .i64 (pwC (rnd (t ^ n * 10000) (b ^ n)))]) ∧ Below w.heap.size w w' := by
  refine powerOf_w t b n low (sgp low n) w ht ht64 hb hb64 hn (Lib.hid rfl) ?_ ?_
  · cases low
    · exact .inl rfl
    · exact .inr ⟨rfl, by rw [par]; rfl⟩
  · rintro rfl; rfl
theorem pow_min (x n : Int) (w : World) (hx : x = -9223372036854775808) : Calls Try.prog 65 #[.int .i64 x, .int .i64 n] w fun e w' => e = .returned (.tuple #[.int .i64 0, .int .i64 2]) ∧ Below w.heap.size w w' := by
  go_enter Try.func65, Try.ntmps65
  go_wp2_with (go_at_call 74; refine (may_f _ _ (by omega)).mono ?_; rintro e w ⟨rfl, rfl⟩)
  go_ret2
  exact ⟨rfl, Below.refl _ _⟩
theorem pow_lo (x n : Int) (w : World) (hx : -9223372036854775807 ≤ x) (hn : n < -64) : Calls Try.prog 65 #[.int .i64 x, .int .i64 n] w fun e w' => e = .returned (.tuple #[.int .i64 0, .int .i64 8]) ∧ Below w.heap.size w w' := by
  go_enter Try.func65, Try.ntmps65
  go_wp2_with (go_at_call 74; refine (may_t _ _ hx).mono ?_; rintro e w ⟨rfl, rfl⟩)
  go_ret2
  exact ⟨rfl, Below.refl _ _⟩
theorem pow_hi (x n : Int) (w : World) (hx : -9223372036854775807 ≤ x) (hn : 64 < n) : Calls Try.prog 65 #[.int .i64 x, .int .i64 n] w fun e w' => e = .returned (.tuple #[.int .i64 0, .int .i64 8]) ∧ Below w.heap.size w w' := by
  have h1 : ¬ n < -64 := by omega
  go_enter Try.func65, Try.ntmps65
  go_wp2_with (go_at_call 74; refine (may_t _ _ hx).mono ?_; rintro e w ⟨rfl, rfl⟩)
  go_ret2
  exact ⟨rfl, Below.refl _ _⟩
theorem pow_0n (n : Int) (w : World) (h1 : -64 ≤ n) (h2 : n < 0) : Calls Try.prog 65 #[.int .i64 0, .int .i64 n] w fun e w' => e = .returned (.tuple #[.int .i64 0, .int .i64 3]) ∧ Below w.heap.size w w' := by
  have d1 : decide (64 < n) = false := by simp; omega
  have d2 : ¬ n < -64 := by omega
  go_enter Try.func65, Try.ntmps65
  go_wp2_with (go_at_call 74; refine (may_t _ _ (by decide)).mono ?_; rintro e w ⟨rfl, rfl⟩)
  go_ret2
  exact ⟨rfl, Below.refl _ _⟩
theorem pow_0p (n : Int) (w : World) (h1 : 0 < n) (h2 : n ≤ 64) : Calls Try.prog 65 #[.int .i64 0, .int .i64 n] w fun e w' => e = .returned (.tuple #[.int .i64 0, .int .i64 0]) ∧ Below w.heap.size w w' := by
  have d1 : decide (64 < n) = false := by simp; omega
  have d2 : ¬ n < -64 := by omega
  have d3 : decide (n < 0) = false := by simp; omega
  go_enter Try.func65, Try.ntmps65
  go_wp2_with (go_at_call 74; refine (may_t _ _ (by decide)).mono ?_; rintro e w ⟨rfl, rfl⟩)
  go_ret2
  exact ⟨rfl, Below.refl _ _⟩
set_option maxRecDepth 100000 in
theorem pow_neg (x : Int) (s k : Nat) (low : Bool) (w : World) (hx : -9223372036854775807 ≤ x) (hs : x = s ∨ x = -(s : Int)) (hs1 : 1 ≤ s) (hs2 : s ≤ 9223372036854775807) (hk1 : 1 ≤ k) (hk2 : k ≤ 64) (hlow : decide (x < 0) = low) :
    Calls Try.prog 65 #[.int .i64 x, .int .i64 (-(k : Int))] w fun e w' => e = .returned (.tuple #[.int .i64 (pwV (rnd (10000 ^ k * 10000) (s ^ k)) (sgp low k)), .int .i64 (pwC (rnd (10000 ^ k * 10000) (s ^ k)))]) ∧ Below w.heap.size w w' := by
  have d1 : decide (64 < -(k : Int)) = false := decide_eq_false (by omega)
  have d2 : ¬ -(k : Int) < -64 := by omega
  have d4 : (x == 0) = false := by simp; omega
  have d5 : -(k : Int) < 0 := by omega
  have HS := Lib.hid hs
  have HS1 := Lib.hid hs1
  clear hs hs1
  go_enter Try.func65, Try.ntmps65
  go_wp2_with (first
    | (go_at_call 74; refine (may_t _ _ hx).mono ?_; rintro e w ⟨rfl, rfl⟩)
    | (go_at_call 79; refine (size_n s _ _ HS.out hs2).mono ?_; rintro e w ⟨rfl, rfl⟩)
    | (go_at_call 81; refine (powerOf_any 10000 s k low _ (.inr (by decide)) (by decide) (.inr HS1.out) (by omega) hk2).mono ?_; rintro e w5 ⟨rfl, b5⟩))
  go_ret2
  exact ⟨rfl, b5⟩
set_option maxRecDepth 100000 in
theorem pow_pos (x : Int) (s n : Nat) (low : Bool) (w : World) (hx : -9223372036854775807 ≤ x) (hs : x = s ∨ x = -(s : Int)) (hs1 : n = 0 ∨ 1 ≤ s) (hs2 : s ≤ 9223372036854775807) (hn : n ≤ 64) (hlow : decide (x < 0) = low) (hz : (x == 0) = false) :
    Calls Try.prog 65 #[.int .i64 x, .int .i64 n] w fun e w' => e = .returned (.tuple #[.int .i64 (pwV (rnd (s ^ n * 10000) (10000 ^ n)) (sgp low n)), .int .i64 (pwC (rnd (s ^ n * 10000) (10000 ^ n)))]) ∧ Below w.heap.size w w' := by
  have d1 : decide (64 < (n : Int)) = false := decide_eq_false (by omega)
  have d2 : ¬ (n : Int) < -64 := by omega
  have d5 : decide ((n : Int) < 0) = false := decide_eq_false (by omega)
  have d6 : ¬ (n : Int) < 0 := by omega
  have HS := Lib.hid hs
  have HS1 := Lib.hid hs1
  clear hs hs1
  go_enter Try.func65, Try.ntmps65
  go_wp2_with (first
    | (go_at_call 74; refine (may_t _ _ hx).mono ?_; rintro e w ⟨rfl, rfl⟩)
    | (go_at_call 79; refine (size_n s _ _ HS.out hs2).mono ?_; rintro e w ⟨rfl, rfl⟩)
    | (go_at_call 81; refine (powerOf_any s 10000 n low _ HS1.out (by omega) (.inr (by decide)) (by decide) hn).mono ?_; rintro e w5 ⟨rfl, b5⟩))
  go_ret2
  exact ⟨rfl, b5⟩
theorem powerOf0 (s : Nat) (low : Bool) (w : World) (hs : s < 18446744073709551616) : Calls Try.prog 81 #[.int .u64 s, .int .u64 10000, .int .i64 0, .bool low] w fun e w' => e = .returned (.tuple #[.int .i64 10000, .int .i64 0]) ∧ Below w.heap.size w w' := by
  refine (powerOf_any s 10000 0 low w (.inl rfl) hs (.inl rfl) (by decide) (by decide)).mono fun e w' ⟨h1, h2⟩ => ⟨h1.trans ?_, h2⟩
  rw [show rnd (s ^ 0 * 10000) (10000 ^ 0) = 10000 by simp [rnd]]
  unfold pwV pwC sgp
  simp
set_option maxRecDepth 100000 in
theorem pow_n0 (x : Int) (s : Nat) (low : Bool) (w : World) (hx : -9223372036854775807 ≤ x) (hs : x = s ∨ x = -(s : Int)) (hs2 : s ≤ 9223372036854775807) (hlow : decide (x < 0) = low) :
    Calls Try.prog 65 #[.int .i64 x, .int .i64 0] w fun e w' => e = .returned (.tuple #[.int .i64 10000, .int .i64 0]) ∧ Below w.heap.size w w' := by
  have HS := Lib.hid hs
  clear hs
  cases hxx : (x == 0) with
  | true =>
    go_enter Try.func65, Try.ntmps65
    go_wp2_with (first
      | (go_at_call 74; refine (may_t _ _ hx).mono ?_; rintro e w ⟨rfl, rfl⟩)
      | (go_at_call 79; refine (size_n s _ _ HS.out hs2).mono ?_; rintro e w ⟨rfl, rfl⟩)
      | (go_at_call 81; refine (powerOf0 s low _ (by omega)).mono ?_; rintro e w5 ⟨rfl, b5⟩))
    go_ret2
    exact ⟨rfl, b5⟩
  | false =>
    go_enter Try.func65, Try.ntmps65
    go_wp2_with (first
      | (go_at_call 74; refine (may_t _ _ hx).mono ?_; rintro e w ⟨rfl, rfl⟩)
      | (go_at_call 79; refine (size_n s _ _ HS.out hs2).mono ?_; rintro e w ⟨rfl, rfl⟩)
      | (go_at_call 81; refine (powerOf0 s low _ (by omega)).mono ?_; rintro e w5 ⟨rfl, b5⟩))
    go_ret2
    exact ⟨rfl, b5⟩
end Go.Proofs.Ytfpbcokfianjaaa.Pw
