/- The contracts of dec's raise and nearest over numbers in words of 64 bits. New memory alone is made. · The contracts of dec's powerOf and Power, of every int64 and every int. New memory alone is made. -/
import Derived.Test.YtfpbcokfianjaaaGreatQPwUTimesSqrt
namespace Go.Proofs.YtfpbcokfianjaaaGreat.Pw
open Go.Shelf Go.RowKit
set_option linter.all false
theorem below_drewN' {B : Nat} {a w : World} (h : Below B a w) (k : Nat) : Below B a (w.drewN k) := ⟨h.os, h.tape, h.output, h.size, h.block⟩
theorem isU_one (w : World) (x : Nat) : IsU (w.alloc (.cells #[.int .u64 (x : Int)] 71)) (.slice (some ⟨w.heap.size, 0, none⟩) 1 1) [x] := by
  have h := World.ownsRow_lit (base := 0) (e := 71) (size := 1) w #[.int .u64 (x : Int)] 1 (Nat.zero_le _) (by unfold maxLen; decide) rfl
  exact h
theorem ne_of_pos {m : List Nat} (h : 1 ≤ uv m) : m ≠ [] := fun e => by rw [e] at h; simp [uv] at h
set_option maxRecDepth 100000 in
set_option maxHeartbeats 1000000 in
theorem raise_any (b n : Nat) (w : World) (hb : n = 0 ∨ 1 ≤ b) (hb64 : b < 18446744073709551616) (hn : n ≤ 64) :
    Calls Tryz.prog 123 #[.int .u64 b, .int .i64 n] w fun e w' => ∃ (m : List Nat) (v' : Value), e = .returned v' ∧ IsU w' v' m ∧ Uds m ∧ Uop m ∧ uv m = b ^ n ∧ m.length ≤ 1 + n ∧ Below w.heap.size w w' := by
  have HBP := Lib.hid hb
  have HB64 := Lib.hid hb64
  clear hb hb64
  go_enter Tryz.func123, Tryz.ntmps123
  go_wp2
  go_loopw [5, 8] (fun s x wr => ∃ (j : Nat) (m : List Nat), j ≤ n ∧ x = .int .i64 j ∧ IsU wr s m ∧ Uds m ∧ Uop m ∧ uv m = b ^ j ∧ m.length ≤ 1 + j ∧ Below w.heap.size w wr) (fun _ x _ => n - (intOf x).toNat)
  case atStart => exact ⟨0, [1], Nat.zero_le _, rfl, isU_one w 1, fun x hx => by simp at hx; omega, by unfold Uop; simp, by simp [uv], by simp, bal _ _⟩
  case round =>
    obtain ⟨j, m, hj, rfl, hm, wm, tm, vm, lm, hB⟩ := hrel
    have HM := Lib.hid hm
    have WM := Lib.hid wm
    have TM := Lib.hid tm
    have VM := Lib.hid vm
    clear hm wm tm vm
    by_cases hlt : j < n
    · have hlt' : (j : Int) < n := by omega
      have HBQ := Lib.hid (show 1 ≤ b from HBP.out.elim (fun k => by omega) (fun k => k))
      have HNE := Lib.hid (ne_of_pos (m := m) (by rw [VM.out]; exact Nat.pow_pos HBQ.out))
      go_wp2_with (go_at_call 124; refine (times_any _ m b _ HM.out WM.out TM.out HNE.out HBQ.out HB64.out (by omega)).mono ?_; rintro e w2 ⟨m2, v2, rfl, q1, q2, q3, q4, q5, q6⟩)
      have Q1 := Lib.hid q1
      have Q2 := Lib.hid q2
      have Q3 := Lib.hid q3
      have Q4 := Lib.hid q4
      clear q1 q2 q3 q4
      go_roundw
      case rel => exact ⟨j + 1, m2, by omega, by go_num, Q1.out, Q2.out, Q3.out, by rw [Q4.out, VM.out, Nat.pow_succ], by omega, bup hB q6⟩
      case measure => simp [intOf]; omega
    · obtain rfl : j = n := by omega
      have hlt' : ¬ ((j : Nat) : Int) < j := by omega
      go_wp2
      go_ret
      exact ⟨m, _, rfl, HM.out, WM.out, TM.out, VM.out, lm, hB⟩
/-- A quotient, halves rounded up. -/
def rnd (T B : Nat) : Nat := (2 * T + B) / (2 * B)
/-- q less a half, times B, is not above T, just if q is not above the rounded quotient. -/
theorem rnd_le {T B q : Nat} (hB : 0 < B) (hq : 1 ≤ q) : B * (2 * q - 1) ≤ T * 2 ↔ q ≤ rnd T B := by
  unfold rnd
  rw [Nat.le_div_iff_mul_le (by omega)]
  have e : q * (2 * B) = B * (2 * q - 1) + B := by
    have : B * (2 * q - 1) + B = B * (2 * q - 1 + 1) := by rw [Nat.mul_add, Nat.mul_one]
    rw [this, show 2 * q - 1 + 1 = 2 * q by omega, ← Nat.mul_assoc, Nat.mul_comm q 2, Nat.mul_assoc, Nat.mul_comm q B, ← Nat.mul_assoc, Nat.mul_comm 2 B, Nat.mul_assoc]
  rw [e]
  omega
def near (T B : Nat) : Nat := if 9223372036854775808 ≤ rnd T B then 9223372036854775808 else rnd T B
set_option maxRecDepth 100000 in
set_option maxHeartbeats 2000000 in
theorem nearest_any (vt vb : Value) (lt lb : List Nat) (w : World) (ht : IsU w vt lt) (hb : IsU w vb lb) (wt : Uds lt) (wb : Uds lb) (tt : Uop lt) (tb : Uop lb) (nt : lt ≠ []) (nb : lb ≠ []) (pb : 0 < uv lb) (l1 : lt.length ≤ 300) (l2 : lb.length ≤ 300) :
    Calls Tryz.prog 122 #[vt, vb] w fun e w' => e = .returned (.int .u64 (near (uv lt) (uv lb) : Nat)) ∧ Below w.heap.size w w' := by
  have HT := Lib.hid ht
  have HB0 := Lib.hid hb
  have WT := Lib.hid wt
  have WB := Lib.hid wb
  have TT := Lib.hid tt
  have TB := Lib.hid tb
  have NT := Lib.hid nt
  have NB := Lib.hid nb
  have PB := Lib.hid pb
  clear ht hb wt wb tt tb nt nb pb
  have hmx := rnd_le (T := uv lt) (B := uv lb) (q := 9223372036854775808) PB.out (by decide)
  have HMX := Lib.hid hmx
  clear hmx
  go_enter Tryz.func122, Tryz.ntmps122
  go_wp2_with fail
  go_at_call 124
  refine (times_any _ lt 2 _ HT.out WT.out TT.out NT.out (by decide) (by decide) (by omega)).mono ?_
  rintro e w2 ⟨m2, v2, rfl, q1, q2, q3, q4, q5, q6⟩
  have Q1 := Lib.hid q1
  have Q2 := Lib.hid q2
  have Q3 := Lib.hid q3
  have Q4 := Lib.hid q4
  clear q1 q2 q3 q4
  go_wp2_with fail
  go_at_call 124
  refine (times_any _ lb 18446744073709551615 _ (HB0.out.keep q6) WB.out TB.out NB.out (by decide) (by decide) (by omega)).mono ?_
  rintro e w3 ⟨m3, v3, rfl, r1, r2, r3, r4, r5, r6⟩
  have R1 := Lib.hid r1
  have R2 := Lib.hid r2
  have R3 := Lib.hid r3
  have R4 := Lib.hid r4
  clear r1 r2 r3 r4
  go_wp2_with (go_at_call 128; refine (atmost_any _ _ m3 m2 _ R1.out (Q1.out.keep r6) R2.out Q2.out R3.out Q3.out).mono ?_; rintro e w4 ⟨rfl, k, rfl⟩)
  · go_ret
    have hh : uv m3 ≤ uv m2 := by first | assumption | (have h := ‹decide (uv m3 ≤ uv m2) = true›; simpa using h)
    rw [R4.out, Q4.out] at hh
    have := HMX.out.1 hh
    exact ⟨ret1 (by unfold near; rw [if_pos this]; rfl), below_drewN' (bup q6 r6) k⟩
  · have hh : ¬ uv m3 ≤ uv m2 := by first | assumption | (apply Nat.not_le.2; assumption) | (have h := ‹decide (uv m3 ≤ uv m2) = false›; simpa using h)
    rw [R4.out, Q4.out] at hh
    have hN : rnd (uv lt) (uv lb) < 9223372036854775808 := by
      apply Nat.lt_of_not_le
      intro k; exact hh (HMX.out.2 k)
    have HN := Lib.hid hN
    have HRL := Lib.hid (fun (q : Nat) (hq : 1 ≤ q) => rnd_le (T := uv lt) (B := uv lb) (q := q) PB.out hq)
    have b23 := below_drewN' r6 k
    clear hh hN HMX
    generalize decide (uv m3 ≤ uv m2) = bb
    go_loopw [6, 7] (fun s x wr => ∃ (j q : Nat), j ≤ 63 ∧ x = .int .u64 (bt j : Nat) ∧ s = .int .u64 q ∧ q ≤ rnd (uv lt) (uv lb) ∧ rnd (uv lt) (uv lb) < q + 2 ^ j ∧ q + 2 ^ j ≤ 9223372036854775808 ∧ Below w2.heap.size w2 wr) (fun _ x _ => (intOf x).toNat)
    case atStart => exact ⟨63, 0, by decide, by rw [show bt 63 = 4611686018427387904 from rfl]; rfl, rfl, Nat.zero_le _, by rw [show (2 : Nat) ^ 63 = 9223372036854775808 from rfl]; have := HN.out; omega, by decide, b23⟩
    case round =>
      obtain ⟨j, q, hj, rfl, rfl, h1, h2, h3, hB⟩ := hrel
      cases j with
      | zero =>
        rw [bt_zero]
        have he : rnd (uv lt) (uv lb) = q := by simp at h2; omega
        have HE := Lib.hid he
        clear h1 h2 h3 he
        go_wp2
        go_ret
        exact ⟨ret1 (by unfold near; rw [if_neg (by have := HN.out; omega), HE.out]), bup q6 hB⟩
      | succ j =>
        have hb1 := bt_pos j
        have hb2 := bt_two j
        have hb3 := bt_half j
        have HB3 := Lib.hid hb3
        generalize hbit : bt (j + 1) = bit at *
        clear hbit hb3
        obtain ⟨d, hd⟩ : ∃ d : Nat, d = 2 * (q + bit) - 1 := ⟨_, rfl⟩
        have hq63 : q + bit < 9223372036854775808 := by omega
        have hd1 : 1 ≤ d := by omega
        have hd2 : d < 18446744073709551616 := by omega
        have a1 : IntKind.u64.wrap ((q : Int) + (bit : Int)) = (q : Int) + (bit : Int) := by rw [wrapU]; omega
        have a2 : IntKind.u64.wrap (2 * ((q : Int) + (bit : Int))) = 2 * ((q : Int) + (bit : Int)) := by rw [wrapU]; omega
        have a3 : IntKind.u64.wrap (2 * ((q : Int) + (bit : Int)) - 1) = (d : Int) := by rw [wrapU]; omega
        have m0 : 2 * ((q : Int) + (bit : Int)) - 1 = (d : Int) := by omega
        have a4 : IntKind.u64.wrap (d : Int) = (d : Int) := by rw [wrapU]; omega
        have HR := Lib.hid (by have := HRL.out (q + bit) (by omega); rw [← hd] at this; exact this)
        have hbp : (0 : Int) < (bit : Int) := by omega
        have H1 := Lib.hid h1
        have H2 := Lib.hid (show rnd (uv lt) (uv lb) < q + (bit + bit) by rw [← hb2.1]; exact h2)
        have H3 := Lib.hid (show q + (bit + bit) ≤ 9223372036854775808 by rw [← hb2.1]; exact h3)
        have HJ := Lib.hid hb2.2
        have HD1 := Lib.hid hd1
        have HD2 := Lib.hid hd2
        clear h1 h2 h3 hb2 hd hd1 hd2 hq63
        go_wp2_with (first
          | (go_at_call 124; refine (times_any _ lb d _ (HB0.out.keep (bup q6 hB)) WB.out TB.out NB.out HD1.out HD2.out (by omega)).mono ?_; rintro e w5 ⟨m5, v5, rfl, s1, s2, s3, s4, s5, s6⟩; have S1 := Lib.hid s1; have S2 := Lib.hid s2; have S3 := Lib.hid s3; have S4 := Lib.hid s4; clear s1 s2 s3 s4)
          | (go_at_call 128; refine (atmost_any _ _ m5 m2 _ S1.out (Q1.out.keep (bup hB s6)) S2.out Q2.out S3.out Q3.out).mono ?_; rintro e w6 ⟨rfl, k6, rfl⟩))
        · go_roundw
          case rel =>
            have hh : uv m5 ≤ uv m2 := by first | assumption | (have h := ‹decide (uv m5 ≤ uv m2) = true›; simpa using h)
            rw [S4.out, Q4.out] at hh
            have g := HR.out.1 hh
            have e2 := H2.out; have e3 := H3.out; have e4 := HJ.out
            exact ⟨j, q + bit, by omega, by rw [← HB3.out]; go_num, by first | rfl | go_num, g, by omega, by omega, below_drewN' (bup hB s6) k6⟩
          case measure => simp [intOf]; omega
        · go_roundw
          case rel =>
            have hh : ¬ uv m5 ≤ uv m2 := by first | assumption | (apply Nat.not_le.2; assumption) | (have h := ‹decide (uv m5 ≤ uv m2) = false›; simpa using h)
            rw [S4.out, Q4.out] at hh
            have g : rnd (uv lt) (uv lb) < q + bit := by
              apply Nat.lt_of_not_le
              intro kk; exact hh (HR.out.2 kk)
            have e2 := H2.out; have e3 := H3.out; have e4 := HJ.out
            exact ⟨j, q, by omega, by rw [← HB3.out]; go_num, rfl, H1.out, by omega, by omega, below_drewN' (bup hB s6) k6⟩
          case measure => simp [intOf]; omega
end Go.Proofs.YtfpbcokfianjaaaGreat.Pw
namespace Go.Proofs.YtfpbcokfianjaaaGreat.Pw
open Go.Shelf Go.RowKit
set_option linter.all false
theorem size_n (n : Nat) (x : Int) (w : World) (h : x = n ∨ x = -(n : Int)) (hn : n ≤ 9223372036854775807) : Calls Tryz.prog 114 #[.int .i64 x] w fun e w' => e = .returned (.int .u64 n) ∧ w' = w := by
  by_cases h0 : x < 0
  · go_enter Tryz.func114, Tryz.ntmps114
    go_wp2
    go_ret
    exact ⟨ret1 (by omega), rfl⟩
  · go_enter Tryz.func114, Tryz.ntmps114
    go_wp2
    go_ret
    exact ⟨ret1 (by omega), rfl⟩
/-- A size with its sign, where it may be; else 0; the code. -/
def pwV (R : Nat) (neg : Bool) : Int := if R ≤ 9223372036854775807 then (if neg then -(R : Int) else (R : Int)) else 0
def pwC (R : Nat) : Int := if R ≤ 9223372036854775807 then 0 else 2
theorem near_pw (T B : Nat) (neg : Bool) : pwV (near T B) neg = pwV (rnd T B) neg ∧ pwC (near T B) = pwC (rnd T B) := by
  unfold near
  by_cases h : 9223372036854775808 ≤ rnd T B
  · rw [if_pos h]; unfold pwV pwC; rw [if_neg (by decide), if_neg (by omega), if_neg (by decide), if_neg (by omega)]; exact ⟨rfl, rfl⟩
  · rw [if_neg h]; exact ⟨rfl, rfl⟩
theorem sgn_any (n : Nat) (neg : Bool) (w : World) : Calls Tryz.prog 112 #[.int .u64 n, .bool neg] w fun e w' => e = .returned (.tuple #[.int .i64 (pwV n neg), .int .i64 (pwC n)]) ∧ w' = w := by
  unfold pwV pwC
  by_cases h : n ≤ 9223372036854775807
  · rw [if_pos h, if_pos h]
    cases neg
    · exact signed_pos n w (by omega) (by omega)
    · exact signed_neg n w (by omega) (by omega)
  · rw [if_neg h, if_neg h]; exact signed_big n neg w (by omega)
theorem rsgn_any (n : Nat) (neg : Bool) (w : World) (hn : n ≤ 9223372036854775807) : Calls Tryz.prog 78 #[.int .u64 n, .bool neg] w fun e w' => e = .returned (.tuple #[.int .i64 (pwV n neg), .int .i64 (pwC n)]) ∧ w' = w := by
  unfold pwV pwC
  rw [if_pos hn, if_pos hn]
  have h' : ¬ (9223372036854775807 : Int) < (n : Int) := by omega
  cases neg
  · go_enter Tryz.func78, Tryz.ntmps78
    go_wp2
    go_ret2
    exact ⟨ret2 (by first | rfl | simp) rfl, rfl⟩
  · go_enter Tryz.func78, Tryz.ntmps78
    go_wp2
    go_ret2
    exact ⟨ret2 (by first | rfl | simp) rfl, rfl⟩
/-- The sign of a power. -/
def sgp (low : Bool) (n : Nat) : Bool := low && decide (n % 2 = 1)
set_option maxRecDepth 100000 in
set_option maxHeartbeats 1000000 in
theorem powerOf_w (t b n : Nat) (low sg : Bool) (w : World) (ht : n = 0 ∨ 1 ≤ t) (ht64 : t < 18446744073709551616) (hb : n = 0 ∨ 1 ≤ b) (hb64 : b < 18446744073709551616) (hn : n ≤ 64) (hcase : Hid (sg = sgp low n)) (hl : low = false ∨ (low = true ∧ (((n : Int) % 2 != 0) = sg))) (hlf : low = false → sg = false) :
    Calls Tryz.prog 116 #[.int .u64 t, .int .u64 b, .int .i64 n, .bool low] w fun e w' => e = .returned (.tuple #[.int .i64 (pwV (rnd (t ^ n * 10000) (b ^ n)) sg), .int .i64 (pwC (rnd (t ^ n * 10000) (b ^ n)))]) ∧ Below w.heap.size w w' := by
  have HT := Lib.hid ht
  have HT64 := Lib.hid ht64
  have HBB := Lib.hid hb
  have HB64 := Lib.hid hb64
  have TP := Lib.hid (show 1 ≤ t ^ n from ht.elim (fun k => by rw [k]; simp) (fun k => Nat.pow_pos k))
  have BP := Lib.hid (show 1 ≤ b ^ n from hb.elim (fun k => by rw [k]; simp) (fun k => Nat.pow_pos k))
  clear ht ht64 hb hb64
  have fin : ∀ (wx : World) (lt lb : List Nat), uv lt = t ^ n * 10000 → uv lb = b ^ n → True := fun _ _ _ _ _ => trivial
  rcases hl with rfl | ⟨rfl, hq⟩
  · obtain rfl := hlf rfl
    clear hlf fin
    go_enter Tryz.func116, Tryz.ntmps116
    go_wp2_with fail
    go_at_call 123
    refine (raise_any t n _ HT.out HT64.out hn).mono ?_
    rintro e w2 ⟨m2, v2, rfl, q1, q2, q3, q4, q5, q6⟩
    have Q := Lib.hid (And.intro q1 (And.intro q2 (And.intro q3 q4)))
    clear q1 q2 q3 q4
    go_wp2_with fail
    go_at_call 124
    refine (times_any _ m2 10000 _ Q.out.1 Q.out.2.1 Q.out.2.2.1 (ne_of_pos (by rw [Q.out.2.2.2]; exact TP.out)) (by decide) (by decide) (by omega)).mono ?_
    rintro e w3 ⟨m3, v3, rfl, r1, r2, r3, r4, r5, r6⟩
    have R := Lib.hid (And.intro r1 (And.intro r2 (And.intro r3 (show uv m3 = t ^ n * 10000 by rw [r4, Q.out.2.2.2]))))
    clear r1 r2 r3 r4
    go_wp2_with fail
    go_at_call 123
    refine (raise_any b n _ HBB.out HB64.out hn).mono ?_
    rintro e w4 ⟨m4, v4, rfl, s1, s2, s3, s4, s5, s6⟩
    have S := Lib.hid (And.intro s1 (And.intro s2 (And.intro s3 s4)))
    clear s1 s2 s3 s4
    go_wp2_with (first
      | (go_at_call 122; refine (nearest_any _ _ m3 m4 _ (R.out.1.keep s6) S.out.1 R.out.2.1 S.out.2.1 R.out.2.2.1 S.out.2.2.1 (ne_of_pos (by rw [R.out.2.2.2]; have := TP.out; omega)) (ne_of_pos (by rw [S.out.2.2.2]; exact BP.out)) (by rw [S.out.2.2.2]; exact BP.out) (by omega) (by omega)).mono ?_; rintro e w5 ⟨rfl, b5⟩)
      | (go_at_call 112; refine (sgn_any _ _ _).mono ?_; rintro e w5 ⟨rfl, rfl⟩))
    go_ret2
    have N := near_pw (uv m3) (uv m4) false
    rw [R.out.2.2.2, S.out.2.2.2] at N
    exact ⟨ret2 (by rw [R.out.2.2.2, S.out.2.2.2]; exact N.1) (by rw [R.out.2.2.2, S.out.2.2.2]; exact N.2), bup (bup (bup q6 r6) s6) b5⟩
  · clear hlf fin
    go_enter Tryz.func116, Tryz.ntmps116
    go_wp2_with fail
    go_at_call 123
    refine (raise_any t n _ HT.out HT64.out hn).mono ?_
    rintro e w2 ⟨m2, v2, rfl, q1, q2, q3, q4, q5, q6⟩
    have Q := Lib.hid (And.intro q1 (And.intro q2 (And.intro q3 q4)))
    clear q1 q2 q3 q4
    go_wp2_with fail
    go_at_call 124
    refine (times_any _ m2 10000 _ Q.out.1 Q.out.2.1 Q.out.2.2.1 (ne_of_pos (by rw [Q.out.2.2.2]; exact TP.out)) (by decide) (by decide) (by omega)).mono ?_
    rintro e w3 ⟨m3, v3, rfl, r1, r2, r3, r4, r5, r6⟩
    have R := Lib.hid (And.intro r1 (And.intro r2 (And.intro r3 (show uv m3 = t ^ n * 10000 by rw [r4, Q.out.2.2.2]))))
    clear r1 r2 r3 r4
    go_wp2_with fail
    go_at_call 123
    refine (raise_any b n _ HBB.out HB64.out hn).mono ?_
    rintro e w4 ⟨m4, v4, rfl, s1, s2, s3, s4, s5, s6⟩
    have S := Lib.hid (And.intro s1 (And.intro s2 (And.intro s3 s4)))
    clear s1 s2 s3 s4
    go_wp2_with (first
      | (go_at_call 122; refine (nearest_any _ _ m3 m4 _ (R.out.1.keep s6) S.out.1 R.out.2.1 S.out.2.1 R.out.2.2.1 S.out.2.2.1 (ne_of_pos (by rw [R.out.2.2.2]; have := TP.out; omega)) (ne_of_pos (by rw [S.out.2.2.2]; exact BP.out)) (by rw [S.out.2.2.2]; exact BP.out) (by omega) (by omega)).mono ?_; rintro e w5 ⟨rfl, b5⟩)
      | (go_at_call 112; refine (sgn_any _ _ _).mono ?_; rintro e w5 ⟨rfl, rfl⟩))
    go_ret2
    have N := near_pw (uv m3) (uv m4) sg
    rw [R.out.2.2.2, S.out.2.2.2] at N
    exact ⟨ret2 (by rw [R.out.2.2.2, S.out.2.2.2]; exact N.1) (by rw [R.out.2.2.2, S.out.2.2.2]; exact N.2), bup (bup (bup q6 r6) s6) b5⟩
theorem par (n : Nat) : ((n : Int) % 2 != 0) = decide (n % 2 = 1) := by
  by_cases h : n % 2 = 1
  · rw [decide_eq_true h]; simp; omega
  · rw [decide_eq_false h]; simp; omega
theorem powerOf_any (t b n : Nat) (low : Bool) (w : World) (ht : n = 0 ∨ 1 ≤ t) (ht64 : t < 18446744073709551616) (hb : n = 0 ∨ 1 ≤ b) (hb64 : b < 18446744073709551616) (hn : n ≤ 64) :
    Calls Tryz.prog 116 #[.int .u64 t, .int .u64 b, .int .i64 n, .bool low] w fun e w' => e = .returned (.tuple #[.int .i64 (pwV (rnd (t ^ n * 10000) (b ^ n)) (sgp low n)), .int .i64 (pwC (rnd (t ^ n * 10000) (b ^ n)))]) ∧ Below w.heap.size w w' := by
  refine powerOf_w t b n low (sgp low n) w ht ht64 hb hb64 hn (Lib.hid rfl) ?_ ?_
  · cases low
    · exact .inl rfl
    · exact .inr ⟨rfl, by rw [par]; rfl⟩
  · rintro rfl; rfl
theorem pow_lo (x n : Int) (w : World) (hx : -9223372036854775807 ≤ x) (hn : n < -64) : Calls Tryz.prog 94 #[.int .i64 x, .int .i64 n] w fun e w' => e = .returned (.tuple #[.int .i64 0, .int .i64 8]) ∧ Below w.heap.size w w' := by
  go_enter Tryz.func94, Tryz.ntmps94
  go_wp2_with (go_at_call 109; refine (may_t _ _ hx).mono ?_; rintro e w ⟨rfl, rfl⟩)
  go_ret2
  exact ⟨rfl, Below.refl _ _⟩
theorem pow_hi (x n : Int) (w : World) (hx : -9223372036854775807 ≤ x) (hn : 64 < n) : Calls Tryz.prog 94 #[.int .i64 x, .int .i64 n] w fun e w' => e = .returned (.tuple #[.int .i64 0, .int .i64 8]) ∧ Below w.heap.size w w' := by
  have h1 : ¬ n < -64 := by omega
  go_enter Tryz.func94, Tryz.ntmps94
  go_wp2_with (go_at_call 109; refine (may_t _ _ hx).mono ?_; rintro e w ⟨rfl, rfl⟩)
  go_ret2
  exact ⟨rfl, Below.refl _ _⟩
theorem pow_0n (n : Int) (w : World) (h1 : -64 ≤ n) (h2 : n < 0) : Calls Tryz.prog 94 #[.int .i64 0, .int .i64 n] w fun e w' => e = .returned (.tuple #[.int .i64 0, .int .i64 3]) ∧ Below w.heap.size w w' := by
  have d1 : decide (64 < n) = false := by simp; omega
  have d2 : ¬ n < -64 := by omega
  go_enter Tryz.func94, Tryz.ntmps94
  go_wp2_with (go_at_call 109; refine (may_t _ _ (by decide)).mono ?_; rintro e w ⟨rfl, rfl⟩)
  go_ret2
  exact ⟨rfl, Below.refl _ _⟩
theorem pow_0p (n : Int) (w : World) (h1 : 0 < n) (h2 : n ≤ 64) : Calls Tryz.prog 94 #[.int .i64 0, .int .i64 n] w fun e w' => e = .returned (.tuple #[.int .i64 0, .int .i64 0]) ∧ Below w.heap.size w w' := by
  have d1 : decide (64 < n) = false := by simp; omega
  have d2 : ¬ n < -64 := by omega
  have d3 : decide (n < 0) = false := by simp; omega
  go_enter Tryz.func94, Tryz.ntmps94
  go_wp2_with (go_at_call 109; refine (may_t _ _ (by decide)).mono ?_; rintro e w ⟨rfl, rfl⟩)
  go_ret2
  exact ⟨rfl, Below.refl _ _⟩
set_option maxRecDepth 100000 in
theorem pow_neg (x : Int) (s k : Nat) (low : Bool) (w : World) (hx : -9223372036854775807 ≤ x) (hs : x = s ∨ x = -(s : Int)) (hs1 : 1 ≤ s) (hs2 : s ≤ 9223372036854775807) (hk1 : 1 ≤ k) (hk2 : k ≤ 64) (hlow : decide (x < 0) = low) :
    Calls Tryz.prog 94 #[.int .i64 x, .int .i64 (-(k : Int))] w fun e w' => e = .returned (.tuple #[.int .i64 (pwV (rnd (10000 ^ k * 10000) (s ^ k)) (sgp low k)), .int .i64 (pwC (rnd (10000 ^ k * 10000) (s ^ k)))]) ∧ Below w.heap.size w w' := by
  have d1 : decide (64 < -(k : Int)) = false := decide_eq_false (by omega)
  have d2 : ¬ -(k : Int) < -64 := by omega
  have d4 : (x == 0) = false := by simp; omega
  have d5 : -(k : Int) < 0 := by omega
  have HS := Lib.hid hs
  have HS1 := Lib.hid hs1
  clear hs hs1
  go_enter Tryz.func94, Tryz.ntmps94
  go_wp2_with (first
    | (go_at_call 109; refine (may_t _ _ hx).mono ?_; rintro e w ⟨rfl, rfl⟩)
    | (go_at_call 114; refine (size_n s _ _ HS.out hs2).mono ?_; rintro e w ⟨rfl, rfl⟩)
    | (go_at_call 116; refine (powerOf_any 10000 s k low _ (.inr (by decide)) (by decide) (.inr HS1.out) (by omega) hk2).mono ?_; rintro e w5 ⟨rfl, b5⟩))
  go_ret2
  exact ⟨rfl, b5⟩
set_option maxRecDepth 100000 in
theorem pow_pos (x : Int) (s n : Nat) (low : Bool) (w : World) (hx : -9223372036854775807 ≤ x) (hs : x = s ∨ x = -(s : Int)) (hs1 : n = 0 ∨ 1 ≤ s) (hs2 : s ≤ 9223372036854775807) (hn : n ≤ 64) (hlow : decide (x < 0) = low) (hz : (x == 0) = false) :
    Calls Tryz.prog 94 #[.int .i64 x, .int .i64 n] w fun e w' => e = .returned (.tuple #[.int .i64 (pwV (rnd (s ^ n * 10000) (10000 ^ n)) (sgp low n)), .int .i64 (pwC (rnd (s ^ n * 10000) (10000 ^ n)))]) ∧ Below w.heap.size w w' := by
  have d1 : decide (64 < (n : Int)) = false := decide_eq_false (by omega)
  have d2 : ¬ (n : Int) < -64 := by omega
  have d5 : decide ((n : Int) < 0) = false := decide_eq_false (by omega)
  have d6 : ¬ (n : Int) < 0 := by omega
  have HS := Lib.hid hs
  have HS1 := Lib.hid hs1
  clear hs hs1
  go_enter Tryz.func94, Tryz.ntmps94
  go_wp2_with (first
    | (go_at_call 109; refine (may_t _ _ hx).mono ?_; rintro e w ⟨rfl, rfl⟩)
    | (go_at_call 114; refine (size_n s _ _ HS.out hs2).mono ?_; rintro e w ⟨rfl, rfl⟩)
    | (go_at_call 116; refine (powerOf_any s 10000 n low _ HS1.out (by omega) (.inr (by decide)) (by decide) hn).mono ?_; rintro e w5 ⟨rfl, b5⟩))
  go_ret2
  exact ⟨rfl, b5⟩
theorem powerOf0 (s : Nat) (low : Bool) (w : World) (hs : s < 18446744073709551616) : Calls Tryz.prog 116 #[.int .u64 s, .int .u64 10000, .int .i64 0, .bool low] w fun e w' => e = .returned (.tuple #[.int .i64 10000, .int .i64 0]) ∧ Below w.heap.size w w' := by
  refine (powerOf_any s 10000 0 low w (.inl rfl) hs (.inl rfl) (by decide) (by decide)).mono fun e w' ⟨h1, h2⟩ => ⟨h1.trans ?_, h2⟩
  rw [show rnd (s ^ 0 * 10000) (10000 ^ 0) = 10000 by simp [rnd]]
  unfold pwV pwC sgp
  simp
set_option maxRecDepth 100000 in
theorem pow_n0 (x : Int) (s : Nat) (low : Bool) (w : World) (hx : -9223372036854775807 ≤ x) (hs : x = s ∨ x = -(s : Int)) (hs2 : s ≤ 9223372036854775807) (hlow : decide (x < 0) = low) :
    Calls Tryz.prog 94 #[.int .i64 x, .int .i64 0] w fun e w' => e = .returned (.tuple #[.int .i64 10000, .int .i64 0]) ∧ Below w.heap.size w w' := by
  have HS := Lib.hid hs
  clear hs
  cases hxx : (x == 0) with
  | true =>
    go_enter Tryz.func94, Tryz.ntmps94
    go_wp2_with (first
      | (go_at_call 109; refine (may_t _ _ hx).mono ?_; rintro e w ⟨rfl, rfl⟩)
      | (go_at_call 114; refine (size_n s _ _ HS.out hs2).mono ?_; rintro e w ⟨rfl, rfl⟩)
      | (go_at_call 116; refine (powerOf0 s low _ (by omega)).mono ?_; rintro e w5 ⟨rfl, b5⟩))
    go_ret2
    exact ⟨rfl, b5⟩
  | false =>
    go_enter Tryz.func94, Tryz.ntmps94
    go_wp2_with (first
      | (go_at_call 109; refine (may_t _ _ hx).mono ?_; rintro e w ⟨rfl, rfl⟩)
      | (go_at_call 114; refine (size_n s _ _ HS.out hs2).mono ?_; rintro e w ⟨rfl, rfl⟩)
      | (go_at_call 116; refine (powerOf0 s low _ (by omega)).mono ?_; rintro e w5 ⟨rfl, b5⟩))
    go_ret2
    exact ⟨rfl, b5⟩
end Go.Proofs.YtfpbcokfianjaaaGreat.Pw
