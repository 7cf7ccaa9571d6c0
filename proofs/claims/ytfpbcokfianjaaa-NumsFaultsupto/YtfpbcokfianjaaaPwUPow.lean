/- The contracts of dec's raise and nearest over numbers in words of 64 bits. New memory alone is made. -/
import Derived.Test.YtfpbcokfianjaaaPwUTimes
import Derived.Test.YtfpbcokfianjaaaSqrt
namespace Go.Proofs.Ytfpbcokfianjaaa.Pw
open Go.Shelf Go.RowKit
set_option linter.all false
theorem below_drewN' {B : Nat} {a w : World} (h : Below B a w) (k : Nat) : Below B a (w.drewN k) := ⟨h.os, h.tape, h.output, h.size, h.block⟩
theorem isU_one (w : World) (x : Nat) : IsU (w.alloc (.cells #[.int .u64 (x : Int)] 92)) (.slice (some ⟨w.heap.size, 0, none⟩) 1 1) [x] := by
  have h := World.ownsRow_lit (base := 0) (e := 92) (size := 1) w #[.int .u64 (x : Int)] 1 (Nat.zero_le _) (by unfold maxLen; decide) rfl
  exact h
theorem ne_of_pos {m : List Nat} (h : 1 ≤ uv m) : m ≠ [] := fun e => by rw [e] at h; simp [uv] at h
set_option maxRecDepth 100000 in
set_option maxHeartbeats 1000000 in
theorem raise_any (b n : Nat) (w : World) (hb : n = 0 ∨ 1 ≤ b) (hb64 : b < 18446744073709551616) (hn : n ≤ 64) :
    Calls Try.prog 88 #[.int .u64 b, .int .i64 n] w fun e w' => ∃ (m : List Nat) (v' : Value), e = .returned v' ∧ IsU w' v' m ∧ Uds m ∧ Uop m ∧ uv m = b ^ n ∧ m.length ≤ 1 + n ∧ Below w.heap.size w w' := by
  have HBP := Lib.hid hb
  have HB64 := Lib.hid hb64
  clear hb hb64
  go_enter Try.func88, Try.ntmps88
  go_wp2
  go_loopw [5, 8] (fun s x wr => ∃ (j : Nat) (m : List Nat), j ≤ n ∧ x = .int .i64 j ∧ IsU wr s m ∧ Uds m ∧ Uop m ∧ uv m = b ^ j ∧ m.length ≤ 1 + j ∧ Below w.heap.size w wr) (fun _ x _ => n - (intOf x).toNat)
  case atStart => exact ⟨0, [1], Nat.zero_le _, rfl, isU_one w 1, fun x hx => by simp at hx; omega, by unfold Uop; simp, by simp [uv], by simp, bal _ _⟩
  case round =>
    obtain ⟨j, m, hj, rfl, hm, wm, tm, vm, lm, hB⟩ := hrel
    have HM := Lib.hid hm
    have WM := Lib.hid wm
    have TM := Lib.hid tm
    have VM := Lib.hid vm
    clear hm wm tm vm
    by_cases hlt : j < n
    · have hlt' : (j : Int) < n := by omega
      have HBQ := Lib.hid (show 1 ≤ b from HBP.out.elim (fun k => by omega) (fun k => k))
      have HNE := Lib.hid (ne_of_pos (m := m) (by rw [VM.out]; exact Nat.pow_pos HBQ.out))
      go_wp2_with (go_at_call 89; refine (times_any _ m b _ HM.out WM.out TM.out HNE.out HBQ.out HB64.out (by omega)).mono ?_; rintro e w2 ⟨m2, v2, rfl, q1, q2, q3, q4, q5, q6⟩)
      have Q1 := Lib.hid q1
      have Q2 := Lib.hid q2
      have Q3 := Lib.hid q3
      have Q4 := Lib.hid q4
      clear q1 q2 q3 q4
      go_roundw
      case rel => exact ⟨j + 1, m2, by omega, by go_num, Q1.out, Q2.out, Q3.out, by rw [Q4.out, VM.out, Nat.pow_succ], by omega, bup hB q6⟩
      case measure => simp [intOf]; omega
    · obtain rfl : j = n := by omega
      have hlt' : ¬ ((j : Nat) : Int) < j := by omega
      go_wp2
      go_ret
      exact ⟨m, _, rfl, HM.out, WM.out, TM.out, VM.out, lm, hB⟩
/-- A quotient, halves rounded up. -/
def rnd (T B : Nat) : Nat := (2 * T + B) / (2 * B)
/-- q less a half, times B, is not above T, just if q is not above the rounded quotient. -/
theorem rnd_le {T B q : Nat} (hB : 0 < B) (hq : 1 ≤ q) : B * (2 * q - 1) ≤ T * 2 ↔ q ≤ rnd T B := by
  unfold rnd
  rw [Nat.le_div_iff_mul_le (by omega)]
  have e : q * (2 * B) = B * (2 * q - 1) + B := by
    have : B * (2 * q - 1) + B = B * (2 * q - 1 + 1) := by rw [Nat.mul_add, Nat.mul_one]
    rw [this, show 2 * q - 1 + 1 = 2 * q by omega, ← Nat.mul_assoc, Nat.mul_comm q 2, Nat.mul_assoc, Nat.mul_comm q B, ← Nat.mul_assoc, Nat.mul_comm 2 B, Nat.mul_assoc]
  rw [e]
  omega
def near (T B : Nat) : Nat := if 9223372036854775808 ≤ rnd T B then 9223372036854775808 else rnd T B
set_option maxRecDepth 100000 in
set_option maxHeartbeats 2000000 in
theorem nearest_any (vt vb : Value) (lt lb : List Nat) (w : World) (ht : IsU w vt lt) (hb : IsU w vb lb) (wt : Uds lt) (wb : Uds lb) (tt : Uop lt) (tb : Uop lb) (nt : lt ≠ []) (nb : lb ≠ []) (pb : 0 < uv lb) (l1 : lt.length ≤ 300) (l2 : lb.length ≤ 300) :
    Calls Try.prog 87 #[vt, vb] w fun e w' => e = .returned (.int .u64 (near (uv lt) (uv lb) : Nat)) ∧ Below w.heap.size w w' := by
  have HT := Lib.hid ht
  have HB0 := Lib.hid hb
  have WT := Lib.hid wt
  have WB := Lib.hid wb
  have TT := Lib.hid tt
  have TB := Lib.hid tb
  have NT := Lib.hid nt
  have NB := Lib.hid nb
  have PB := Lib.hid pb
  clear ht hb wt wb tt tb nt nb pb
  have hmx := rnd_le (T := uv lt) (B := uv lb) (q := 9223372036854775808) PB.out (by decide)
  have HMX := Lib.hid hmx
  clear hmx
  go_enter Try.func87, Try.ntmps87
  go_wp2_with fail
  go_at_call 89
  refine (times_any _ lt 2 _ HT.out WT.out TT.out NT.out (by decide) (by decide) (by omega)).mono ?_
  rintro e w2 ⟨m2, v2, rfl, q1, q2, q3, q4, q5, q6⟩
  have Q1 := Lib.hid q1
  have Q2 := Lib.hid q2
  have Q3 := Lib.hid q3
  have Q4 := Lib.hid q4
  clear q1 q2 q3 q4
  go_wp2_with fail
  go_at_call 89
  refine (times_any _ lb 18446744073709551615 _ (HB0.out.keep q6) WB.out TB.out NB.out (by decide) (by decide) (by omega)).mono ?_
  rintro e w3 ⟨m3, v3, rfl, r1, r2, r3, r4, r5, r6⟩
  have R1 := Lib.hid r1
  have R2 := Lib.hid r2
  have R3 := Lib.hid r3
  have R4 := Lib.hid r4
  clear r1 r2 r3 r4
  go_wp2_with (go_at_call 93; refine (atmost_any _ _ m3 m2 _ R1.out (Q1.out.keep r6) R2.out Q2.out R3.out Q3.out).mono ?_; rintro e w4 ⟨rfl, k, rfl⟩)
  · go_ret
    have hh : uv m3 ≤ uv m2 := by first | assumption | (have h := ‹decide (uv m3 ≤ uv m2) = true›; simpa using h)
    rw [R4.out, Q4.out] at hh
    have := HMX.out.1 hh
    exact ⟨ret1 (by unfold near; rw [if_pos this]; rfl), below_drewN' (bup q6 r6) k⟩
  · have hh : ¬ uv m3 ≤ uv m2 := by first | assumption | (apply Nat.not_le.2; assumption) | (have h := ‹decide (uv m3 ≤ uv m2) = false›; simpa using h)
    rw [R4.out, Q4.out] at hh
    have hN : rnd (uv lt) (uv lb) < 9223372036854775808 := by
      apply Nat.lt_of_not_le
      intro k; exact hh (HMX.out.2 k)
    have HN := Lib.hid hN
    have HRL := Lib.hid (fun (q : Nat) (hq : 1 ≤ q) => rnd_le (T := uv lt) (B := uv lb) (q := q) PB.out hq)
    have b23 := below_drewN' r6 k
    clear hh hN HMX
    generalize decide (uv m3 ≤ uv m2) = bb
    go_loopw [6, 7] (fun s x wr => ∃ (j q : Nat), j ≤ 63 ∧ x = .int .u64 (bt j : Nat) ∧ s = .int .u64 q ∧ q ≤ rnd (uv lt) (uv lb) ∧ rnd (uv lt) (uv lb) < q + 2 ^ j ∧ q + 2 ^ j ≤ 9223372036854775808 ∧ Below w2.heap.size w2 wr) (fun _ x _ => (intOf x).toNat)
    case atStart => exact ⟨63, 0, by decide, by rw [show bt 63 = 4611686018427387904 from rfl]; rfl, rfl, Nat.zero_le _, by rw [show (2 : Nat) ^ 63 = 9223372036854775808 from rfl]; have := HN.out; omega, by decide, b23⟩
    case round =>
      obtain ⟨j, q, hj, rfl, rfl, h1, h2, h3, hB⟩ := hrel
      cases j with
      | zero =>
        rw [bt_zero]
        have he : rnd (uv lt) (uv lb) = q := by simp at h2; omega
        have HE := Lib.hid he
        clear h1 h2 h3 he
        go_wp2
        go_ret
        exact ⟨ret1 (by unfold near; rw [if_neg (by have := HN.out; omega), HE.out]), bup q6 hB⟩
      | succ j =>
        have hb1 := bt_pos j
        have hb2 := bt_two j
        have hb3 := bt_half j
        have HB3 := Lib.hid hb3
        generalize hbit : bt (j + 1) = bit at *
        clear hbit hb3
        obtain ⟨d, hd⟩ : ∃ d : Nat, d = 2 * (q + bit) - 1 := ⟨_, rfl⟩
        have hq63 : q + bit < 9223372036854775808 := by omega
        have hd1 : 1 ≤ d := by omega
        have hd2 : d < 18446744073709551616 := by omega
        have a1 : IntKind.u64.wrap ((q : Int) + (bit : Int)) = (q : Int) + (bit : Int) := by rw [wrapU]; omega
        have a2 : IntKind.u64.wrap (2 * ((q : Int) + (bit : Int))) = 2 * ((q : Int) + (bit : Int)) := by rw [wrapU]; omega
        have a3 : IntKind.u64.wrap (2 * ((q : Int) + (bit : Int)) - 1) = (d : Int) := by rw [wrapU]; omega
        have m0 : 2 * ((q : Int) + (bit : Int)) - 1 = (d : Int) := by omega
        have a4 : IntKind.u64.wrap (d : Int) = (d : Int) := by rw [wrapU]; omega
        have HR := Lib.hid (by have := HRL.out (q + bit) (by omega); rw [← hd] at this; exact this)
        have hbp : (0 : Int) < (bit : Int) := by omega
        have H1 := Lib.hid h1
        have H2 := Lib.hid (show rnd (uv lt) (uv lb) < q + (bit + bit) by rw [← hb2.1]; exact h2)
        have H3 := Lib.hid (show q + (bit + bit) ≤ 9223372036854775808 by rw [← hb2.1]; exact h3)
        have HJ := Lib.hid hb2.2
        have HD1 := Lib.hid hd1
        have HD2 := Lib.hid hd2
        clear h1 h2 h3 hb2 hd hd1 hd2 hq63
        go_wp2_with (first
          | (go_at_call 89; refine (times_any _ lb d _ (HB0.out.keep (bup q6 hB)) WB.out TB.out NB.out HD1.out HD2.out (by omega)).mono ?_; rintro e w5 ⟨m5, v5, rfl, s1, s2, s3, s4, s5, s6⟩; have S1 := Lib.hid s1; have S2 := Lib.hid s2; have S3 := Lib.hid s3; have S4 := Lib.hid s4; clear s1 s2 s3 s4)
          | (go_at_call 93; refine (atmost_any _ _ m5 m2 _ S1.out (Q1.out.keep (bup hB s6)) S2.out Q2.out S3.out Q3.out).mono ?_; rintro e w6 ⟨rfl, k6, rfl⟩))
        · go_roundw
          case rel =>
            have hh : uv m5 ≤ uv m2 := by first | assumption | (have h := ‹decide (uv m5 ≤ uv m2) = true›; simpa using h)
            rw [S4.out, Q4.out] at hh
            have g := HR.out.1 hh
            have e2 := H2.out; have e3 := H3.out; have e4 := HJ.out
            exact ⟨j, q + bit, by omega, by rw [← HB3.out]; go_num, by first | rfl | go_num, g, by omega, by omega, below_drewN' (bup hB s6) k6⟩
          case measure => simp [intOf]; omega
        · go_roundw
          case rel =>
            have hh : ¬ uv m5 ≤ uv m2 := by first | assumption | (apply Nat.not_le.2; assumption) | (have h := ‹decide (uv m5 ≤ uv m2) = false›; simpa using h)
            rw [S4.out, Q4.out] at hh
            have g : rnd (uv lt) (uv lb) < q + bit := by
              apply Nat.lt_of_not_le
              intro kk; exact hh (HR.out.2 kk)
            have e2 := H2.out; have e3 := H3.out; have e4 := HJ.out
            exact ⟨j, q, by omega, by rw [← HB3.out]; go_num, rfl, H1.out, by omega, by omega, below_drewN' (bup hB s6) k6⟩
          case measure => simp [intOf]; omega
end Go.Proofs.Ytfpbcokfianjaaa.Pw
