/- The contract of the document's Sqrt, of every int64: the same root as dec's. New memory alone is made. -/
import Derived.Test.YtkbpjomkbelaaaaDoorPQuo
import Derived.Test.YtkbpjomkbelaaaaDoorSqrt
namespace Go.Proofs.YtkbpjomkbelaaaaDoor
open Go.Shelf Go.RowKit
set_option linter.all false
theorem isW_two (w : World) (x y : Nat) : IsW (w.alloc (.cells #[.int .i64 (x : Int), .int .i64 (y : Int)] 3)) (.slice (some ⟨w.heap.size, 0, none⟩) 2 2) [x, y] := by
  have h := World.ownsRow_lit (base := 0) (e := 3) (size := 1) w #[.int .i64 (x : Int), .int .i64 (y : Int)] 2 (Nat.zero_le _) (by unfold maxLen; decide) rfl
  exact h
theorem root_of {T l : Nat} (h1 : l * l ≤ T) (h2 : T < (l + 1) * (l + 1)) (hl : l ≤ 1099511627774) : RootInv (T : Int) 0 (((l + 1) / 2 : Nat) : Int) := by
  have e0 : ((2 ^ 0 : Nat) : Int) = 1 := rfl
  have h1' : (l : Int) * (l : Int) ≤ (T : Int) := by rw [← Int.natCast_mul]; omega
  have h2' : (T : Int) < ((l : Int) + 1) * ((l : Int) + 1) := by
    have : ((T : Nat) : Int) < (((l + 1) * (l + 1) : Nat) : Int) := by omega
    rw [Int.natCast_mul] at this; simpa using this
  refine ⟨by omega, ?_, ?_, by rw [e0]; omega⟩
  · by_cases h0 : (l + 1) / 2 = 0
    · exact .inl (by omega)
    · refine .inr ?_
      have hle : 2 * (((l + 1) / 2 : Nat) : Int) - 1 ≤ (l : Int) := by omega
      have hge : 0 ≤ 2 * (((l + 1) / 2 : Nat) : Int) - 1 := by omega
      have := Int.mul_le_mul hle hle hge (by omega)
      omega
  · rw [e0]
    have hle : (l : Int) + 1 ≤ 2 * ((((l + 1) / 2 : Nat) : Int) + 1) - 1 := by omega
    have := Int.mul_le_mul hle hle (by omega) (by omega)
    omega
set_option maxRecDepth 100000 in
set_option maxHeartbeats 1000000 in
theorem rsqrt_ok (x : Nat) (w : World) (hx : x ≤ 9223372036854775807) : Calls Tryd.prog 9 #[.int .i64 x] w fun e w' => (∃ r : Int, e = .returned (.tuple #[.int .i64 r, .int .i64 0]) ∧ RootInv ((x : Int) * 40000) 0 r) ∧ Below w.heap.size w w' := by
  have hi : I64 (x : Int) := ⟨by omega, by omega⟩
  have hm : mayOk (x : Int) = true := mayOk_t (by omega)
  have hx0 : ¬ (x : Int) < 0 := by omega
  have x1 : IntKind.u64.wrap (x : Int) = (x : Int) := by rw [wrapU]; omega
  go_enter Tryd.func9, Tryd.ntmps9
  go_wp2_with (first
    | (go_at_call 14; refine (rmayAny _ _ hi).mono ?_; rintro e w ⟨rfl, rfl⟩)
    | (go_at_call 21; refine (great_any x _ (by omega)).mono ?_; rintro e w2 ⟨g, vg, rfl, g1, g2, g3, g4, g5, g6⟩; have G1 := Lib.hid g1; have G2 := Lib.hid g2; have G4 := Lib.hid g4; clear g1 g2 g3 g4)
    | (go_at_call 27; refine (product_any _ _ g [0, 4] _ (G1.out.keep (bal _ _)) (isW_two _ 0 4) G2.out (fun y hy => by simp at hy; omega) (by simp; omega)).mono ?_; rintro e w3 ⟨m, vm, rfl, p1, p2, p3, p4, p5, p6⟩; have P1 := Lib.hid p1; have P2 := Lib.hid p2; have P3 := Lib.hid p3; have P4 := Lib.hid (show wv m = x * 40000 by rw [p4, G4.out]; simp [wv]); have B3 := bup (bup g6 (bal w2 _)) p6; clear p1 p2 p3 p4))
  go_loopw [5, 6] (fun a b wr => ∃ (lo hi : Nat), lo < hi ∧ hi ≤ 1099511627776 ∧ a = .int .u64 lo ∧ b = .int .u64 hi ∧ lo * lo ≤ x * 40000 ∧ x * 40000 < hi * hi ∧ Below w3.heap.size w3 wr) (fun a b _ => (intOf b - intOf a).toNat)
  case atStart => exact ⟨0, 1099511627776, by decide, by decide, rfl, rfl, by simp, by omega, Below.refl _ _⟩
  case round =>
    obtain ⟨lo, hi, h1, h2, rfl, rfl, h3, h4, hB⟩ := hrel
    have H3 := Lib.hid h3
    have H4 := Lib.hid h4
    clear h3 h4
    by_cases hd : hi - lo > 1
    · have s1 : IntKind.u64.wrap ((hi : Int) - (lo : Int)) = (hi : Int) - (lo : Int) := by rw [wrapU]; omega
      have hd' : (1 : Int) < (hi : Int) - (lo : Int) := by omega
      obtain ⟨mid, hmid⟩ : ∃ mid : Nat, mid = (lo + hi) / 2 := ⟨_, rfl⟩
      have s2 : IntKind.u64.wrap ((lo : Int) + (hi : Int)) = (lo : Int) + (hi : Int) := by rw [wrapU]; omega
      have e0' : ((lo : Int) + (hi : Int)) / 2 = (mid : Int) := by omega
      have e0 : ((lo : Int) + (hi : Int)).tdiv 2 = (mid : Int) := by rw [Int.tdiv_eq_ediv_of_nonneg (by omega)]; omega
      have s3 : IntKind.u64.wrap (mid : Int) = (mid : Int) := by rw [wrapU]; omega
      have hm1 : lo < mid := by omega
      have hm2 : mid < hi := by omega
      clear hmid hd
      go_wp2_with (first
        | (go_at_call 21; refine (great_any mid _ (by omega)).mono ?_; rintro e w4 ⟨k, vk, rfl, k1, k2, k3, k4, k5, k6⟩; have K1 := Lib.hid k1; have K2 := Lib.hid k2; have K4 := Lib.hid k4; clear k1 k2 k3 k4)
        | (go_at_call 27; refine (product_any _ _ k k _ K1.out K1.out K2.out K2.out (by omega)).mono ?_; rintro e w5 ⟨q, vq, rfl, q1, q2, q3, q4, q5, q6⟩; have Q1 := Lib.hid q1; have Q2 := Lib.hid q2; have Q3 := Lib.hid q3; have Q4 := Lib.hid (show wv q = mid * mid by rw [q4, K4.out]); clear q1 q2 q3 q4)
        | (go_at_call 28; refine (below_any _ _ m q _ (P1.out.keep (bup (bup hB k6) q6)) Q1.out P2.out Q2.out P3.out Q3.out).mono ?_; rintro e w6 ⟨rfl, kk, rfl⟩))
      · go_roundw
        case rel => exact ⟨lo, mid, hm1, by omega, rfl, rfl, H3.out, by (have qq : wv m < wv q := by (first | assumption | (have := ‹decide (wv m < wv q) = true›; simpa using this))); rw [P4.out, Q4.out] at qq; exact qq, below_drewN' (bup (bup hB k6) q6) kk⟩
        case measure => simp [intOf]; omega
      · go_roundw
        case rel => exact ⟨mid, hi, hm2, h2, rfl, rfl, by (have qq : ¬ wv m < wv q := by (first | assumption | (apply Nat.not_lt.2; assumption) | (have := ‹decide (wv m < wv q) = false›; simpa using this))); rw [P4.out, Q4.out] at qq; omega, H4.out, below_drewN' (bup (bup hB k6) q6) kk⟩
        case measure => simp [intOf]; omega
    · have HH := Lib.hid (show hi = lo + 1 by omega)
      have s1 : IntKind.u64.wrap ((hi : Int) - (lo : Int)) = (hi : Int) - (lo : Int) := by rw [wrapU]; omega
      have hd' : ¬ (1 : Int) < (hi : Int) - (lo : Int) := by omega
      have hb : lo ≤ 1099511627774 := by
        apply Nat.le_of_not_lt
        intro k
        have := Nat.mul_le_mul (show 1099511627775 ≤ lo by omega) (show 1099511627775 ≤ lo by omega)
        have := H3.out
        omega
      obtain ⟨r, hr⟩ : ∃ r : Nat, r = (lo + 1) / 2 := ⟨_, rfl⟩
      have t1 : IntKind.u64.wrap ((lo : Int) + 1) = (lo : Int) + 1 := by rw [wrapU]; omega
      have t2 : ((lo : Int) + 1).tdiv 2 = (r : Int) := by rw [Int.tdiv_eq_ediv_of_nonneg (by omega)]; omega
      have t3 : ((lo : Int) + 1) / 2 = (r : Int) := by omega
      have t4 : IntKind.u64.wrap (r : Int) = (r : Int) := by rw [wrapU]; omega
      have t5 : IntKind.i64.wrap (r : Int) = (r : Int) := by rw [IntKind.wrap_i64]; omega
      have RT := Lib.hid (root_of H3.out (by have := H4.out; rw [HH.out] at this; exact this) hb)
      rw [← hr] at RT
      clear hb hr
      go_wp2
      go_ret2
      refine ⟨⟨_, rfl, ?_⟩, bup B3 hB⟩
      have e := RT.out
      rw [Int.natCast_mul] at e
      first | exact e | simpa using e
end Go.Proofs.YtkbpjomkbelaaaaDoor
