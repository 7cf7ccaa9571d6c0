/- The contract of the document's word: the greatest of 0 to 9999 by which a number may be multiplied to be not above another one. New memory alone is made. -/
import Derived.Test.YtkbpjomkbelaaaaDoorPLess
namespace Go.Proofs.YtkbpjomkbelaaaaDoor
open Go.Shelf Go.RowKit
set_option linter.all false
theorem belowN' {B : Nat} {a w : World} (h : Below B a w) (k : Nat) : Below B a (w.drewN k) := ⟨h.os, h.tape, h.output, h.size, h.block⟩
set_option maxRecDepth 100000 in
set_option maxHeartbeats 1000000 in
theorem word_any (va vb : Value) (la lb : List Nat) (w : World) (ha : IsW w va la) (hb : IsW w vb lb) (wa : Wds la) (wb : Wds lb) (ta : Top la) (hlt : wv la < 10000 * wv lb) (hlb : lb.length ≤ 2000) :
    Calls Tryd.prog 42 #[va, vb] w fun e w' => ∃ d : Nat, e = .returned (.int .i64 d) ∧ d < 10000 ∧ d * wv lb ≤ wv la ∧ wv la < (d + 1) * wv lb ∧ Below w.heap.size w w' := by
  have HA := Lib.hid ha
  have HB0 := Lib.hid hb
  have WA := Lib.hid wa
  have WB := Lib.hid wb
  have TA := Lib.hid ta
  have HLT := Lib.hid hlt
  clear ha hb wa wb ta hlt
  go_enter Tryd.func42, Tryd.ntmps42
  go_wp2
  go_loopw [5, 6] (fun x y wr => ∃ (lo hi : Nat), lo < hi ∧ hi ≤ 10000 ∧ x = .int .i64 lo ∧ y = .int .i64 hi ∧ lo * wv lb ≤ wv la ∧ wv la < hi * wv lb ∧ Below w.heap.size w wr) (fun x y _ => (intOf y - intOf x).toNat)
  case atStart => exact ⟨0, 10000, by decide, by decide, rfl, rfl, by simp, HLT.out, Below.refl _ _⟩
  case round =>
    obtain ⟨lo, hi, h1, h2, rfl, rfl, h3, h4, hB⟩ := hrel
    have H3 := Lib.hid h3
    have H4 := Lib.hid h4
    clear h3 h4
    by_cases hd : hi - lo > 1
    · have hd' : (1 : Int) < (hi : Int) - (lo : Int) := by omega
      obtain ⟨mid, hmid⟩ : ∃ mid : Nat, mid = (lo + hi) / 2 := ⟨_, rfl⟩
      have e0 : ((lo : Int) + (hi : Int)).tdiv 2 = (mid : Int) := by rw [Int.tdiv_eq_ediv_of_nonneg (by omega)]; omega
      have e0' : ((lo : Int) + (hi : Int)) / 2 = (mid : Int) := by omega
      have x1 : IntKind.u64.wrap (mid : Int) = (mid : Int) := by rw [wrapU]; omega
      have hm1 : lo < mid := by omega
      have hm2 : mid < hi := by omega
      clear hmid hd
      go_wp2_with (first
        | (go_at_call 21; refine (great_any mid _ (by omega)).mono ?_; rintro e w2 ⟨g, vg, rfl, g1, g2, g3, g4, g5, g6⟩; have G1 := Lib.hid g1; have G2 := Lib.hid g2; have G4 := Lib.hid g4; clear g1 g2 g3 g4)
        | (go_at_call 27; refine (product_any _ _ lb g _ (HB0.out.keep (bup hB g6)) G1.out WB.out G2.out (by omega)).mono ?_; rintro e w3 ⟨m, vm, rfl, p1, p2, p3, p4, p5, p6⟩; have P1 := Lib.hid p1; have P2 := Lib.hid p2; have P3 := Lib.hid p3; have P4 := Lib.hid p4; clear p1 p2 p3 p4)
        | (go_at_call 28; refine (below_any _ _ la m _ (HA.out.keep (bup (bup hB g6) p6)) P1.out WA.out P2.out TA.out P3.out).mono ?_; rintro e w4 ⟨rfl, k, rfl⟩))
      · go_roundw
        case rel => exact ⟨lo, mid, hm1, by omega, rfl, rfl, H3.out, by (have q : wv la < wv m := by (first | assumption | (have := ‹decide (wv la < wv m) = true›; simpa using this))); rw [P4.out, G4.out, Nat.mul_comm] at q; exact q, belowN' (bup (bup hB g6) p6) k⟩
        case measure => simp [intOf]; omega
      · go_roundw
        case rel => exact ⟨mid, hi, hm2, h2, rfl, rfl, by (have q : ¬ wv la < wv m := by (first | assumption | (apply Nat.not_lt.2; assumption) | (have := ‹decide (wv la < wv m) = false›; simpa using this))); rw [P4.out, G4.out, Nat.mul_comm] at q; omega, H4.out, belowN' (bup (bup hB g6) p6) k⟩
        case measure => simp [intOf]; omega
    · have hd' : ¬ (1 : Int) < (hi : Int) - (lo : Int) := by omega
      obtain rfl : hi = lo + 1 := by omega
      go_wp2
      go_ret
      exact ⟨lo, rfl, by omega, H3.out, H4.out, hB⟩
end Go.Proofs.YtkbpjomkbelaaaaDoor
