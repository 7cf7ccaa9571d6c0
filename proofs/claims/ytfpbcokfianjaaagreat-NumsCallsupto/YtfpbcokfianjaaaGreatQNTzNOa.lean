/- The contract of the document's fact (package orielref08), of numbers that may be, in the words of the code's side. New memory alone is made. · The contract of the document's one (package orielref08): its functions of one number that may be, in the words of the code's side. New memory alone is made. -/
import Derived.Test.YtfpbcokfianjaaaGreatQNTxNTy
import Derived.Test.YtfpbcokfianjaaaGreatQWholeNT6
namespace Go.Proofs.YtfpbcokfianjaaaGreat
open Go.RowKit
set_option linter.all false
theorem dfact_neg (x : Int) (w : World) (h0 : x < 0) : Calls Tryz.prog 41 #[.int .i64 x] w fun e w' => e = .returned (.agg #[.int .i64 (4), .int .i64 (0), .string ⟨#[]⟩, .bool false, .int .i64 (8)]) ∧ Below w.heap.size w w' := by
  go_enter Tryz.func41, Tryz.ntmps41
  go_wp2_with (go_at_call 14; refine (derr_ok _ _ (by decide) (by decide)).mono ?_; rintro e wa ⟨rfl, hbwa⟩; have hBwa : Below w.heap.size w wa := bup (by with_reducible (repeat' first | assumption | exact Below.refl _ _ | refine Below.drew ?_ | refine bdrewN ?_ _ | refine Below.setCell ?_ (by first | exact Nat.le_refl _ | (simp; done) | (simp; omega) | omega) _ | refine Below.alloc ?_ (by first | exact Nat.le_refl _ | (simp; done) | (simp; omega) | omega) _)) hbwa; have zwa := hBwa.size; have o0wa : Own wa (w.heap.size) #[.int .i64 0, .int .i64 0, .string ⟨#[]⟩, .bool false, .int .i64 0] := Own.keep (by with_reducible (repeat' first | assumption | refine Own.drew ?_ | refine Own.drewN ?_ _ | (refine Own.at ?_; first | rfl | (simp; done)) | refine Own.past ?_ _)) hbwa; have c0 := o0wa.cell; have f0 := o0wa.fro; have l0 := o0wa.lt)
  exact bodyPost_ret (v := (.agg #[.int .i64 (4), .int .i64 (0), .string ⟨#[]⟩, .bool false, .int .i64 (8)])) (by simp [results, Tryz.results41, go_sem, c0, f0, l0]) rfl ⟨rfl, by with_reducible (repeat' first | assumption | exact Below.refl _ _ | refine Below.drew ?_ | refine bdrewN ?_ _ | refine Below.setCell ?_ (by first | exact Nat.le_refl _ | (simp; done) | (simp; omega) | omega) _ | refine Below.alloc ?_ (by first | exact Nat.le_refl _ | (simp; done) | (simp; omega) | omega) _)⟩
theorem dfact_no (x : Int) (w : World) (hx : In x) (h0 : 0 ≤ x) (hw : wholeOk x = false) : Calls Tryz.prog 41 #[.int .i64 x] w fun e w' => e = .returned (.agg #[.int .i64 (4), .int .i64 (0), .string ⟨#[]⟩, .bool false, .int .i64 (8)]) ∧ Below w.heap.size w w' := by
  have ht : (x.tmod 10000 != 0) = true := by
    unfold wholeOk at hw; rw [mayOk_t hx.1] at hw; simpa using hw
  have hd : decide (x < 0) = false := decide_eq_false (by omega)
  rw [Int.tmod_eq_emod_of_nonneg h0] at ht
  have hr : ¬ x % 10000 = 0 := by simpa using ht
  go_enter Tryz.func41, Tryz.ntmps41
  go_wp2_with (go_at_call 14; refine (derr_ok _ _ (by decide) (by decide)).mono ?_; rintro e wa ⟨rfl, hbwa⟩; have hBwa : Below w.heap.size w wa := bup (by with_reducible (repeat' first | assumption | exact Below.refl _ _ | refine Below.drew ?_ | refine bdrewN ?_ _ | refine Below.setCell ?_ (by first | exact Nat.le_refl _ | (simp; done) | (simp; omega) | omega) _ | refine Below.alloc ?_ (by first | exact Nat.le_refl _ | (simp; done) | (simp; omega) | omega) _)) hbwa; have zwa := hBwa.size; have o0wa : Own wa (w.heap.size) #[.int .i64 0, .int .i64 0, .string ⟨#[]⟩, .bool false, .int .i64 0] := Own.keep (by with_reducible (repeat' first | assumption | refine Own.drew ?_ | refine Own.drewN ?_ _ | (refine Own.at ?_; first | rfl | (simp; done)) | refine Own.past ?_ _)) hbwa; have c0 := o0wa.cell; have f0 := o0wa.fro; have l0 := o0wa.lt)
  exact bodyPost_ret (v := (.agg #[.int .i64 (4), .int .i64 (0), .string ⟨#[]⟩, .bool false, .int .i64 (8)])) (by simp [results, Tryz.results41, go_sem, c0, f0, l0]) rfl ⟨rfl, by with_reducible (repeat' first | assumption | exact Below.refl _ _ | refine Below.drew ?_ | refine bdrewN ?_ _ | refine Below.setCell ?_ (by first | exact Nat.le_refl _ | (simp; done) | (simp; omega) | omega) _ | refine Below.alloc ?_ (by first | exact Nat.le_refl _ | (simp; done) | (simp; omega) | omega) _)⟩
theorem fct_rm : ∀ i : Nat, i ≤ 16 → (fct i : Int) ≤ 922337203685477 / ((i : Int) + 1) := by decide
set_option maxRecDepth 100000 in
set_option maxHeartbeats 1000000 in
theorem dfact_ok (x : Int) (w : World) (hx : In x) (hw : wholeOk x = true) (h0 : 0 ≤ x) : Calls Tryz.prog 41 #[.int .i64 x] w fun e w' => e = .returned (factV x) ∧ Below w.heap.size w w' := by
  have ht : x.tmod 10000 = 0 := by unfold wholeOk at hw; simp at hw; exact hw.2
  have hd : decide (x < 0) = false := decide_eq_false (by omega)
  have ht2 : x % 10000 = 0 := by rw [← Int.tmod_eq_emod_of_nonneg h0]; exact ht
  have hs := fun w1 => dsize_any x w1 hx
  rw [show sz x = x by unfold sz; omega] at hs
  obtain ⟨q, hq⟩ : ∃ q, x / 10000 = q := ⟨_, rfl⟩
  have hq2 : x.tdiv 10000 = q := by rw [Int.tdiv_eq_ediv_of_nonneg h0]; exact hq
  have hq0 : 0 ≤ q := by omega
  have hq1 : q ≤ 922337203685477 := by have := hx.2; omega
  have hqw : q % 18446744073709551616 = q := by omega
  unfold factV
  rw [hq]
  have HX : Hid _ := hx
  clear hx hw
  go_enter Tryz.func41, Tryz.ntmps41
  go_wp2
  go_loopw [3, 4] (fun u v w' => ∃ i : Nat, u = .int .u64 (fct i : Int) ∧ v = .int .u64 ((i : Int) + 1) ∧ 1 ≤ i ∧ i ≤ 17 ∧ (i ≤ 1 ∨ (i : Int) ≤ q) ∧ Below w.heap.size w w' ∧ Own w' w.heap.size #[.int .i64 0, .int .i64 0, .string ⟨#[]⟩, .bool false, .int .i64 0]) (fun _ v _ => 20 - (intOf v).toNat)
  case atStart => exact ⟨1, rfl, rfl, by omega, by omega, by omega, by with_reducible (repeat' first | assumption | exact Below.refl _ _ | refine Below.drew ?_ | refine bdrewN ?_ _ | refine Below.setCell ?_ (by first | exact Nat.le_refl _ | (simp; done) | (simp; omega) | omega) _ | refine Below.alloc ?_ (by first | exact Nat.le_refl _ | (simp; done) | (simp; omega) | omega) _), by with_reducible (repeat' first | assumption | refine Own.drew ?_ | refine Own.drewN ?_ _ | (refine Own.at ?_; first | rfl | (simp; done)) | refine Own.past ?_ _)⟩
  case round =>
    obtain ⟨i, rfl, rfl, hi1, hi, hix, hB3, o3⟩ := hrel
    have z3 := hB3.size
    have c0 := o3.cell
    have f0 := o3.fro
    have l0 := o3.lt
    have hf : (fct i : Int) ≤ 355687428096000 := Int.ofNat_le.2 (fct_le i hi)
    have hfp : 0 < (fct i : Int) := Int.natCast_pos.2 (fct_pos i)
    by_cases hle : (i : Int) + 1 ≤ q
    · have hs2 : fct (i + 1) = fct i * (i + 1) := rfl
      have e1 : (fct i : Int) * ((i : Int) + 1) = (fct (i + 1) : Int) := by rw [hs2, Int.natCast_mul]; rfl
      by_cases h17 : i + 1 ≤ 17
      · have hf2 : (fct (i + 1) : Int) ≤ 355687428096000 := Int.ofNat_le.2 (fct_le (i + 1) h17)
        have hfq : 0 < (fct (i + 1) : Int) := Int.natCast_pos.2 (fct_pos (i + 1))
        have hrm := fct_rm i (by omega)
        obtain ⟨d, hdv⟩ : ∃ d : Int, 922337203685477 / ((i : Int) + 1) = d := ⟨_, rfl⟩
        have hdv2 : (922337203685477 : Int).tdiv ((i : Int) + 1) = d := by rw [Int.tdiv_eq_ediv_of_nonneg (by decide)]; exact hdv
        have hdr : (fct i : Int) ≤ d := by rw [← hdv]; exact hrm
        have hd0 : 0 ≤ d := by omega
        have hd1 : d ≤ 922337203685477 := by rw [← hdv]; exact Int.ediv_le_self _ (by decide)
        have hdw : d % 18446744073709551616 = d := by omega
        have hiz : ¬ ((i : Int) + 1 = 0) := by omega
        have hiz2 : (((i : Int) + 1) == 0) = false := by simp; omega
        clear hs2 hrm
        obtain ⟨F2, hF2⟩ : ∃ F2 : Int, (fct (i + 1) : Int) = F2 := ⟨_, rfl⟩
        obtain ⟨F1, hF1⟩ : ∃ F1 : Int, (fct i : Int) = F1 := ⟨_, rfl⟩
        rw [hF2, hF1] at e1
        rw [hF1] at hdr hfp hf ⊢
        rw [hF2] at hf2 hfq
        have HF2 : Hid _ := hF2
        have hf3 : F2 % 18446744073709551616 = F2 := by omega
        clear hF1 hF2
        have hng : ¬ d < F1 := by omega
        go_wp2_with (go_at_call 35; refine (hs _).mono ?_; rintro e w5 ⟨rfl, e5⟩; rw [e5]; clear e5 w5)
        exact ⟨⟨i + 1, by rw [HF2.out], congrArg (Value.int IntKind.u64) (by omega), by omega, h17, by omega, by with_reducible (repeat' first | assumption | exact Below.refl _ _ | refine Below.drew ?_ | refine bdrewN ?_ _ | refine Below.setCell ?_ (by first | exact Nat.le_refl _ | (simp; done) | (simp; omega) | omega) _ | refine Below.alloc ?_ (by first | exact Nat.le_refl _ | (simp; done) | (simp; omega) | omega) _), by with_reducible (repeat' first | assumption | refine Own.drew ?_ | refine Own.drewN ?_ _ | (refine Own.at ?_; first | rfl | (simp; done)) | refine Own.past ?_ _)⟩, by simp [intOf]; omega⟩
      · have hi17 : i = 17 := by omega
        subst hi17
        have hgt : ¬ q ≤ 17 := by omega
        have e17 : ((fct 17 : Nat) : Int) = 355687428096000 := by decide
        rw [e17] at hf hfp ⊢
        clear hs2 e1
        go_wp2_with (first | (go_at_call 35; refine (hs _).mono ?_; rintro e w5 ⟨rfl, e5⟩; rw [e5]; clear e5 w5) | (go_at_call 14; refine (derr_ok _ _ (by decide) (by decide)).mono ?_; rintro e wb ⟨rfl, hbwb⟩; have hBwb : Below w.heap.size w wb := bup (by with_reducible (repeat' first | assumption | exact Below.refl _ _ | refine Below.drew ?_ | refine bdrewN ?_ _ | refine Below.setCell ?_ (by first | exact Nat.le_refl _ | (simp; done) | (simp; omega) | omega) _ | refine Below.alloc ?_ (by first | exact Nat.le_refl _ | (simp; done) | (simp; omega) | omega) _)) hbwb; have zwb := hBwb.size; have o0wb : Own wb (w.heap.size) #[.int .i64 0, .int .i64 0, .string ⟨#[]⟩, .bool false, .int .i64 0] := Own.keep (by with_reducible (repeat' first | assumption | refine Own.drew ?_ | refine Own.drewN ?_ _ | (refine Own.at ?_; first | rfl | (simp; done)) | refine Own.past ?_ _)) hbwb; have c0 := o0wb.cell; have f0 := o0wb.fro; have l0 := o0wb.lt))
        exact bodyPost_ret (v := (.agg #[.int .i64 (4), .int .i64 (0), .string ⟨#[]⟩, .bool false, .int .i64 (2)])) (by simp [results, Tryz.results41, go_sem, c0, f0, l0]) rfl ⟨by first | rfl | rw [if_neg (by omega)], by with_reducible (repeat' first | assumption | exact Below.refl _ _ | refine Below.drew ?_ | refine bdrewN ?_ _ | refine Below.setCell ?_ (by first | exact Nat.le_refl _ | (simp; done) | (simp; omega) | omega) _ | refine Below.alloc ?_ (by first | exact Nat.le_refl _ | (simp; done) | (simp; omega) | omega) _)⟩
    · have hin := fun w1 => dwhole_f (fct i : Int) w1 (by omega) (by omega)
      have hqi : (fct q.toNat : Int) = (fct i : Int) := by
        by_cases hii : i ≤ 1
        · have : i = 1 := by omega
          subst this
          have hq3 : q.toNat = 0 ∨ q.toNat = 1 := by omega
          rcases hq3 with h | h <;> rw [h] <;> rfl
        · rw [show q.toNat = i by omega]
      have hle' : ¬ ((i : Int) + 1 ≤ q) := hle
      go_wp2_with (first | (go_at_call 35; refine (hs _).mono ?_; rintro e w5 ⟨rfl, e5⟩; rw [e5]; clear e5 w5) | (go_at_call 36; refine (hin _).mono ?_; rintro e wb ⟨rfl, hbwb⟩; have hBwb : Below w.heap.size w wb := bup (by with_reducible (repeat' first | assumption | exact Below.refl _ _ | refine Below.drew ?_ | refine bdrewN ?_ _ | refine Below.setCell ?_ (by first | exact Nat.le_refl _ | (simp; done) | (simp; omega) | omega) _ | refine Below.alloc ?_ (by first | exact Nat.le_refl _ | (simp; done) | (simp; omega) | omega) _)) hbwb; have zwb := hBwb.size; have o0wb : Own wb (w.heap.size) #[.int .i64 0, .int .i64 0, .string ⟨#[]⟩, .bool false, .int .i64 0] := Own.keep (by with_reducible (repeat' first | assumption | refine Own.drew ?_ | refine Own.drewN ?_ _ | (refine Own.at ?_; first | rfl | (simp; done)) | refine Own.past ?_ _)) hbwb; have c0 := o0wb.cell; have f0 := o0wb.fro; have l0 := o0wb.lt))
      exact bodyPost_ret (v := (.agg #[.int .i64 (1), .int .i64 ((fct i : Int) * 10000), .string ⟨#[]⟩, .bool false, .int .i64 (0)])) (by simp [results, Tryz.results41, go_sem, c0, f0, l0]) rfl ⟨by first | rw [if_pos (by omega), hqi] | rw [hqi] | rfl, by with_reducible (repeat' first | assumption | exact Below.refl _ _ | refine Below.drew ?_ | refine bdrewN ?_ _ | refine Below.setCell ?_ (by first | exact Nat.le_refl _ | (simp; done) | (simp; omega) | omega) _ | refine Below.alloc ?_ (by first | exact Nat.le_refl _ | (simp; done) | (simp; omega) | omega) _)⟩
end Go.Proofs.YtfpbcokfianjaaaGreat
namespace Go.Proofs.YtfpbcokfianjaaaGreat
open Go.RowKit
set_option linter.all false
theorem one_abs_n (x : Int) (w : World) (hx : In x) (h : x < 0) : Calls Tryz.prog 19 #[.string ⟨#[65, 66, 83]⟩, .int .i64 x] w fun e w' => e = .returned (.agg #[.int .i64 (1), .int .i64 (-x), .string ⟨#[]⟩, .bool false, .int .i64 (0)]) ∧ Below w.heap.size w w' := by
  have hw : wrap64 (-x) = -x := by obtain ⟨h1, h2⟩ := hx; unfold wrap64; omega
  have hi : In (-x) := neg_in hx
  go_enter Tryz.func19, Tryz.ntmps19
  go_wp2_with (go_at_call 18; refine (dnum_ok _ _ hi).mono ?_; rintro e wa ⟨rfl, hbwa⟩; have hBwa : Below w.heap.size w wa := bup (by with_reducible (repeat' first | assumption | exact Below.refl _ _ | refine Below.drew ?_ | refine bdrewN ?_ _ | refine Below.setCell ?_ (by first | exact Nat.le_refl _ | (simp; done) | (simp; omega) | omega) _ | refine Below.alloc ?_ (by first | exact Nat.le_refl _ | (simp; done) | (simp; omega) | omega) _)) hbwa; have zwa := hBwa.size; have o0wa : Own wa (w.heap.size) #[.int .i64 0, .int .i64 0, .string ⟨#[]⟩, .bool false, .int .i64 0] := Own.keep (by with_reducible (repeat' first | assumption | refine Own.drew ?_ | refine Own.drewN ?_ _ | (refine Own.at ?_; first | rfl | (simp; done)) | refine Own.past ?_ _)) hbwa; have c0 := o0wa.cell; have f0 := o0wa.fro; have l0 := o0wa.lt)
  exact bodyPost_ret (v := (.agg #[.int .i64 (1), .int .i64 (-x), .string ⟨#[]⟩, .bool false, .int .i64 (0)])) (by simp [results, Tryz.results19, go_sem, c0, f0, l0]) rfl ⟨rfl, by with_reducible (repeat' first | assumption | exact Below.refl _ _ | refine Below.drew ?_ | refine bdrewN ?_ _ | refine Below.setCell ?_ (by first | exact Nat.le_refl _ | (simp; done) | (simp; omega) | omega) _ | refine Below.alloc ?_ (by first | exact Nat.le_refl _ | (simp; done) | (simp; omega) | omega) _)⟩
theorem one_abs_p (x : Int) (w : World) (hx : In x) (h : ¬ x < 0) : Calls Tryz.prog 19 #[.string ⟨#[65, 66, 83]⟩, .int .i64 x] w fun e w' => e = .returned (.agg #[.int .i64 (1), .int .i64 (x), .string ⟨#[]⟩, .bool false, .int .i64 (0)]) ∧ Below w.heap.size w w' := by
  go_enter Tryz.func19, Tryz.ntmps19
  go_wp2_with (go_at_call 18; refine (dnum_ok _ _ hx).mono ?_; rintro e wa ⟨rfl, hbwa⟩; have hBwa : Below w.heap.size w wa := bup (by with_reducible (repeat' first | assumption | exact Below.refl _ _ | refine Below.drew ?_ | refine bdrewN ?_ _ | refine Below.setCell ?_ (by first | exact Nat.le_refl _ | (simp; done) | (simp; omega) | omega) _ | refine Below.alloc ?_ (by first | exact Nat.le_refl _ | (simp; done) | (simp; omega) | omega) _)) hbwa; have zwa := hBwa.size; have o0wa : Own wa (w.heap.size) #[.int .i64 0, .int .i64 0, .string ⟨#[]⟩, .bool false, .int .i64 0] := Own.keep (by with_reducible (repeat' first | assumption | refine Own.drew ?_ | refine Own.drewN ?_ _ | (refine Own.at ?_; first | rfl | (simp; done)) | refine Own.past ?_ _)) hbwa; have c0 := o0wa.cell; have f0 := o0wa.fro; have l0 := o0wa.lt)
  exact bodyPost_ret (v := (.agg #[.int .i64 (1), .int .i64 (x), .string ⟨#[]⟩, .bool false, .int .i64 (0)])) (by simp [results, Tryz.results19, go_sem, c0, f0, l0]) rfl ⟨rfl, by with_reducible (repeat' first | assumption | exact Below.refl _ _ | refine Below.drew ?_ | refine bdrewN ?_ _ | refine Below.setCell ?_ (by first | exact Nat.le_refl _ | (simp; done) | (simp; omega) | omega) _ | refine Below.alloc ?_ (by first | exact Nat.le_refl _ | (simp; done) | (simp; omega) | omega) _)⟩
theorem one_sign_p (x : Int) (w : World) (hx : In x) (h : 0 < x) : Calls Tryz.prog 19 #[.string ⟨#[83, 73, 71, 78]⟩, .int .i64 x] w fun e w' => e = .returned (.agg #[.int .i64 (1), .int .i64 (10000), .string ⟨#[]⟩, .bool false, .int .i64 (0)]) ∧ Below w.heap.size w w' := by
  go_enter Tryz.func19, Tryz.ntmps19
  go_wp2_with (go_at_call 18; refine (dnum_ok _ _ ⟨by decide, by decide⟩).mono ?_; rintro e wa ⟨rfl, hbwa⟩; have hBwa : Below w.heap.size w wa := bup (by with_reducible (repeat' first | assumption | exact Below.refl _ _ | refine Below.drew ?_ | refine bdrewN ?_ _ | refine Below.setCell ?_ (by first | exact Nat.le_refl _ | (simp; done) | (simp; omega) | omega) _ | refine Below.alloc ?_ (by first | exact Nat.le_refl _ | (simp; done) | (simp; omega) | omega) _)) hbwa; have zwa := hBwa.size; have o0wa : Own wa (w.heap.size) #[.int .i64 0, .int .i64 0, .string ⟨#[]⟩, .bool false, .int .i64 0] := Own.keep (by with_reducible (repeat' first | assumption | refine Own.drew ?_ | refine Own.drewN ?_ _ | (refine Own.at ?_; first | rfl | (simp; done)) | refine Own.past ?_ _)) hbwa; have c0 := o0wa.cell; have f0 := o0wa.fro; have l0 := o0wa.lt)
  exact bodyPost_ret (v := (.agg #[.int .i64 (1), .int .i64 (10000), .string ⟨#[]⟩, .bool false, .int .i64 (0)])) (by simp [results, Tryz.results19, go_sem, c0, f0, l0]) rfl ⟨rfl, by with_reducible (repeat' first | assumption | exact Below.refl _ _ | refine Below.drew ?_ | refine bdrewN ?_ _ | refine Below.setCell ?_ (by first | exact Nat.le_refl _ | (simp; done) | (simp; omega) | omega) _ | refine Below.alloc ?_ (by first | exact Nat.le_refl _ | (simp; done) | (simp; omega) | omega) _)⟩
theorem one_sign_n (x : Int) (w : World) (hx : In x) (h : x < 0) : Calls Tryz.prog 19 #[.string ⟨#[83, 73, 71, 78]⟩, .int .i64 x] w fun e w' => e = .returned (.agg #[.int .i64 (1), .int .i64 (-10000), .string ⟨#[]⟩, .bool false, .int .i64 (0)]) ∧ Below w.heap.size w w' := by
  have h2 : ¬ 0 < x := by omega
  go_enter Tryz.func19, Tryz.ntmps19
  go_wp2_with (go_at_call 18; refine (dnum_ok _ _ ⟨by decide, by decide⟩).mono ?_; rintro e wa ⟨rfl, hbwa⟩; have hBwa : Below w.heap.size w wa := bup (by with_reducible (repeat' first | assumption | exact Below.refl _ _ | refine Below.drew ?_ | refine bdrewN ?_ _ | refine Below.setCell ?_ (by first | exact Nat.le_refl _ | (simp; done) | (simp; omega) | omega) _ | refine Below.alloc ?_ (by first | exact Nat.le_refl _ | (simp; done) | (simp; omega) | omega) _)) hbwa; have zwa := hBwa.size; have o0wa : Own wa (w.heap.size) #[.int .i64 0, .int .i64 0, .string ⟨#[]⟩, .bool false, .int .i64 0] := Own.keep (by with_reducible (repeat' first | assumption | refine Own.drew ?_ | refine Own.drewN ?_ _ | (refine Own.at ?_; first | rfl | (simp; done)) | refine Own.past ?_ _)) hbwa; have c0 := o0wa.cell; have f0 := o0wa.fro; have l0 := o0wa.lt)
  exact bodyPost_ret (v := (.agg #[.int .i64 (1), .int .i64 (-10000), .string ⟨#[]⟩, .bool false, .int .i64 (0)])) (by simp [results, Tryz.results19, go_sem, c0, f0, l0]) rfl ⟨rfl, by with_reducible (repeat' first | assumption | exact Below.refl _ _ | refine Below.drew ?_ | refine bdrewN ?_ _ | refine Below.setCell ?_ (by first | exact Nat.le_refl _ | (simp; done) | (simp; omega) | omega) _ | refine Below.alloc ?_ (by first | exact Nat.le_refl _ | (simp; done) | (simp; omega) | omega) _)⟩
theorem one_sign_z (x : Int) (w : World) (hx : In x) (h : x = 0) : Calls Tryz.prog 19 #[.string ⟨#[83, 73, 71, 78]⟩, .int .i64 x] w fun e w' => e = .returned (.agg #[.int .i64 (1), .int .i64 (0), .string ⟨#[]⟩, .bool false, .int .i64 (0)]) ∧ Below w.heap.size w w' := by
  subst h
  go_enter Tryz.func19, Tryz.ntmps19
  go_wp2_with (go_at_call 18; refine (dnum_ok _ _ in0).mono ?_; rintro e wa ⟨rfl, hbwa⟩; have hBwa : Below w.heap.size w wa := bup (by with_reducible (repeat' first | assumption | exact Below.refl _ _ | refine Below.drew ?_ | refine bdrewN ?_ _ | refine Below.setCell ?_ (by first | exact Nat.le_refl _ | (simp; done) | (simp; omega) | omega) _ | refine Below.alloc ?_ (by first | exact Nat.le_refl _ | (simp; done) | (simp; omega) | omega) _)) hbwa; have zwa := hBwa.size; have o0wa : Own wa (w.heap.size) #[.int .i64 0, .int .i64 0, .string ⟨#[]⟩, .bool false, .int .i64 0] := Own.keep (by with_reducible (repeat' first | assumption | refine Own.drew ?_ | refine Own.drewN ?_ _ | (refine Own.at ?_; first | rfl | (simp; done)) | refine Own.past ?_ _)) hbwa; have c0 := o0wa.cell; have f0 := o0wa.fro; have l0 := o0wa.lt)
  exact bodyPost_ret (v := (.agg #[.int .i64 (1), .int .i64 (0), .string ⟨#[]⟩, .bool false, .int .i64 (0)])) (by simp [results, Tryz.results19, go_sem, c0, f0, l0]) rfl ⟨rfl, by with_reducible (repeat' first | assumption | exact Below.refl _ _ | refine Below.drew ?_ | refine bdrewN ?_ _ | refine Below.setCell ?_ (by first | exact Nat.le_refl _ | (simp; done) | (simp; omega) | omega) _ | refine Below.alloc ?_ (by first | exact Nat.le_refl _ | (simp; done) | (simp; omega) | omega) _)⟩
theorem one_abs (x : Int) (w : World) (hx : In x) : Calls Tryz.prog 19 #[.string ⟨#[65, 66, 83]⟩, .int .i64 x] w fun e w' => e = .returned (numV (sz x)) ∧ Below w.heap.size w w' := by
  unfold numV
  by_cases h : x < 0
  · rw [show sz x = -x by unfold sz; omega]; exact one_abs_n x w hx h
  · rw [show sz x = x by unfold sz; omega]; exact one_abs_p x w hx h
theorem one_sign (x : Int) (w : World) (hx : In x) : Calls Tryz.prog 19 #[.string ⟨#[83, 73, 71, 78]⟩, .int .i64 x] w fun e w' => e = .returned (.agg #[.int .i64 (1), .int .i64 (cmpI x 0 * 10000), .string ⟨#[]⟩, .bool false, .int .i64 (0)]) ∧ Below w.heap.size w w' := by
  rcases Int.lt_trichotomy x 0 with h | h | h
  · rw [show cmpI x 0 * 10000 = -10000 by unfold cmpI; simp [h]]; exact one_sign_n x w hx h
  · rw [show cmpI x 0 * 10000 = 0 by unfold cmpI; simp [h]]; exact one_sign_z x w hx h
  · rw [show cmpI x 0 * 10000 = 10000 by unfold cmpI; rw [if_neg (by omega), if_pos (by omega)]; rfl]; exact one_sign_p x w hx h
theorem one_int (x : Int) (w : World) (hx : In x) : Calls Tryz.prog 19 #[.string ⟨#[73, 78, 84]⟩, .int .i64 x] w fun e w' => e = .returned (.agg #[.int .i64 (tT (okC (floorOk x))), .int .i64 (okV (floorOk x) (x - x % 10000)), .string ⟨#[]⟩, .bool false, .int .i64 (okC (floorOk x))]) ∧ Below w.heap.size w w' := by
  have h1 := fun w1 => rfloor_any x w1 hx.i64
  have h3 := fun w1 => dtold_any _ _ w1 (flo_in hx) (okVC (floorOk x) (x - x % 10000))
  generalize okV (floorOk x) (x - x % 10000) = r at h1 h3 ⊢
  generalize okC (floorOk x) = c at h1 h3 ⊢
  generalize tT c = t at h3 ⊢
  go_enter Tryz.func19, Tryz.ntmps19
  go_wp2_with (first | (go_at_call 39; refine (h1 _).mono ?_; rintro e w5 ⟨rfl, e5⟩; rw [e5]; clear e5 w5) | (go_at_call 38; refine (h3 _).mono ?_; rintro e wa ⟨rfl, hbwa⟩; have hBwa : Below w.heap.size w wa := bup (by with_reducible (repeat' first | assumption | exact Below.refl _ _ | refine Below.drew ?_ | refine bdrewN ?_ _ | refine Below.setCell ?_ (by first | exact Nat.le_refl _ | (simp; done) | (simp; omega) | omega) _ | refine Below.alloc ?_ (by first | exact Nat.le_refl _ | (simp; done) | (simp; omega) | omega) _)) hbwa; have zwa := hBwa.size; have o0wa : Own wa (w.heap.size) #[.int .i64 0, .int .i64 0, .string ⟨#[]⟩, .bool false, .int .i64 0] := Own.keep (by with_reducible (repeat' first | assumption | refine Own.drew ?_ | refine Own.drewN ?_ _ | (refine Own.at ?_; first | rfl | (simp; done)) | refine Own.past ?_ _)) hbwa; have c0 := o0wa.cell; have f0 := o0wa.fro; have l0 := o0wa.lt))
  exact bodyPost_ret (v := (.agg #[.int .i64 t, .int .i64 r, .string ⟨#[]⟩, .bool false, .int .i64 c])) (by simp [results, Tryz.results19, go_sem, c0, f0, l0]) rfl ⟨rfl, by with_reducible (repeat' first | assumption | exact Below.refl _ _ | refine Below.drew ?_ | refine bdrewN ?_ _ | refine Below.setCell ?_ (by first | exact Nat.le_refl _ | (simp; done) | (simp; omega) | omega) _ | refine Below.alloc ?_ (by first | exact Nat.le_refl _ | (simp; done) | (simp; omega) | omega) _)⟩
theorem one_fact_neg (x : Int) (w : World) (h : x < 0) : Calls Tryz.prog 19 #[.string ⟨#[70, 65, 67, 84]⟩, .int .i64 x] w fun e w' => e = .returned (.agg #[.int .i64 (4), .int .i64 (0), .string ⟨#[]⟩, .bool false, .int .i64 (8)]) ∧ Below w.heap.size w w' := by
  go_enter Tryz.func19, Tryz.ntmps19
  go_wp2_with (go_at_call 41; refine (dfact_neg _ _ h).mono ?_; rintro e wa ⟨rfl, hbwa⟩; have hBwa : Below w.heap.size w wa := bup (by with_reducible (repeat' first | assumption | exact Below.refl _ _ | refine Below.drew ?_ | refine bdrewN ?_ _ | refine Below.setCell ?_ (by first | exact Nat.le_refl _ | (simp; done) | (simp; omega) | omega) _ | refine Below.alloc ?_ (by first | exact Nat.le_refl _ | (simp; done) | (simp; omega) | omega) _)) hbwa; have zwa := hBwa.size; have o0wa : Own wa (w.heap.size) #[.int .i64 0, .int .i64 0, .string ⟨#[]⟩, .bool false, .int .i64 0] := Own.keep (by with_reducible (repeat' first | assumption | refine Own.drew ?_ | refine Own.drewN ?_ _ | (refine Own.at ?_; first | rfl | (simp; done)) | refine Own.past ?_ _)) hbwa; have c0 := o0wa.cell; have f0 := o0wa.fro; have l0 := o0wa.lt)
  exact bodyPost_ret (v := (.agg #[.int .i64 (4), .int .i64 (0), .string ⟨#[]⟩, .bool false, .int .i64 (8)])) (by simp [results, Tryz.results19, go_sem, c0, f0, l0]) rfl ⟨rfl, by with_reducible (repeat' first | assumption | exact Below.refl _ _ | refine Below.drew ?_ | refine bdrewN ?_ _ | refine Below.setCell ?_ (by first | exact Nat.le_refl _ | (simp; done) | (simp; omega) | omega) _ | refine Below.alloc ?_ (by first | exact Nat.le_refl _ | (simp; done) | (simp; omega) | omega) _)⟩
theorem one_fact_no (x : Int) (w : World) (hx : In x) (h0 : 0 ≤ x) (hw : wholeOk x = false) : Calls Tryz.prog 19 #[.string ⟨#[70, 65, 67, 84]⟩, .int .i64 x] w fun e w' => e = .returned (.agg #[.int .i64 (4), .int .i64 (0), .string ⟨#[]⟩, .bool false, .int .i64 (8)]) ∧ Below w.heap.size w w' := by
  go_enter Tryz.func19, Tryz.ntmps19
  go_wp2_with (go_at_call 41; refine (dfact_no _ _ hx h0 hw).mono ?_; rintro e wa ⟨rfl, hbwa⟩; have hBwa : Below w.heap.size w wa := bup (by with_reducible (repeat' first | assumption | exact Below.refl _ _ | refine Below.drew ?_ | refine bdrewN ?_ _ | refine Below.setCell ?_ (by first | exact Nat.le_refl _ | (simp; done) | (simp; omega) | omega) _ | refine Below.alloc ?_ (by first | exact Nat.le_refl _ | (simp; done) | (simp; omega) | omega) _)) hbwa; have zwa := hBwa.size; have o0wa : Own wa (w.heap.size) #[.int .i64 0, .int .i64 0, .string ⟨#[]⟩, .bool false, .int .i64 0] := Own.keep (by with_reducible (repeat' first | assumption | refine Own.drew ?_ | refine Own.drewN ?_ _ | (refine Own.at ?_; first | rfl | (simp; done)) | refine Own.past ?_ _)) hbwa; have c0 := o0wa.cell; have f0 := o0wa.fro; have l0 := o0wa.lt)
  exact bodyPost_ret (v := (.agg #[.int .i64 (4), .int .i64 (0), .string ⟨#[]⟩, .bool false, .int .i64 (8)])) (by simp [results, Tryz.results19, go_sem, c0, f0, l0]) rfl ⟨rfl, by with_reducible (repeat' first | assumption | exact Below.refl _ _ | refine Below.drew ?_ | refine bdrewN ?_ _ | refine Below.setCell ?_ (by first | exact Nat.le_refl _ | (simp; done) | (simp; omega) | omega) _ | refine Below.alloc ?_ (by first | exact Nat.le_refl _ | (simp; done) | (simp; omega) | omega) _)⟩
theorem one_fact_ok (x : Int) (w : World) (hx : In x) (hw : wholeOk x = true) (h0 : 0 ≤ x) : Calls Tryz.prog 19 #[.string ⟨#[70, 65, 67, 84]⟩, .int .i64 x] w fun e w' => e = .returned (factV x) ∧ Below w.heap.size w w' := by
  have h := fun w1 => dfact_ok x w1 hx hw h0
  unfold factV at h ⊢
  by_cases h17 : x / 10000 ≤ 17
  · rw [if_pos h17] at h ⊢
    generalize (fct (x / 10000).toNat : Int) * 10000 = v at h ⊢
    go_enter Tryz.func19, Tryz.ntmps19
    go_wp2_with (go_at_call 41; refine (h _).mono ?_; rintro e wa ⟨rfl, hbwa⟩; have hBwa : Below w.heap.size w wa := bup (by with_reducible (repeat' first | assumption | exact Below.refl _ _ | refine Below.drew ?_ | refine bdrewN ?_ _ | refine Below.setCell ?_ (by first | exact Nat.le_refl _ | (simp; done) | (simp; omega) | omega) _ | refine Below.alloc ?_ (by first | exact Nat.le_refl _ | (simp; done) | (simp; omega) | omega) _)) hbwa; have zwa := hBwa.size; have o0wa : Own wa (w.heap.size) #[.int .i64 0, .int .i64 0, .string ⟨#[]⟩, .bool false, .int .i64 0] := Own.keep (by with_reducible (repeat' first | assumption | refine Own.drew ?_ | refine Own.drewN ?_ _ | (refine Own.at ?_; first | rfl | (simp; done)) | refine Own.past ?_ _)) hbwa; have c0 := o0wa.cell; have f0 := o0wa.fro; have l0 := o0wa.lt)
    exact bodyPost_ret (v := (.agg #[.int .i64 (1), .int .i64 (v), .string ⟨#[]⟩, .bool false, .int .i64 (0)])) (by simp [results, Tryz.results19, go_sem, c0, f0, l0]) rfl ⟨rfl, by with_reducible (repeat' first | assumption | exact Below.refl _ _ | refine Below.drew ?_ | refine bdrewN ?_ _ | refine Below.setCell ?_ (by first | exact Nat.le_refl _ | (simp; done) | (simp; omega) | omega) _ | refine Below.alloc ?_ (by first | exact Nat.le_refl _ | (simp; done) | (simp; omega) | omega) _)⟩
  · rw [if_neg h17] at h ⊢
    go_enter Tryz.func19, Tryz.ntmps19
    go_wp2_with (go_at_call 41; refine (h _).mono ?_; rintro e wa ⟨rfl, hbwa⟩; have hBwa : Below w.heap.size w wa := bup (by with_reducible (repeat' first | assumption | exact Below.refl _ _ | refine Below.drew ?_ | refine bdrewN ?_ _ | refine Below.setCell ?_ (by first | exact Nat.le_refl _ | (simp; done) | (simp; omega) | omega) _ | refine Below.alloc ?_ (by first | exact Nat.le_refl _ | (simp; done) | (simp; omega) | omega) _)) hbwa; have zwa := hBwa.size; have o0wa : Own wa (w.heap.size) #[.int .i64 0, .int .i64 0, .string ⟨#[]⟩, .bool false, .int .i64 0] := Own.keep (by with_reducible (repeat' first | assumption | refine Own.drew ?_ | refine Own.drewN ?_ _ | (refine Own.at ?_; first | rfl | (simp; done)) | refine Own.past ?_ _)) hbwa; have c0 := o0wa.cell; have f0 := o0wa.fro; have l0 := o0wa.lt)
    exact bodyPost_ret (v := (.agg #[.int .i64 (4), .int .i64 (0), .string ⟨#[]⟩, .bool false, .int .i64 (2)])) (by simp [results, Tryz.results19, go_sem, c0, f0, l0]) rfl ⟨rfl, by with_reducible (repeat' first | assumption | exact Below.refl _ _ | refine Below.drew ?_ | refine bdrewN ?_ _ | refine Below.setCell ?_ (by first | exact Nat.le_refl _ | (simp; done) | (simp; omega) | omega) _ | refine Below.alloc ?_ (by first | exact Nat.le_refl _ | (simp; done) | (simp; omega) | omega) _)⟩
theorem one_odd_no (x : Int) (w : World) (hx : In x) (hw : wholeOk x = false) : Calls Tryz.prog 19 #[.string ⟨#[79, 68, 68]⟩, .int .i64 x] w fun e w' => e = .returned (.agg #[.int .i64 (4), .int .i64 (0), .string ⟨#[]⟩, .bool false, .int .i64 (8)]) ∧ Below w.heap.size w w' := by
  have ht : (x.tmod 10000 != 0) = true := by
    unfold wholeOk at hw; rw [mayOk_t hx.1] at hw; simpa using hw
  have hb := tmod_bd x 10000 (by decide)
  revert ht hb
  generalize hg : x.tmod 10000 = r
  intro ht hb
  have hw1 : wrap64 r = r := by unfold wrap64; omega
  go_enter Tryz.func19, Tryz.ntmps19
  go_wp2_with (go_at_call 14; refine (derr_ok _ _ (by decide) (by decide)).mono ?_; rintro e wa ⟨rfl, hbwa⟩; have hBwa : Below w.heap.size w wa := bup (by with_reducible (repeat' first | assumption | exact Below.refl _ _ | refine Below.drew ?_ | refine bdrewN ?_ _ | refine Below.setCell ?_ (by first | exact Nat.le_refl _ | (simp; done) | (simp; omega) | omega) _ | refine Below.alloc ?_ (by first | exact Nat.le_refl _ | (simp; done) | (simp; omega) | omega) _)) hbwa; have zwa := hBwa.size; have o0wa : Own wa (w.heap.size) #[.int .i64 0, .int .i64 0, .string ⟨#[]⟩, .bool false, .int .i64 0] := Own.keep (by with_reducible (repeat' first | assumption | refine Own.drew ?_ | refine Own.drewN ?_ _ | (refine Own.at ?_; first | rfl | (simp; done)) | refine Own.past ?_ _)) hbwa; have c0 := o0wa.cell; have f0 := o0wa.fro; have l0 := o0wa.lt)
  exact bodyPost_ret (v := (.agg #[.int .i64 (4), .int .i64 (0), .string ⟨#[]⟩, .bool false, .int .i64 (8)])) (by simp [results, Tryz.results19, go_sem, c0, f0, l0]) rfl ⟨rfl, by with_reducible (repeat' first | assumption | exact Below.refl _ _ | refine Below.drew ?_ | refine bdrewN ?_ _ | refine Below.setCell ?_ (by first | exact Nat.le_refl _ | (simp; done) | (simp; omega) | omega) _ | refine Below.alloc ?_ (by first | exact Nat.le_refl _ | (simp; done) | (simp; omega) | omega) _)⟩
theorem one_odd_ok (x : Int) (w : World) (hx : In x) (hw : wholeOk x = true) : Calls Tryz.prog 19 #[.string ⟨#[79, 68, 68]⟩, .int .i64 x] w fun e w' => e = .returned (.agg #[.int .i64 (3), .int .i64 (0), .string ⟨#[]⟩, .bool ((x.tdiv 10000).tmod 2 != 0), .int .i64 (0)]) ∧ Below w.heap.size w w' := by
  have ht : x.tmod 10000 = 0 := by unfold wholeOk at hw; simp at hw; exact hw.2
  have hq : -922337203685477 ≤ x.tdiv 10000 ∧ x.tdiv 10000 ≤ 922337203685477 := by
    obtain ⟨h1, h2⟩ := hx
    have := Int.mul_tdiv_add_tmod x 10000
    rw [ht] at this
    omega
  revert hq
  generalize hg : x.tdiv 10000 = q
  intro hq
  have hw2 : wrap64 q = q := by unfold wrap64; omega
  have hb := tmod_bd q 2 (by decide)
  revert hb
  generalize hg2 : q.tmod 2 = r
  intro hb
  have hw3 : wrap64 r = r := by unfold wrap64; omega
  have hd := fun w1 => dtruth (r != 0) w1
  generalize hbb : (r != 0) = bb at hd ⊢
  go_enter Tryz.func19, Tryz.ntmps19
  go_wp2_with (go_at_call 42; refine (hd _).mono ?_; rintro e wa ⟨rfl, hbwa⟩; have hBwa : Below w.heap.size w wa := bup (by with_reducible (repeat' first | assumption | exact Below.refl _ _ | refine Below.drew ?_ | refine bdrewN ?_ _ | refine Below.setCell ?_ (by first | exact Nat.le_refl _ | (simp; done) | (simp; omega) | omega) _ | refine Below.alloc ?_ (by first | exact Nat.le_refl _ | (simp; done) | (simp; omega) | omega) _)) hbwa; have zwa := hBwa.size; have o0wa : Own wa (w.heap.size) #[.int .i64 0, .int .i64 0, .string ⟨#[]⟩, .bool false, .int .i64 0] := Own.keep (by with_reducible (repeat' first | assumption | refine Own.drew ?_ | refine Own.drewN ?_ _ | (refine Own.at ?_; first | rfl | (simp; done)) | refine Own.past ?_ _)) hbwa; have c0 := o0wa.cell; have f0 := o0wa.fro; have l0 := o0wa.lt)
  exact bodyPost_ret (v := (.agg #[.int .i64 (3), .int .i64 (0), .string ⟨#[]⟩, .bool bb, .int .i64 (0)])) (by simp [results, Tryz.results19, go_sem, c0, f0, l0]) rfl ⟨rfl, by with_reducible (repeat' first | assumption | exact Below.refl _ _ | refine Below.drew ?_ | refine bdrewN ?_ _ | refine Below.setCell ?_ (by first | exact Nat.le_refl _ | (simp; done) | (simp; omega) | omega) _ | refine Below.alloc ?_ (by first | exact Nat.le_refl _ | (simp; done) | (simp; omega) | omega) _)⟩
end Go.Proofs.YtfpbcokfianjaaaGreat
