/- The contracts of nums.factorial and of trunc at two numbers, of numbers that may be. New memory alone is made. -/
import Derived.Test.YtfpbcokfianjaaaNTj
namespace Go.Proofs.Ytfpbcokfianjaaa
open Go.RowKit
set_option linter.all false
theorem fact_no (x : Int) (b : Nat) (w : World) (hb : NB w b [x]) (hx : In x) (hw : wholeOk x = false) : Calls Try.prog 46 #[.slice (some ⟨b, 0, none⟩) 1 1] w fun e w' => e = .returned (.agg #[.int .i64 (4), .int .i64 (0), .string ⟨#[]⟩, .bool false, .int .i64 (8)]) ∧ Below w.heap.size w w' := by
  have x0 := hb.at (i := 0) (x := x) rfl
  have hlt := hb.lt
  have hne : ¬ b = w.heap.size := by omega
  have hq := fun w1 => broken_any x w1 hx.i64
  rw [hw] at hq
  go_enter Try.func46, Try.ntmps46
  go_wp2_with (first | (go_at_call 68; refine (hq _).mono ?_; rintro e w5 ⟨rfl, e5⟩; rw [e5]; clear e5 w5) | (go_at_call 23; refine (err_ok _ _ (by decide) (by decide)).mono ?_; rintro e wa ⟨rfl, hbwa⟩; have hBwa : Below w.heap.size w wa := bup (by with_reducible (repeat' first | assumption | exact Below.refl _ _ | refine Below.drew ?_ | refine bdrewN ?_ _ | refine Below.setCell ?_ (by first | exact Nat.le_refl _ | (simp; done) | (simp; omega) | omega) _ | refine Below.alloc ?_ (by first | exact Nat.le_refl _ | (simp; done) | (simp; omega) | omega) _)) hbwa; have zwa := hBwa.size; have o0wa : Own wa (w.heap.size) #[.int .i64 0, .int .i64 0, .string ⟨#[]⟩, .bool false, .int .i64 0] := Own.keep (by with_reducible (repeat' first | assumption | refine Own.drew ?_ | refine Own.drewN ?_ _ | (refine Own.at ?_; first | rfl | (simp; done)) | refine Own.past ?_ _)) hbwa; have c0 := o0wa.cell; have f0 := o0wa.fro; have l0 := o0wa.lt))
  exact bodyPost_ret (v := (.agg #[.int .i64 (4), .int .i64 (0), .string ⟨#[]⟩, .bool false, .int .i64 (8)])) (by simp [results, Try.results46, go_sem, c0, f0, l0]) rfl ⟨rfl, by with_reducible (repeat' first | assumption | exact Below.refl _ _ | refine Below.drew ?_ | refine bdrewN ?_ _ | refine Below.setCell ?_ (by first | exact Nat.le_refl _ | (simp; done) | (simp; omega) | omega) _ | refine Below.alloc ?_ (by first | exact Nat.le_refl _ | (simp; done) | (simp; omega) | omega) _)⟩
theorem fact_neg (x : Int) (b : Nat) (w : World) (hb : NB w b [x]) (hx : In x) (hw : wholeOk x = true) (h0 : x < 0) : Calls Try.prog 46 #[.slice (some ⟨b, 0, none⟩) 1 1] w fun e w' => e = .returned (.agg #[.int .i64 (4), .int .i64 (0), .string ⟨#[]⟩, .bool false, .int .i64 (8)]) ∧ Below w.heap.size w w' := by
  have x0 := hb.at (i := 0) (x := x) rfl
  have hlt := hb.lt
  have hne : ¬ b = w.heap.size := by omega
  have hq := fun w1 => broken_any x w1 hx.i64
  rw [hw] at hq
  go_enter Try.func46, Try.ntmps46
  go_wp2_with (first | (go_at_call 68; refine (hq _).mono ?_; rintro e w5 ⟨rfl, e5⟩; rw [e5]; clear e5 w5) | (go_at_call 23; refine (err_ok _ _ (by decide) (by decide)).mono ?_; rintro e wa ⟨rfl, hbwa⟩; have hBwa : Below w.heap.size w wa := bup (by with_reducible (repeat' first | assumption | exact Below.refl _ _ | refine Below.drew ?_ | refine bdrewN ?_ _ | refine Below.setCell ?_ (by first | exact Nat.le_refl _ | (simp; done) | (simp; omega) | omega) _ | refine Below.alloc ?_ (by first | exact Nat.le_refl _ | (simp; done) | (simp; omega) | omega) _)) hbwa; have zwa := hBwa.size; have o0wa : Own wa (w.heap.size) #[.int .i64 0, .int .i64 0, .string ⟨#[]⟩, .bool false, .int .i64 0] := Own.keep (by with_reducible (repeat' first | assumption | refine Own.drew ?_ | refine Own.drewN ?_ _ | (refine Own.at ?_; first | rfl | (simp; done)) | refine Own.past ?_ _)) hbwa; have c0 := o0wa.cell; have f0 := o0wa.fro; have l0 := o0wa.lt))
  exact bodyPost_ret (v := (.agg #[.int .i64 (4), .int .i64 (0), .string ⟨#[]⟩, .bool false, .int .i64 (8)])) (by simp [results, Try.results46, go_sem, c0, f0, l0]) rfl ⟨rfl, by with_reducible (repeat' first | assumption | exact Below.refl _ _ | refine Below.drew ?_ | refine bdrewN ?_ _ | refine Below.setCell ?_ (by first | exact Nat.le_refl _ | (simp; done) | (simp; omega) | omega) _ | refine Below.alloc ?_ (by first | exact Nat.le_refl _ | (simp; done) | (simp; omega) | omega) _)⟩
/-- The product of the whole numbers up to one. -/
def fct : Nat → Nat
  | 0 => 1
  | n + 1 => fct n * (n + 1)
/-- What FACT answers of a whole number that is not below 0. -/
def factV (x : Int) : Value := if x / 10000 ≤ 17 then (.agg #[.int .i64 (1), .int .i64 ((fct (x / 10000).toNat : Int) * 10000), .string ⟨#[]⟩, .bool false, .int .i64 (0)]) else (.agg #[.int .i64 (4), .int .i64 (0), .string ⟨#[]⟩, .bool false, .int .i64 (2)])
theorem fct_le : ∀ n, n ≤ 17 → fct n ≤ 355687428096000 := by decide
theorem fct_pos : ∀ n, 0 < fct n
  | 0 => by decide
  | n + 1 => Nat.mul_pos (fct_pos n) (by omega)
set_option maxRecDepth 100000 in
set_option maxHeartbeats 1000000 in
theorem fact_ok (x : Int) (b : Nat) (w : World) (hb : NB w b [x]) (hx : In x) (hw : wholeOk x = true) (h0 : 0 ≤ x) : Calls Try.prog 46 #[.slice (some ⟨b, 0, none⟩) 1 1] w fun e w' => e = .returned (factV x) ∧ Below w.heap.size w w' := by
  have mixed : Try.prog.follows .mixedOrders = true := by kernel_rfl
  have x0 := hb.at (i := 0) (x := x) rfl
  have hlt := hb.lt
  have hne : ¬ b = w.heap.size := by omega
  have hq := fun w1 => broken_any x w1 hx.i64
  rw [hw] at hq
  have HB : Hid _ := hb
  obtain ⟨hx1, hx2⟩ := hx
  go_enter Try.func46, Try.ntmps46
  go_wp2_with (go_at_call 68; refine (hq _).mono ?_; rintro e w5 ⟨rfl, e5⟩; rw [e5]; clear e5 w5)
  go_loopw [3, 4] (fun u v w' => ∃ i : Nat, u = .int .i64 ((fct i : Int) * 10000) ∧ v = .int .i64 (((i : Int) + 1) * 10000) ∧ i ≤ 17 ∧ (i : Int) * 10000 ≤ x ∧ Below w.heap.size w w' ∧ Own w' w.heap.size #[.int .i64 0, .int .i64 0, .string ⟨#[]⟩, .bool false, .int .i64 0]) (fun _ v _ => 20 - (intOf v / 10000).toNat)
  case atStart => exact ⟨0, rfl, rfl, by omega, by omega, by with_reducible (repeat' first | assumption | exact Below.refl _ _ | refine Below.drew ?_ | refine bdrewN ?_ _ | refine Below.setCell ?_ (by first | exact Nat.le_refl _ | (simp; done) | (simp; omega) | omega) _ | refine Below.alloc ?_ (by first | exact Nat.le_refl _ | (simp; done) | (simp; omega) | omega) _), by with_reducible (repeat' first | assumption | refine Own.drew ?_ | refine Own.drewN ?_ _ | (refine Own.at ?_; first | rfl | (simp; done)) | refine Own.past ?_ _)⟩
  case round =>
    obtain ⟨i, rfl, rfl, hi, hix, hB3, o3⟩ := hrel
    have z3 := hB3.size
    have c0 := o3.cell
    have f0 := o3.fro
    have l0 := o3.lt
    have y0 := (HB.out.keep hB3).at (i := 0) (x := x) rfl
    have hf := fct_le i hi
    have hfp := fct_pos i
    by_cases hle : ((i : Int) + 1) * 10000 ≤ x
    · have hs : fct (i + 1) = fct i * (i + 1) := rfl
      have e1 : (fct i : Int) * (((i : Int) + 1) * 10000) = (fct (i + 1) : Int) * 10000 := by rw [hs, Int.natCast_mul, ← Int.mul_assoc]; rfl
      by_cases h17 : i + 1 ≤ 17
      · have hf2 := fct_le (i + 1) h17
        have hml := fun w1 => mul_ex (fct i : Int) (((i : Int) + 1) * 10000) w1 (by omega) (by omega) (by omega) (by omega) (by rw [e1]; omega)
        rw [e1] at hml
        have hw1 : wrap64 (((i : Int) + 1) * 10000 + 10000) = ((i : Int) + 1) * 10000 + 10000 := by unfold wrap64; omega
        have e2 : ((i : Int) + 1) * 10000 + 10000 = (((i + 1 : Nat) : Int) + 1) * 10000 := by omega
        clear hs e1 hf hfp hf2
        obtain ⟨F2, hF2⟩ : ∃ F2 : Int, (fct (i + 1) : Int) = F2 := ⟨_, rfl⟩
        obtain ⟨F1, hF1⟩ : ∃ F1 : Int, (fct i : Int) = F1 := ⟨_, rfl⟩
        rw [hF2, hF1] at hml
        rw [hF1]
        have HF2 : Hid _ := hF2
        clear hF1 hF2
        go_wp2_with (go_at_call 63; refine (hml _).mono ?_; rintro e wa ⟨rfl, hbwa⟩; have hBwa : Below w.heap.size w wa := bup (by with_reducible (repeat' first | assumption | exact Below.refl _ _ | refine Below.drew ?_ | refine bdrewN ?_ _ | refine Below.setCell ?_ (by first | exact Nat.le_refl _ | (simp; done) | (simp; omega) | omega) _ | refine Below.alloc ?_ (by first | exact Nat.le_refl _ | (simp; done) | (simp; omega) | omega) _)) hbwa; have zwa := hBwa.size; have o0wa : Own wa (w.heap.size) #[.int .i64 0, .int .i64 0, .string ⟨#[]⟩, .bool false, .int .i64 0] := Own.keep (by with_reducible (repeat' first | assumption | refine Own.drew ?_ | refine Own.drewN ?_ _ | (refine Own.at ?_; first | rfl | (simp; done)) | refine Own.past ?_ _)) hbwa; have c0 := o0wa.cell; have f0 := o0wa.fro; have l0 := o0wa.lt)
        exact ⟨⟨i + 1, by rw [HF2.out], congrArg (Value.int IntKind.i64) (by omega), h17, by omega, by with_reducible (repeat' first | assumption | exact Below.refl _ _ | refine Below.drew ?_ | refine bdrewN ?_ _ | refine Below.setCell ?_ (by first | exact Nat.le_refl _ | (simp; done) | (simp; omega) | omega) _ | refine Below.alloc ?_ (by first | exact Nat.le_refl _ | (simp; done) | (simp; omega) | omega) _), by with_reducible (repeat' first | assumption | refine Own.drew ?_ | refine Own.drewN ?_ _ | (refine Own.at ?_; first | rfl | (simp; done)) | refine Own.past ?_ _)⟩, by simp [intOf]; omega⟩
      · have hi17 : i = 17 := by omega
        subst hi17
        have hml := fun w1 => mul_exb (fct 17 : Int) (((17 : Nat) : Int) + 1) w1
        have hml2 := fun w1 => mul_exb (fct 17 : Int) ((((17 : Nat) : Int) + 1) * 10000) w1 (by decide) (by decide) (by decide) (by decide) (by decide)
        have hgt : ¬ x / 10000 ≤ 17 := by omega
        clear hml hs e1 hf hfp
        go_wp2_with (first | (go_at_call 63; refine (hml2 _).mono ?_; rintro e wa ⟨rfl, hbwa⟩; have hBwa : Below w.heap.size w wa := bup (by with_reducible (repeat' first | assumption | exact Below.refl _ _ | refine Below.drew ?_ | refine bdrewN ?_ _ | refine Below.setCell ?_ (by first | exact Nat.le_refl _ | (simp; done) | (simp; omega) | omega) _ | refine Below.alloc ?_ (by first | exact Nat.le_refl _ | (simp; done) | (simp; omega) | omega) _)) hbwa; have zwa := hBwa.size; have o0wa : Own wa (w.heap.size) #[.int .i64 0, .int .i64 0, .string ⟨#[]⟩, .bool false, .int .i64 0] := Own.keep (by with_reducible (repeat' first | assumption | refine Own.drew ?_ | refine Own.drewN ?_ _ | (refine Own.at ?_; first | rfl | (simp; done)) | refine Own.past ?_ _)) hbwa; have c0 := o0wa.cell; have f0 := o0wa.fro; have l0 := o0wa.lt) | (go_at_call 23; refine (err_ok _ _ (by decide) (by decide)).mono ?_; rintro e wb ⟨rfl, hbwb⟩; have hBwb : Below w.heap.size w wb := bup (by with_reducible (repeat' first | assumption | exact Below.refl _ _ | refine Below.drew ?_ | refine bdrewN ?_ _ | refine Below.setCell ?_ (by first | exact Nat.le_refl _ | (simp; done) | (simp; omega) | omega) _ | refine Below.alloc ?_ (by first | exact Nat.le_refl _ | (simp; done) | (simp; omega) | omega) _)) hbwb; have zwb := hBwb.size; have o0wb : Own wb (w.heap.size) #[.int .i64 0, .int .i64 0, .string ⟨#[]⟩, .bool false, .int .i64 0] := Own.keep (by with_reducible (repeat' first | assumption | refine Own.drew ?_ | refine Own.drewN ?_ _ | (refine Own.at ?_; first | rfl | (simp; done)) | refine Own.past ?_ _)) hbwb; have c0 := o0wb.cell; have f0 := o0wb.fro; have l0 := o0wb.lt))
        exact bodyPost_ret (v := (.agg #[.int .i64 (4), .int .i64 (0), .string ⟨#[]⟩, .bool false, .int .i64 (2)])) (by simp [results, Try.results46, go_sem, c0, f0, l0]) rfl ⟨by unfold factV; rw [if_neg (by omega)], by with_reducible (repeat' first | assumption | exact Below.refl _ _ | refine Below.drew ?_ | refine bdrewN ?_ _ | refine Below.setCell ?_ (by first | exact Nat.le_refl _ | (simp; done) | (simp; omega) | omega) _ | refine Below.alloc ?_ (by first | exact Nat.le_refl _ | (simp; done) | (simp; omega) | omega) _)⟩
    · have hdx : x / 10000 = (i : Int) := by omega
      have hin : In ((fct i : Int) * 10000) := ⟨by omega, by omega⟩
      go_wp2_with (go_at_call 54; refine (num_t _ _ hin.i64 (by have := hin.1; omega)).mono ?_; rintro e wa ⟨rfl, hbwa⟩; have hBwa : Below w.heap.size w wa := bup (by with_reducible (repeat' first | assumption | exact Below.refl _ _ | refine Below.drew ?_ | refine bdrewN ?_ _ | refine Below.setCell ?_ (by first | exact Nat.le_refl _ | (simp; done) | (simp; omega) | omega) _ | refine Below.alloc ?_ (by first | exact Nat.le_refl _ | (simp; done) | (simp; omega) | omega) _)) hbwa; have zwa := hBwa.size; have o0wa : Own wa (w.heap.size) #[.int .i64 0, .int .i64 0, .string ⟨#[]⟩, .bool false, .int .i64 0] := Own.keep (by with_reducible (repeat' first | assumption | refine Own.drew ?_ | refine Own.drewN ?_ _ | (refine Own.at ?_; first | rfl | (simp; done)) | refine Own.past ?_ _)) hbwa; have c0 := o0wa.cell; have f0 := o0wa.fro; have l0 := o0wa.lt)
      exact bodyPost_ret (v := (.agg #[.int .i64 (1), .int .i64 ((fct i : Int) * 10000), .string ⟨#[]⟩, .bool false, .int .i64 (0)])) (by simp [results, Try.results46, go_sem, c0, f0, l0]) rfl ⟨by unfold factV; rw [hdx, if_pos (by omega), show ((i : Int)).toNat = i by omega], by with_reducible (repeat' first | assumption | exact Below.refl _ _ | refine Below.drew ?_ | refine bdrewN ?_ _ | refine Below.setCell ?_ (by first | exact Nat.le_refl _ | (simp; done) | (simp; omega) | omega) _ | refine Below.alloc ?_ (by first | exact Nat.le_refl _ | (simp; done) | (simp; omega) | omega) _)⟩
theorem trunc2_no (x y : Int) (b : Nat) (w : World) (hb : NB w b [x, y]) (hy : In y) (hw : wholeOk y = false) : Calls Try.prog 36 #[.slice (some ⟨b, 0, none⟩) 2 2] w fun e w' => e = .returned (.agg #[.int .i64 (4), .int .i64 (0), .string ⟨#[]⟩, .bool false, .int .i64 (8)]) ∧ Below w.heap.size w w' := by
  have hlt := hb.lt
  have hp := fun w1 (h : NB w1 b [x, y]) => places_2 x y b w1 h hy.i64
  rw [hw] at hp
  generalize plc y = p at *
  go_enter Try.func36, Try.ntmps36
  go_wp2_with (first | (go_at_call 59; refine (hp _ (hb.keep (bal _ _))).mono ?_; rintro e w5 ⟨rfl, e5⟩; rw [e5]; clear e5 w5) | (go_at_call 23; refine (err_ok _ _ (by decide) (by decide)).mono ?_; rintro e wa ⟨rfl, hbwa⟩; have hBwa : Below w.heap.size w wa := bup (by with_reducible (repeat' first | assumption | exact Below.refl _ _ | refine Below.drew ?_ | refine bdrewN ?_ _ | refine Below.setCell ?_ (by first | exact Nat.le_refl _ | (simp; done) | (simp; omega) | omega) _ | refine Below.alloc ?_ (by first | exact Nat.le_refl _ | (simp; done) | (simp; omega) | omega) _)) hbwa; have zwa := hBwa.size; have o0wa : Own wa (w.heap.size) #[.int .i64 0, .int .i64 0, .string ⟨#[]⟩, .bool false, .int .i64 0] := Own.keep (by with_reducible (repeat' first | assumption | refine Own.drew ?_ | refine Own.drewN ?_ _ | (refine Own.at ?_; first | rfl | (simp; done)) | refine Own.past ?_ _)) hbwa; have c0 := o0wa.cell; have f0 := o0wa.fro; have l0 := o0wa.lt))
  exact bodyPost_ret (v := (.agg #[.int .i64 (4), .int .i64 (0), .string ⟨#[]⟩, .bool false, .int .i64 (8)])) (by simp [results, Try.results36, go_sem, c0, f0, l0]) rfl ⟨rfl, by with_reducible (repeat' first | assumption | exact Below.refl _ _ | refine Below.drew ?_ | refine bdrewN ?_ _ | refine Below.setCell ?_ (by first | exact Nat.le_refl _ | (simp; done) | (simp; omega) | omega) _ | refine Below.alloc ?_ (by first | exact Nat.le_refl _ | (simp; done) | (simp; omega) | omega) _)⟩
theorem trunc2_hi (x y : Int) (b : Nat) (w : World) (hb : NB w b [x, y]) (hx : In x) (hy : In y) (hw : wholeOk y = true) (h3 : 3 < plc y) : Calls Try.prog 36 #[.slice (some ⟨b, 0, none⟩) 2 2] w fun e w' => e = .returned (.agg #[.int .i64 (1), .int .i64 (x), .string ⟨#[]⟩, .bool false, .int .i64 (0)]) ∧ Below w.heap.size w w' := by
  have x0 := hb.at (i := 0) (x := x) rfl
  have hlt := hb.lt
  have hp := fun w1 (h : NB w1 b [x, y]) => places_2 x y b w1 h hy.i64
  rw [hw] at hp
  generalize plc y = p at *
  go_enter Try.func36, Try.ntmps36
  go_wp2_with (first | (go_at_call 59; refine (hp _ (hb.keep (bal _ _))).mono ?_; rintro e w5 ⟨rfl, e5⟩; rw [e5]; clear e5 w5) | (go_at_call 54; refine (num_t _ _ hx.i64 (by have := hx.1; omega)).mono ?_; rintro e wa ⟨rfl, hbwa⟩; have hBwa : Below w.heap.size w wa := bup (by with_reducible (repeat' first | assumption | exact Below.refl _ _ | refine Below.drew ?_ | refine bdrewN ?_ _ | refine Below.setCell ?_ (by first | exact Nat.le_refl _ | (simp; done) | (simp; omega) | omega) _ | refine Below.alloc ?_ (by first | exact Nat.le_refl _ | (simp; done) | (simp; omega) | omega) _)) hbwa; have zwa := hBwa.size; have o0wa : Own wa (w.heap.size) #[.int .i64 0, .int .i64 0, .string ⟨#[]⟩, .bool false, .int .i64 0] := Own.keep (by with_reducible (repeat' first | assumption | refine Own.drew ?_ | refine Own.drewN ?_ _ | (refine Own.at ?_; first | rfl | (simp; done)) | refine Own.past ?_ _)) hbwa; have c0 := o0wa.cell; have f0 := o0wa.fro; have l0 := o0wa.lt))
  exact bodyPost_ret (v := (.agg #[.int .i64 (1), .int .i64 (x), .string ⟨#[]⟩, .bool false, .int .i64 (0)])) (by simp [results, Try.results36, go_sem, c0, f0, l0]) rfl ⟨rfl, by with_reducible (repeat' first | assumption | exact Below.refl _ _ | refine Below.drew ?_ | refine bdrewN ?_ _ | refine Below.setCell ?_ (by first | exact Nat.le_refl _ | (simp; done) | (simp; omega) | omega) _ | refine Below.alloc ?_ (by first | exact Nat.le_refl _ | (simp; done) | (simp; omega) | omega) _)⟩
theorem trunc2_lo (x y : Int) (b : Nat) (w : World) (hb : NB w b [x, y]) (hy : In y) (hw : wholeOk y = true) (h3 : plc y ≤ -15) : Calls Try.prog 36 #[.slice (some ⟨b, 0, none⟩) 2 2] w fun e w' => e = .returned (.agg #[.int .i64 (1), .int .i64 (0), .string ⟨#[]⟩, .bool false, .int .i64 (0)]) ∧ Below w.heap.size w w' := by
  have hlt := hb.lt
  have hp := fun w1 (h : NB w1 b [x, y]) => places_2 x y b w1 h hy.i64
  rw [hw] at hp
  generalize plc y = p at *
  go_enter Try.func36, Try.ntmps36
  go_wp2_with (first | (go_at_call 59; refine (hp _ (hb.keep (bal _ _))).mono ?_; rintro e w5 ⟨rfl, e5⟩; rw [e5]; clear e5 w5) | (go_at_call 54; refine (num_t _ _ in0.i64 (by decide)).mono ?_; rintro e wa ⟨rfl, hbwa⟩; have hBwa : Below w.heap.size w wa := bup (by with_reducible (repeat' first | assumption | exact Below.refl _ _ | refine Below.drew ?_ | refine bdrewN ?_ _ | refine Below.setCell ?_ (by first | exact Nat.le_refl _ | (simp; done) | (simp; omega) | omega) _ | refine Below.alloc ?_ (by first | exact Nat.le_refl _ | (simp; done) | (simp; omega) | omega) _)) hbwa; have zwa := hBwa.size; have o0wa : Own wa (w.heap.size) #[.int .i64 0, .int .i64 0, .string ⟨#[]⟩, .bool false, .int .i64 0] := Own.keep (by with_reducible (repeat' first | assumption | refine Own.drew ?_ | refine Own.drewN ?_ _ | (refine Own.at ?_; first | rfl | (simp; done)) | refine Own.past ?_ _)) hbwa; have c0 := o0wa.cell; have f0 := o0wa.fro; have l0 := o0wa.lt))
  exact bodyPost_ret (v := (.agg #[.int .i64 (1), .int .i64 (0), .string ⟨#[]⟩, .bool false, .int .i64 (0)])) (by simp [results, Try.results36, go_sem, c0, f0, l0]) rfl ⟨rfl, by with_reducible (repeat' first | assumption | exact Below.refl _ _ | refine Below.drew ?_ | refine bdrewN ?_ _ | refine Below.setCell ?_ (by first | exact Nat.le_refl _ | (simp; done) | (simp; omega) | omega) _ | refine Below.alloc ?_ (by first | exact Nat.le_refl _ | (simp; done) | (simp; omega) | omega) _)⟩
theorem tenp_le : ∀ i, i ≤ 18 → 10 ^ i ≤ 1000000000000000000 := by decide
theorem tenp (k : Nat) (hk : k ≤ 18) : ∃ P : Int, ((10 ^ k : Nat) : Int) = P ∧ 0 < P ∧ P ≤ 1000000000000000000 := by
  have h := tenp_le k hk
  have h2 : 0 < 10 ^ k := Nat.pow_pos (by decide)
  generalize 10 ^ k = n at h h2 ⊢
  exact ⟨(n : Int), rfl, by omega, by omega⟩
theorem tenp_s (i : Nat) (hk : i + 1 ≤ 18) : ∃ p0 p1 : Int, ((10 ^ i : Nat) : Int) = p0 ∧ ((10 ^ (i + 1) : Nat) : Int) = p1 ∧ wrap64 (p0 * 10) = p1 := by
  obtain ⟨P, hP, h1, h2⟩ := tenp (i + 1) hk
  refine ⟨_, P, rfl, hP, ?_⟩
  have e : ((10 ^ i : Nat) : Int) * 10 = P := by rw [← hP, Nat.pow_succ, Int.natCast_mul]; rfl
  rw [e]; unfold wrap64; omega
set_option maxRecDepth 100000 in
set_option maxHeartbeats 1000000 in
theorem trunc2_in (x y : Int) (k : Nat) (b : Nat) (w : World) (hb : NB w b [x, y]) (hx : In x) (hy : In y) (hw : wholeOk y = true) (h3 : plc y = 4 - (k : Int)) (hk1 : 1 ≤ k) (hk2 : k ≤ 18) : Calls Try.prog 36 #[.slice (some ⟨b, 0, none⟩) 2 2] w fun e w' => e = .returned (.agg #[.int .i64 (1), .int .i64 (x - x.tmod ((10 ^ k : Nat) : Int)), .string ⟨#[]⟩, .bool false, .int .i64 (0)]) ∧ Below w.heap.size w w' := by
  have mixed : Try.prog.follows .mixedOrders = true := by kernel_rfl
  have x0 := hb.at (i := 0) (x := x) rfl
  have hlt := hb.lt
  have hne : ¬ b = w.heap.size := by omega
  have hp := fun w1 (h : NB w1 b [x, y]) => places_2 x y b w1 h hy.i64
  rw [hw, h3] at hp
  have hd1 : ¬ (3 : Int) < 4 - (k : Int) := by omega
  have hd2 : ¬ 4 - (k : Int) ≤ -15 := by omega
  have wk1 : ∀ a : Int, 0 ≤ a → a ≤ 100 → wrap64 a = a := fun a q1 q2 => by clear hd1 hd2; unfold wrap64; omega
  have hw7 : wrap64 (k : Int) = (k : Int) := wk1 _ (by omega) (by omega)
  have hw6 : wrap64 (4 - (4 - (k : Int))) = (k : Int) := by rw [show 4 - (4 - (k : Int)) = (k : Int) from by clear hw7; omega]; exact hw7
  have HW6 : Hid _ := hw6
  have HW7 : Hid _ := hw7
  clear hw6 hw7 wk1
  obtain ⟨P, hP, h1, h2⟩ := tenp k hk2
  rw [hP]
  have HP : Hid _ := hP
  clear hP h3
  have hz' : ¬ P = 0 := by omega
  have hz : (P == 0) = false := by simp; exact hz'
  have hti := trunc_in hx h1
  have hmb := tmod_bd x P hz'
  revert hti hmb
  generalize hr : x.tmod P = r
  have HR : Hid _ := hr
  intro hti hmb
  have hrl : -1000000000000000000 ≤ r := by clear hti hr hp hx hy; omega
  have hrh : r ≤ 1000000000000000000 := by clear hti hr hp hx hy; omega
  clear hmb
  have hn := fun w1 => num_t (x - r) w1 hti.i64 (by have := hti.1; omega)
  generalize hv : x - r = v at hti hn ⊢
  have HV : Hid _ := hv
  obtain ⟨a1, a2⟩ := hti
  have hw1 : wrap64 r = r := by clear hv hr hp hn hx hy; unfold wrap64; omega
  have hw2 : wrap64 v = v := by clear hv hr hp hn hx hy hw1; unfold wrap64; omega
  have hw3 : IntKind.i64.wrap r = r := by rw [IntKind.wrap_i64]; unfold wrap64 at hw1; exact hw1
  have hw4 : IntKind.i64.wrap v = v := by rw [IntKind.wrap_i64]; unfold wrap64 at hw2; exact hw2
  clear h1 h2 hrl hrh a1 a2
  have H1 : Hid _ := hw1
  have H2 : Hid _ := hw2
  have H3 : Hid _ := hw3
  have H4 : Hid _ := hw4
  clear hw1 hw2 hw3 hw4
  have hw6 := HW6.out
  have hw7 := HW7.out
  go_enter Try.func36, Try.ntmps36
  go_wp2_with (go_at_call 59; refine (hp _ (hb.keep (bal _ _))).mono ?_; rintro e w5 ⟨rfl, e5⟩; rw [e5]; clear e5 w5)
  clear hw6 hw7 HW6 HW7 hr hv
  go_loopw [5, 28] (fun u v w' => ∃ i : Nat, v = .int .i64 i ∧ i ≤ k ∧ u = .int .i64 ((10 ^ i : Nat) : Int) ∧ w' = w.alloc (.cells #[.int .i64 0, .int .i64 0, .string ⟨#[]⟩, .bool false, .int .i64 0] 31)) (fun _ v _ => k - (intOf v).toNat)
  case atStart => exact ⟨0, rfl, by omega, rfl, rfl⟩
  case round =>
    obtain ⟨i, rfl, hi, rfl, rfl⟩ := hrel
    by_cases hik : i < k
    · have hik' : (i : Int) < (k : Int) := by omega
      have hms : k - (i + 1) < k - i := by omega
      obtain ⟨p0, p1, hp0, hp1, hwi⟩ := tenp_s i (by omega)
      rw [hp0]
      have HP1 : Hid _ := hp1
      have HW : Hid _ := hwi
      clear hp1 hp0 hwi
      go_wp2
      exact ⟨⟨i + 1, by go_num, by omega, by rw [HP1.out, HW.out], trivial⟩, by simp [intOf]; omega⟩
    · have hik2 : i = k := by omega
      subst hik2
      have hik' : ¬ (i : Int) < (i : Int) := by omega
      rw [HP.out]
      have hw1 := H1.out
      have hw2 := H2.out
      have hw3 := H3.out
      have hw4 := H4.out
      have hr := HR.out
      have hv := HV.out
      go_wp2
      go_region_held3 (fun w' => w'.cell? ⟨b, 0, none⟩ = some (.int .i64 x)) ((repeat' apply And.intro) <;> (first | (go_keep; done) | (go_simp; done))) ((go_at_call 54; refine (hn _).mono ?_; rintro e wa ⟨rfl, hbwa⟩; have hBwa : Below w.heap.size w wa := bup (by with_reducible (repeat' first | assumption | exact Below.refl _ _ | refine Below.drew ?_ | refine bdrewN ?_ _ | refine Below.setCell ?_ (by first | exact Nat.le_refl _ | (simp; done) | (simp; omega) | omega) _ | refine Below.alloc ?_ (by first | exact Nat.le_refl _ | (simp; done) | (simp; omega) | omega) _)) hbwa; have zwa := hBwa.size; have o0wa : Own wa (w.heap.size) #[.int .i64 0, .int .i64 0, .string ⟨#[]⟩, .bool false, .int .i64 0] := Own.keep (by with_reducible (repeat' first | assumption | refine Own.drew ?_ | refine Own.drewN ?_ _ | (refine Own.at ?_; first | rfl | (simp; done)) | refine Own.past ?_ _)) hbwa; have c0 := o0wa.cell; have f0 := o0wa.fro; have l0 := o0wa.lt; have y0 := (hb.keep hBwa).at (i := 0) (x := x) rfl))
      go_wp2
      exact bodyPost_ret (v := (.agg #[.int .i64 (1), .int .i64 (v), .string ⟨#[]⟩, .bool false, .int .i64 (0)])) (by simp [results, Try.results36, go_sem, c0, f0, l0]) rfl ⟨rfl, by with_reducible (repeat' first | assumption | exact Below.refl _ _ | refine Below.drew ?_ | refine bdrewN ?_ _ | refine Below.setCell ?_ (by first | exact Nat.le_refl _ | (simp; done) | (simp; omega) | omega) _ | refine Below.alloc ?_ (by first | exact Nat.le_refl _ | (simp; done) | (simp; omega) | omega) _)⟩
end Go.Proofs.Ytfpbcokfianjaaa
