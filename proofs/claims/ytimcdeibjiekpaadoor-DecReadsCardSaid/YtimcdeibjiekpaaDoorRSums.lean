/- Contracts of the document's answers May, Neg, Add, Sub (package orielref01) in the same words as those of package dec. The arguments are int64. -/
import Derived.Test.YtimcdeibjiekpaaDoorSums
namespace Go.Proofs.YtimcdeibjiekpaaDoor
open Go.RowKit Go.Shelf
set_option linter.unusedVariables false
theorem rmayAny (x : Int) (w : World) (hx : I64 x) : Calls Tryd.prog 17 #[.int .i64 x] w fun e w' => e = .returned (.bool (mayOk x)) ∧ w' = w := by
  obtain ⟨hx1, hx2⟩ := hx
  by_cases hB : x = -9223372036854775808
  · rw [mayOk_f hB]
    go_enter Tryd.func17, Tryd.ntmps17
    go_wp2
    go_ret
    exact ⟨rfl, rfl⟩
  · have hb3 : -9223372036854775807 ≤ x := by omega
    rw [mayOk_t hb3]
    go_enter Tryd.func17, Tryd.ntmps17
    go_wp2
    go_ret
    exact ⟨rfl, rfl⟩
theorem rneg_any (x : Int) (w : World) (hx : I64 x) : Calls Tryd.prog 15 #[.int .i64 x] w fun e w' => e = .returned (.tuple #[.int .i64 (okV (mayOk x) (-x)), .int .i64 (okC (mayOk x))]) ∧ w' = w := by
  obtain ⟨hx1, hx2⟩ := hx
  by_cases hB : x = -9223372036854775808
  · rw [okV_f (mayOk_f hB), okC_f (mayOk_f hB)]
    go_enter Tryd.func15, Tryd.ntmps15
    go_wp2
    go_ret2
    exact ⟨rfl, rfl⟩
  · have hb3 : -9223372036854775807 ≤ x := by omega
    rw [okV_t (mayOk_t hb3), okC_t (mayOk_t hb3)]
    go_enter Tryd.func15, Tryd.ntmps15
    go_wp2
    go_ret2
    exact ⟨rfl, rfl⟩
theorem radd_aMin (a b : Int) (w : World) (ha : a = -9223372036854775808) : Calls Tryd.prog 10 #[.int .i64 a, .int .i64 b] w fun e w' => e = .returned (.tuple #[.int .i64 0, .int .i64 2]) ∧ w' = w := by
  go_enter Tryd.func10, Tryd.ntmps10
  go_wp2
  go_ret2
  exact ⟨ret2 (by omega) rfl, rfl⟩
theorem radd_bMin (a b : Int) (w : World) (ha : -9223372036854775807 ≤ a) (hb : b = -9223372036854775808) : Calls Tryd.prog 10 #[.int .i64 a, .int .i64 b] w fun e w' => e = .returned (.tuple #[.int .i64 0, .int .i64 2]) ∧ w' = w := by
  go_enter Tryd.func10, Tryd.ntmps10
  go_wp2
  go_ret2
  exact ⟨ret2 (by omega) rfl, rfl⟩
theorem radd_pp (a b : Int) (w : World) (ha1 : -9223372036854775807 ≤ a) (ha2 : a ≤ 9223372036854775807) (hb1 : -9223372036854775807 ≤ b) (hb2 : b ≤ 9223372036854775807)(ha0 : 0 ≤ a) (hb0 : 0 ≤ b)(hs : a + b ≤ 9223372036854775807) : Calls Tryd.prog 10 #[.int .i64 a, .int .i64 b] w fun e w' => e = .returned (.tuple #[.int .i64 (a + b), .int .i64 0]) ∧ w' = w := by
  go_enter Tryd.func10, Tryd.ntmps10
  go_wp2
  go_ret2
  exact ⟨ret2 (by omega) rfl, rfl⟩
theorem radd_pp_bad (a b : Int) (w : World) (ha1 : -9223372036854775807 ≤ a) (ha2 : a ≤ 9223372036854775807) (hb1 : -9223372036854775807 ≤ b) (hb2 : b ≤ 9223372036854775807)(ha0 : 0 ≤ a) (hb0 : 0 ≤ b)(hs : 9223372036854775807 < a + b) : Calls Tryd.prog 10 #[.int .i64 a, .int .i64 b] w fun e w' => e = .returned (.tuple #[.int .i64 0, .int .i64 2]) ∧ w' = w := by
  go_enter Tryd.func10, Tryd.ntmps10
  go_wp2
  go_ret2
  exact ⟨ret2 (by omega) rfl, rfl⟩
theorem radd_nn (a b : Int) (w : World) (ha1 : -9223372036854775807 ≤ a) (ha2 : a ≤ 9223372036854775807) (hb1 : -9223372036854775807 ≤ b) (hb2 : b ≤ 9223372036854775807)(ha0 : a < 0) (hb0 : b < 0)(hs : -9223372036854775807 ≤ a + b) : Calls Tryd.prog 10 #[.int .i64 a, .int .i64 b] w fun e w' => e = .returned (.tuple #[.int .i64 (a + b), .int .i64 0]) ∧ w' = w := by
  go_enter Tryd.func10, Tryd.ntmps10
  go_wp2
  go_ret2
  exact ⟨ret2 (by omega) rfl, rfl⟩
theorem radd_nn_bad (a b : Int) (w : World) (ha1 : -9223372036854775807 ≤ a) (ha2 : a ≤ 9223372036854775807) (hb1 : -9223372036854775807 ≤ b) (hb2 : b ≤ 9223372036854775807)(ha0 : a < 0) (hb0 : b < 0)(hs : a + b < -9223372036854775807) : Calls Tryd.prog 10 #[.int .i64 a, .int .i64 b] w fun e w' => e = .returned (.tuple #[.int .i64 0, .int .i64 2]) ∧ w' = w := by
  go_enter Tryd.func10, Tryd.ntmps10
  go_wp2
  go_ret2
  exact ⟨ret2 (by omega) rfl, rfl⟩
theorem radd_np0 (a b : Int) (w : World) (ha1 : -9223372036854775807 ≤ a) (ha2 : a ≤ 9223372036854775807) (hb1 : -9223372036854775807 ≤ b) (hb2 : b ≤ 9223372036854775807)(ha0 : a < 0) (hb0 : 0 ≤ b)(hs : a + b ≤ 0) : Calls Tryd.prog 10 #[.int .i64 a, .int .i64 b] w fun e w' => e = .returned (.tuple #[.int .i64 (a + b), .int .i64 0]) ∧ w' = w := by
  go_enter Tryd.func10, Tryd.ntmps10
  go_wp2
  go_ret2
  exact ⟨ret2 (by omega) rfl, rfl⟩
theorem radd_np1 (a b : Int) (w : World) (ha1 : -9223372036854775807 ≤ a) (ha2 : a ≤ 9223372036854775807) (hb1 : -9223372036854775807 ≤ b) (hb2 : b ≤ 9223372036854775807)(ha0 : a < 0) (hb0 : 0 ≤ b)(hs : 0 < a + b) : Calls Tryd.prog 10 #[.int .i64 a, .int .i64 b] w fun e w' => e = .returned (.tuple #[.int .i64 (a + b), .int .i64 0]) ∧ w' = w := by
  go_enter Tryd.func10, Tryd.ntmps10
  go_wp2
  go_ret2
  exact ⟨ret2 (by omega) rfl, rfl⟩
theorem radd_pn0 (a b : Int) (w : World) (ha1 : -9223372036854775807 ≤ a) (ha2 : a ≤ 9223372036854775807) (hb1 : -9223372036854775807 ≤ b) (hb2 : b ≤ 9223372036854775807)(ha0 : 0 ≤ a) (hb0 : b < 0)(hs : a + b < 0) : Calls Tryd.prog 10 #[.int .i64 a, .int .i64 b] w fun e w' => e = .returned (.tuple #[.int .i64 (a + b), .int .i64 0]) ∧ w' = w := by
  go_enter Tryd.func10, Tryd.ntmps10
  go_wp2
  go_ret2
  exact ⟨ret2 (by omega) rfl, rfl⟩
theorem radd_pn1 (a b : Int) (w : World) (ha1 : -9223372036854775807 ≤ a) (ha2 : a ≤ 9223372036854775807) (hb1 : -9223372036854775807 ≤ b) (hb2 : b ≤ 9223372036854775807)(ha0 : 0 ≤ a) (hb0 : b < 0)(hs : 0 ≤ a + b) : Calls Tryd.prog 10 #[.int .i64 a, .int .i64 b] w fun e w' => e = .returned (.tuple #[.int .i64 (a + b), .int .i64 0]) ∧ w' = w := by
  go_enter Tryd.func10, Tryd.ntmps10
  go_wp2
  go_ret2
  exact ⟨ret2 (by omega) rfl, rfl⟩
/-- The document's Add, of any two int64. -/
theorem radd_any (a b : Int) (w : World) (ha : I64 a) (hb : I64 b) : Calls Tryd.prog 10 #[.int .i64 a, .int .i64 b] w fun e w' => e = .returned (.tuple #[.int .i64 (okV (addOk a b) (a + b)), .int .i64 (okC (addOk a b))]) ∧ w' = w := by
  obtain ⟨ha1, ha2⟩ := ha
  obtain ⟨hb1, hb2⟩ := hb
  by_cases hbad : a = -9223372036854775808 ∨ b = -9223372036854775808 ∨ a + b < -9223372036854775807 ∨ 9223372036854775807 < a + b
  · rw [okV_f (addOk_f hbad), okC_f (addOk_f hbad)]
    by_cases hA : a = -9223372036854775808
    · exact radd_aMin a b w hA
    by_cases hB : b = -9223372036854775808
    · exact radd_bMin a b w (by omega) hB
    by_cases hs : 9223372036854775807 < a + b
    · exact radd_pp_bad a b w (by omega) ha2 (by omega) hb2 (by omega) (by omega) hs
    · exact radd_nn_bad a b w (by omega) ha2 (by omega) hb2 (by omega) (by omega) (by omega)
  · have hok := addOk_t (a := a) (b := b) (by omega) (by omega) (by omega) (by omega)
    rw [okV_t hok, okC_t hok]
    by_cases hA : a < 0
    · by_cases hB : b < 0
      · exact radd_nn a b w (by omega) ha2 (by omega) hb2 hA hB (by omega)
      by_cases hs : a + b ≤ 0
      · exact radd_np0 a b w (by omega) ha2 (by omega) hb2 hA (by omega) hs
      · exact radd_np1 a b w (by omega) ha2 (by omega) hb2 hA (by omega) (by omega)
    · by_cases hB : b < 0
      · by_cases hs : a + b < 0
        · exact radd_pn0 a b w (by omega) ha2 (by omega) hb2 (by omega) hB hs
        · exact radd_pn1 a b w (by omega) ha2 (by omega) hb2 (by omega) hB (by omega)
      · exact radd_pp a b w (by omega) ha2 (by omega) hb2 (by omega) (by omega) (by omega)
theorem rsub_any (a b : Int) (w : World) (ha : I64 a) (hb : I64 b) : Calls Tryd.prog 13 #[.int .i64 a, .int .i64 b] w fun e w' => e = .returned (.tuple #[.int .i64 (okV (subOk a b) (a - b)), .int .i64 (okC (subOk a b))]) ∧ w' = w := by
  obtain ⟨ha1, ha2⟩ := ha
  obtain ⟨hb1, hb2⟩ := hb
  by_cases hA : a = -9223372036854775808
  · rw [okV_f (subOk_f (.inl hA)), okC_f (subOk_f (.inl hA))]
    go_enter Tryd.func13, Tryd.ntmps13
    go_wp2
    go_ret2
    exact ⟨rfl, rfl⟩
  have ha3 : -9223372036854775807 ≤ a := by omega
  by_cases hB : b = -9223372036854775808
  · rw [okV_f (subOk_f (.inr (.inl hB))), okC_f (subOk_f (.inr (.inl hB)))]
    go_enter Tryd.func13, Tryd.ntmps13
    go_wp2
    go_ret2
    exact ⟨rfl, rfl⟩
  · have hb3 : -9223372036854775807 ≤ b := by omega
    go_enter Tryd.func13, Tryd.ntmps13
    go_wp2_with (first | (go_at_call 17; refine (rmayAny _ _ ⟨by omega, by omega⟩).mono ?_; rintro e w' ⟨rfl, rfl⟩; rw [mayOk_t (by omega)]) | (go_at_call 10; refine (radd_any a (-b) _ ⟨ha1, ha2⟩ ⟨by omega, by omega⟩).mono ?_; rintro e w' ⟨rfl, rfl⟩))
    go_ret2
    exact ⟨ret2 (by rw [subOk_add ha1 hb3 hb2, Int.sub_eq_add_neg]) (by rw [subOk_add ha1 hb3 hb2]), rfl⟩
end Go.Proofs.YtimcdeibjiekpaaDoor
