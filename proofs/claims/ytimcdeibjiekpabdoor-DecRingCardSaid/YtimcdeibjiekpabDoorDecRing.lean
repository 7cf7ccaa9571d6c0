/- DecRing: of any three int64 sums and products hang not on the order of two, sums of three not on which two are added first where nothing is too great, a number less itself is nought, one time a number is it: the law returns true for every input. The card's own condition: the listed tables of Go's library lie as their initialisers lay them (tied to the program's text). -/
import Derived.Test.YtimcdeibjiekpabDoorMul
import Derived.Test.YtimcdeibjiekpabDoorBase
namespace Go.Proofs.YtimcdeibjiekpabDoor.decRing
open Go.Shelf Go.RowKit Go.ChangeShapes Go.WideShapes Go.ChangeAt
set_option linter.unusedVariables false
theorem addOk_comm (a b : Int) : addOk b a = addOk a b := by unfold addOk; rw [Int.add_comm b a]; congr 1; exact propext ⟨fun h => ⟨h.2.1, h.1, h.2.2⟩, fun h => ⟨h.2.1, h.1, h.2.2⟩⟩
theorem mulQ_comm (a b : Int) : mulQ b a = mulQ a b := by unfold mulQ; rw [Int.mul_comm]
theorem mulOk_comm (a b : Int) : mulOk b a = mulOk a b := by unfold mulOk; rw [mulQ_comm, Bool.and_comm (mayOk b)]
theorem sgn_comm (a b v : Int) : sgn b a v = sgn a b v := by
  unfold sgn
  by_cases h : decide (a < 0) = decide (b < 0)
  · rw [if_pos h, if_pos h.symm]
  · rw [if_neg h, if_neg (fun h' => h h'.symm)]
theorem addOk_iff {a b : Int} (h : addOk a b = true) : a ≠ -9223372036854775808 ∧ b ≠ -9223372036854775808 ∧ -9223372036854775807 ≤ a + b ∧ a + b ≤ 9223372036854775807 := by simpa [addOk] using h
theorem addOk_assoc {a b c : Int} (h1 : addOk a b = true) (h2 : addOk b c = true) : addOk a (b + c) = addOk (a + b) c := by
  obtain ⟨p1, p2, p3, p4⟩ := addOk_iff h1
  obtain ⟨q1, q2, q3, q4⟩ := addOk_iff h2
  unfold addOk
  congr 1
  exact propext ⟨fun h => ⟨by omega, by omega, by omega, by omega⟩, fun h => ⟨by omega, by omega, by omega, by omega⟩⟩
theorem mul_one_q {a : Int} (h1 : -9223372036854775807 ≤ a) (h2 : a ≤ 9223372036854775807) : mulQ a 10000 = sizeV a := by
  have hs := sizeV_range h1 h2
  unfold mulQ
  rw [sizeV_pos (x := 10000) (by decide)]
  have e1 : sizeV a * 10000 / 10000 = sizeV a := by omega
  have e2 : sizeV a * 10000 % 10000 = 0 := by omega
  unfold qr
  rw [e1, e2, if_neg (by omega), if_neg (by omega), Int.add_zero]
theorem mul_one_ok {a : Int} (h1 : -9223372036854775807 ≤ a) (h2 : a ≤ 9223372036854775807) : mulOk a 10000 = true := by
  have hs := sizeV_range h1 h2
  unfold mulOk
  rw [mul_one_q h1 h2, mayOk_t h1, mayOk_t (by decide), decide_eq_true hs.2]; rfl
theorem mul_one_n {a : Int} (h1 : -9223372036854775807 ≤ a) (h2 : a ≤ 9223372036854775807) : sgn a 10000 (mulQ a 10000) = a := by
  rw [mul_one_q h1 h2]
  by_cases h : a < 0
  · rw [sgn_diff (by rw [decide_eq_true h]; decide), sizeV_neg h]; omega
  · rw [sgn_same (by rw [decide_eq_false h]; decide), sizeV_pos (by omega)]
set_option maxRecDepth 10000 in
theorem law_ff_t (a b c : Int) (w : World) (ha : I64 a) (hb : I64 b) (hc : I64 c) (hA : a ≠ -9223372036854775808)(hB : b ≠ -9223372036854775808) (hab : addOk a b = false) (h : Pow w) : Calls Tryd.prog 3 #[.int .i64 a, .int .i64 b, .int .i64 c] w fun e w' => e = .returned (.bool true) ∧ Below w.heap.size w w' := by
  have r1 : ∀ x : Int, okV true x = x := fun _ => rfl
  have r2 : ∀ x : Int, okV false x = 0 := fun _ => rfl
  have r3 : okC true = 0 := rfl
  have r4 : okC false = 2 := rfl
  have hT : I64 10000 := ⟨by decide, by decide⟩
  have c1 := addOk_comm a b
  have c2 : b + a = a + b := Int.add_comm b a
  have c3 := mulOk_comm a b
  have c4 : sgn b a (mulQ b a) = sgn a b (mulQ a b) := by rw [mulQ_comm, sgn_comm]
  have z1 : subOk a a = true := subOk_t (by have := ha.1; omega) (by have := ha.1; omega) (by omega) (by omega)
  have z2 : a - a = 0 := by omega
  have z3 := mul_one_ok (a := a) (by have := ha.1; omega) ha.2
  have z4 := mul_one_n (a := a) (by have := ha.1; omega) ha.2
  have tA : (a == -9223372036854775808) = false := by rw [beq_eq_false_iff_ne]; exact hA
  have b1 : mayOk b = true := mayOk_t (by have := hb.1; omega)
  have b2 : addOk a (-b) = subOk a b := subOk_add ha.1 (by have := hb.1; omega) hb.2
  have b3 : a + -b = a - b := by omega
  have b4 : I64 (-b) := ⟨by have := hb.2; omega, by have := hb.1; omega⟩
  go_enter Tryd.func3, Tryd.ntmps3
  go_wp2_with (first
    | (go_at_call 6; refine (add_any _ _ _ (by assumption) (by assumption)).mono ?_; rintro e w' ⟨rfl, rfl⟩)
    | (go_at_call 11; refine (sub_any _ _ _ (by assumption) (by assumption)).mono ?_; rintro e w' ⟨rfl, rfl⟩)
    | (go_at_call 10; refine (neg_any _ _ (by assumption)).mono ?_; rintro e w' ⟨rfl, rfl⟩)
    | (go_at_call 7; refine (mul_any _ _ _ (by assumption) (by assumption)).mono ?_; rintro e w' ⟨rfl, n, rfl⟩)
    | (go_at_call 9; refine (alike_same _ _ _).mono ?_; rintro e w' ⟨rfl, rfl⟩)
    | (go_at_call 8; refine (known_any _ (h.draws _)).mono ?_; rintro e w1 ⟨rfl, hk⟩))
  go_ret
  exact ⟨rfl, Joins.below_draws _ _ _ |>.trans hk |>.trans (Joins.below_draws _ _ _)⟩
set_option maxRecDepth 10000 in
theorem law_fb (a b c : Int) (w : World) (ha : I64 a) (hb : I64 b) (hc : I64 c) (hA : a ≠ -9223372036854775808)(hB : b = -9223372036854775808) (h : Pow w) : Calls Tryd.prog 3 #[.int .i64 a, .int .i64 b, .int .i64 c] w fun e w' => e = .returned (.bool true) ∧ Below w.heap.size w w' := by
  have r1 : ∀ x : Int, okV true x = x := fun _ => rfl
  have r2 : ∀ x : Int, okV false x = 0 := fun _ => rfl
  have r3 : okC true = 0 := rfl
  have r4 : okC false = 2 := rfl
  have hT : I64 10000 := ⟨by decide, by decide⟩
  have c1 := addOk_comm a b
  have c2 : b + a = a + b := Int.add_comm b a
  have c3 := mulOk_comm a b
  have c4 : sgn b a (mulQ b a) = sgn a b (mulQ a b) := by rw [mulQ_comm, sgn_comm]
  have z1 : subOk a a = true := subOk_t (by have := ha.1; omega) (by have := ha.1; omega) (by omega) (by omega)
  have z2 : a - a = 0 := by omega
  have z3 := mul_one_ok (a := a) (by have := ha.1; omega) ha.2
  have z4 := mul_one_n (a := a) (by have := ha.1; omega) ha.2
  have tA : (a == -9223372036854775808) = false := by rw [beq_eq_false_iff_ne]; exact hA
  have b1 : mayOk b = false := mayOk_f hB
  have hab : addOk a b = false := addOk_f (.inr (.inl hB))
  clear hB
  go_enter Tryd.func3, Tryd.ntmps3
  go_wp2_with (first
    | (go_at_call 6; refine (add_any _ _ _ (by assumption) (by assumption)).mono ?_; rintro e w' ⟨rfl, rfl⟩)
    | (go_at_call 11; refine (sub_any _ _ _ (by assumption) (by assumption)).mono ?_; rintro e w' ⟨rfl, rfl⟩)
    | (go_at_call 10; refine (neg_any _ _ (by assumption)).mono ?_; rintro e w' ⟨rfl, rfl⟩)
    | (go_at_call 7; refine (mul_any _ _ _ (by assumption) (by assumption)).mono ?_; rintro e w' ⟨rfl, n, rfl⟩)
    | (go_at_call 9; refine (alike_same _ _ _).mono ?_; rintro e w' ⟨rfl, rfl⟩)
    | (go_at_call 8; refine (known_any _ (h.draws _)).mono ?_; rintro e w1 ⟨rfl, hk⟩))
  go_ret
  exact ⟨rfl, Joins.below_draws _ _ _ |>.trans hk |>.trans (Joins.below_draws _ _ _)⟩
set_option maxRecDepth 10000 in
theorem law_ma (a b c : Int) (w : World) (ha : I64 a) (hb : I64 b) (hc : I64 c) (hA : a = -9223372036854775808)(hB : b ≠ -9223372036854775808) (h : Pow w) : Calls Tryd.prog 3 #[.int .i64 a, .int .i64 b, .int .i64 c] w fun e w' => e = .returned (.bool true) ∧ Below w.heap.size w w' := by
  have r1 : ∀ x : Int, okV true x = x := fun _ => rfl
  have r2 : ∀ x : Int, okV false x = 0 := fun _ => rfl
  have r3 : okC true = 0 := rfl
  have r4 : okC false = 2 := rfl
  have hT : I64 10000 := ⟨by decide, by decide⟩
  have c1 := addOk_comm a b
  have c2 : b + a = a + b := Int.add_comm b a
  have c3 := mulOk_comm a b
  have c4 : sgn b a (mulQ b a) = sgn a b (mulQ a b) := by rw [mulQ_comm, sgn_comm]
  have z1 : subOk a a = false := subOk_f (.inl hA)
  have z3 : mulOk a 10000 = false := by unfold mulOk; rw [mayOk_f hA]; rfl
  have tA : (a == -9223372036854775808) = true := by rw [hA]; rfl
  have hab : addOk a b = false := addOk_f (.inl hA)
  clear hA
  have b1 : mayOk b = true := mayOk_t (by have := hb.1; omega)
  have b2 : addOk a (-b) = subOk a b := subOk_add ha.1 (by have := hb.1; omega) hb.2
  have b3 : a + -b = a - b := by omega
  have b4 : I64 (-b) := ⟨by have := hb.2; omega, by have := hb.1; omega⟩
  go_enter Tryd.func3, Tryd.ntmps3
  go_wp2_with (first
    | (go_at_call 6; refine (add_any _ _ _ (by assumption) (by assumption)).mono ?_; rintro e w' ⟨rfl, rfl⟩)
    | (go_at_call 11; refine (sub_any _ _ _ (by assumption) (by assumption)).mono ?_; rintro e w' ⟨rfl, rfl⟩)
    | (go_at_call 10; refine (neg_any _ _ (by assumption)).mono ?_; rintro e w' ⟨rfl, rfl⟩)
    | (go_at_call 7; refine (mul_any _ _ _ (by assumption) (by assumption)).mono ?_; rintro e w' ⟨rfl, n, rfl⟩)
    | (go_at_call 9; refine (alike_same _ _ _).mono ?_; rintro e w' ⟨rfl, rfl⟩)
    | (go_at_call 8; refine (known_any _ (h.draws _)).mono ?_; rintro e w1 ⟨rfl, hk⟩))
  go_ret
  exact ⟨rfl, Joins.below_draws _ _ _ |>.trans hk |>.trans (Joins.below_draws _ _ _)⟩
set_option maxRecDepth 10000 in
theorem law_mm (a b c : Int) (w : World) (ha : I64 a) (hb : I64 b) (hc : I64 c) (hA : a = -9223372036854775808)(hB : b = -9223372036854775808) (h : Pow w) : Calls Tryd.prog 3 #[.int .i64 a, .int .i64 b, .int .i64 c] w fun e w' => e = .returned (.bool true) ∧ Below w.heap.size w w' := by
  have r1 : ∀ x : Int, okV true x = x := fun _ => rfl
  have r2 : ∀ x : Int, okV false x = 0 := fun _ => rfl
  have r3 : okC true = 0 := rfl
  have r4 : okC false = 2 := rfl
  have hT : I64 10000 := ⟨by decide, by decide⟩
  have c1 := addOk_comm a b
  have c2 : b + a = a + b := Int.add_comm b a
  have c3 := mulOk_comm a b
  have c4 : sgn b a (mulQ b a) = sgn a b (mulQ a b) := by rw [mulQ_comm, sgn_comm]
  have z1 : subOk a a = false := subOk_f (.inl hA)
  have z3 : mulOk a 10000 = false := by unfold mulOk; rw [mayOk_f hA]; rfl
  have tA : (a == -9223372036854775808) = true := by rw [hA]; rfl
  have hab : addOk a b = false := addOk_f (.inl hA)
  clear hA
  have b1 : mayOk b = false := mayOk_f hB
  clear hB
  go_enter Tryd.func3, Tryd.ntmps3
  go_wp2_with (first
    | (go_at_call 6; refine (add_any _ _ _ (by assumption) (by assumption)).mono ?_; rintro e w' ⟨rfl, rfl⟩)
    | (go_at_call 11; refine (sub_any _ _ _ (by assumption) (by assumption)).mono ?_; rintro e w' ⟨rfl, rfl⟩)
    | (go_at_call 10; refine (neg_any _ _ (by assumption)).mono ?_; rintro e w' ⟨rfl, rfl⟩)
    | (go_at_call 7; refine (mul_any _ _ _ (by assumption) (by assumption)).mono ?_; rintro e w' ⟨rfl, n, rfl⟩)
    | (go_at_call 9; refine (alike_same _ _ _).mono ?_; rintro e w' ⟨rfl, rfl⟩)
    | (go_at_call 8; refine (known_any _ (h.draws _)).mono ?_; rintro e w1 ⟨rfl, hk⟩))
  go_ret
  exact ⟨rfl, Joins.below_draws _ _ _ |>.trans hk |>.trans (Joins.below_draws _ _ _)⟩
set_option maxRecDepth 10000 in
theorem law_tf (a b c : Int) (w : World) (ha : I64 a) (hb : I64 b) (hc : I64 c) (hA : a ≠ -9223372036854775808)(hB : b ≠ -9223372036854775808) (hab : addOk a b = true) (hbc : addOk b c = false) (h : Pow w) : Calls Tryd.prog 3 #[.int .i64 a, .int .i64 b, .int .i64 c] w fun e w' => e = .returned (.bool true) ∧ Below w.heap.size w w' := by
  have r1 : ∀ x : Int, okV true x = x := fun _ => rfl
  have r2 : ∀ x : Int, okV false x = 0 := fun _ => rfl
  have r3 : okC true = 0 := rfl
  have r4 : okC false = 2 := rfl
  have hT : I64 10000 := ⟨by decide, by decide⟩
  have c1 := addOk_comm a b
  have c2 : b + a = a + b := Int.add_comm b a
  have c3 := mulOk_comm a b
  have c4 : sgn b a (mulQ b a) = sgn a b (mulQ a b) := by rw [mulQ_comm, sgn_comm]
  have z1 : subOk a a = true := subOk_t (by have := ha.1; omega) (by have := ha.1; omega) (by omega) (by omega)
  have z2 : a - a = 0 := by omega
  have z3 := mul_one_ok (a := a) (by have := ha.1; omega) ha.2
  have z4 := mul_one_n (a := a) (by have := ha.1; omega) ha.2
  have tA : (a == -9223372036854775808) = false := by rw [beq_eq_false_iff_ne]; exact hA
  have b1 : mayOk b = true := mayOk_t (by have := hb.1; omega)
  have b2 : addOk a (-b) = subOk a b := subOk_add ha.1 (by have := hb.1; omega) hb.2
  have b3 : a + -b = a - b := by omega
  have b4 : I64 (-b) := ⟨by have := hb.2; omega, by have := hb.1; omega⟩
  go_enter Tryd.func3, Tryd.ntmps3
  go_wp2_with (first
    | (go_at_call 6; refine (add_any _ _ _ (by assumption) (by assumption)).mono ?_; rintro e w' ⟨rfl, rfl⟩)
    | (go_at_call 11; refine (sub_any _ _ _ (by assumption) (by assumption)).mono ?_; rintro e w' ⟨rfl, rfl⟩)
    | (go_at_call 10; refine (neg_any _ _ (by assumption)).mono ?_; rintro e w' ⟨rfl, rfl⟩)
    | (go_at_call 7; refine (mul_any _ _ _ (by assumption) (by assumption)).mono ?_; rintro e w' ⟨rfl, n, rfl⟩)
    | (go_at_call 9; refine (alike_same _ _ _).mono ?_; rintro e w' ⟨rfl, rfl⟩)
    | (go_at_call 8; refine (known_any _ (h.draws _)).mono ?_; rintro e w1 ⟨rfl, hk⟩))
  go_ret
  exact ⟨rfl, Joins.below_draws _ _ _ |>.trans hk |>.trans (Joins.below_draws _ _ _)⟩
set_option maxRecDepth 10000 in
theorem law_tt (a b c : Int) (w : World) (ha : I64 a) (hb : I64 b) (hc : I64 c) (hA : a ≠ -9223372036854775808)(hB : b ≠ -9223372036854775808) (hab : addOk a b = true) (hbc : addOk b c = true) (h : Pow w) : Calls Tryd.prog 3 #[.int .i64 a, .int .i64 b, .int .i64 c] w fun e w' => e = .returned (.bool true) ∧ Below w.heap.size w w' := by
  have r1 : ∀ x : Int, okV true x = x := fun _ => rfl
  have r2 : ∀ x : Int, okV false x = 0 := fun _ => rfl
  have r3 : okC true = 0 := rfl
  have r4 : okC false = 2 := rfl
  have hT : I64 10000 := ⟨by decide, by decide⟩
  have c1 := addOk_comm a b
  have c2 : b + a = a + b := Int.add_comm b a
  have c3 := mulOk_comm a b
  have c4 : sgn b a (mulQ b a) = sgn a b (mulQ a b) := by rw [mulQ_comm, sgn_comm]
  have z1 : subOk a a = true := subOk_t (by have := ha.1; omega) (by have := ha.1; omega) (by omega) (by omega)
  have z2 : a - a = 0 := by omega
  have z3 := mul_one_ok (a := a) (by have := ha.1; omega) ha.2
  have z4 := mul_one_n (a := a) (by have := ha.1; omega) ha.2
  have tA : (a == -9223372036854775808) = false := by rw [beq_eq_false_iff_ne]; exact hA
  have b1 : mayOk b = true := mayOk_t (by have := hb.1; omega)
  have b2 : addOk a (-b) = subOk a b := subOk_add ha.1 (by have := hb.1; omega) hb.2
  have b3 : a + -b = a - b := by omega
  have b4 : I64 (-b) := ⟨by have := hb.2; omega, by have := hb.1; omega⟩
  have i1 : I64 (a + b) := ⟨by have := (addOk_iff hab).2.2; omega, (addOk_iff hab).2.2.2⟩
  have i2 : I64 (b + c) := ⟨by have := (addOk_iff hbc).2.2; omega, (addOk_iff hbc).2.2.2⟩
  have d1 := addOk_assoc hab hbc
  have d2 : a + (b + c) = a + b + c := by omega
  go_enter Tryd.func3, Tryd.ntmps3
  go_wp2_with (first
    | (go_at_call 6; refine (add_any _ _ _ (by assumption) (by assumption)).mono ?_; rintro e w' ⟨rfl, rfl⟩)
    | (go_at_call 11; refine (sub_any _ _ _ (by assumption) (by assumption)).mono ?_; rintro e w' ⟨rfl, rfl⟩)
    | (go_at_call 10; refine (neg_any _ _ (by assumption)).mono ?_; rintro e w' ⟨rfl, rfl⟩)
    | (go_at_call 7; refine (mul_any _ _ _ (by assumption) (by assumption)).mono ?_; rintro e w' ⟨rfl, n, rfl⟩)
    | (go_at_call 9; refine (alike_same _ _ _).mono ?_; rintro e w' ⟨rfl, rfl⟩)
    | (go_at_call 8; refine (known_any _ (h.draws _)).mono ?_; rintro e w1 ⟨rfl, hk⟩))
  go_ret
  exact ⟨rfl, Joins.below_draws _ _ _ |>.trans hk |>.trans (Joins.below_draws _ _ _)⟩
theorem law (a b c : Int) (w : World) (ha : I64 a) (hb : I64 b) (hc : I64 c) (h : Pow w) : Calls Tryd.prog 3 #[.int .i64 a, .int .i64 b, .int .i64 c] w fun e w' => e = .returned (.bool true) ∧ Below w.heap.size w w' := by
  by_cases hA : a = -9223372036854775808
  · by_cases hB : b = -9223372036854775808
    · exact law_mm a b c w ha hb hc hA hB h
    · exact law_ma a b c w ha hb hc hA hB h
  by_cases hB : b = -9223372036854775808
  · exact law_fb a b c w ha hb hc hA hB h
  cases hab : addOk a b with
  | false => exact law_ff_t a b c w ha hb hc hA hB hab h
  | true =>
    cases hbc : addOk b c with
    | false => exact law_tf a b c w ha hb hc hA hB hab hbc h
    | true => exact law_tt a b c w ha hb hc hA hB hab hbc h

set_option maxRecDepth 100000 in
theorem lifted (os : Os) (started : os.Started) (H : Type) (enc : TypeId × Value → H) :
    ReturnsInHanded {} Tryd.checked os 3 .any (fun w args => (Rows.decRingSpec.pre enc Tryd.prog Tryd.f3 [] false w args ∧ laidMetH Tryd.prog tables w) ∧ sizedMet enc Tryd.prog Tryd.f3 (OpenSpec.ofChange Rows.decRingSpec) false w args)
      (Rows.decRingSpec.post enc Tryd.prog Tryd.f3 false true false false) := by
  refine returnsInHanded_of_change_and (C := Tryd.checked) (X := fun w _ => laidMetH Tryd.prog tables w) (fun _ _ _ hh h => h.of_heap hh) own started (by kernel_rfl) Tryd.func3
    (ChangeSpec.witness_shaped (enc := enc) (C := Tryd.checked) (os := os) (X := fun w _ => laidMetH Tryd.prog tables w) false (World.laidAll Tryd.prog os tables) #[.int .i64 0, .int .i64 0, .int .i64 0] 8 (World.laidAll_os _ _ _)
      (World.shaped_of_ZipB (by kernel_rfl) (by kernel_rfl)) (by kernel_rfl) (by kernel_rfl) (by kernel_rfl)
      (by rw [MakeChecks.laidMetH_plain _ _ _ (by kernel_rfl)]; exact laidMet_laidAll _ (by kernel_rfl) (by kernel_rfl))) ?_
  intro W base args ds gs before hval0 hW _ _ hL _
  have hval : ∀ (j : Nat) t v, Tryd.f3.params[j]? = some t → args[j]? = some v → Value.okWide Tryd.prog W .any base t v := hval0
  have hW' := hW
  obtain ⟨p, q, hA0, hV, rfl, _, _⟩ := hW
  have hA : DataW.TrodAll enc Tryd.prog W 0 (fun _ => true) true Tryd.f3.params.toList args.toList ds p := hA0
  rw [Tryd.params3] at hA hval
  obtain ⟨v0, vs0, d0, ds0, p0, q0, hargs, rfl, rfl, h0, r0⟩ := trodAll_cons hA
  obtain ⟨v1, vs1, d1, ds1, p1, q1, rfl, rfl, rfl, h1, r1⟩ := trodAll_cons r0
  obtain ⟨v2, vs2, d2, ds2, p2, q2, rfl, rfl, rfl, h2, r2⟩ := trodAll_cons r1
  obtain ⟨rfl, rfl, rfl⟩ := trodAll_nil r2
  obtain rfl : args = #[v0, v1, v2] := by cases args; simp_all
  obtain ⟨rfl, rfl⟩ := trodVars_none hV
  obtain ⟨x0, rfl, rfl, rfl, wx0⟩ := open_int Tryd.underlying2 (hval 0 2 v0 rfl rfl) h0
  obtain ⟨x1, rfl, rfl, rfl, wx1⟩ := open_int Tryd.underlying2 (hval 1 2 v1 rfl rfl) h1
  obtain ⟨x2, rfl, rfl, rfl, wx2⟩ := open_int Tryd.underlying2 (hval 2 2 v2 rfl rfl) h2
  simp only [List.append_nil] at hW'
  refine (law x0 x1 x2 W (i64_of wx0) (i64_of wx1) (i64_of wx2) (pow_of_laid hL)).mono fun e W' ⟨he, hb⟩ => ?_
  subst he
  exact ⟨_, rfl, _, _, _, [], [], [], hW', trodAll_mk1 (shut_bool Tryd.underlying4 _), (trodAll_cons_mk (shut_int Tryd.underlying2 wx0) (trodAll_cons_mk (shut_int Tryd.underlying2 wx1) (trodAll_cons_mk (shut_int Tryd.underlying2 wx2) trodAll_mk0))), rfl, hb.frame _, fun h => by cases h⟩

theorem holds : Rows.DecRingSaid :=
  OpenClaim.holds_of_wide 3 Tryd.f3 rfl rfl rfl rfl rfl rfl rfl ⟨rfl, rfl, rfl, rfl, rfl⟩ rfl rfl rfl rfl rfl (by kernel_rfl) Tryd.func3 (by kernel_rfl)
    (of_decide_eq_true (by kernel_rfl)) (by unfold Func.isWrapper; first | (rw [if_pos (by decide +kernel)]; kernel_rfl) | (rw [if_neg (by decide +kernel)]; exact ⟨rfl, rfl⟩))
    (fun os started H enc _ => lifted os started H enc)
theorem plain (f : FuncId) (fn : Func) (hf : Tryd.pinned.checked.prog.funcNamed "oriel/oriellaw01.DecRing" = some f) (hfn : Tryd.pinned.checked.prog.funcs[f]? = some fn) :
    false = Tryd.pinned.checked.prog.looks [] ∧ ∀ (j : Nat) t, fn.params[j]? = some t → Tryd.pinned.checked.prog.wantsStandIn t = false := by
  obtain rfl : f = 3 := Option.some.inj ((show Tryd.prog.funcNamed "oriel/oriellaw01.DecRing" = some 3 by kernel_rfl).symm.trans hf) |>.symm
  obtain rfl : fn = Tryd.f3 := (Option.some.inj (Tryd.func3.symm.trans hfn)).symm
  refine ⟨by kernel_rfl, fun j t ht => ?_⟩
  rw [Tryd.params3] at ht
  have hm : t ∈ [2, 2, 2] := by simpa using Array.mem_of_getElem? ht
  have hall : ([2, 2, 2].all fun u => !Tryd.prog.wantsStandIn u) = true := by kernel_rfl
  exact (show Tryd.prog.wantsStandIn t = false by simpa using List.all_eq_true.1 hall t hm)
/-- The card. -/
theorem card : Rows.DecRingCardSaid :=
  Claim7.holds_tied_plain_at .later [] _ _ _ _ holds (fun _ h => by cases h) (by kernel_rfl) (fun _ h => by cases h) decRing_row_tie rfl ⟨rfl, rfl⟩ (by kernel_rfl) rfl plain (by kernel_rfl)
end Go.Proofs.YtimcdeibjiekpabDoor.decRing
namespace Go.Proofs.YtimcdeibjiekpabDoor
theorem decRing_card : Rows.DecRingCardSaid := decRing.card
end Go.Proofs.YtimcdeibjiekpabDoor
