/- DecOrder: of any two int64 and any places Round, Floor and Sqrt keep the order, and Round of what is round is it: the law returns true for every input. The card's own condition: the listed tables of Go's library lie as their initialisers lay them (tied to the program's text). -/
import Derived.Test.YtimcdeibjiekpabDoorRound
import Derived.Test.YtimcdeibjiekpabDoorFloor
import Derived.Test.YtimcdeibjiekpabDoorSqrt
import Derived.Test.YtimcdeibjiekpabDoorBase
import Derived.Deep.DeepCutAuto
namespace Go.Proofs.YtimcdeibjiekpabDoor.decOrder
open Go.Shelf Go.RowKit Go.ChangeShapes Go.WideShapes Go.ChangeAt
set_option linter.unusedVariables false
theorem rnd_mono {n m y : Int} (hy : 0 < y) (h : n ≤ m) : rnd n y ≤ rnd m y := by
  have d : n / y ≤ m / y := Int.ediv_le_ediv hy h
  have e1 := Int.mul_ediv_add_emod n y
  have e2 := Int.mul_ediv_add_emod m y
  unfold rnd
  refine Int.mul_le_mul_of_nonneg_right ?_ (by omega)
  by_cases hd : n / y = m / y
  · rw [hd] at e1
    rw [hd]
    split
    · rw [if_pos (by omega)]; omega
    · split <;> omega
  · split
    · split <;> omega
    · split <;> omega
theorem rnd_zero {y : Int} (hy : 0 < y) : rnd 0 y = 0 := by
  unfold rnd; rw [Int.zero_ediv, Int.zero_emod, if_neg (by omega)]; omega
theorem rnd_again {n y : Int} (hy : 0 < y) : rnd (rnd n y) y = rnd n y := by
  have e : rnd n y = (n / y + (if y ≤ 2 * (n % y) then 1 else 0)) * y := rfl
  generalize n / y + (if y ≤ 2 * (n % y) then 1 else 0) = q at e
  rw [e]
  unfold rnd
  rw [Int.mul_ediv_cancel _ (show y ≠ 0 by omega), Int.mul_emod_left, if_neg (by omega), Int.add_zero]
theorem step_pos (p : Int) : (0 : Int) < (roundStep p : Int) := by have := p10_pos (4 - p).toNat; unfold roundStep; omega
theorem size_nonneg (x : Int) : 0 ≤ sizeV x := by unfold sizeV; split <;> omega
theorem size_pm {R : Int} (h : 0 ≤ R) : sizeV R = R ∧ sizeV (-R) = R := by unfold sizeV; constructor <;> split <;> omega
theorem round_mono {a b p : Int} (h : a ≤ b) : roundN a p ≤ roundN b p := by
  have hy := step_pos p
  have ra := (rnd_bd (n := sizeV a) (size_nonneg a) hy).1
  have rb := (rnd_bd (n := sizeV b) (size_nonneg b) hy).1
  unfold roundN
  by_cases h3 : 3 < p
  · rw [if_pos h3, if_pos h3]; exact h
  rw [if_neg h3, if_neg h3]
  by_cases h15 : p < -15
  · rw [if_pos h15, if_pos h15]; omega
  rw [if_neg h15, if_neg h15]
  by_cases hb : b < 0
  · rw [if_pos (show a < 0 by omega), if_pos hb]
    have := rnd_mono (n := sizeV b) (m := sizeV a) hy (by rw [sizeV_neg hb, sizeV_neg (show a < 0 by omega)]; omega)
    omega
  · rw [if_neg hb]
    by_cases ha : a < 0
    · rw [if_pos ha]; omega
    · rw [if_neg ha]
      exact rnd_mono hy (by rw [sizeV_pos (show 0 ≤ b by omega), sizeV_pos (show 0 ≤ a by omega)]; exact h)
theorem roundOk_i64 {a p : Int} (ha : I64 a) (h : roundOk a p = true) : -9223372036854775807 ≤ roundN a p ∧ roundN a p ≤ 9223372036854775807 := by
  have hm : mayOk a = true := by unfold roundOk at h; rw [Bool.and_eq_true] at h; exact h.1
  have hm' : a ≠ -9223372036854775808 := by simpa [mayOk] using hm
  have h1 := ha.1; have h2 := ha.2
  have rb := (rnd_bd (n := sizeV a) (size_nonneg a) (step_pos p)).1
  unfold roundN
  by_cases h3 : 3 < p
  · rw [if_pos h3]; omega
  rw [if_neg h3]
  by_cases h15 : p < -15
  · rw [if_pos h15]; omega
  rw [if_neg h15]
  have hle : rnd (sizeV a) (roundStep p) ≤ 9223372036854775807 := by
    unfold roundOk at h
    rw [Bool.and_eq_true, decide_eq_false h3, decide_eq_false h15, Bool.false_or, Bool.false_or] at h
    exact of_decide_eq_true h.2
  split <;> omega
theorem round_again {a p : Int} (ha : I64 a) (h : roundOk a p = true) : roundOk (roundN a p) p = true ∧ roundN (roundN a p) p = roundN a p := by
  have hi := roundOk_i64 ha h
  have hm := mayOk_t hi.1
  have hy := step_pos p
  have rb := (rnd_bd (n := sizeV a) (size_nonneg a) hy).1
  by_cases h3 : 3 < p
  · refine ⟨by unfold roundOk; rw [hm, decide_eq_true h3]; rfl, ?_⟩
    unfold roundN; simp only [if_pos h3]
  by_cases h15 : p < -15
  · refine ⟨by unfold roundOk; rw [hm, decide_eq_true h15]; simp, ?_⟩
    unfold roundN; simp only [if_neg h3, if_pos h15]
  have hN : roundN a p = if a < 0 then -rnd (sizeV a) (roundStep p) else rnd (sizeV a) (roundStep p) := by unfold roundN; rw [if_neg h3, if_neg h15]
  have hsz : sizeV (roundN a p) = rnd (sizeV a) (roundStep p) := by
    rw [hN]
    split
    · exact (size_pm rb).2
    · exact (size_pm rb).1
  have hag := rnd_again (n := sizeV a) hy
  have hle : rnd (sizeV a) (roundStep p) ≤ 9223372036854775807 := by rw [← hsz]; exact (sizeV_range hi.1 hi.2).2
  refine ⟨by unfold roundOk; rw [hm, hsz, hag, decide_eq_true hle]; simp, ?_⟩
  have e2 : roundN (roundN a p) p = if roundN a p < 0 then -rnd (sizeV (roundN a p)) (roundStep p) else rnd (sizeV (roundN a p)) (roundStep p) := by
    generalize roundN a p = z
    unfold roundN; rw [if_neg h3, if_neg h15]
  rw [e2, hsz, hag, hN]
  split <;> split <;> omega
theorem okV_i64 {a p : Int} (ha : I64 a) : I64 (okV (roundOk a p) (roundN a p)) := by
  cases h : roundOk a p with
  | false => exact (show I64 0 from ⟨by decide, by decide⟩)
  | true => have := roundOk_i64 ha h; exact ⟨by show _ ≤ roundN a p; omega, this.2⟩
set_option maxHeartbeats 1000000 in
set_option maxRecDepth 10000 in
theorem law_le (a b p : Int) (w : World) (ha : I64 a) (hb : I64 b) (hp : I64 p) (hab : a ≤ b) (h : Pow w) : Calls Tryd.prog 5 #[.int .i64 a, .int .i64 b, .int .i64 p] w fun e w' => e = .returned (.bool true) ∧ Below w.heap.size w w' := by
  have hio := okV_i64 (p := p) ha
  have hnab : ¬ b < a := by omega
  go_enter Tryd.func5, Tryd.ntmps5
  go_upto_region 6 with (go_at_call 13; refine (round_any _ _ _ (by assumption) hp).mono ?_; rintro e w' ⟨rfl, n, rfl⟩)
  go_cut [7, 8, 9, 10, 11, 12, 63] (fun _ _ _ _ _ _ t wx => t = .bool false ∧ Below w.heap.size w wx)
  case first =>
    have r1 : ∀ x : Int, okV true x = x := fun _ => rfl
    have r2 : ∀ x : Int, okV false x = 0 := fun _ => rfl
    have r3 : okC true = 0 := rfl
    have r4 : okC false = 2 := rfl
    have hmono := decide_eq_false (p := roundN b p < roundN a p) (by have := round_mono (p := p) hab; omega)
    cases hRA : roundOk a p with
    | false =>
      cases hRB : roundOk b p with
      | false =>
        go_wp2_with (first | (go_at_call 8; refine (known_any _ (h.draws _)).mono ?_; rintro e w1 ⟨rfl, hk⟩) | (go_at_call 9; refine (alike_same _ _ _).mono ?_; rintro e w' ⟨rfl, rfl⟩))
        go_meet
        case rel => exact ⟨rfl, (Joins.below_draws _ _ _).trans hk⟩
      | true =>
        go_wp2_with (first | (go_at_call 8; refine (known_any _ (h.draws _)).mono ?_; rintro e w1 ⟨rfl, hk⟩) | (go_at_call 9; refine (alike_same _ _ _).mono ?_; rintro e w' ⟨rfl, rfl⟩))
        go_meet
        case rel => exact ⟨rfl, (Joins.below_draws _ _ _).trans hk⟩
    | true =>
      obtain ⟨hA1, hA2⟩ := round_again ha hRA
      cases hRB : roundOk b p with
      | false =>
        go_wp2_with (first | (go_at_call 8; refine (known_any _ (h.draws _)).mono ?_; rintro e w1 ⟨rfl, hk⟩) | (go_at_call 9; refine (alike_same _ _ _).mono ?_; rintro e w' ⟨rfl, rfl⟩))
        go_meet
        case rel => exact ⟨rfl, (Joins.below_draws _ _ _).trans hk⟩
      | true =>
        go_wp2_with (first | (go_at_call 8; refine (known_any _ (h.draws _)).mono ?_; rintro e w1 ⟨rfl, hk⟩) | (go_at_call 9; refine (alike_same _ _ _).mono ?_; rintro e w' ⟨rfl, rfl⟩))
        go_meet
        case rel => exact ⟨rfl, (Joins.below_draws _ _ _).trans hk⟩
  case rest =>
  obtain ⟨rfl, hB⟩ := hcut
  go_upto_region 10 with (go_at_call 14; refine (floor_any _ _ (by assumption)).mono ?_; rintro e w' ⟨rfl, rfl⟩)
  go_cut [7, 8, 9, 10, 99] (fun _ _ _ _ t wx => t = .bool false ∧ Below w.heap.size w wx)
  case first =>
    have r1 : ∀ x : Int, okV true x = x := fun _ => rfl
    have r2 : ∀ x : Int, okV false x = 0 := fun _ => rfl
    have r3 : okC true = 0 := rfl
    have r4 : okC false = 2 := rfl
    have f1 := decide_eq_false (p := b - b % 10000 < a - a % 10000) (by omega)
    have f2 := decide_eq_false (p := a < a - a % 10000) (by omega)
    have f4 : wrap64 (a - (a - a % 10000)) = a % 10000 := by unfold wrap64; omega
    have f3 := decide_eq_false (p := 10000 ≤ a - (a - a % 10000)) (by omega)
    cases hRA : floorOk a with
    | false =>
      cases hRB : floorOk b with
      | false =>
        go_wp2_with fail
        go_meet
        case rel => exact ⟨rfl, hB⟩
      | true =>
        go_wp2_with fail
        go_meet
        case rel => exact ⟨rfl, hB⟩
    | true =>
      cases hRB : floorOk b with
      | false =>
        go_wp2_with fail
        go_meet
        case rel => exact ⟨rfl, hB⟩
      | true =>
        go_wp2_with fail
        go_meet
        case rel => exact ⟨rfl, hB⟩
  case rest =>
  obtain ⟨rfl, hB2⟩ := hcut
  have ha1 := ha.1
  have ha2 := ha.2
  have hb1 := hb.1
  have hb2 := hb.2
  by_cases h0 : 0 ≤ a
  · go_upto_region 13 with (go_at_call 15; refine (sqrt_ok _ _ (by omega) (by omega)).mono ?_; rintro e w' ⟨⟨ra, rfl, hra⟩, rfl⟩)
    go_upto_region 14 with (go_at_call 15; refine (sqrt_ok _ _ (by omega) (by omega)).mono ?_; rintro e w' ⟨⟨rb, rfl, hrb⟩, rfl⟩)
    have hle := root_le hra hrb (by omega)
    have hr0 := hra.r0
    have t1 : decide (ra ≤ rb) = true := decide_eq_true hle
    have t2 : decide (0 ≤ ra) = true := decide_eq_true hr0
    go_wp2
    go_ret
    exact ⟨rfl, hB2⟩
  by_cases hA : a = -9223372036854775808
  · by_cases hBm : b = -9223372036854775808
    · go_wp2_with (first | (go_at_call 15; refine (sqrt_min _ _ (by omega)).mono ?_; rintro e w' ⟨rfl, rfl⟩) | (go_at_call 15; refine (sqrt_neg _ _ (by omega) (by omega)).mono ?_; rintro e w' ⟨rfl, rfl⟩) | (go_at_call 15; refine (sqrt_ok _ _ (by omega) (by omega)).mono ?_; rintro e w' ⟨⟨r, rfl, hr⟩, rfl⟩))
      go_ret
      exact ⟨rfl, hB2⟩
    by_cases hBn : b < 0
    · go_wp2_with (first | (go_at_call 15; refine (sqrt_min _ _ (by omega)).mono ?_; rintro e w' ⟨rfl, rfl⟩) | (go_at_call 15; refine (sqrt_neg _ _ (by omega) (by omega)).mono ?_; rintro e w' ⟨rfl, rfl⟩) | (go_at_call 15; refine (sqrt_ok _ _ (by omega) (by omega)).mono ?_; rintro e w' ⟨⟨r, rfl, hr⟩, rfl⟩))
      go_ret
      exact ⟨rfl, hB2⟩
    · go_wp2_with (first | (go_at_call 15; refine (sqrt_min _ _ (by omega)).mono ?_; rintro e w' ⟨rfl, rfl⟩) | (go_at_call 15; refine (sqrt_neg _ _ (by omega) (by omega)).mono ?_; rintro e w' ⟨rfl, rfl⟩) | (go_at_call 15; refine (sqrt_ok _ _ (by omega) (by omega)).mono ?_; rintro e w' ⟨⟨r, rfl, hr⟩, rfl⟩))
      go_ret
      exact ⟨rfl, hB2⟩
  · by_cases hBm : b = -9223372036854775808
    · go_wp2_with (first | (go_at_call 15; refine (sqrt_min _ _ (by omega)).mono ?_; rintro e w' ⟨rfl, rfl⟩) | (go_at_call 15; refine (sqrt_neg _ _ (by omega) (by omega)).mono ?_; rintro e w' ⟨rfl, rfl⟩) | (go_at_call 15; refine (sqrt_ok _ _ (by omega) (by omega)).mono ?_; rintro e w' ⟨⟨r, rfl, hr⟩, rfl⟩))
      go_ret
      exact ⟨rfl, hB2⟩
    by_cases hBn : b < 0
    · go_wp2_with (first | (go_at_call 15; refine (sqrt_min _ _ (by omega)).mono ?_; rintro e w' ⟨rfl, rfl⟩) | (go_at_call 15; refine (sqrt_neg _ _ (by omega) (by omega)).mono ?_; rintro e w' ⟨rfl, rfl⟩) | (go_at_call 15; refine (sqrt_ok _ _ (by omega) (by omega)).mono ?_; rintro e w' ⟨⟨r, rfl, hr⟩, rfl⟩))
      go_ret
      exact ⟨rfl, hB2⟩
    · go_wp2_with (first | (go_at_call 15; refine (sqrt_min _ _ (by omega)).mono ?_; rintro e w' ⟨rfl, rfl⟩) | (go_at_call 15; refine (sqrt_neg _ _ (by omega) (by omega)).mono ?_; rintro e w' ⟨rfl, rfl⟩) | (go_at_call 15; refine (sqrt_ok _ _ (by omega) (by omega)).mono ?_; rintro e w' ⟨⟨r, rfl, hr⟩, rfl⟩))
      go_ret
      exact ⟨rfl, hB2⟩
set_option maxRecDepth 10000 in
theorem law (a b p : Int) (w : World) (ha : I64 a) (hb : I64 b) (hp : I64 p) (h : Pow w) : Calls Tryd.prog 5 #[.int .i64 a, .int .i64 b, .int .i64 p] w fun e w' => e = .returned (.bool true) ∧ Below w.heap.size w w' := by
  by_cases hab : a ≤ b
  · exact law_le a b p w ha hb hp hab h
  · have hba : b < a := by omega
    go_enter Tryd.func5, Tryd.ntmps5
    go_wp2_with (go_at_call 5; refine (law_le _ _ _ _ hb ha hp (by omega) h).mono ?_; rintro e w' ⟨rfl, hk⟩)
    go_ret
    exact ⟨rfl, hk⟩

set_option maxRecDepth 100000 in
theorem lifted (os : Os) (started : os.Started) (H : Type) (enc : TypeId × Value → H) :
    ReturnsInHanded {} Tryd.checked os 5 .any (fun w args => (Rows.decOrderSpec.pre enc Tryd.prog Tryd.f5 [] false w args ∧ laidMetH Tryd.prog tables w) ∧ sizedMet enc Tryd.prog Tryd.f5 (OpenSpec.ofChange Rows.decOrderSpec) false w args)
      (Rows.decOrderSpec.post enc Tryd.prog Tryd.f5 false true false false) := by
  refine returnsInHanded_of_change_and (C := Tryd.checked) (X := fun w _ => laidMetH Tryd.prog tables w) (fun _ _ _ hh h => h.of_heap hh) own started (by kernel_rfl) Tryd.func5
    (ChangeSpec.witness_shaped (enc := enc) (C := Tryd.checked) (os := os) (X := fun w _ => laidMetH Tryd.prog tables w) false (World.laidAll Tryd.prog os tables) #[.int .i64 0, .int .i64 0, .int .i64 0] 8 (World.laidAll_os _ _ _)
      (World.shaped_of_ZipB (by kernel_rfl) (by kernel_rfl)) (by kernel_rfl) (by kernel_rfl) (by kernel_rfl)
      (by rw [MakeChecks.laidMetH_plain _ _ _ (by kernel_rfl)]; exact laidMet_laidAll _ (by kernel_rfl) (by kernel_rfl))) ?_
  intro W base args ds gs before hval0 hW _ _ hL _
  have hval : ∀ (j : Nat) t v, Tryd.f5.params[j]? = some t → args[j]? = some v → Value.okWide Tryd.prog W .any base t v := hval0
  have hW' := hW
  obtain ⟨p, q, hA0, hV, rfl, _, _⟩ := hW
  have hA : DataW.TrodAll enc Tryd.prog W 0 (fun _ => true) true Tryd.f5.params.toList args.toList ds p := hA0
  rw [Tryd.params5] at hA hval
  obtain ⟨v0, vs0, d0, ds0, p0, q0, hargs, rfl, rfl, h0, r0⟩ := trodAll_cons hA
  obtain ⟨v1, vs1, d1, ds1, p1, q1, rfl, rfl, rfl, h1, r1⟩ := trodAll_cons r0
  obtain ⟨v2, vs2, d2, ds2, p2, q2, rfl, rfl, rfl, h2, r2⟩ := trodAll_cons r1
  obtain ⟨rfl, rfl, rfl⟩ := trodAll_nil r2
  obtain rfl : args = #[v0, v1, v2] := by cases args; simp_all
  obtain ⟨rfl, rfl⟩ := trodVars_none hV
  obtain ⟨x0, rfl, rfl, rfl, wx0⟩ := open_int Tryd.underlying2 (hval 0 2 v0 rfl rfl) h0
  obtain ⟨x1, rfl, rfl, rfl, wx1⟩ := open_int Tryd.underlying2 (hval 1 2 v1 rfl rfl) h1
  obtain ⟨x2, rfl, rfl, rfl, wx2⟩ := open_int Tryd.underlying3 (hval 2 3 v2 rfl rfl) h2
  simp only [List.append_nil] at hW'
  refine (law x0 x1 x2 W (i64_of wx0) (i64_of wx1) (i64_of wx2) (pow_of_laid hL)).mono fun e W' ⟨he, hb⟩ => ?_
  subst he
  exact ⟨_, rfl, _, _, _, [], [], [], hW', trodAll_mk1 (shut_bool Tryd.underlying4 _), (trodAll_cons_mk (shut_int Tryd.underlying2 wx0) (trodAll_cons_mk (shut_int Tryd.underlying2 wx1) (trodAll_cons_mk (shut_int Tryd.underlying3 wx2) trodAll_mk0))), rfl, hb.frame _, fun h => by cases h⟩

theorem holds : Rows.DecOrderSaid :=
  OpenClaim.holds_of_wide 5 Tryd.f5 rfl rfl rfl rfl rfl rfl rfl ⟨rfl, rfl, rfl, rfl, rfl⟩ rfl rfl rfl rfl rfl (by kernel_rfl) Tryd.func5 (by kernel_rfl)
    (of_decide_eq_true (by kernel_rfl)) (by unfold Func.isWrapper; first | (rw [if_pos (by decide +kernel)]; kernel_rfl) | (rw [if_neg (by decide +kernel)]; exact ⟨rfl, rfl⟩))
    (fun os started H enc _ => lifted os started H enc)
theorem plain (f : FuncId) (fn : Func) (hf : Tryd.pinned.checked.prog.funcNamed "oriel/oriellaw01.DecOrder" = some f) (hfn : Tryd.pinned.checked.prog.funcs[f]? = some fn) :
    false = Tryd.pinned.checked.prog.looks [] ∧ ∀ (j : Nat) t, fn.params[j]? = some t → Tryd.pinned.checked.prog.wantsStandIn t = false := by
  obtain rfl : f = 5 := Option.some.inj ((show Tryd.prog.funcNamed "oriel/oriellaw01.DecOrder" = some 5 by kernel_rfl).symm.trans hf) |>.symm
  obtain rfl : fn = Tryd.f5 := (Option.some.inj (Tryd.func5.symm.trans hfn)).symm
  refine ⟨by kernel_rfl, fun j t ht => ?_⟩
  rw [Tryd.params5] at ht
  have hm : t ∈ [2, 2, 3] := by simpa using Array.mem_of_getElem? ht
  have hall : ([2, 2, 3].all fun u => !Tryd.prog.wantsStandIn u) = true := by kernel_rfl
  exact (show Tryd.prog.wantsStandIn t = false by simpa using List.all_eq_true.1 hall t hm)
/-- The card. -/
theorem card : Rows.DecOrderCardSaid :=
  Claim7.holds_tied_plain_at .later [] _ _ _ _ holds (fun _ h => by cases h) (by kernel_rfl) (fun _ h => by cases h) decOrder_row_tie rfl ⟨rfl, rfl⟩ (by kernel_rfl) rfl plain (by kernel_rfl)
end Go.Proofs.YtimcdeibjiekpabDoor.decOrder
namespace Go.Proofs.YtimcdeibjiekpabDoor
theorem decOrder_card : Rows.DecOrderCardSaid := decOrder.card
end Go.Proofs.YtimcdeibjiekpabDoor
