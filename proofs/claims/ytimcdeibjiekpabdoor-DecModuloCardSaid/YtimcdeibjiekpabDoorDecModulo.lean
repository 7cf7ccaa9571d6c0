/- DecModulo: of any two int64 what Mod leaves has the divisor's sign, is nearer to nought, and the number less it leaves nothing: the law returns true for every input. The card's own condition: the listed tables of Go's library lie as their initialisers lay them (tied to the program's text). -/
import Derived.Test.YtimcdeibjiekpabDoorMod
import Derived.Test.YtimcdeibjiekpabDoorBase
namespace Go.Proofs.YtimcdeibjiekpabDoor.decModulo
open Go.Shelf Go.RowKit Go.ChangeShapes Go.WideShapes Go.ChangeAt
set_option linter.unusedVariables false
theorem sub_t (a b : Int) (w : World) (ha : -9223372036854775807 ≤ a) (ha2 : a ≤ 9223372036854775807) (hb : -9223372036854775807 ≤ b) (hb2 : b ≤ 9223372036854775807) (h1 : -9223372036854775807 ≤ a - b) (h2 : a - b ≤ 9223372036854775807) : Calls Tryd.prog 11 #[.int .i64 a, .int .i64 b] w fun e w' => e = .returned (.tuple #[.int .i64 (a - b), .int .i64 0]) ∧ w' = w := by
  have c := sub_any a b w ⟨by omega, ha2⟩ ⟨by omega, hb2⟩
  have ok := subOk_t (a := a) (b := b) (by omega) (by omega) h1 h2
  rw [okV_t ok, okC_t ok] at c
  exact c
theorem sub_f (a b : Int) (w : World) (ha : -9223372036854775807 ≤ a) (ha2 : a ≤ 9223372036854775807) (hb : -9223372036854775807 ≤ b) (hb2 : b ≤ 9223372036854775807) (h1 : a - b < -9223372036854775807 ∨ 9223372036854775807 < a - b) : Calls Tryd.prog 11 #[.int .i64 a, .int .i64 b] w fun e w' => e = .returned (.tuple #[.int .i64 0, .int .i64 2]) ∧ w' = w := by
  have c := sub_any a b w ⟨by omega, ha2⟩ ⟨by omega, hb2⟩
  have ok := subOk_f (a := a) (b := b) (by omega)
  rw [okV_f ok, okC_f ok] at c
  exact c
theorem mod_left_p {a b : Int} (hb : 0 < b) : modV (a - modV a b) b = 0 := by
  unfold modV; rw [if_pos hb, if_pos hb]
  have : a - a % b = b * (a / b) := by have := Int.mul_ediv_add_emod a b; omega
  rw [this, Int.mul_emod_right]
theorem mod_left_n {a b : Int} (hb : b < 0) : modV (a - modV a b) b = 0 := by
  unfold modV; rw [if_neg (by omega), if_neg (by omega)]
  have : -(a - -(-a % -b)) = (-b) * ((-a) / (-b)) := by have := Int.mul_ediv_add_emod (-a) (-b); omega
  rw [this, Int.mul_emod_right]; rfl
theorem mod_bd_p {a b : Int} (hb : 0 < b) : 0 ≤ modV a b ∧ modV a b < b := by
  unfold modV; rw [if_pos hb]
  exact ⟨Int.emod_nonneg _ (by omega), Int.emod_lt_of_pos _ hb⟩
theorem mod_bd_n {a b : Int} (hb : b < 0) : modV a b ≤ 0 ∧ b < modV a b := by
  unfold modV; rw [if_neg (by omega)]
  have h1 := Int.emod_nonneg (-a) (show -b ≠ 0 by omega)
  have h2 := Int.emod_lt_of_pos (-a) (show 0 < -b by omega)
  omega
theorem law_aMin (a b : Int) (w : World) (ha : a = -9223372036854775808) (h : Pow w) : Calls Tryd.prog 4 #[.int .i64 a, .int .i64 b] w fun e w' => e = .returned (.bool true) ∧ Below w.heap.size w w' := by
  go_enter Tryd.func4, Tryd.ntmps4
  go_wp2_with (first | (go_at_call 12; refine (modw_aMin _ _ _ (by omega)).mono ?_; rintro e w' ⟨rfl, rfl⟩) | (go_at_call 8; refine (known_any _ h).mono ?_; rintro e w1 ⟨rfl, hk⟩))
  go_ret
  exact ⟨rfl, hk⟩
theorem law_bMin (a b : Int) (w : World) (ha : -9223372036854775807 ≤ a) (hb : b = -9223372036854775808) (h : Pow w) : Calls Tryd.prog 4 #[.int .i64 a, .int .i64 b] w fun e w' => e = .returned (.bool true) ∧ Below w.heap.size w w' := by
  go_enter Tryd.func4, Tryd.ntmps4
  go_wp2_with (first | (go_at_call 12; refine (modw_bMin _ _ _ (by omega) (by omega)).mono ?_; rintro e w' ⟨rfl, rfl⟩) | (go_at_call 8; refine (known_any _ h).mono ?_; rintro e w1 ⟨rfl, hk⟩))
  go_ret
  exact ⟨rfl, hk⟩
theorem law_bZero (a b : Int) (w : World) (ha : -9223372036854775807 ≤ a) (hb : b = 0) (h : Pow w) : Calls Tryd.prog 4 #[.int .i64 a, .int .i64 b] w fun e w' => e = .returned (.bool true) ∧ Below w.heap.size w w' := by
  go_enter Tryd.func4, Tryd.ntmps4
  go_wp2_with (first | (go_at_call 12; refine (modw_bZero _ _ _ (by omega) (by omega)).mono ?_; rintro e w' ⟨rfl, rfl⟩) | (go_at_call 8; refine (known_any _ h).mono ?_; rintro e w1 ⟨rfl, hk⟩))
  go_ret
  exact ⟨rfl, hk⟩
theorem law_pt (a b : Int) (w : World) (ha1 : -9223372036854775807 ≤ a) (ha2 : a ≤ 9223372036854775807) (hb1 : -9223372036854775807 ≤ b) (hb2 : b ≤ 9223372036854775807)(hb0 : 0 < b) (hs1 : -9223372036854775807 ≤ a - modV a b) (hs2 : a - modV a b ≤ 9223372036854775807) (h : Pow w) : Calls Tryd.prog 4 #[.int .i64 a, .int .i64 b] w fun e w' => e = .returned (.bool true) ∧ Below w.heap.size w w' := by
  obtain ⟨m1, m2⟩ := mod_bd_p (a := a) hb0
  have hm := mod_left_p (a := a) hb0
  have tA : (a == -9223372036854775808) = false := by rw [beq_eq_false_iff_ne]; omega
  have tB : (b == -9223372036854775808) = false := by rw [beq_eq_false_iff_ne]; omega
  have tZ : (b == 0) = false := by rw [beq_eq_false_iff_ne]; omega
  have t1 : decide (modV a b < 0) = false := decide_eq_false (by omega)
  have t2 : decide (b ≤ modV a b) = false := decide_eq_false (by omega)
  have t3 : decide (0 < b) = true := decide_eq_true hb0
  have t4 : decide (b < 0) = false := decide_eq_false (by omega)
  go_enter Tryd.func4, Tryd.ntmps4
  go_wp2_with (first | (go_at_call 12; refine (modw_ok _ _ _ (by omega) (by omega) (by omega) (by omega) (by omega)).mono ?_; rintro e w' ⟨rfl, rfl⟩) | (go_at_call 8; refine (known_any _ h).mono ?_; rintro e w1 ⟨rfl, hk⟩) | (go_at_call 11; refine (sub_t _ _ _ (by omega) (by omega) (by omega) (by omega) (by omega) (by omega)).mono ?_; rintro e w' ⟨rfl, rfl⟩) | (go_at_call 9; refine (alike_same _ _ _).mono ?_; rintro e w' ⟨rfl, rfl⟩))
  go_ret
  exact ⟨rfl, hk⟩
theorem law_pf (a b : Int) (w : World) (ha1 : -9223372036854775807 ≤ a) (ha2 : a ≤ 9223372036854775807) (hb1 : -9223372036854775807 ≤ b) (hb2 : b ≤ 9223372036854775807)(hb0 : 0 < b) (hs : a - modV a b < -9223372036854775807 ∨ 9223372036854775807 < a - modV a b) (h : Pow w) : Calls Tryd.prog 4 #[.int .i64 a, .int .i64 b] w fun e w' => e = .returned (.bool true) ∧ Below w.heap.size w w' := by
  obtain ⟨m1, m2⟩ := mod_bd_p (a := a) hb0
  have hm := mod_left_p (a := a) hb0
  have tA : (a == -9223372036854775808) = false := by rw [beq_eq_false_iff_ne]; omega
  have tB : (b == -9223372036854775808) = false := by rw [beq_eq_false_iff_ne]; omega
  have tZ : (b == 0) = false := by rw [beq_eq_false_iff_ne]; omega
  have t1 : decide (modV a b < 0) = false := decide_eq_false (by omega)
  have t2 : decide (b ≤ modV a b) = false := decide_eq_false (by omega)
  have t3 : decide (0 < b) = true := decide_eq_true hb0
  have t4 : decide (b < 0) = false := decide_eq_false (by omega)
  go_enter Tryd.func4, Tryd.ntmps4
  go_wp2_with (first | (go_at_call 12; refine (modw_ok _ _ _ (by omega) (by omega) (by omega) (by omega) (by omega)).mono ?_; rintro e w' ⟨rfl, rfl⟩) | (go_at_call 8; refine (known_any _ h).mono ?_; rintro e w1 ⟨rfl, hk⟩) | (go_at_call 11; refine (sub_f _ _ _ (by omega) (by omega) (by omega) (by omega) (by omega)).mono ?_; rintro e w' ⟨rfl, rfl⟩))
  go_ret
  exact ⟨rfl, hk⟩
theorem law_nt (a b : Int) (w : World) (ha1 : -9223372036854775807 ≤ a) (ha2 : a ≤ 9223372036854775807) (hb1 : -9223372036854775807 ≤ b) (hb2 : b ≤ 9223372036854775807)(hb0 : b < 0) (hs1 : -9223372036854775807 ≤ a - modV a b) (hs2 : a - modV a b ≤ 9223372036854775807) (h : Pow w) : Calls Tryd.prog 4 #[.int .i64 a, .int .i64 b] w fun e w' => e = .returned (.bool true) ∧ Below w.heap.size w w' := by
  obtain ⟨m1, m2⟩ := mod_bd_n (a := a) hb0
  have hm := mod_left_n (a := a) hb0
  have tA : (a == -9223372036854775808) = false := by rw [beq_eq_false_iff_ne]; omega
  have tB : (b == -9223372036854775808) = false := by rw [beq_eq_false_iff_ne]; omega
  have tZ : (b == 0) = false := by rw [beq_eq_false_iff_ne]; omega
  have t1 : decide (0 < modV a b) = false := decide_eq_false (by omega)
  have t2 : decide (modV a b ≤ b) = false := decide_eq_false (by omega)
  have t3 : decide (0 < b) = false := decide_eq_false (by omega)
  have t4 : decide (b < 0) = true := decide_eq_true hb0
  go_enter Tryd.func4, Tryd.ntmps4
  go_wp2_with (first | (go_at_call 12; refine (modw_ok _ _ _ (by omega) (by omega) (by omega) (by omega) (by omega)).mono ?_; rintro e w' ⟨rfl, rfl⟩) | (go_at_call 8; refine (known_any _ h).mono ?_; rintro e w1 ⟨rfl, hk⟩) | (go_at_call 11; refine (sub_t _ _ _ (by omega) (by omega) (by omega) (by omega) (by omega) (by omega)).mono ?_; rintro e w' ⟨rfl, rfl⟩) | (go_at_call 9; refine (alike_same _ _ _).mono ?_; rintro e w' ⟨rfl, rfl⟩))
  go_ret
  exact ⟨rfl, hk⟩
theorem law_nf (a b : Int) (w : World) (ha1 : -9223372036854775807 ≤ a) (ha2 : a ≤ 9223372036854775807) (hb1 : -9223372036854775807 ≤ b) (hb2 : b ≤ 9223372036854775807)(hb0 : b < 0) (hs : a - modV a b < -9223372036854775807 ∨ 9223372036854775807 < a - modV a b) (h : Pow w) : Calls Tryd.prog 4 #[.int .i64 a, .int .i64 b] w fun e w' => e = .returned (.bool true) ∧ Below w.heap.size w w' := by
  obtain ⟨m1, m2⟩ := mod_bd_n (a := a) hb0
  have hm := mod_left_n (a := a) hb0
  have tA : (a == -9223372036854775808) = false := by rw [beq_eq_false_iff_ne]; omega
  have tB : (b == -9223372036854775808) = false := by rw [beq_eq_false_iff_ne]; omega
  have tZ : (b == 0) = false := by rw [beq_eq_false_iff_ne]; omega
  have t1 : decide (0 < modV a b) = false := decide_eq_false (by omega)
  have t2 : decide (modV a b ≤ b) = false := decide_eq_false (by omega)
  have t3 : decide (0 < b) = false := decide_eq_false (by omega)
  have t4 : decide (b < 0) = true := decide_eq_true hb0
  go_enter Tryd.func4, Tryd.ntmps4
  go_wp2_with (first | (go_at_call 12; refine (modw_ok _ _ _ (by omega) (by omega) (by omega) (by omega) (by omega)).mono ?_; rintro e w' ⟨rfl, rfl⟩) | (go_at_call 8; refine (known_any _ h).mono ?_; rintro e w1 ⟨rfl, hk⟩) | (go_at_call 11; refine (sub_f _ _ _ (by omega) (by omega) (by omega) (by omega) (by omega)).mono ?_; rintro e w' ⟨rfl, rfl⟩))
  go_ret
  exact ⟨rfl, hk⟩
theorem law (a b : Int) (w : World) (ha : I64 a) (hb : I64 b) (h : Pow w) : Calls Tryd.prog 4 #[.int .i64 a, .int .i64 b] w fun e w' => e = .returned (.bool true) ∧ Below w.heap.size w w' := by
  obtain ⟨ha1, ha2⟩ := ha
  obtain ⟨hb1, hb2⟩ := hb
  by_cases hA : a = -9223372036854775808
  · exact law_aMin a b w hA h
  by_cases hB : b = -9223372036854775808
  · exact law_bMin a b w (by omega) hB h
  by_cases hZ : b = 0
  · exact law_bZero a b w (by omega) hZ h
  by_cases hp : 0 < b
  · by_cases hs : a - modV a b < -9223372036854775807 ∨ 9223372036854775807 < a - modV a b
    · exact law_pf a b w (by omega) ha2 (by omega) hb2 hp hs h
    · exact law_pt a b w (by omega) ha2 (by omega) hb2 hp (by omega) (by omega) h
  · by_cases hs : a - modV a b < -9223372036854775807 ∨ 9223372036854775807 < a - modV a b
    · exact law_nf a b w (by omega) ha2 (by omega) hb2 (by omega) hs h
    · exact law_nt a b w (by omega) ha2 (by omega) hb2 (by omega) (by omega) (by omega) h

set_option maxRecDepth 100000 in
theorem lifted (os : Os) (started : os.Started) (H : Type) (enc : TypeId × Value → H) :
    ReturnsInHanded {} Tryd.checked os 4 .any (fun w args => (Rows.decModuloSpec.pre enc Tryd.prog Tryd.f4 [] false w args ∧ laidMetH Tryd.prog tables w) ∧ sizedMet enc Tryd.prog Tryd.f4 (OpenSpec.ofChange Rows.decModuloSpec) false w args)
      (Rows.decModuloSpec.post enc Tryd.prog Tryd.f4 false true false false) := by
  refine returnsInHanded_of_change_and (C := Tryd.checked) (X := fun w _ => laidMetH Tryd.prog tables w) (fun _ _ _ hh h => h.of_heap hh) own started (by kernel_rfl) Tryd.func4
    (ChangeSpec.witness_shaped (enc := enc) (C := Tryd.checked) (os := os) (X := fun w _ => laidMetH Tryd.prog tables w) false (World.laidAll Tryd.prog os tables) #[.int .i64 0, .int .i64 0] 8 (World.laidAll_os _ _ _)
      (World.shaped_of_ZipB (by kernel_rfl) (by kernel_rfl)) (by kernel_rfl) (by kernel_rfl) (by kernel_rfl)
      (by rw [MakeChecks.laidMetH_plain _ _ _ (by kernel_rfl)]; exact laidMet_laidAll _ (by kernel_rfl) (by kernel_rfl))) ?_
  intro W base args ds gs before hval0 hW _ _ hL _
  have hval : ∀ (j : Nat) t v, Tryd.f4.params[j]? = some t → args[j]? = some v → Value.okWide Tryd.prog W .any base t v := hval0
  have hW' := hW
  obtain ⟨p, q, hA0, hV, rfl, _, _⟩ := hW
  have hA : DataW.TrodAll enc Tryd.prog W 0 (fun _ => true) true Tryd.f4.params.toList args.toList ds p := hA0
  rw [Tryd.params4] at hA hval
  obtain ⟨v0, vs0, d0, ds0, p0, q0, hargs, rfl, rfl, h0, r0⟩ := trodAll_cons hA
  obtain ⟨v1, vs1, d1, ds1, p1, q1, rfl, rfl, rfl, h1, r1⟩ := trodAll_cons r0
  obtain ⟨rfl, rfl, rfl⟩ := trodAll_nil r1
  obtain rfl : args = #[v0, v1] := by cases args; simp_all
  obtain ⟨rfl, rfl⟩ := trodVars_none hV
  obtain ⟨x0, rfl, rfl, rfl, wx0⟩ := open_int Tryd.underlying2 (hval 0 2 v0 rfl rfl) h0
  obtain ⟨x1, rfl, rfl, rfl, wx1⟩ := open_int Tryd.underlying2 (hval 1 2 v1 rfl rfl) h1
  simp only [List.append_nil] at hW'
  refine (law x0 x1 W (i64_of wx0) (i64_of wx1) (pow_of_laid hL)).mono fun e W' ⟨he, hb⟩ => ?_
  subst he
  exact ⟨_, rfl, _, _, _, [], [], [], hW', trodAll_mk1 (shut_bool Tryd.underlying4 _), (trodAll_cons_mk (shut_int Tryd.underlying2 wx0) (trodAll_cons_mk (shut_int Tryd.underlying2 wx1) trodAll_mk0)), rfl, hb.frame _, fun h => by cases h⟩

theorem holds : Rows.DecModuloSaid :=
  OpenClaim.holds_of_wide 4 Tryd.f4 rfl rfl rfl rfl rfl rfl rfl ⟨rfl, rfl, rfl, rfl, rfl⟩ rfl rfl rfl rfl rfl (by kernel_rfl) Tryd.func4 (by kernel_rfl)
    (of_decide_eq_true (by kernel_rfl)) (by unfold Func.isWrapper; first | (rw [if_pos (by decide +kernel)]; kernel_rfl) | (rw [if_neg (by decide +kernel)]; exact ⟨rfl, rfl⟩))
    (fun os started H enc _ => lifted os started H enc)
theorem plain (f : FuncId) (fn : Func) (hf : Tryd.pinned.checked.prog.funcNamed "oriel/oriellaw01.DecModulo" = some f) (hfn : Tryd.pinned.checked.prog.funcs[f]? = some fn) :
    false = Tryd.pinned.checked.prog.looks [] ∧ ∀ (j : Nat) t, fn.params[j]? = some t → Tryd.pinned.checked.prog.wantsStandIn t = false := by
  obtain rfl : f = 4 := Option.some.inj ((show Tryd.prog.funcNamed "oriel/oriellaw01.DecModulo" = some 4 by kernel_rfl).symm.trans hf) |>.symm
  obtain rfl : fn = Tryd.f4 := (Option.some.inj (Tryd.func4.symm.trans hfn)).symm
  refine ⟨by kernel_rfl, fun j t ht => ?_⟩
  rw [Tryd.params4] at ht
  have hm : t ∈ [2, 2] := by simpa using Array.mem_of_getElem? ht
  have hall : ([2, 2].all fun u => !Tryd.prog.wantsStandIn u) = true := by kernel_rfl
  exact (show Tryd.prog.wantsStandIn t = false by simpa using List.all_eq_true.1 hall t hm)
/-- The card. -/
theorem card : Rows.DecModuloCardSaid :=
  Claim7.holds_tied_plain_at .later [] _ _ _ _ holds (fun _ h => by cases h) (by kernel_rfl) (fun _ h => by cases h) decModulo_row_tie rfl ⟨rfl, rfl⟩ (by kernel_rfl) rfl plain (by kernel_rfl)
end Go.Proofs.YtimcdeibjiekpabDoor.decModulo
namespace Go.Proofs.YtimcdeibjiekpabDoor
theorem decModulo_card : Rows.DecModuloCardSaid := decModulo.card
end Go.Proofs.YtimcdeibjiekpabDoor
