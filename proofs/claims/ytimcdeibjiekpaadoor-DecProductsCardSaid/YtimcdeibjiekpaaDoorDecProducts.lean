/- DecProducts: of any two int64 the program's Mul, Div and Mod answer what the document's answers are: the law returns true for every input. The card's own condition: the listed tables of Go's library lie as their initialisers lay them (tied to the program's text). -/
import Derived.Test.YtimcdeibjiekpaaDoorRProd
import Derived.Test.YtimcdeibjiekpaaDoorDivAny
import Derived.Test.YtimcdeibjiekpaaDoorBase
namespace Go.Proofs.YtimcdeibjiekpaaDoor.decProducts
open Go.Shelf Go.RowKit Go.ChangeShapes Go.WideShapes Go.ChangeAt
set_option linter.unusedVariables false
theorem law_aMin (a b : Int) (w : World) (ha : I64 a) (hb : I64 b) (hA : Hid (a = -9223372036854775808)) (h : Pow w) : Calls Tryd.prog 4 #[.int .i64 a, .int .i64 b] w fun e w' => e = .returned (.bool true) ∧ Below w.heap.size w w' := by
  go_enter Tryd.func4, Tryd.ntmps4
  go_wp2_with (first
    | (go_at_call 19; refine (mul_any _ _ _ ha hb).mono ?_; rintro e w' ⟨rfl, n, rfl⟩)
    | (go_at_call 20; refine (rmul_any _ _ _ ha hb).mono ?_; rintro e w' ⟨rfl, hb1⟩)
    | (go_at_call 21; refine (div_aMin _ _ _ hA.out).mono ?_; rintro e w' ⟨rfl, n, rfl⟩)
    | (go_at_call 22; refine (rdiv_aMin _ _ _ hA.out).mono ?_; rintro e w' ⟨rfl, rfl⟩)
    | (go_at_call 23; refine (modw_aMin _ _ _ hA.out).mono ?_; rintro e w' ⟨rfl, rfl⟩)
    | (go_at_call 24; refine (rmod_aMin _ _ _ hA.out).mono ?_; rintro e w' ⟨rfl, rfl⟩)
    | (go_at_call 11; refine (alike_same _ _ _).mono ?_; rintro e w' ⟨rfl, rfl⟩)
    | (go_at_call 18; refine (known_any _ (((h.draws _).stays hb1).draws _)).mono ?_; rintro e w1 ⟨rfl, hk⟩))
  go_ret
  exact ⟨rfl, ((Joins.below_draws _ _ _).trans (hb1.trans (Joins.below_draws _ _ _))).trans (hk.mono hb1.size)⟩
theorem law_bMin (a b : Int) (w : World) (ha : I64 a) (hb : I64 b) (hA : -9223372036854775807 ≤ a) (hB : Hid (b = -9223372036854775808)) (h : Pow w) : Calls Tryd.prog 4 #[.int .i64 a, .int .i64 b] w fun e w' => e = .returned (.bool true) ∧ Below w.heap.size w w' := by
  go_enter Tryd.func4, Tryd.ntmps4
  go_wp2_with (first
    | (go_at_call 19; refine (mul_any _ _ _ ha hb).mono ?_; rintro e w' ⟨rfl, n, rfl⟩)
    | (go_at_call 20; refine (rmul_any _ _ _ ha hb).mono ?_; rintro e w' ⟨rfl, hb1⟩)
    | (go_at_call 21; refine (div_bMin _ _ _ hA hB.out).mono ?_; rintro e w' ⟨rfl, n, rfl⟩)
    | (go_at_call 22; refine (rdiv_bMin _ _ _ hA hB.out).mono ?_; rintro e w' ⟨rfl, rfl⟩)
    | (go_at_call 23; refine (modw_bMin _ _ _ hA hB.out).mono ?_; rintro e w' ⟨rfl, rfl⟩)
    | (go_at_call 24; refine (rmod_bMin _ _ _ hA hB.out).mono ?_; rintro e w' ⟨rfl, rfl⟩)
    | (go_at_call 11; refine (alike_same _ _ _).mono ?_; rintro e w' ⟨rfl, rfl⟩)
    | (go_at_call 18; refine (known_any _ (((h.draws _).stays hb1).draws _)).mono ?_; rintro e w1 ⟨rfl, hk⟩))
  go_ret
  exact ⟨rfl, ((Joins.below_draws _ _ _).trans (hb1.trans (Joins.below_draws _ _ _))).trans (hk.mono hb1.size)⟩
theorem law_zero (a b : Int) (w : World) (ha : I64 a) (hb : I64 b) (hA : -9223372036854775807 ≤ a) (hB : Hid (b = 0)) (h : Pow w) : Calls Tryd.prog 4 #[.int .i64 a, .int .i64 b] w fun e w' => e = .returned (.bool true) ∧ Below w.heap.size w w' := by
  go_enter Tryd.func4, Tryd.ntmps4
  go_wp2_with (first
    | (go_at_call 19; refine (mul_any _ _ _ ha hb).mono ?_; rintro e w' ⟨rfl, n, rfl⟩)
    | (go_at_call 20; refine (rmul_any _ _ _ ha hb).mono ?_; rintro e w' ⟨rfl, hb1⟩)
    | (go_at_call 21; refine (div_zero _ _ _ hA hB.out).mono ?_; rintro e w' ⟨rfl, n, rfl⟩)
    | (go_at_call 22; refine (rdiv_zero _ _ _ hA hB.out).mono ?_; rintro e w' ⟨rfl, rfl⟩)
    | (go_at_call 23; refine (modw_bZero _ _ _ hA hB.out).mono ?_; rintro e w' ⟨rfl, rfl⟩)
    | (go_at_call 24; refine (rmod_bZero _ _ _ hA hB.out).mono ?_; rintro e w' ⟨rfl, rfl⟩)
    | (go_at_call 11; refine (alike_same _ _ _).mono ?_; rintro e w' ⟨rfl, rfl⟩)
    | (go_at_call 18; refine (known_any _ (((h.draws _).stays hb1).draws _)).mono ?_; rintro e w1 ⟨rfl, hk⟩))
  go_ret
  exact ⟨rfl, ((Joins.below_draws _ _ _).trans (hb1.trans (Joins.below_draws _ _ _))).trans (hk.mono hb1.size)⟩
theorem law_ok (a b : Int) (w : World) (ha : I64 a) (hb : I64 b) (ha3 : -9223372036854775807 ≤ a) (hb3 : -9223372036854775807 ≤ b) (hZ : b ≠ 0) (h : Pow w) : Calls Tryd.prog 4 #[.int .i64 a, .int .i64 b] w fun e w' => e = .returned (.bool true) ∧ Below w.heap.size w w' := by
  go_enter Tryd.func4, Tryd.ntmps4
  go_wp2_with (first
    | (go_at_call 19; refine (mul_any _ _ _ ha hb).mono ?_; rintro e w' ⟨rfl, n, rfl⟩)
    | (go_at_call 20; refine (rmul_any _ _ _ ha hb).mono ?_; rintro e w' ⟨rfl, hb1⟩)
    | (go_at_call 21; refine (div_any _ _ _ ha3 ha.2 hb3 hb.2 hZ).mono ?_; rintro e w' ⟨rfl, n, rfl⟩)
    | (go_at_call 22; refine (rdiv_any _ _ _ ha3 ha.2 hb3 hb.2 hZ).mono ?_; rintro e w' ⟨rfl, rfl⟩)
    | (go_at_call 23; refine (modw_ok _ _ _ ha3 ha.2 hb3 hb.2 hZ).mono ?_; rintro e w' ⟨rfl, rfl⟩)
    | (go_at_call 24; refine (rmod_ok _ _ _ ha3 ha.2 hb3 hb.2 hZ).mono ?_; rintro e w' ⟨rfl, rfl⟩)
    | (go_at_call 11; refine (alike_same _ _ _).mono ?_; rintro e w' ⟨rfl, rfl⟩)
    | (go_at_call 18; refine (known_any _ (((h.draws _).stays hb1).draws _)).mono ?_; rintro e w1 ⟨rfl, hk⟩))
  go_ret
  exact ⟨rfl, ((Joins.below_draws _ _ _).trans (hb1.trans (Joins.below_draws _ _ _))).trans (hk.mono hb1.size)⟩
theorem law (a b : Int) (w : World) (ha : I64 a) (hb : I64 b) (h : Pow w) : Calls Tryd.prog 4 #[.int .i64 a, .int .i64 b] w fun e w' => e = .returned (.bool true) ∧ Below w.heap.size w w' := by
  have ha1 := ha.1
  have hb1 := hb.1
  by_cases hA : a = -9223372036854775808
  · exact law_aMin a b w ha hb (Lib.hid hA) h
  by_cases hB : b = -9223372036854775808
  · exact law_bMin a b w ha hb (by omega) (Lib.hid hB) h
  by_cases hZ : b = 0
  · exact law_zero a b w ha hb (by omega) (Lib.hid hZ) h
  · exact law_ok a b w ha hb (by omega) (by omega) hZ h

set_option maxRecDepth 100000 in
theorem lifted (os : Os) (started : os.Started) (H : Type) (enc : TypeId × Value → H) :
    ReturnsInHanded {} Tryd.checked os 4 .any (fun w args => (Rows.decProductsSpec.pre enc Tryd.prog Tryd.f4 [] false w args ∧ laidMetH Tryd.prog tables w) ∧ sizedMet enc Tryd.prog Tryd.f4 (OpenSpec.ofChange Rows.decProductsSpec) false w args)
      (Rows.decProductsSpec.post enc Tryd.prog Tryd.f4 false true false false) := by
  refine returnsInHanded_of_change_and (C := Tryd.checked) (X := fun w _ => laidMetH Tryd.prog tables w) (fun _ _ _ hh h => h.of_heap hh) own started (by kernel_rfl) Tryd.func4
    (ChangeSpec.witness_shaped (enc := enc) (C := Tryd.checked) (os := os) (X := fun w _ => laidMetH Tryd.prog tables w) false (World.laidAll Tryd.prog os tables) #[.int .i64 0, .int .i64 0] 8 (World.laidAll_os _ _ _)
      (World.shaped_of_ZipB (by kernel_rfl) (by kernel_rfl)) (by kernel_rfl) (by kernel_rfl) (by kernel_rfl)
      (by rw [MakeChecks.laidMetH_plain _ _ _ (by kernel_rfl)]; exact laidMet_laidAll _ (by kernel_rfl) (by kernel_rfl))) ?_
  intro W base args ds gs before hval0 hW _ _ hL _
  have hval : ∀ (j : Nat) t v, Tryd.f4.params[j]? = some t → args[j]? = some v → Value.okWide Tryd.prog W .any base t v := hval0
  have hW' := hW
  obtain ⟨p, q, hA0, hV, rfl, _, _⟩ := hW
  have hA : DataW.TrodAll enc Tryd.prog W 0 (fun _ => true) true Tryd.f4.params.toList args.toList ds p := hA0
  rw [Tryd.params4] at hA hval
  obtain ⟨v0, vs0, d0, ds0, p0, q0, hargs, rfl, rfl, h0, r0⟩ := trodAll_cons hA
  obtain ⟨v1, vs1, d1, ds1, p1, q1, rfl, rfl, rfl, h1, r1⟩ := trodAll_cons r0
  obtain ⟨rfl, rfl, rfl⟩ := trodAll_nil r1
  obtain rfl : args = #[v0, v1] := by cases args; simp_all
  obtain ⟨rfl, rfl⟩ := trodVars_none hV
  obtain ⟨x0, rfl, rfl, rfl, wx0⟩ := open_int Tryd.underlying2 (hval 0 2 v0 rfl rfl) h0
  obtain ⟨x1, rfl, rfl, rfl, wx1⟩ := open_int Tryd.underlying2 (hval 1 2 v1 rfl rfl) h1
  simp only [List.append_nil] at hW'
  refine (law x0 x1 W (i64_of wx0) (i64_of wx1) (pow_of_laid hL)).mono fun e W' ⟨he, hb⟩ => ?_
  subst he
  exact ⟨_, rfl, _, _, _, [], [], [], hW', trodAll_mk1 (shut_bool Tryd.underlying4 _), (trodAll_cons_mk (shut_int Tryd.underlying2 wx0) (trodAll_cons_mk (shut_int Tryd.underlying2 wx1) trodAll_mk0)), rfl, hb.frame _, fun h => by cases h⟩

theorem holds : Rows.DecProductsSaid :=
  OpenClaim.holds_of_wide 4 Tryd.f4 rfl rfl rfl rfl rfl rfl rfl ⟨rfl, rfl, rfl, rfl, rfl⟩ rfl rfl rfl rfl rfl (by kernel_rfl) Tryd.func4 (by kernel_rfl)
    (of_decide_eq_true (by kernel_rfl)) (by unfold Func.isWrapper; first | (rw [if_pos (by decide +kernel)]; kernel_rfl) | (rw [if_neg (by decide +kernel)]; exact ⟨rfl, rfl⟩))
    (fun os started H enc _ => lifted os started H enc)
theorem plain (f : FuncId) (fn : Func) (hf : Tryd.pinned.checked.prog.funcNamed "oriel/oriellaw01.DecProducts" = some f) (hfn : Tryd.pinned.checked.prog.funcs[f]? = some fn) :
    false = Tryd.pinned.checked.prog.looks [] ∧ ∀ (j : Nat) t, fn.params[j]? = some t → Tryd.pinned.checked.prog.wantsStandIn t = false := by
  obtain rfl : f = 4 := Option.some.inj ((show Tryd.prog.funcNamed "oriel/oriellaw01.DecProducts" = some 4 by kernel_rfl).symm.trans hf) |>.symm
  obtain rfl : fn = Tryd.f4 := (Option.some.inj (Tryd.func4.symm.trans hfn)).symm
  refine ⟨by kernel_rfl, fun j t ht => ?_⟩
  rw [Tryd.params4] at ht
  have hm : t ∈ [2, 2] := by simpa using Array.mem_of_getElem? ht
  have hall : ([2, 2].all fun u => !Tryd.prog.wantsStandIn u) = true := by kernel_rfl
  exact (show Tryd.prog.wantsStandIn t = false by simpa using List.all_eq_true.1 hall t hm)
/-- The card. -/
theorem card : Rows.DecProductsCardSaid :=
  Claim7.holds_tied_plain_at .later [] _ _ _ _ holds (fun _ h => by cases h) (by kernel_rfl) (fun _ h => by cases h) decProducts_row_tie rfl ⟨rfl, rfl⟩ (by kernel_rfl) rfl plain (by kernel_rfl)
end Go.Proofs.YtimcdeibjiekpaaDoor.decProducts
namespace Go.Proofs.YtimcdeibjiekpaaDoor
theorem decProducts_card : Rows.DecProductsCardSaid := decProducts.card
end Go.Proofs.YtimcdeibjiekpaaDoor
