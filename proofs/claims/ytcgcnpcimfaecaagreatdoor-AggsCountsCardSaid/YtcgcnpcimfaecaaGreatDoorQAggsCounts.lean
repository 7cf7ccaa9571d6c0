/- AggsCounts: of every argument: of a rectangle that may be the cells that are Blank and those that are not are all, and COUNTIF of Blank counts the first, as the program's Call tells; the law's known calls are answered as they are written there: the law returns true, and its argument reads as before. The condition: the tables of the library's package variables lie as laid. -/
import Derived.Test.YtcgcnpcimfaecaaGreatDoorQGV
import Derived.Test.YtcgcnpcimfaecaaGreatDoorQGY1
namespace Go.Proofs.YtcgcnpcimfaecaaGreatDoor.aggsCounts
open Go.Shelf Go.RowKit Go.ChangeShapes Go.WideShapes Go.ChangeAt
set_option linter.all false
theorem few_of (t n : Int) (s : ByteArray) (b : Bool) (c r0 r1 r2 r3 : Int) (ep : Option Addr) (en ec : Nat) (es : List En) (hm : mnB ((⟨true, t, n, s, b, c, r0, r1, r2, r3, ep, en, ec⟩ : Ag), es) = false) : es.length ≤ 1048576 := by
  simp only [mnB, if_true] at hm
  cases q1 : vz5 t n s b c
  · rw [q1] at hm; cases hm
  cases q2 : Ad.mayR r0 r1 r2 r3
  · rw [q1, q2] at hm; cases hm
  cases q3 : entsB r0 r1 r2 r3 es
  · rw [q1, q2, q3] at hm; cases hm
  have hri := Ad.mayR_is q2
  have hf := ents_fit q3 (by omega) (by omega)
  have ha1 : ((r2 - r0 + 1) * (r3 - r1 + 1)) ≤ 4096 * 256 := Int.mul_le_mul (by omega) (by omega) (by omega) (by omega)
  omega
theorem law (x : Ag × List En) (w : World) (aw : Oa.AgW w x) : Calls Tryz.prog 7 #[.agg (Ag.cells x.1)] w fun e w' => e = .returned (.bool true) ∧ Below w.heap.size w w' := by
  obtain ⟨⟨m, t, n, s, b, c, r0, r1, r2, r3, ep, en, ec⟩, es⟩ := x
  cases m
  · exact counts_f t n s b c r0 r1 r2 r3 ep en ec es w
  · cases hm : mnB ((⟨true, t, n, s, b, c, r0, r1, r2, r3, ep, en, ec⟩ : Ag), es)
    · exact counts_ok t n s b c r0 r1 r2 r3 ep en ec es w (aw.e (show es.length ≤ 1099511627776 from by have := few_of t n s b c r0 r1 r2 r3 ep en ec es hm; omega)) aw.2.2.1 hm
    · exact counts_no t n s b c r0 r1 r2 r3 ep en ec es w aw.2.1 (show Hid _ from fun x hx => (aw.2.2.2.2 x hx).2.2.2.1) (by have h1 := aw.2.2.1; have h2 := aw.2.2.2.1; unfold maxLen at h2; simp only at h1 h2; omega) hm

set_option maxRecDepth 100000 in
theorem lifted (os : Os) (started : os.Started) (H : Type) (enc : TypeId × Value → H) :
    ReturnsInHanded {} Tryz.checked os 7 .any (fun w args => (Rows.aggsCountsSpec.pre enc Tryz.prog Tryz.f7 [] false w args ∧ laidMetH Tryz.prog tables w) ∧ sizedMet enc Tryz.prog Tryz.f7 (OpenSpec.ofChange Rows.aggsCountsSpec) false w args)
      (Rows.aggsCountsSpec.post enc Tryz.prog Tryz.f7 false true false false) := by
  refine returnsInHanded_of_change_and (C := Tryz.checked) (X := fun w _ => laidMetH Tryz.prog tables w) (fun _ _ _ hh h => h.of_heap hh) own started (by kernel_rfl) Tryz.func7
    (ChangeSpec.witness_shaped (enc := enc) (C := Tryz.checked) (os := os) (X := fun w _ => laidMetH Tryz.prog tables w) false (World.laidAll Tryz.prog os tables) #[.agg #[.bool false, .int .i64 0, .int .i64 0, .string ⟨#[]⟩, .bool false, .int .i64 0, .int .i64 0, .int .i64 0, .int .i64 0, .int .i64 0, .slice none 0 0]] 8 (World.laidAll_os _ _ _)
      (World.shaped_of_ZipB (by kernel_rfl) (by kernel_rfl)) (by kernel_rfl) (by kernel_rfl) (by kernel_rfl)
      (by rw [MakeChecks.laidMetH_plain _ _ _ (by kernel_rfl)]; exact laidMet_laidAll _ (by kernel_rfl) (by kernel_rfl))) ?_
  intro W base args ds gs before hval0 hW _ _ hL hS
  have hval : ∀ (j : Nat) t v, Tryz.f7.params[j]? = some t → args[j]? = some v → Value.okWide Tryz.prog W .any base t v := hval0
  have hW' := hW
  have hlt := hW.lt
  obtain ⟨p, q, hA0, hV, rfl, _, _⟩ := hW
  have hA : DataW.TrodAll enc Tryz.prog W 0 (fun _ => true) true Tryz.f7.params.toList args.toList ds p := hA0
  rw [Tryz.params7] at hA hval
  obtain ⟨v0, vs0, d0, ds0, p0, q0, hargs, rfl, rfl, h0, r0⟩ := trodAll_cons hA
  obtain ⟨rfl, rfl, rfl⟩ := trodAll_nil r0
  obtain rfl : args = #[v0] := by cases args; simp_all
  obtain ⟨rfl, rfl⟩ := trodVars_none hV
  obtain ⟨x0, ev0, aw0⟩ := Oa.open_arg (hval 0 40 v0 rfl rfl) h0
  subst ev0
  refine (law x0 W aw0).mono fun e W' ⟨he, hb⟩ => ?_
  subst he
  exact ⟨_, rfl, _, _, _, [], _, [], hW', trodAll_mk1 (shut_bool Tryz.underlying4 _), (trodAll_cons_mk (WideElems.Trod_stays laidOutN (by kernel_rfl) (show 40 < Tryz.prog.types.size from of_decide_eq_true (by kernel_rfl)) h0 (fun x hx => hb.same (hlt x (by simp [hx]))) (fun x hx => by have := hlt x (by simp [hx]); simpa using this)) trodAll_mk0), rfl, hb.frame _, fun h => by cases h⟩

theorem holds : Rows.AggsCountsSaid :=
  OpenClaim.holds_of_wide 7 Tryz.f7 rfl rfl rfl rfl rfl rfl rfl ⟨rfl, rfl, rfl, rfl, rfl⟩ rfl rfl rfl rfl rfl (by kernel_rfl) Tryz.func7 (by kernel_rfl)
    (of_decide_eq_true (by kernel_rfl)) (by unfold Func.isWrapper; first | (rw [if_pos (by decide +kernel)]; kernel_rfl) | (rw [if_neg (by decide +kernel)]; exact ⟨rfl, rfl⟩))
    (fun os started H enc _ => lifted os started H enc)
theorem plain (f : FuncId) (fn : Func) (hf : Tryz.pinned.checked.prog.funcNamed "oriel/oriellaw10.AggsCounts" = some f) (hfn : Tryz.pinned.checked.prog.funcs[f]? = some fn) :
    false = Tryz.pinned.checked.prog.looks [] ∧ ∀ (j : Nat) t, fn.params[j]? = some t → Tryz.pinned.checked.prog.wantsStandIn t = false := by
  obtain rfl : f = 7 := Option.some.inj ((show Tryz.prog.funcNamed "oriel/oriellaw10.AggsCounts" = some 7 by kernel_rfl).symm.trans hf) |>.symm
  obtain rfl : fn = Tryz.f7 := (Option.some.inj (Tryz.func7.symm.trans hfn)).symm
  refine ⟨by kernel_rfl, fun j t ht => ?_⟩
  rw [Tryz.params7] at ht
  have hm : t ∈ [40] := by simpa using Array.mem_of_getElem? ht
  have hall : ([40].all fun u => !Tryz.prog.wantsStandIn u) = true := by kernel_rfl
  exact (show Tryz.prog.wantsStandIn t = false by simpa using List.all_eq_true.1 hall t hm)
/-- The card. -/
theorem card : Rows.AggsCountsCardSaid :=
  Claim7.holds_tied_plain_at .later [] _ _ _ _ holds (fun _ h => by cases h) (by kernel_rfl) (fun _ h => by cases h) aggsCounts_row_tie rfl ⟨rfl, rfl⟩ (by kernel_rfl) rfl plain (by kernel_rfl)
end Go.Proofs.YtcgcnpcimfaecaaGreatDoor.aggsCounts
namespace Go.Proofs.YtcgcnpcimfaecaaGreatDoor
theorem aggsCounts_card : Rows.AggsCountsCardSaid := aggsCounts.card
end Go.Proofs.YtcgcnpcimfaecaaGreatDoor
