/- StoreWalk: of every row of cells and every rectangle the law returns true (the walk tells just the cells of the rectangle with contents, each once, row by row), and its arguments read as before. No condition. -/
import Derived.Test.YtioialnndejkiaaSV
import Derived.Test.YtioialnndejkiaaSG
namespace Go.Proofs.Ytioialnndejkiaa.storeWalk
open Go.RowKit Go.ChangeShapes Go.WideShapes Go.ChangeAt
set_option linter.all false

set_option maxRecDepth 100000 in
theorem lifted (os : Os) (started : os.Started) (H : Type) (enc : TypeId × Value → H) :
    ReturnsInHanded {} Try.checked os 4 .any (Rows.storeWalkSpec.pre6 enc Try.prog Try.f4 Rows.storeWalkRow.domain false) (Rows.storeWalkSpec.post enc Try.prog Try.f4 false true false false) := by
  refine returnsInHanded_of_change_sized (C := Try.checked) own started (by kernel_rfl) Try.func4
    (ChangeSpec.witness6 (enc := enc) (C := Try.checked) false ⟨#[], #[.slice none 0 0, .agg #[.int .i64 0, .int .i64 0, .int .i64 0, .int .i64 0]], []⟩ 8 (by kernel_rfl) (by kernel_rfl) (by kernel_rfl) (by kernel_rfl)) ?_
  intro W base args ds gs before hval0 hW _ hZ _
  have hval : ∀ (j : Nat) t v, Try.f4.params[j]? = some t → args[j]? = some v → Value.okWide Try.prog W .any base t v := hval0
  have hW' := hW
  have hlt := hW.lt
  obtain ⟨p, q, hA0, hV, rfl, _, _⟩ := hW
  have hA : DataW.TrodAll enc Try.prog W 0 (fun _ => true) true Try.f4.params.toList args.toList ds p := hA0
  rw [Try.params4] at hA hval
  obtain ⟨v0, vs0, d0, ds0, p0, q0, hargs, rfl, rfl, h0, r0⟩ := trodAll_cons hA
  obtain ⟨v1, vs1, d1, ds1, p1, q1, rfl, rfl, rfl, h1, r1⟩ := trodAll_cons r0
  obtain ⟨rfl, rfl, rfl⟩ := trodAll_nil r1
  obtain rfl : args = #[v0, v1] := by cases args; simp_all
  obtain ⟨rfl, rfl⟩ := trodVars_none hV
  have hZ' : (DataW.weightsEach Try.prog (Try.f4.params.toList ++ Rows.storeWalkSpec.plain.varTypes Try.prog) ([d0, d1] ++ [])).all (· ≤ reachBytes) = true := hZ
  rw [Try.params4] at hZ'
  clear hZ
  obtain ⟨l0, nv0, sz0⟩ := open_cells (hval 0 44 v0 rfl rfl) h0
  obtain ⟨x1_0, x1_1, x1_2, x1_3, rfl, rfl, rfl, w1_0, w1_1, w1_2, w1_3⟩ := open_rect (hval 1 34 v1 rfl rfl) h1
  have hz0 := list_bytes Try.underlying44 bytesCl nv0 h0 hZ' (j := 0) rfl rfl
  refine (walk_walk W v0 l0 x1_0 x1_1 x1_2 x1_3 nv0 sz0 (i64_of w1_0) (i64_of w1_1) (i64_of w1_2) (i64_of w1_3) hz0).mono fun e W' ⟨he, hb⟩ => ?_
  subst he
  exact ⟨_, rfl, _, _, _, [], _, [], hW', trodAll_mk1 (shut_bool Try.underlying4 _), (trodAll_cons_mk (WideElems.Trod_stays laidOutN (by kernel_rfl) rowCells h0 (fun x hx => hb.same (hlt x (by simp [hx]))) (fun x hx => by have := hlt x (by simp [hx]); simpa using this)) (trodAll_cons_mk (shut_rect w1_0 w1_1 w1_2 w1_3) trodAll_mk0)), rfl, hb.frame _, fun h => by cases h⟩

theorem holds : Rows.StoreWalkSaid :=
  OpenClaim.holds_of_wide 4 Try.f4 rfl rfl rfl rfl rfl rfl rfl ⟨rfl, rfl, rfl, rfl, rfl⟩ rfl rfl rfl rfl rfl (by kernel_rfl) Try.func4 (by kernel_rfl)
    (of_decide_eq_true (by kernel_rfl)) (by unfold Func.isWrapper; first | (rw [if_pos (by decide +kernel)]; kernel_rfl) | (rw [if_neg (by decide +kernel)]; exact ⟨rfl, rfl⟩))
    (fun os started H enc _ => lifted os started H enc)
end Go.Proofs.Ytioialnndejkiaa.storeWalk
namespace Go.Proofs.Ytioialnndejkiaa
theorem storeWalk_holds : Rows.StoreWalkSaid := storeWalk.holds
end Go.Proofs.Ytioialnndejkiaa
