/- StampsNewer: of every row of steps and every number the law returns true (Newer tells whether a cell changed behind another one's last look), and its arguments read as before. No condition. -/
import Derived.Test.YtmajbophgdimlaaLP
import Derived.Test.YtmajbophgdimlaaLF
namespace Go.Proofs.Ytmajbophgdimlaa.stampsNewer
open Go.RowKit Go.ChangeShapes Go.WideShapes Go.ChangeAt
set_option linter.all false

set_option maxRecDepth 100000 in
theorem lifted (os : Os) (started : os.Started) (H : Type) (enc : TypeId × Value → H) :
    ReturnsInHanded {} Try.checked os 3 .any (Rows.stampsNewerSpec.pre6 enc Try.prog Try.f3 Rows.stampsNewerRow.domain false) (Rows.stampsNewerSpec.post enc Try.prog Try.f3 false true false false) := by
  refine returnsInHanded_of_change_sized (C := Try.checked) own started (by kernel_rfl) Try.func3
    (ChangeSpec.witness6 (enc := enc) (C := Try.checked) false ⟨#[], #[.slice none 0 0, .int .i64 0], []⟩ 8 (by kernel_rfl) (by kernel_rfl) (by kernel_rfl) (by kernel_rfl)) ?_
  intro W base args ds gs before hval0 hW _ hZ _
  have hval : ∀ (j : Nat) t v, Try.f3.params[j]? = some t → args[j]? = some v → Value.okWide Try.prog W .any base t v := hval0
  have hW' := hW
  have hlt := hW.lt
  obtain ⟨p, q, hA0, hV, rfl, _, _⟩ := hW
  have hA : DataW.TrodAll enc Try.prog W 0 (fun _ => true) true Try.f3.params.toList args.toList ds p := hA0
  rw [Try.params3] at hA hval
  obtain ⟨v0, vs0, d0, ds0, p0, q0, hargs, rfl, rfl, h0, r0⟩ := trodAll_cons hA
  obtain ⟨v1, vs1, d1, ds1, p1, q1, rfl, rfl, rfl, h1, r1⟩ := trodAll_cons r0
  obtain ⟨rfl, rfl, rfl⟩ := trodAll_nil r1
  obtain rfl : args = #[v0, v1] := by cases args; simp_all
  obtain ⟨rfl, rfl⟩ := trodVars_none hV
  have hZ' : (DataW.weightsEach Try.prog (Try.f3.params.toList ++ Rows.stampsNewerSpec.plain.varTypes Try.prog) ([d0, d1] ++ [])).all (· ≤ reachBytes) = true := hZ
  rw [Try.params3] at hZ'
  clear hZ
  obtain ⟨l0, nv0, sz0⟩ := open_ops (hval 0 22 v0 rfl rfl) h0
  obtain ⟨x1_0, rfl, rfl, rfl, w1_0⟩ := open_int Try.underlying3 (hval 1 3 v1 rfl rfl) h1
  have hz0 := list_bytes Try.underlying22 bytesOp nv0 h0 hZ' (j := 0) rfl rfl
  refine (newer_walk W v0 l0 x1_0 nv0 sz0 hz0 (i64_of w1_0)).mono fun e W' ⟨he, hb⟩ => ?_
  subst he
  exact ⟨_, rfl, _, _, _, [], _, [], hW', trodAll_mk1 (shut_bool Try.underlying4 _), (trodAll_cons_mk (WideElems.Trod_stays laidOutN (by kernel_rfl) rowOps h0 (fun x hx => hb.same (hlt x (by simp [hx]))) (fun x hx => by have := hlt x (by simp [hx]); simpa using this)) (trodAll_cons_mk (shut_int Try.underlying3 w1_0) trodAll_mk0)), rfl, hb.frame _, fun h => by cases h⟩

theorem holds : Rows.StampsNewerSaid :=
  OpenClaim.holds_of_wide 3 Try.f3 rfl rfl rfl rfl rfl rfl rfl ⟨rfl, rfl, rfl, rfl, rfl⟩ rfl rfl rfl rfl rfl (by kernel_rfl) Try.func3 (by kernel_rfl)
    (of_decide_eq_true (by kernel_rfl)) (by unfold Func.isWrapper; first | (rw [if_pos (by decide +kernel)]; kernel_rfl) | (rw [if_neg (by decide +kernel)]; exact ⟨rfl, rfl⟩))
    (fun os started H enc _ => lifted os started H enc)
end Go.Proofs.Ytmajbophgdimlaa.stampsNewer
namespace Go.Proofs.Ytmajbophgdimlaa
theorem stampsNewer_holds : Rows.StampsNewerSaid := stampsNewer.holds
end Go.Proofs.Ytmajbophgdimlaa
