/- Proved: the law AggsOrder returns true for any arguments of an admitted call (second form: as much as the bound of the statement allows), and only new memory is made. The condition is the statement's own. -/
import Derived.Test.YtcgcnpcimfaecaaGreatDoorQGV
import Derived.Test.YtcgcnpcimfaecaaGreatDoorQGH3
import Derived.Test.YtcgcnpcimfaecaaGreatDoorQGY1
namespace Go.Proofs.YtcgcnpcimfaecaaGreatDoor.aggsOrder
open Go.Shelf Go.RowKit Go.ChangeShapes Go.WideShapes Go.ChangeAt
set_option linter.all false
theorem law (v : Value) (L : List (Ag × List En)) (W : World) (av : AV W v (L.map Prod.fst)) (aw : ∀ q ∈ L, Oa.AgW W q) (ht : Oa.tot L ≤ 1048576) : Calls Tryz.prog 5 #[v] W fun e w' => e = .returned (.bool true) ∧ Below W.heap.size W w' := by
  have hlen := Oa.len_tot L
  have hE : Hid (∀ q ∈ L, AgE W q) := (show _ from fun q hq => (aw q hq).e (by have h1 := Oa.mem_tot hq; omega))
  have av' := av
  obtain ⟨p, c, rfl, hc, hf⟩ := av
  rw [List.length_map] at av' ⊢
  cases hm : L.any mnB
  · cases hfl : fltB L
    · by_cases h16 : L.length ≤ 16
      · exact order_ok W p L.length c L av' hE rfl (by omega) hm hfl h16 ht
      · exact order_16 W p L.length c L av' hE rfl (by omega) hm hfl (by omega)
    · exact order_f W p L.length c L av' hE rfl (by omega) hm hfl
  · exact order_no W p L.length c L av' hE rfl (by omega) hm
theorem reads (os : Os) {H : Type} (enc : TypeId × Value → H) : ∃ places, DataW.whole enc Tryz.prog ((World.laidAll Tryz.prog os tables).forCall (fun _ _ => 0) ⟨#[], #[.slice none 0 0], []⟩).memory Tryz.f5.params.toList Rows.aggsOrderSpec.vars false #[.slice none 0 0].toList 8 = some ([.nil], [], places) :=
  ⟨[], by kernel_rfl⟩
theorem met (os : Os) : laidMetH Tryz.prog tables ((World.laidAll Tryz.prog os tables).forCall (fun _ _ => 0) ⟨#[], #[.slice none 0 0], []⟩).memory := by
  rw [MakeChecks.laidMetH_plain _ _ _ (by kernel_rfl)]; exact laidMet_laidAll _ (by kernel_rfl) (by kernel_rfl)
set_option maxRecDepth 100000 in
theorem lifted (os : Os) (started : os.Started) (H : Type) (enc : TypeId × Value → H) (F : Stop.Interp) :
    ReturnsInHanded {} Tryz.checked os 5 .any ((Rows.OpenSpec.upto Rows.aggsOrderSpec).preRow enc Tryz.prog Tryz.f5 Rows.aggsOrderUptoRow.domain false Rows.aggsOrderUptoRow.laid) (((Rows.OpenSpec.upto Rows.aggsOrderSpec).at F).post enc Tryz.prog Tryz.f5 false true false false) := by
  obtain ⟨places, hx⟩ := reads os enc
  refine returnsInHanded_of_row (C := Tryz.checked) (s := Rows.OpenSpec.upto Rows.aggsOrderSpec) own started (by kernel_rfl) Tryz.func5
    (witness_row_at (enc := enc) (C := Tryz.checked) false (World.laidAll Tryz.prog os tables) #[.slice none 0 0] (World.laidAll_os _ _ _) (by kernel_rfl) (by kernel_rfl) (by kernel_rfl)
      (OpenSpec.preRow_of_cond 8 hx (by kernel_rfl) (fun k hk => by cases hk; kernel_rfl) (by kernel_rfl) (met os))) ?_
  intro W base args ds gs before hval hW _ hcond _ hL hSh _
  have hW' := hW
  have hlt := hW.lt
  obtain ⟨p, q, hA0, hV, rfl, _, _⟩ := hW
  have hA : DataW.TrodAll enc Tryz.prog W 0 (fun _ => true) true Tryz.f5.params.toList args.toList ds p := hA0
  rw [Tryz.params5] at hA hval
  obtain ⟨v0, vs0, d0, ds0, p0, q0, hargs, rfl, rfl, h0, r0⟩ := trodAll_cons hA
  obtain ⟨rfl, rfl, rfl⟩ := trodAll_nil r0
  obtain rfl : args = #[v0] := by cases args; simp_all
  obtain ⟨rfl, rfl⟩ := trodVars_none hV
  obtain ⟨l0, av0, aw0, tot0⟩ := Oa.open_args (hval 0 22 v0 rfl rfl) h0
  refine (law v0 l0 W av0 aw0 (Nat.le_trans tot0 (Oa.bulk_at (a := []) (of_decide_eq_true (hcond _ rfl))))).mono fun e W' ⟨he, hb⟩ => ?_
  subst he
  exact ⟨_, rfl, _, _, _, [], _, [], hW', trodAll_mk1 (shut_bool Tryz.underlying4 _), (trodAll_cons_mk (WideElems.Trod_stays laidOutN (by kernel_rfl) (show 22 < Tryz.prog.types.size from of_decide_eq_true (by kernel_rfl)) h0 (fun x hx => hb.same (hlt x (by simp [hx]))) (fun x hx => by have := hlt x (by simp [hx]); simpa using this)) trodAll_mk0), rfl, hb.frame _, fun h => by cases h⟩
theorem holds : Rows.AggsOrderUptoSaid :=
  OpenClaim.holds_of_cond 5 Tryz.f5 rfl rfl rfl rfl rfl rfl rfl ⟨rfl, rfl, rfl, rfl, rfl⟩ rfl rfl rfl rfl rfl (by kernel_rfl) Tryz.func5 (by kernel_rfl)
    (of_decide_eq_true (by kernel_rfl)) (by unfold Func.isWrapper; first | (rw [if_pos (by decide +kernel)]; kernel_rfl) | (rw [if_neg (by decide +kernel)]; exact ⟨rfl, rfl⟩))
    (fun os started H enc _ F => by rw [OpenClaim.pre_eq_preRow]; exact lifted os started H enc F)
theorem plain (f : FuncId) (fn : Func) (hf : Tryz.pinned.checked.prog.funcNamed "oriel/oriellaw10.AggsOrder" = some f) (hfn : Tryz.pinned.checked.prog.funcs[f]? = some fn) :
    false = Tryz.pinned.checked.prog.looks [] ∧ ∀ (j : Nat) t, fn.params[j]? = some t → Tryz.pinned.checked.prog.wantsStandIn t = false := by
  obtain rfl : f = 5 := Option.some.inj ((show Tryz.prog.funcNamed "oriel/oriellaw10.AggsOrder" = some 5 by kernel_rfl).symm.trans hf) |>.symm
  obtain rfl : fn = Tryz.f5 := (Option.some.inj (Tryz.func5.symm.trans hfn)).symm
  refine ⟨by kernel_rfl, fun j t ht => ?_⟩
  rw [Tryz.params5] at ht
  have hm : t ∈ [22] := by simpa using Array.mem_of_getElem? ht
  have hall : ([22].all fun u => !Tryz.prog.wantsStandIn u) = true := by kernel_rfl
  exact (show Tryz.prog.wantsStandIn t = false by simpa using List.all_eq_true.1 hall t hm)
/-- The card. -/
theorem card : Rows.AggsOrderUptoCardSaid :=
  Claim7.holds_tied_plain_at .later [] _ _ _ _ holds (fun _ h => by cases h) (by kernel_rfl) (fun _ h => by cases h) aggsOrderUpto_row_tie rfl ⟨rfl, rfl⟩ (by kernel_rfl) rfl plain (by kernel_rfl)
end Go.Proofs.YtcgcnpcimfaecaaGreatDoor.aggsOrder
namespace Go.Proofs.YtcgcnpcimfaecaaGreatDoor
theorem aggsOrder_card : Rows.AggsOrderUptoCardSaid := aggsOrder.card
end Go.Proofs.YtcgcnpcimfaecaaGreatDoor
