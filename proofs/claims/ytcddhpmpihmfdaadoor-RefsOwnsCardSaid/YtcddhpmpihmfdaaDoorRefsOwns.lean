/- RefsOwns: whoever writes into the list that Of answered, and behind it, changes no other one: it answers the document's list again; the living whole lives: the law returns true, and the formula reads as it did. The card's own condition: the two listed tables lie as the program's text lays them (tied to it); no other. -/
import Derived.Test.YtcddhpmpihmfdaaDoorF1
import Derived.Test.YtcddhpmpihmfdaaDoorT4
namespace Go.Proofs.YtcddhpmpihmfdaaDoor.refsOwns
open Go.Shelf Go.RowKit Go.ChangeShapes Go.WideShapes Go.ChangeAt
set_option linter.all false
theorem law (w : World) (v : Value) (ns : List Nd) (hv : NV w v ns) (wf : ∀ x ∈ ns, Vv.I64 x.num) (hx : 136 * (ns.length + 2) ≤ 281474976710656) :
    Calls Tryd.prog 8 #[.agg #[v]] w fun e w' => e = .returned (.bool true) ∧ Below w.heap.size w w' := by
  have h1 : ∀ w1, Below w.heap.size w w1 → Calls Tryd.prog 17 #[.agg #[v]] w1 fun e w' => ∃ pa ca, e = .returned (.slice pa (ofN ns).length ca) ∧ RRow w' w1.heap.size (.slice pa (ofN ns).length ca) (ofN ns) ∧ Below w1.heap.size w1 w' := fun w1 h => (of_any w1 v ns (hv.keep h) wf).mono row_out
  have h2 : ∀ w1, Below w.heap.size w w1 → Calls Tryd.prog 18 #[.agg #[v]] w1 fun e w' => ∃ pa ca, e = .returned (.slice pa (ofN ns).length ca) ∧ RRow w' w1.heap.size (.slice pa (ofN ns).length ca) (ofN ns) ∧ Below w1.heap.size w1 w' := fun w1 h => (rof_any w1 v ns (hv.keep h) wf).mono row_out
  obtain ⟨p, cap, rfl, -, -⟩ := hv
  exact owns_any w p ns.length cap _ (ofN ns) rfl (ofN_len ns) h1 h2

set_option maxRecDepth 100000 in
theorem lifted (os : Os) (started : os.Started) (H : Type) (enc : TypeId × Value → H) :
    ReturnsInHanded {} Tryd.checked os 8 .any (fun w args => (Rows.refsOwnsSpec.pre enc Tryd.prog Tryd.f8 [] false w args ∧ laidMetH Tryd.prog tables w) ∧ sizedMet enc Tryd.prog Tryd.f8 (OpenSpec.ofChange Rows.refsOwnsSpec) false w args)
      (Rows.refsOwnsSpec.post enc Tryd.prog Tryd.f8 false true false false) := by
  refine returnsInHanded_of_change_and (C := Tryd.checked) (X := fun w _ => laidMetH Tryd.prog tables w) (fun _ _ _ hh h => h.of_heap hh) own started (by kernel_rfl) Tryd.func8
    (ChangeSpec.witness_shaped (enc := enc) (C := Tryd.checked) (os := os) (X := fun w _ => laidMetH Tryd.prog tables w) false (World.laidAll Tryd.prog os tables) #[.agg #[.slice none 0 0]] 8 (World.laidAll_os _ _ _)
      (World.shaped_of_ZipB (by kernel_rfl) (by kernel_rfl)) (by kernel_rfl) (by kernel_rfl) (by kernel_rfl)
      (by rw [MakeChecks.laidMetH_plain _ _ _ (by kernel_rfl)]; exact laidMet_laidAll _ (by kernel_rfl) (by kernel_rfl))) ?_
  intro W base args ds gs before hval0 hW _ hsz hL _
  have hval : ∀ (j : Nat) t v, Tryd.f8.params[j]? = some t → args[j]? = some v → Value.okWide Tryd.prog W .any base t v := hval0
  have hW' := hW
  have hlt := hW.lt
  obtain ⟨p, q, hA0, hV, rfl, _, _⟩ := hW
  have hA : DataW.TrodAll enc Tryd.prog W 0 (fun _ => true) true Tryd.f8.params.toList args.toList ds p := hA0
  rw [Tryd.params8] at hA hval hsz
  obtain ⟨v0, vs0, d0, ds0, p0, q0, hargs, rfl, rfl, h0, r0⟩ := trodAll_cons hA
  obtain ⟨rfl, rfl, rfl⟩ := trodAll_nil r0
  obtain rfl : args = #[v0] := by cases args; simp_all
  obtain ⟨rfl, rfl⟩ := trodVars_none hV
  obtain ⟨val0, ns0, rfl, nv0, wf0, sz0⟩ := open_formula (hval 0 24 v0 rfl rfl) h0
  have le0 : 136 * (ns0.length + 2) ≤ 281474976710656 := size_formula hsz (j := 0) rfl rfl sz0
  refine (law W val0 ns0 nv0 wf0 le0).mono fun e W' ⟨he, hb⟩ => ?_
  subst he
  exact ⟨_, rfl, _, _, _, [], _, [], hW', trodAll_mk1 (shut_bool Tryd.underlying4 _), (trodAll_cons_mk (WideElems.Trod_stays laidOutF (by kernel_rfl) rowForm h0 (fun x hx => hb.same (hlt x (by simp [hx]))) (fun x hx => by have := hlt x (by simp [hx]); simpa using this)) trodAll_mk0), rfl, hb.frame _, fun h => by cases h⟩

theorem holds : Rows.RefsOwnsSaid :=
  OpenClaim.holds_of_wide 8 Tryd.f8 rfl rfl rfl rfl rfl rfl rfl ⟨rfl, rfl, rfl, rfl, rfl⟩ rfl rfl rfl rfl rfl (by kernel_rfl) Tryd.func8 (by kernel_rfl)
    (of_decide_eq_true (by kernel_rfl)) (by unfold Func.isWrapper; first | (rw [if_pos (by decide +kernel)]; kernel_rfl) | (rw [if_neg (by decide +kernel)]; exact ⟨rfl, rfl⟩))
    (fun os started H enc _ => lifted os started H enc)
theorem plain (f : FuncId) (fn : Func) (hf : Tryd.pinned.checked.prog.funcNamed "oriel/oriellaw05.RefsOwns" = some f) (hfn : Tryd.pinned.checked.prog.funcs[f]? = some fn) :
    false = Tryd.pinned.checked.prog.looks [] ∧ ∀ (j : Nat) t, fn.params[j]? = some t → Tryd.pinned.checked.prog.wantsStandIn t = false := by
  obtain rfl : f = 8 := Option.some.inj ((show Tryd.prog.funcNamed "oriel/oriellaw05.RefsOwns" = some 8 by kernel_rfl).symm.trans hf) |>.symm
  obtain rfl : fn = Tryd.f8 := (Option.some.inj (Tryd.func8.symm.trans hfn)).symm
  refine ⟨by kernel_rfl, fun j t ht => ?_⟩
  rw [Tryd.params8] at ht
  have hm : t ∈ [24] := by simpa using Array.mem_of_getElem? ht
  have hall : ([24].all fun u => !Tryd.prog.wantsStandIn u) = true := by kernel_rfl
  exact (show Tryd.prog.wantsStandIn t = false by simpa using List.all_eq_true.1 hall t hm)
/-- The card. -/
theorem card : Rows.RefsOwnsCardSaid :=
  Claim7.holds_tied_plain_at .later [] _ _ _ _ holds (fun _ h => by cases h) (by kernel_rfl) (fun _ h => by cases h) refsOwns_row_tie rfl ⟨rfl, rfl⟩ (by kernel_rfl) rfl plain (by kernel_rfl)
end Go.Proofs.YtcddhpmpihmfdaaDoor.refsOwns
namespace Go.Proofs.YtcddhpmpihmfdaaDoor
theorem refsOwns_card : Rows.RefsOwnsCardSaid := refsOwns.card
end Go.Proofs.YtcddhpmpihmfdaaDoor
