/- RefsTold: of every formula Of answers the references that the document answers, in their order, each once; the formula and the room behind a copy are as they were; the living whole lives: the law returns true, and the formula reads as it did. The card's own condition: the two listed tables lie as the program's text lays them (tied to it); no other. -/
import Derived.Test.YtekpmdpmcbjkkaaDoorF1
import Derived.Test.YtekpmdpmcbjkkaaDoorT3
namespace Go.Proofs.YtekpmdpmcbjkkaaDoor.refsTold
open Go.Shelf Go.RowKit Go.ChangeShapes Go.WideShapes Go.ChangeAt
set_option linter.all false
theorem law (w : World) (v : Value) (ns : List Nd) (hv : NV w v ns) (wf : ∀ x ∈ ns, Vv.I64 x.num) (hx : 136 * (ns.length + 2) ≤ 281474976710656) :
    Calls Tryd.prog 3 #[.agg #[v]] w fun e w' => e = .returned (.bool true) ∧ Below w.heap.size w w' := by
  have vw : ∀ w1 g, CV w1 g (ns ++ [nd0, nd0]) → NV w1 (.slice (some ⟨g, 0, none⟩) ns.length (ns.length + 2)) ns := fun w1 g h => h.view (fun i y hi => pre_at hi) (by omega)
  have h0 : ∀ w1, Below w.heap.size w w1 → Calls Tryd.prog 4 #[.agg #[v]] w1 fun e w' => ∃ g, e = .returned (.agg #[.slice (some ⟨g, 0, none⟩) ns.length (ns.length + 2)]) ∧ w1.heap.size ≤ g ∧ CV w' g (ns ++ [nd0, nd0]) ∧ Below w1.heap.size w1 w' := fun w1 h => copied_any w1 v ns (hv.keep h) hx
  have h1 : ∀ w1 g, CV w1 g (ns ++ [nd0, nd0]) → Calls Tryd.prog 5 #[.agg #[.slice (some ⟨g, 0, none⟩) ns.length (ns.length + 2)]] w1 fun e w' => ∃ pa ca, e = .returned (.slice pa (ofN ns).length ca) ∧ RRow w' w1.heap.size (.slice pa (ofN ns).length ca) (ofN ns) ∧ Below w1.heap.size w1 w' := fun w1 g h => (of_any w1 _ ns (vw w1 g h) wf).mono row_out
  have h2 : ∀ w1, Below w.heap.size w w1 → Calls Tryd.prog 6 #[.agg #[v]] w1 fun e w' => ∃ pa ca, e = .returned (.slice pa (ofN ns).length ca) ∧ RRow w' w1.heap.size (.slice pa (ofN ns).length ca) (ofN ns) ∧ Below w1.heap.size w1 w' := fun w1 h => (rof_any w1 v ns (hv.keep h) wf).mono row_out
  have h3 : ∀ w1 g, Below w.heap.size w w1 → CV w1 g (ns ++ [nd0, nd0]) → Calls Tryd.prog 7 #[.agg #[.slice (some ⟨g, 0, none⟩) ns.length (ns.length + 2)], .agg #[v]] w1 fun e w' => e = .returned (.bool true) ∧ Below w1.heap.size w1 w' := fun w1 g h hc => by
    have := rsame_any w1 _ v ns ns (vw w1 g hc) (hv.keep h) (by omega)
    rwa [sameL_refl] at this
  have h4 : ∀ w1 g, CV w1 g (ns ++ [nd0, nd0]) → Calls Tryd.prog 8 #[.agg #[.slice (some ⟨g, 0, none⟩) ns.length (ns.length + 2)]] w1 fun e w' => e = .returned (.bool true) ∧ Below w1.heap.size w1 w' := fun w1 g h => spared_any w1 g ns.length ns h rfl (by omega)
  obtain ⟨p, cap, rfl, -, -⟩ := hv
  exact told_y w p ns.length cap _ ns (ofN ns) rfl (ofN_len ns) (by omega) h0 h1 h2 h3 h4

set_option maxRecDepth 100000 in
theorem lifted (os : Os) (started : os.Started) (H : Type) (enc : TypeId × Value → H) :
    ReturnsInHanded {} Tryd.checked os 3 .any (fun w args => (Rows.refsToldSpec.pre enc Tryd.prog Tryd.f3 [] false w args ∧ laidMetH Tryd.prog tables w) ∧ sizedMet enc Tryd.prog Tryd.f3 (OpenSpec.ofChange Rows.refsToldSpec) false w args)
      (Rows.refsToldSpec.post enc Tryd.prog Tryd.f3 false true false false) := by
  refine returnsInHanded_of_change_and (C := Tryd.checked) (X := fun w _ => laidMetH Tryd.prog tables w) (fun _ _ _ hh h => h.of_heap hh) own started (by kernel_rfl) Tryd.func3
    (ChangeSpec.witness_shaped (enc := enc) (C := Tryd.checked) (os := os) (X := fun w _ => laidMetH Tryd.prog tables w) false (World.laidAll Tryd.prog os tables) #[.agg #[.slice none 0 0]] 8 (World.laidAll_os _ _ _)
      (World.shaped_of_ZipB (by kernel_rfl) (by kernel_rfl)) (by kernel_rfl) (by kernel_rfl) (by kernel_rfl)
      (by rw [MakeChecks.laidMetH_plain _ _ _ (by kernel_rfl)]; exact laidMet_laidAll _ (by kernel_rfl) (by kernel_rfl))) ?_
  intro W base args ds gs before hval0 hW _ hsz hL _
  have hval : ∀ (j : Nat) t v, Tryd.f3.params[j]? = some t → args[j]? = some v → Value.okWide Tryd.prog W .any base t v := hval0
  have hW' := hW
  have hlt := hW.lt
  obtain ⟨p, q, hA0, hV, rfl, _, _⟩ := hW
  have hA : DataW.TrodAll enc Tryd.prog W 0 (fun _ => true) true Tryd.f3.params.toList args.toList ds p := hA0
  rw [Tryd.params3] at hA hval hsz
  obtain ⟨v0, vs0, d0, ds0, p0, q0, hargs, rfl, rfl, h0, r0⟩ := trodAll_cons hA
  obtain ⟨rfl, rfl, rfl⟩ := trodAll_nil r0
  obtain rfl : args = #[v0] := by cases args; simp_all
  obtain ⟨rfl, rfl⟩ := trodVars_none hV
  obtain ⟨val0, ns0, rfl, nv0, wf0, sz0⟩ := open_formula (hval 0 24 v0 rfl rfl) h0
  have le0 : 136 * (ns0.length + 2) ≤ 281474976710656 := size_formula hsz (j := 0) rfl rfl sz0
  refine (law W val0 ns0 nv0 wf0 le0).mono fun e W' ⟨he, hb⟩ => ?_
  subst he
  exact ⟨_, rfl, _, _, _, [], _, [], hW', trodAll_mk1 (shut_bool Tryd.underlying4 _), (trodAll_cons_mk (WideElems.Trod_stays laidOutF (by kernel_rfl) rowForm h0 (fun x hx => hb.same (hlt x (by simp [hx]))) (fun x hx => by have := hlt x (by simp [hx]); simpa using this)) trodAll_mk0), rfl, hb.frame _, fun h => by cases h⟩

theorem holds : Rows.RefsToldSaid :=
  OpenClaim.holds_of_wide 3 Tryd.f3 rfl rfl rfl rfl rfl rfl rfl ⟨rfl, rfl, rfl, rfl, rfl⟩ rfl rfl rfl rfl rfl (by kernel_rfl) Tryd.func3 (by kernel_rfl)
    (of_decide_eq_true (by kernel_rfl)) (by unfold Func.isWrapper; first | (rw [if_pos (by decide +kernel)]; kernel_rfl) | (rw [if_neg (by decide +kernel)]; exact ⟨rfl, rfl⟩))
    (fun os started H enc _ => lifted os started H enc)
theorem plain (f : FuncId) (fn : Func) (hf : Tryd.pinned.checked.prog.funcNamed "oriel/oriellaw05.RefsTold" = some f) (hfn : Tryd.pinned.checked.prog.funcs[f]? = some fn) :
    false = Tryd.pinned.checked.prog.looks [] ∧ ∀ (j : Nat) t, fn.params[j]? = some t → Tryd.pinned.checked.prog.wantsStandIn t = false := by
  obtain rfl : f = 3 := Option.some.inj ((show Tryd.prog.funcNamed "oriel/oriellaw05.RefsTold" = some 3 by kernel_rfl).symm.trans hf) |>.symm
  obtain rfl : fn = Tryd.f3 := (Option.some.inj (Tryd.func3.symm.trans hfn)).symm
  refine ⟨by kernel_rfl, fun j t ht => ?_⟩
  rw [Tryd.params3] at ht
  have hm : t ∈ [24] := by simpa using Array.mem_of_getElem? ht
  have hall : ([24].all fun u => !Tryd.prog.wantsStandIn u) = true := by kernel_rfl
  exact (show Tryd.prog.wantsStandIn t = false by simpa using List.all_eq_true.1 hall t hm)
/-- The card. -/
theorem card : Rows.RefsToldCardSaid :=
  Claim7.holds_tied_plain_at .later [] _ _ _ _ holds (fun _ h => by cases h) (by kernel_rfl) (fun _ h => by cases h) refsTold_row_tie rfl ⟨rfl, rfl⟩ (by kernel_rfl) rfl plain (by kernel_rfl)
end Go.Proofs.YtekpmdpmcbjkkaaDoor.refsTold
namespace Go.Proofs.YtekpmdpmcbjkkaaDoor
theorem refsTold_card : Rows.RefsToldCardSaid := refsTold.card
end Go.Proofs.YtekpmdpmcbjkkaaDoor
