/- ValueMay: of any value the program's May answers what the document's answer is: the law returns true for every input. The card's own condition: the listed tables (five of Go's library, one of them pinned, and the program's table of names) lie as their initialisers lay them (tied to the program's text). -/
import Derived.Test.YtnaonpienaddaaaDoorVB
namespace Go.Proofs.YtnaonpienaddaaaDoor.valueMay
open Go.Shelf Go.RowKit Go.ChangeShapes Go.WideShapes Go.ChangeAt
set_option linter.all false
set_option maxHeartbeats 1000000 in
theorem law (t n : Int) (s : ByteArray) (b : Bool) (c : Int) (w : World) (hn : I64 n) (hs : s.size ≤ maxLen) (hN : Nam w) (hP : Pow w) : Calls Tryd.prog 4 #[(.agg #[.int .i64 (t), .int .i64 (n), .string s, .bool b, .int .i64 (c)])] w fun e w' => e = .returned (.bool true) ∧ Below w.heap.size w w' := by
  have q : (mayB t n s b c == mayB t n s b c) = true := by simp
  go_enter Tryd.func4, Tryd.ntmps4
  go_wp2_with fail
  go_region_held3 (fun w' => w'.cell? ⟨w.heap.size, 0, none⟩ = some (.int .i64 (t)) ∧ w'.cell? ⟨w.heap.size, 1, none⟩ = some (.int .i64 (n)) ∧ w'.cell? ⟨w.heap.size, 2, none⟩ = some (.string s) ∧ w'.cell? ⟨w.heap.size, 3, none⟩ = some (.bool b) ∧ w'.cell? ⟨w.heap.size, 4, none⟩ = some (.int .i64 (c))) ((repeat' apply And.intro) <;> (first | (go_keep; done) | (go_simp; done)))
    (first | (go_at_call 18; refine (mayV _ _ _ _ _ _ (by assumption)).mono ?_; rintro e w1 ⟨rfl, hb⟩; have hB : Below w.heap.size w w1 := bup (by with_reducible (first | assumption | exact Below.drew (by assumption) | exact bal _ _ | exact (bal _ _).alloc (by simp) _ | exact (bal _ _).drew | exact ((bal _ _).alloc (by simp) _).drew | exact Below.refl _ _ | exact (Below.refl _ _).drew)) hb; have o0 : Own w1 (w.heap.size) #[.int .i64 (t), .int .i64 (n), .string s, .bool b, .int .i64 (c)] := Own.keep (by with_reducible (first | assumption | exact Own.drew (by assumption) | exact Own.new _ _ _ | exact Own.new2 _ _ _ _ | exact (Own.new _ _ _).past _ | exact Own.drew (Own.new _ _ _) | exact (Own.new2 _ _ _ _).drew | exact ((Own.new _ _ _).past _).drew)) hb; have c0 := o0.cell; have f0 := o0.fro; have hN1 := hN.stays hB; have hP1 := hP.up hB) | (go_at_call 19; refine (rmayV _ _ _ _ _ _ (by assumption)).mono ?_; rintro e w1 ⟨rfl, hb⟩; have hB : Below w.heap.size w w1 := bup (by with_reducible (first | assumption | exact Below.drew (by assumption) | exact bal _ _ | exact (bal _ _).alloc (by simp) _ | exact (bal _ _).drew | exact ((bal _ _).alloc (by simp) _).drew | exact Below.refl _ _ | exact (Below.refl _ _).drew)) hb; have o0 : Own w1 (w.heap.size) #[.int .i64 (t), .int .i64 (n), .string s, .bool b, .int .i64 (c)] := Own.keep (by with_reducible (first | assumption | exact Own.drew (by assumption) | exact Own.new _ _ _ | exact Own.new2 _ _ _ _ | exact (Own.new _ _ _).past _ | exact Own.drew (Own.new _ _ _) | exact (Own.new2 _ _ _ _).drew | exact ((Own.new _ _ _).past _).drew)) hb; have c0 := o0.cell; have f0 := o0.fro; have hN1 := hN.stays hB; have hP1 := hP.up hB) | (go_at_call 17; refine (known_v _ (by assumption) (by assumption)).mono ?_; rintro e w1 ⟨rfl, hb⟩; have hB : Below w.heap.size w w1 := bup (by with_reducible (first | assumption | exact Below.drew (by assumption) | exact bal _ _ | exact (bal _ _).alloc (by simp) _ | exact (bal _ _).drew | exact ((bal _ _).alloc (by simp) _).drew | exact Below.refl _ _ | exact (Below.refl _ _).drew)) hb; have o0 : Own w1 (w.heap.size) #[.int .i64 (t), .int .i64 (n), .string s, .bool b, .int .i64 (c)] := Own.keep (by with_reducible (first | assumption | exact Own.drew (by assumption) | exact Own.new _ _ _ | exact Own.new2 _ _ _ _ | exact (Own.new _ _ _).past _ | exact Own.drew (Own.new _ _ _) | exact (Own.new2 _ _ _ _).drew | exact ((Own.new _ _ _).past _).drew)) hb; have c0 := o0.cell; have f0 := o0.fro))
  all_goals go_wp2
  all_goals go_ret
  all_goals exact ⟨rfl, by with_reducible assumption⟩

set_option maxRecDepth 100000 in
theorem lifted (os : Os) (started : os.Started) (H : Type) (enc : TypeId × Value → H) :
    ReturnsInHanded {} Tryd.checked os 4 .any (fun w args => (Rows.valueMaySpec.pre enc Tryd.prog Tryd.f4 [] false w args ∧ laidMetH Tryd.prog tables w) ∧ sizedMet enc Tryd.prog Tryd.f4 (OpenSpec.ofChange Rows.valueMaySpec) false w args)
      (Rows.valueMaySpec.post enc Tryd.prog Tryd.f4 false true false false) := by
  refine returnsInHanded_of_change_and (C := Tryd.checked) (X := fun w _ => laidMetH Tryd.prog tables w) (fun _ _ _ hh h => h.of_heap hh) own started (by kernel_rfl) Tryd.func4
    (ChangeSpec.witness_shaped (enc := enc) (C := Tryd.checked) (os := os) (X := fun w _ => laidMetH Tryd.prog tables w) false (World.laidAll Tryd.prog os tables) #[.agg #[.int .i64 0, .int .i64 0, .string ⟨#[]⟩, .bool false, .int .i64 0]] 8 (World.laidAll_os _ _ _)
      (World.shaped_of_ZipB (by kernel_rfl) (by kernel_rfl)) (by kernel_rfl) (by kernel_rfl) (by kernel_rfl)
      (by rw [MakeChecks.laidMetH_plain _ _ _ (by kernel_rfl)]; exact laidMet_laidAll _ (by kernel_rfl) (by kernel_rfl))) ?_
  intro W base args ds gs before hval0 hW _ _ hL _
  have hval : ∀ (j : Nat) t v, Tryd.f4.params[j]? = some t → args[j]? = some v → Value.okWide Tryd.prog W .any base t v := hval0
  have hW' := hW
  obtain ⟨p, q, hA0, hV, rfl, _, _⟩ := hW
  have hA : DataW.TrodAll enc Tryd.prog W 0 (fun _ => true) true Tryd.f4.params.toList args.toList ds p := hA0
  rw [Tryd.params4] at hA hval
  obtain ⟨v0, vs0, d0, ds0, p0, q0, hargs, rfl, rfl, h0, r0⟩ := trodAll_cons hA
  obtain ⟨rfl, rfl, rfl⟩ := trodAll_nil r0
  obtain rfl : args = #[v0] := by cases args; simp_all
  obtain ⟨rfl, rfl⟩ := trodVars_none hV
  obtain ⟨t0, n0, s0, b0, c0, rfl, rfl, rfl, wt0, wn0, ws0, wc0⟩ := open_value (hval 0 25 v0 rfl rfl) h0
  simp only [List.append_nil] at hW'
  refine (law t0 n0 s0 b0 c0 W (i64_of wn0) ws0 (nam_of_laid hL) (pow_of_laid hL)).mono fun e W' ⟨he, hb⟩ => ?_
  subst he
  exact ⟨_, rfl, _, _, _, [], [], [], hW', trodAll_mk1 (shut_bool Tryd.underlying4 _), (trodAll_cons_mk (shut_value wt0 wn0 ws0 wc0) trodAll_mk0), rfl, hb.frame _, fun h => by cases h⟩

theorem holds : Rows.ValueMaySaid :=
  OpenClaim.holds_of_wide 4 Tryd.f4 rfl rfl rfl rfl rfl rfl rfl ⟨rfl, rfl, rfl, rfl, rfl⟩ rfl rfl rfl rfl rfl (by kernel_rfl) Tryd.func4 (by kernel_rfl)
    (of_decide_eq_true (by kernel_rfl)) (by unfold Func.isWrapper; first | (rw [if_pos (by decide +kernel)]; kernel_rfl) | (rw [if_neg (by decide +kernel)]; exact ⟨rfl, rfl⟩))
    (fun os started H enc _ => lifted os started H enc)
theorem plain (f : FuncId) (fn : Func) (hf : Tryd.pinned.checked.prog.funcNamed "oriel/oriellaw02.ValueMay" = some f) (hfn : Tryd.pinned.checked.prog.funcs[f]? = some fn) :
    false = Tryd.pinned.checked.prog.looks [] ∧ ∀ (j : Nat) t, fn.params[j]? = some t → Tryd.pinned.checked.prog.wantsStandIn t = false := by
  obtain rfl : f = 4 := Option.some.inj ((show Tryd.prog.funcNamed "oriel/oriellaw02.ValueMay" = some 4 by kernel_rfl).symm.trans hf) |>.symm
  obtain rfl : fn = Tryd.f4 := (Option.some.inj (Tryd.func4.symm.trans hfn)).symm
  refine ⟨by kernel_rfl, fun j t ht => ?_⟩
  rw [Tryd.params4] at ht
  have hm : t ∈ [25] := by simpa using Array.mem_of_getElem? ht
  have hall : ([25].all fun u => !Tryd.prog.wantsStandIn u) = true := by kernel_rfl
  exact (show Tryd.prog.wantsStandIn t = false by simpa using List.all_eq_true.1 hall t hm)
/-- The card. -/
theorem card : Rows.ValueMayCardSaid :=
  Claim7.holds_tied_plain_at .later [] _ _ _ _ holds (fun _ h => by cases h) (by kernel_rfl) (fun _ h => by cases h) valueMay_row_tie rfl ⟨rfl, rfl⟩ (by kernel_rfl) rfl plain (by kernel_rfl)
end Go.Proofs.YtnaonpienaddaaaDoor.valueMay
namespace Go.Proofs.YtnaonpienaddaaaDoor
theorem valueMay_card : Rows.ValueMayCardSaid := valueMay.card
end Go.Proofs.YtnaonpienaddaaaDoor
