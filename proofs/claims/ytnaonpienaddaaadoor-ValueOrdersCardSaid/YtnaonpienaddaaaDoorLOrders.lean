/- ValueOrders: of any two values the program's Same and Compare answer what the document's answers are: the law returns true for every input. The card's own condition: the listed tables (five of Go's library, one of them pinned, and the program's table of names) lie as their initialisers lay them (tied to the program's text). -/
import Derived.Test.YtnaonpienaddaaaDoorVB
import Derived.Test.YtnaonpienaddaaaDoorV9
namespace Go.Proofs.YtnaonpienaddaaaDoor.valueOrders
open Go.Shelf Go.RowKit Go.ChangeShapes Go.WideShapes Go.ChangeAt
set_option linter.all false
set_option maxHeartbeats 1000000 in
theorem law (t n : Int) (s : ByteArray) (b : Bool) (c : Int) (t' n' : Int) (s' : ByteArray) (b' : Bool) (c' : Int) (w : World) (hn : I64 n) (hs : s.size ≤ maxLen) (hn' : I64 n') (hs' : s'.size ≤ maxLen) (hN : Nam w) (hP : Pow w) : Calls Tryd.prog 5 #[(.agg #[.int .i64 (t), .int .i64 (n), .string s, .bool b, .int .i64 (c)]), (.agg #[.int .i64 (t'), .int .i64 (n'), .string s', .bool b', .int .i64 (c')])] w fun e w' => e = .returned (.bool true) ∧ Below w.heap.size w w' := by
  have q : (sameB t n s b c t' n' s' b' c' == sameB t n s b c t' n' s' b' c') = true := by simp
  have q2 : (cmpV t n s b c t' n' s' b' c' == cmpV t n s b c t' n' s' b' c') = true := by simp
  go_enter Tryd.func5, Tryd.ntmps5
  go_wp2_with fail
  go_region_held3 (fun w' => w'.cell? ⟨w.heap.size, 0, none⟩ = some (.int .i64 (t)) ∧ w'.cell? ⟨w.heap.size, 1, none⟩ = some (.int .i64 (n)) ∧ w'.cell? ⟨w.heap.size, 2, none⟩ = some (.string s) ∧ w'.cell? ⟨w.heap.size, 3, none⟩ = some (.bool b) ∧ w'.cell? ⟨w.heap.size, 4, none⟩ = some (.int .i64 (c)) ∧ w'.cell? ⟨w.heap.size + 1, 0, none⟩ = some (.int .i64 (t')) ∧ w'.cell? ⟨w.heap.size + 1, 1, none⟩ = some (.int .i64 (n')) ∧ w'.cell? ⟨w.heap.size + 1, 2, none⟩ = some (.string s') ∧ w'.cell? ⟨w.heap.size + 1, 3, none⟩ = some (.bool b') ∧ w'.cell? ⟨w.heap.size + 1, 4, none⟩ = some (.int .i64 (c'))) ((repeat' apply And.intro) <;> (first | (go_keep; done) | (go_simp; done)))
    (first | (go_at_call 20; refine (sameV _ _ _ _ _ _ _ _ _ _ _).mono ?_; rintro e w1 ⟨rfl, hb⟩; have hB : Below w.heap.size w w1 := bup (by with_reducible (first | assumption | exact Below.drew (by assumption) | exact bal _ _ | exact (bal _ _).alloc (by simp) _ | exact (bal _ _).drew | exact ((bal _ _).alloc (by simp) _).drew | exact Below.refl _ _ | exact (Below.refl _ _).drew)) hb; have o0 : Own w1 (w.heap.size) #[.int .i64 (t), .int .i64 (n), .string s, .bool b, .int .i64 (c)] := Own.keep (by with_reducible (first | assumption | exact Own.drew (by assumption) | exact Own.new _ _ _ | exact Own.new2 _ _ _ _ | exact (Own.new _ _ _).past _ | exact Own.drew (Own.new _ _ _) | exact (Own.new2 _ _ _ _).drew | exact ((Own.new _ _ _).past _).drew)) hb; have c0 := o0.cell; have f0 := o0.fro; have o1 : Own w1 (w.heap.size + 1) #[.int .i64 (t'), .int .i64 (n'), .string s', .bool b', .int .i64 (c')] := Own.keep (by with_reducible (first | assumption | exact Own.drew (by assumption) | exact Own.new _ _ _ | exact Own.new2 _ _ _ _ | exact (Own.new _ _ _).past _ | exact Own.drew (Own.new _ _ _) | exact (Own.new2 _ _ _ _).drew | exact ((Own.new _ _ _).past _).drew)) hb; have c1 := o1.cell; have f1 := o1.fro; have hN1 := hN.stays hB; have hP1 := hP.up hB) | (go_at_call 21; refine (rsameV _ _ _ _ _ _ _ _ _ _ _).mono ?_; rintro e w1 ⟨rfl, hb⟩; have hB : Below w.heap.size w w1 := bup (by with_reducible (first | assumption | exact Below.drew (by assumption) | exact bal _ _ | exact (bal _ _).alloc (by simp) _ | exact (bal _ _).drew | exact ((bal _ _).alloc (by simp) _).drew | exact Below.refl _ _ | exact (Below.refl _ _).drew)) hb; have o0 : Own w1 (w.heap.size) #[.int .i64 (t), .int .i64 (n), .string s, .bool b, .int .i64 (c)] := Own.keep (by with_reducible (first | assumption | exact Own.drew (by assumption) | exact Own.new _ _ _ | exact Own.new2 _ _ _ _ | exact (Own.new _ _ _).past _ | exact Own.drew (Own.new _ _ _) | exact (Own.new2 _ _ _ _).drew | exact ((Own.new _ _ _).past _).drew)) hb; have c0 := o0.cell; have f0 := o0.fro; have o1 : Own w1 (w.heap.size + 1) #[.int .i64 (t'), .int .i64 (n'), .string s', .bool b', .int .i64 (c')] := Own.keep (by with_reducible (first | assumption | exact Own.drew (by assumption) | exact Own.new _ _ _ | exact Own.new2 _ _ _ _ | exact (Own.new _ _ _).past _ | exact Own.drew (Own.new _ _ _) | exact (Own.new2 _ _ _ _).drew | exact ((Own.new _ _ _).past _).drew)) hb; have c1 := o1.cell; have f1 := o1.fro; have hN1 := hN.stays hB; have hP1 := hP.up hB) | (go_at_call 22; refine (compV _ _ _ _ _ _ _ _ _ _ _ (by assumption) (by assumption)).mono ?_; rintro e w1 ⟨rfl, hb⟩; have hB : Below w.heap.size w w1 := bup (by with_reducible (first | assumption | exact Below.drew (by assumption) | exact bal _ _ | exact (bal _ _).alloc (by simp) _ | exact (bal _ _).drew | exact ((bal _ _).alloc (by simp) _).drew | exact Below.refl _ _ | exact (Below.refl _ _).drew)) hb; have o0 : Own w1 (w.heap.size) #[.int .i64 (t), .int .i64 (n), .string s, .bool b, .int .i64 (c)] := Own.keep (by with_reducible (first | assumption | exact Own.drew (by assumption) | exact Own.new _ _ _ | exact Own.new2 _ _ _ _ | exact (Own.new _ _ _).past _ | exact Own.drew (Own.new _ _ _) | exact (Own.new2 _ _ _ _).drew | exact ((Own.new _ _ _).past _).drew)) hb; have c0 := o0.cell; have f0 := o0.fro; have o1 : Own w1 (w.heap.size + 1) #[.int .i64 (t'), .int .i64 (n'), .string s', .bool b', .int .i64 (c')] := Own.keep (by with_reducible (first | assumption | exact Own.drew (by assumption) | exact Own.new _ _ _ | exact Own.new2 _ _ _ _ | exact (Own.new _ _ _).past _ | exact Own.drew (Own.new _ _ _) | exact (Own.new2 _ _ _ _).drew | exact ((Own.new _ _ _).past _).drew)) hb; have c1 := o1.cell; have f1 := o1.fro; have hN1 := hN.stays hB; have hP1 := hP.up hB) | (go_at_call 23; refine (rcompV _ _ _ _ _ _ _ _ _ _ _ (by assumption) (by assumption) (by assumption) (by assumption)).mono ?_; rintro e w1 ⟨rfl, hb⟩; have hB : Below w.heap.size w w1 := bup (by with_reducible (first | assumption | exact Below.drew (by assumption) | exact bal _ _ | exact (bal _ _).alloc (by simp) _ | exact (bal _ _).drew | exact ((bal _ _).alloc (by simp) _).drew | exact Below.refl _ _ | exact (Below.refl _ _).drew)) hb; have o0 : Own w1 (w.heap.size) #[.int .i64 (t), .int .i64 (n), .string s, .bool b, .int .i64 (c)] := Own.keep (by with_reducible (first | assumption | exact Own.drew (by assumption) | exact Own.new _ _ _ | exact Own.new2 _ _ _ _ | exact (Own.new _ _ _).past _ | exact Own.drew (Own.new _ _ _) | exact (Own.new2 _ _ _ _).drew | exact ((Own.new _ _ _).past _).drew)) hb; have c0 := o0.cell; have f0 := o0.fro; have o1 : Own w1 (w.heap.size + 1) #[.int .i64 (t'), .int .i64 (n'), .string s', .bool b', .int .i64 (c')] := Own.keep (by with_reducible (first | assumption | exact Own.drew (by assumption) | exact Own.new _ _ _ | exact Own.new2 _ _ _ _ | exact (Own.new _ _ _).past _ | exact Own.drew (Own.new _ _ _) | exact (Own.new2 _ _ _ _).drew | exact ((Own.new _ _ _).past _).drew)) hb; have c1 := o1.cell; have f1 := o1.fro; have hN1 := hN.stays hB; have hP1 := hP.up hB) | (go_at_call 17; refine (known_v _ (by assumption) (by assumption)).mono ?_; rintro e w1 ⟨rfl, hb⟩; have hB : Below w.heap.size w w1 := bup (by with_reducible (first | assumption | exact Below.drew (by assumption) | exact bal _ _ | exact (bal _ _).alloc (by simp) _ | exact (bal _ _).drew | exact ((bal _ _).alloc (by simp) _).drew | exact Below.refl _ _ | exact (Below.refl _ _).drew)) hb; have o0 : Own w1 (w.heap.size) #[.int .i64 (t), .int .i64 (n), .string s, .bool b, .int .i64 (c)] := Own.keep (by with_reducible (first | assumption | exact Own.drew (by assumption) | exact Own.new _ _ _ | exact Own.new2 _ _ _ _ | exact (Own.new _ _ _).past _ | exact Own.drew (Own.new _ _ _) | exact (Own.new2 _ _ _ _).drew | exact ((Own.new _ _ _).past _).drew)) hb; have c0 := o0.cell; have f0 := o0.fro; have o1 : Own w1 (w.heap.size + 1) #[.int .i64 (t'), .int .i64 (n'), .string s', .bool b', .int .i64 (c')] := Own.keep (by with_reducible (first | assumption | exact Own.drew (by assumption) | exact Own.new _ _ _ | exact Own.new2 _ _ _ _ | exact (Own.new _ _ _).past _ | exact Own.drew (Own.new _ _ _) | exact (Own.new2 _ _ _ _).drew | exact ((Own.new _ _ _).past _).drew)) hb; have c1 := o1.cell; have f1 := o1.fro))
  all_goals go_wp2
  all_goals go_ret
  all_goals exact ⟨rfl, by with_reducible assumption⟩

set_option maxRecDepth 100000 in
theorem lifted (os : Os) (started : os.Started) (H : Type) (enc : TypeId × Value → H) :
    ReturnsInHanded {} Tryd.checked os 5 .any (fun w args => (Rows.valueOrdersSpec.pre enc Tryd.prog Tryd.f5 [] false w args ∧ laidMetH Tryd.prog tables w) ∧ sizedMet enc Tryd.prog Tryd.f5 (OpenSpec.ofChange Rows.valueOrdersSpec) false w args)
      (Rows.valueOrdersSpec.post enc Tryd.prog Tryd.f5 false true false false) := by
  refine returnsInHanded_of_change_and (C := Tryd.checked) (X := fun w _ => laidMetH Tryd.prog tables w) (fun _ _ _ hh h => h.of_heap hh) own started (by kernel_rfl) Tryd.func5
    (ChangeSpec.witness_shaped (enc := enc) (C := Tryd.checked) (os := os) (X := fun w _ => laidMetH Tryd.prog tables w) false (World.laidAll Tryd.prog os tables) #[.agg #[.int .i64 0, .int .i64 0, .string ⟨#[]⟩, .bool false, .int .i64 0], .agg #[.int .i64 0, .int .i64 0, .string ⟨#[]⟩, .bool false, .int .i64 0]] 8 (World.laidAll_os _ _ _)
      (World.shaped_of_ZipB (by kernel_rfl) (by kernel_rfl)) (by kernel_rfl) (by kernel_rfl) (by kernel_rfl)
      (by rw [MakeChecks.laidMetH_plain _ _ _ (by kernel_rfl)]; exact laidMet_laidAll _ (by kernel_rfl) (by kernel_rfl))) ?_
  intro W base args ds gs before hval0 hW _ _ hL _
  have hval : ∀ (j : Nat) t v, Tryd.f5.params[j]? = some t → args[j]? = some v → Value.okWide Tryd.prog W .any base t v := hval0
  have hW' := hW
  obtain ⟨p, q, hA0, hV, rfl, _, _⟩ := hW
  have hA : DataW.TrodAll enc Tryd.prog W 0 (fun _ => true) true Tryd.f5.params.toList args.toList ds p := hA0
  rw [Tryd.params5] at hA hval
  obtain ⟨v0, vs0, d0, ds0, p0, q0, hargs, rfl, rfl, h0, r0⟩ := trodAll_cons hA
  obtain ⟨v1, vs1, d1, ds1, p1, q1, rfl, rfl, rfl, h1, r1⟩ := trodAll_cons r0
  obtain ⟨rfl, rfl, rfl⟩ := trodAll_nil r1
  obtain rfl : args = #[v0, v1] := by cases args; simp_all
  obtain ⟨rfl, rfl⟩ := trodVars_none hV
  obtain ⟨t0, n0, s0, b0, c0, rfl, rfl, rfl, wt0, wn0, ws0, wc0⟩ := open_value (hval 0 25 v0 rfl rfl) h0
  obtain ⟨t1, n1, s1, b1, c1, rfl, rfl, rfl, wt1, wn1, ws1, wc1⟩ := open_value (hval 1 25 v1 rfl rfl) h1
  simp only [List.append_nil] at hW'
  refine (law t0 n0 s0 b0 c0 t1 n1 s1 b1 c1 W (i64_of wn0) ws0 (i64_of wn1) ws1 (nam_of_laid hL) (pow_of_laid hL)).mono fun e W' ⟨he, hb⟩ => ?_
  subst he
  exact ⟨_, rfl, _, _, _, [], [], [], hW', trodAll_mk1 (shut_bool Tryd.underlying4 _), (trodAll_cons_mk (shut_value wt0 wn0 ws0 wc0) (trodAll_cons_mk (shut_value wt1 wn1 ws1 wc1) trodAll_mk0)), rfl, hb.frame _, fun h => by cases h⟩

theorem holds : Rows.ValueOrdersSaid :=
  OpenClaim.holds_of_wide 5 Tryd.f5 rfl rfl rfl rfl rfl rfl rfl ⟨rfl, rfl, rfl, rfl, rfl⟩ rfl rfl rfl rfl rfl (by kernel_rfl) Tryd.func5 (by kernel_rfl)
    (of_decide_eq_true (by kernel_rfl)) (by unfold Func.isWrapper; first | (rw [if_pos (by decide +kernel)]; kernel_rfl) | (rw [if_neg (by decide +kernel)]; exact ⟨rfl, rfl⟩))
    (fun os started H enc _ => lifted os started H enc)
theorem plain (f : FuncId) (fn : Func) (hf : Tryd.pinned.checked.prog.funcNamed "oriel/oriellaw02.ValueOrders" = some f) (hfn : Tryd.pinned.checked.prog.funcs[f]? = some fn) :
    false = Tryd.pinned.checked.prog.looks [] ∧ ∀ (j : Nat) t, fn.params[j]? = some t → Tryd.pinned.checked.prog.wantsStandIn t = false := by
  obtain rfl : f = 5 := Option.some.inj ((show Tryd.prog.funcNamed "oriel/oriellaw02.ValueOrders" = some 5 by kernel_rfl).symm.trans hf) |>.symm
  obtain rfl : fn = Tryd.f5 := (Option.some.inj (Tryd.func5.symm.trans hfn)).symm
  refine ⟨by kernel_rfl, fun j t ht => ?_⟩
  rw [Tryd.params5] at ht
  have hm : t ∈ [25, 25] := by simpa using Array.mem_of_getElem? ht
  have hall : ([25, 25].all fun u => !Tryd.prog.wantsStandIn u) = true := by kernel_rfl
  exact (show Tryd.prog.wantsStandIn t = false by simpa using List.all_eq_true.1 hall t hm)
/-- The card. -/
theorem card : Rows.ValueOrdersCardSaid :=
  Claim7.holds_tied_plain_at .later [] _ _ _ _ holds (fun _ h => by cases h) (by kernel_rfl) (fun _ h => by cases h) valueOrders_row_tie rfl ⟨rfl, rfl⟩ (by kernel_rfl) rfl plain (by kernel_rfl)
end Go.Proofs.YtnaonpienaddaaaDoor.valueOrders
namespace Go.Proofs.YtnaonpienaddaaaDoor
theorem valueOrders_card : Rows.ValueOrdersCardSaid := valueOrders.card
end Go.Proofs.YtnaonpienaddaaaDoor
