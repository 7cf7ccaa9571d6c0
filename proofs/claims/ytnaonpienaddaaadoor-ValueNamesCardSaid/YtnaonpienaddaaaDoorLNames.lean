/- ValueNames: of any code the program's Name, of any text its Named answer what the document's answers are, and a name's code has that name: the law returns true for every input. The card's own condition: the listed tables (five of Go's library, one of them pinned, and the program's table of names) lie as their initialisers lay them (tied to the program's text). -/
import Derived.Test.YtnaonpienaddaaaDoorVB
namespace Go.Proofs.YtnaonpienaddaaaDoor.valueNames
open Go.Shelf Go.RowKit Go.ChangeShapes Go.WideShapes Go.ChangeAt
set_option linter.all false
theorem n_in (c : Int) (h1 : 1 ≤ c) (h2 : c ≤ 8) : namedC (nameB c) = c := by
  obtain rfl | rfl | rfl | rfl | rfl | rfl | rfl | rfl : c = 1 ∨ c = 2 ∨ c = 3 ∨ c = 4 ∨ c = 5 ∨ c = 6 ∨ c = 7 ∨ c = 8 := by omega
  · kernel_rfl
  · kernel_rfl
  · kernel_rfl
  · kernel_rfl
  · kernel_rfl
  · kernel_rfl
  · kernel_rfl
  · kernel_rfl
theorem n_empty : namedC ⟨#[]⟩ = 0 := by kernel_rfl
theorem n_none (c : Int) (h : c < 1 ∨ 8 < c) : nameB c = ⟨#[]⟩ := by
  unfold nameB
  simp only [if_neg (show ¬ c = 1 by omega), if_neg (show ¬ c = 2 by omega), if_neg (show ¬ c = 3 by omega), if_neg (show ¬ c = 4 by omega), if_neg (show ¬ c = 5 by omega), if_neg (show ¬ c = 6 by omega), if_neg (show ¬ c = 7 by omega), if_neg (show ¬ c = 8 by omega)]
theorem n_out (c : Int) (h : c < 1 ∨ 8 < c) : namedC (nameB c) = 0 := by rw [n_none c h]; exact n_empty
theorem o_in (c : Int) (h1 : 1 ≤ c) (h2 : c ≤ 8) : namedOk (nameB c) = true := by unfold namedOk; rw [n_in c h1 h2]; simp; omega
theorem o_out (c : Int) (h : c < 1 ∨ 8 < c) : namedOk (nameB c) = false := by unfold namedOk; rw [n_out c h]; rfl
theorem nameBel (c : Int) (w : World) (h : Nam w) : Calls Tryd.prog 32 #[.int .i64 c] w fun e w' => e = .returned (.string (nameB c)) ∧ Below w.heap.size w w' := (nameAny c w h).mono fun e w' ⟨he, hw⟩ => ⟨he, by rw [hw]; exact Below.refl _ _⟩
theorem namedBel (s : ByteArray) (w : World) (h : Nam w) : Calls Tryd.prog 33 #[.string s] w fun e w' => e = .returned (.tuple #[.int .i64 (namedC s), .bool (namedOk s)]) ∧ Below w.heap.size w w' := (namedAny s w h).mono fun e w' ⟨he, hw⟩ => ⟨he, by rw [hw]; exact Below.refl _ _⟩
set_option maxHeartbeats 1000000 in
theorem law_in (c : Int) (s : ByteArray) (w : World) (hc : I64 c) (hs : s.size ≤ maxLen) (h1 : 1 ≤ c) (h2 : c ≤ 8) (hN : Nam w) (hP : Pow w) : Calls Tryd.prog 7 #[.int .i64 c, .string s] w fun e w' => e = .returned (.bool true) ∧ Below w.heap.size w w' := by
  have q1 := n_in c h1 h2
  have q2 := o_in c h1 h2
  have e1 : ((nameB c).toList == (nameB c).toList) = true := by simp
  have e2 : (namedC s == namedC s) = true := by simp
  have e3 : (namedOk s == namedOk s) = true := by simp
  have e4 : (c == c) = true := by simp
  go_enter Tryd.func7, Tryd.ntmps7
  go_wp2_with (first | (go_at_call 32; refine (nameBel _ _ (by assumption)).mono ?_; rintro e w1 ⟨rfl, hb⟩; have hB : Below w.heap.size w w1 := bup (by with_reducible (first | assumption | exact Below.drew (by assumption) | exact bal _ _ | exact (bal _ _).alloc (by simp) _ | exact (bal _ _).drew | exact ((bal _ _).alloc (by simp) _).drew | exact Below.refl _ _ | exact (Below.refl _ _).drew)) hb; have hN1 := hN.stays hB; have hP1 := hP.up hB) | (go_at_call 33; refine (namedBel _ _ (by assumption)).mono ?_; rintro e w1 ⟨rfl, hb⟩; have hB : Below w.heap.size w w1 := bup (by with_reducible (first | assumption | exact Below.drew (by assumption) | exact bal _ _ | exact (bal _ _).alloc (by simp) _ | exact (bal _ _).drew | exact ((bal _ _).alloc (by simp) _).drew | exact Below.refl _ _ | exact (Below.refl _ _).drew)) hb; have hN1 := hN.stays hB; have hP1 := hP.up hB) | (go_at_call 34; refine (rnamedAny _ _).mono ?_; rintro e w1 ⟨rfl, hb⟩; have hB : Below w.heap.size w w1 := bup (by with_reducible (first | assumption | exact Below.drew (by assumption) | exact bal _ _ | exact (bal _ _).alloc (by simp) _ | exact (bal _ _).drew | exact ((bal _ _).alloc (by simp) _).drew | exact Below.refl _ _ | exact (Below.refl _ _).drew)) hb; have hN1 := hN.stays hB; have hP1 := hP.up hB) | (go_at_call 35; refine (rnameAny _ _).mono ?_; rintro e w1 ⟨rfl, hb⟩; have hB : Below w.heap.size w w1 := bup (by with_reducible (first | assumption | exact Below.drew (by assumption) | exact bal _ _ | exact (bal _ _).alloc (by simp) _ | exact (bal _ _).drew | exact ((bal _ _).alloc (by simp) _).drew | exact Below.refl _ _ | exact (Below.refl _ _).drew)) hb; have hN1 := hN.stays hB; have hP1 := hP.up hB) | (go_at_call 17; refine (known_v _ (by assumption) (by assumption)).mono ?_; rintro e w1 ⟨rfl, hb⟩; have hB : Below w.heap.size w w1 := bup (by with_reducible (first | assumption | exact Below.drew (by assumption) | exact bal _ _ | exact (bal _ _).alloc (by simp) _ | exact (bal _ _).drew | exact ((bal _ _).alloc (by simp) _).drew | exact Below.refl _ _ | exact (Below.refl _ _).drew)) hb))
  all_goals go_ret
  all_goals exact ⟨rfl, by with_reducible assumption⟩
set_option maxHeartbeats 1000000 in
theorem law_lo (c : Int) (s : ByteArray) (w : World) (hc : I64 c) (hs : s.size ≤ maxLen) (h1 : c < 1) (hN : Nam w) (hP : Pow w) : Calls Tryd.prog 7 #[.int .i64 c, .string s] w fun e w' => e = .returned (.bool true) ∧ Below w.heap.size w w' := by
  have q1 := n_out c (.inl h1)
  have q2 := o_out c (.inl h1)
  have e1 : ((nameB c).toList == (nameB c).toList) = true := by simp
  have e2 : (namedC s == namedC s) = true := by simp
  have e3 : (namedOk s == namedOk s) = true := by simp
  have e4 : (c == c) = true := by simp
  go_enter Tryd.func7, Tryd.ntmps7
  go_wp2_with (first | (go_at_call 32; refine (nameBel _ _ (by assumption)).mono ?_; rintro e w1 ⟨rfl, hb⟩; have hB : Below w.heap.size w w1 := bup (by with_reducible (first | assumption | exact Below.drew (by assumption) | exact bal _ _ | exact (bal _ _).alloc (by simp) _ | exact (bal _ _).drew | exact ((bal _ _).alloc (by simp) _).drew | exact Below.refl _ _ | exact (Below.refl _ _).drew)) hb; have hN1 := hN.stays hB; have hP1 := hP.up hB) | (go_at_call 33; refine (namedBel _ _ (by assumption)).mono ?_; rintro e w1 ⟨rfl, hb⟩; have hB : Below w.heap.size w w1 := bup (by with_reducible (first | assumption | exact Below.drew (by assumption) | exact bal _ _ | exact (bal _ _).alloc (by simp) _ | exact (bal _ _).drew | exact ((bal _ _).alloc (by simp) _).drew | exact Below.refl _ _ | exact (Below.refl _ _).drew)) hb; have hN1 := hN.stays hB; have hP1 := hP.up hB) | (go_at_call 34; refine (rnamedAny _ _).mono ?_; rintro e w1 ⟨rfl, hb⟩; have hB : Below w.heap.size w w1 := bup (by with_reducible (first | assumption | exact Below.drew (by assumption) | exact bal _ _ | exact (bal _ _).alloc (by simp) _ | exact (bal _ _).drew | exact ((bal _ _).alloc (by simp) _).drew | exact Below.refl _ _ | exact (Below.refl _ _).drew)) hb; have hN1 := hN.stays hB; have hP1 := hP.up hB) | (go_at_call 35; refine (rnameAny _ _).mono ?_; rintro e w1 ⟨rfl, hb⟩; have hB : Below w.heap.size w w1 := bup (by with_reducible (first | assumption | exact Below.drew (by assumption) | exact bal _ _ | exact (bal _ _).alloc (by simp) _ | exact (bal _ _).drew | exact ((bal _ _).alloc (by simp) _).drew | exact Below.refl _ _ | exact (Below.refl _ _).drew)) hb; have hN1 := hN.stays hB; have hP1 := hP.up hB) | (go_at_call 17; refine (known_v _ (by assumption) (by assumption)).mono ?_; rintro e w1 ⟨rfl, hb⟩; have hB : Below w.heap.size w w1 := bup (by with_reducible (first | assumption | exact Below.drew (by assumption) | exact bal _ _ | exact (bal _ _).alloc (by simp) _ | exact (bal _ _).drew | exact ((bal _ _).alloc (by simp) _).drew | exact Below.refl _ _ | exact (Below.refl _ _).drew)) hb))
  all_goals go_ret
  all_goals exact ⟨rfl, by with_reducible assumption⟩
set_option maxHeartbeats 1000000 in
theorem law_hi (c : Int) (s : ByteArray) (w : World) (hc : I64 c) (hs : s.size ≤ maxLen) (h1 : 8 < c) (hN : Nam w) (hP : Pow w) : Calls Tryd.prog 7 #[.int .i64 c, .string s] w fun e w' => e = .returned (.bool true) ∧ Below w.heap.size w w' := by
  have q1 := n_out c (.inr h1)
  have q2 := o_out c (.inr h1)
  have hd : decide (c ≤ 8) = false := by simp; omega
  have e1 : ((nameB c).toList == (nameB c).toList) = true := by simp
  have e2 : (namedC s == namedC s) = true := by simp
  have e3 : (namedOk s == namedOk s) = true := by simp
  have e4 : (c == c) = true := by simp
  go_enter Tryd.func7, Tryd.ntmps7
  go_wp2_with (first | (go_at_call 32; refine (nameBel _ _ (by assumption)).mono ?_; rintro e w1 ⟨rfl, hb⟩; have hB : Below w.heap.size w w1 := bup (by with_reducible (first | assumption | exact Below.drew (by assumption) | exact bal _ _ | exact (bal _ _).alloc (by simp) _ | exact (bal _ _).drew | exact ((bal _ _).alloc (by simp) _).drew | exact Below.refl _ _ | exact (Below.refl _ _).drew)) hb; have hN1 := hN.stays hB; have hP1 := hP.up hB) | (go_at_call 33; refine (namedBel _ _ (by assumption)).mono ?_; rintro e w1 ⟨rfl, hb⟩; have hB : Below w.heap.size w w1 := bup (by with_reducible (first | assumption | exact Below.drew (by assumption) | exact bal _ _ | exact (bal _ _).alloc (by simp) _ | exact (bal _ _).drew | exact ((bal _ _).alloc (by simp) _).drew | exact Below.refl _ _ | exact (Below.refl _ _).drew)) hb; have hN1 := hN.stays hB; have hP1 := hP.up hB) | (go_at_call 34; refine (rnamedAny _ _).mono ?_; rintro e w1 ⟨rfl, hb⟩; have hB : Below w.heap.size w w1 := bup (by with_reducible (first | assumption | exact Below.drew (by assumption) | exact bal _ _ | exact (bal _ _).alloc (by simp) _ | exact (bal _ _).drew | exact ((bal _ _).alloc (by simp) _).drew | exact Below.refl _ _ | exact (Below.refl _ _).drew)) hb; have hN1 := hN.stays hB; have hP1 := hP.up hB) | (go_at_call 35; refine (rnameAny _ _).mono ?_; rintro e w1 ⟨rfl, hb⟩; have hB : Below w.heap.size w w1 := bup (by with_reducible (first | assumption | exact Below.drew (by assumption) | exact bal _ _ | exact (bal _ _).alloc (by simp) _ | exact (bal _ _).drew | exact ((bal _ _).alloc (by simp) _).drew | exact Below.refl _ _ | exact (Below.refl _ _).drew)) hb; have hN1 := hN.stays hB; have hP1 := hP.up hB) | (go_at_call 17; refine (known_v _ (by assumption) (by assumption)).mono ?_; rintro e w1 ⟨rfl, hb⟩; have hB : Below w.heap.size w w1 := bup (by with_reducible (first | assumption | exact Below.drew (by assumption) | exact bal _ _ | exact (bal _ _).alloc (by simp) _ | exact (bal _ _).drew | exact ((bal _ _).alloc (by simp) _).drew | exact Below.refl _ _ | exact (Below.refl _ _).drew)) hb))
  all_goals go_ret
  all_goals exact ⟨rfl, by with_reducible assumption⟩
theorem law (c : Int) (s : ByteArray) (w : World) (hc : I64 c) (hs : s.size ≤ maxLen) (hN : Nam w) (hP : Pow w) : Calls Tryd.prog 7 #[.int .i64 c, .string s] w fun e w' => e = .returned (.bool true) ∧ Below w.heap.size w w' := by
  by_cases h1 : c < 1
  · exact law_lo c s w hc hs h1 hN hP
  by_cases h2 : 8 < c
  · exact law_hi c s w hc hs h2 hN hP
  exact law_in c s w hc hs (by omega) (by omega) hN hP

set_option maxRecDepth 100000 in
theorem lifted (os : Os) (started : os.Started) (H : Type) (enc : TypeId × Value → H) :
    ReturnsInHanded {} Tryd.checked os 7 .any (fun w args => (Rows.valueNamesSpec.pre enc Tryd.prog Tryd.f7 [] false w args ∧ laidMetH Tryd.prog tables w) ∧ sizedMet enc Tryd.prog Tryd.f7 (OpenSpec.ofChange Rows.valueNamesSpec) false w args)
      (Rows.valueNamesSpec.post enc Tryd.prog Tryd.f7 false true false false) := by
  refine returnsInHanded_of_change_and (C := Tryd.checked) (X := fun w _ => laidMetH Tryd.prog tables w) (fun _ _ _ hh h => h.of_heap hh) own started (by kernel_rfl) Tryd.func7
    (ChangeSpec.witness_shaped (enc := enc) (C := Tryd.checked) (os := os) (X := fun w _ => laidMetH Tryd.prog tables w) false (World.laidAll Tryd.prog os tables) #[.int .i64 0, .string ⟨#[]⟩] 8 (World.laidAll_os _ _ _)
      (World.shaped_of_ZipB (by kernel_rfl) (by kernel_rfl)) (by kernel_rfl) (by kernel_rfl) (by kernel_rfl)
      (by rw [MakeChecks.laidMetH_plain _ _ _ (by kernel_rfl)]; exact laidMet_laidAll _ (by kernel_rfl) (by kernel_rfl))) ?_
  intro W base args ds gs before hval0 hW _ _ hL _
  have hval : ∀ (j : Nat) t v, Tryd.f7.params[j]? = some t → args[j]? = some v → Value.okWide Tryd.prog W .any base t v := hval0
  have hW' := hW
  obtain ⟨p, q, hA0, hV, rfl, _, _⟩ := hW
  have hA : DataW.TrodAll enc Tryd.prog W 0 (fun _ => true) true Tryd.f7.params.toList args.toList ds p := hA0
  rw [Tryd.params7] at hA hval
  obtain ⟨v0, vs0, d0, ds0, p0, q0, hargs, rfl, rfl, h0, r0⟩ := trodAll_cons hA
  obtain ⟨v1, vs1, d1, ds1, p1, q1, rfl, rfl, rfl, h1, r1⟩ := trodAll_cons r0
  obtain ⟨rfl, rfl, rfl⟩ := trodAll_nil r1
  obtain rfl : args = #[v0, v1] := by cases args; simp_all
  obtain ⟨rfl, rfl⟩ := trodVars_none hV
  obtain ⟨x0, rfl, rfl, rfl, wx0⟩ := open_int Tryd.underlying3 (hval 0 3 v0 rfl rfl) h0
  obtain ⟨x1, rfl, rfl, rfl, wx1⟩ := ChangeMaps.open_string Tryd.underlying9 (hval 1 9 v1 rfl rfl) h1
  simp only [List.append_nil] at hW'
  refine (law x0 x1 W (i64_of wx0) wx1 (nam_of_laid hL) (pow_of_laid hL)).mono fun e W' ⟨he, hb⟩ => ?_
  subst he
  exact ⟨_, rfl, _, _, _, [], [], [], hW', trodAll_mk1 (shut_bool Tryd.underlying4 _), (trodAll_cons_mk (shut_int Tryd.underlying3 wx0) (trodAll_cons_mk (ChangeMaps.shut_string Tryd.underlying9 wx1) trodAll_mk0)), rfl, hb.frame _, fun h => by cases h⟩

theorem holds : Rows.ValueNamesSaid :=
  OpenClaim.holds_of_wide 7 Tryd.f7 rfl rfl rfl rfl rfl rfl rfl ⟨rfl, rfl, rfl, rfl, rfl⟩ rfl rfl rfl rfl rfl (by kernel_rfl) Tryd.func7 (by kernel_rfl)
    (of_decide_eq_true (by kernel_rfl)) (by unfold Func.isWrapper; first | (rw [if_pos (by decide +kernel)]; kernel_rfl) | (rw [if_neg (by decide +kernel)]; exact ⟨rfl, rfl⟩))
    (fun os started H enc _ => lifted os started H enc)
theorem plain (f : FuncId) (fn : Func) (hf : Tryd.pinned.checked.prog.funcNamed "oriel/oriellaw02.ValueNames" = some f) (hfn : Tryd.pinned.checked.prog.funcs[f]? = some fn) :
    false = Tryd.pinned.checked.prog.looks [] ∧ ∀ (j : Nat) t, fn.params[j]? = some t → Tryd.pinned.checked.prog.wantsStandIn t = false := by
  obtain rfl : f = 7 := Option.some.inj ((show Tryd.prog.funcNamed "oriel/oriellaw02.ValueNames" = some 7 by kernel_rfl).symm.trans hf) |>.symm
  obtain rfl : fn = Tryd.f7 := (Option.some.inj (Tryd.func7.symm.trans hfn)).symm
  refine ⟨by kernel_rfl, fun j t ht => ?_⟩
  rw [Tryd.params7] at ht
  have hm : t ∈ [3, 9] := by simpa using Array.mem_of_getElem? ht
  have hall : ([3, 9].all fun u => !Tryd.prog.wantsStandIn u) = true := by kernel_rfl
  exact (show Tryd.prog.wantsStandIn t = false by simpa using List.all_eq_true.1 hall t hm)
/-- The card. -/
theorem card : Rows.ValueNamesCardSaid :=
  Claim7.holds_tied_plain_at .later [] _ _ _ _ holds (fun _ h => by cases h) (by kernel_rfl) (fun _ h => by cases h) valueNames_row_tie rfl ⟨rfl, rfl⟩ (by kernel_rfl) rfl plain (by kernel_rfl)
end Go.Proofs.YtnaonpienaddaaaDoor.valueNames
namespace Go.Proofs.YtnaonpienaddaaaDoor
theorem valueNames_card : Rows.ValueNamesCardSaid := valueNames.card
end Go.Proofs.YtnaonpienaddaaaDoor
