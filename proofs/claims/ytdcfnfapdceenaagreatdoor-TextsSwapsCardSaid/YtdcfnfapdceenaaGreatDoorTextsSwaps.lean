/- TextsSwaps: of any three texts: SUBST by itself changes nothing; each time that a text is left out, another one makes the answer as much longer: the law returns true, and its arguments read as before. The conditions: the tables of the library's package variables lie as laid, and one variable of the library holds a number. -/
import Derived.Test.YtdcfnfapdceenaaGreatDoorTU1
namespace Go.Proofs.YtdcfnfapdceenaaGreatDoor.textsSwaps
open Go.Shelf Go.RowKit Go.ChangeShapes Go.WideShapes Go.ChangeAt
set_option linter.all false
theorem law (s t u : ByteArray) (w : World) (hss : s.size ≤ maxLen) (htx : t.size ≤ maxLen) (hu1 : u.size ≤ maxLen) (hP : Pow w) (hM : Mx w) : Calls Tryz.prog 8 #[.string s, .string t, .string u] w fun e w' => e = .returned (.bool true) ∧ Below w.heap.size w w' := by
  by_cases h0 : 1 ≤ t.size
  · have hte := nonempty (s := t) h0
    by_cases h1 : (1024 : Int) < (s.size : Int)
    · exact s_1 s t u w hte h1 hP
    · by_cases h2 : (1024 : Int) < (u.size : Int)
      · exact s_2 s t u w hte h1 h2 hP
      · have hNb : s.size * (u.size + 1) ≤ 1024 * 1025 := Nat.mul_le_mul (by omega) (by omega)
        have hN : (s.size : Int) * ((u.size : Int) + 1) = ((s.size * (u.size + 1) : Nat) : Int) := by rw [Int.natCast_mul, Int.natCast_add]; rfl
        by_cases h3 : (1024 : Int) ≤ ((s.size * (u.size + 1) : Nat) : Int)
        · exact s_3 s t u w hte h1 h2 _ hN h3 (by unfold wrap64; omega) (by unfold wrap64; omega) hP
        · have zb := repl_size s t ⟨#[]⟩ h0
          have zc := repl_size s t u h0
          have z0 : (⟨#[]⟩ : ByteArray).size = 0 := rfl
          rw [z0, Nat.mul_zero, Nat.add_zero] at zb
          have hKt : Lib.countB s t * t.size ≤ s.size := Lib.countB_mul_le t h0 s.size s (Nat.le_refl _)
          have hK : Lib.countB s t ≤ Lib.countB s t * t.size := Nat.le_mul_of_pos_right _ h0
          have hKu : Lib.countB s t * u.size ≤ s.size * u.size := Nat.mul_le_mul_right _ (by omega)
          have hm : s.size * (u.size + 1) = s.size * u.size + s.size := Nat.mul_succ _ _
          have hd : ((s.size : Int) - ((repl s t ⟨#[]⟩).size : Int)) = ((Lib.countB s t : Nat) : Int) * (t.size : Int) := by rw [← Int.natCast_mul]; omega
          have ht0 : (t.size : Int) ≠ 0 := by omega
          exact s_go s t u w hte h1 h2 _ hN h3 (by unfold wrap64; omega) (by unfold wrap64; omega) (by unfold wrap64; omega) hP hM h0 htx (by omega) hu1 (show _ ≤ _ by omega) (show _ ≤ _ by rw [z0, Nat.mul_zero]; omega) (show _ ≤ _ from Nat.le_trans hKu (Nat.le_trans (Nat.mul_le_mul (show s.size ≤ 1024 by omega) (show u.size ≤ 1024 by omega)) (by decide))) (by omega) _ _ (repl_self s t).symm rfl rfl (by omega) (by omega) (by omega) (Lib.countB s t) (Lib.countB s t * u.size) (by rw [hd]; exact Int.mul_tmod_left _ _) (by rw [hd]; exact Int.mul_tdiv_cancel _ ht0) (by rw [Int.natCast_mul]) (beq_iff_eq.2 (by omega)) (beq_eq_false_iff_ne.2 ht0) ht0 (by rw [IntKind.wrap_i64]; omega) (by rw [IntKind.wrap_i64]; omega) (by rw [IntKind.wrap_i64]; omega) (by rw [IntKind.wrap_i64]; omega) (by unfold wrap64; omega) (by unfold wrap64; omega) (by unfold wrap64; omega)
  · have e0 : t = ⟨#[]⟩ := by
      apply ByteArray.ext
      have : t.data.size = 0 := (show t.size = 0 by omega)
      exact Array.eq_empty_of_size_eq_zero this
    exact s_e s t u w e0 hP
theorem reads (os : Os) {H : Type} (enc : TypeId × Value → H) : ∃ places, DataW.whole enc Tryz.prog ((World.laidAll Tryz.prog os tables).forCall (fun _ _ => 0) ⟨#[], #[.string ⟨#[]⟩, .string ⟨#[]⟩, .string ⟨#[]⟩], []⟩).memory Tryz.f8.params.toList Rows.textsSwapsSpec.vars false #[.string ⟨#[]⟩, .string ⟨#[]⟩, .string ⟨#[]⟩].toList 8 = some ([.lit (.string []), .lit (.string []), .lit (.string [])], [], places) :=
  ⟨[], by kernel_rfl⟩
theorem met (os : Os) : laidMetH Tryz.prog tables ((World.laidAll Tryz.prog os tables).forCall (fun _ _ => 0) ⟨#[], #[.string ⟨#[]⟩, .string ⟨#[]⟩, .string ⟨#[]⟩], []⟩).memory := by
  rw [MakeChecks.laidMetH_plain _ _ _ (by kernel_rfl)]; exact laidMet_laidAll _ (by kernel_rfl) (by kernel_rfl)
set_option maxRecDepth 100000 in
theorem lifted (os : Os) (started : os.Started) (H : Type) (enc : TypeId × Value → H) (F : Stop.Interp) :
    ReturnsInHanded {} Tryz.checked os 8 .any ((OpenSpec.ofChange Rows.textsSwapsSpec).preRow enc Tryz.prog Tryz.f8 Rows.textsSwapsRow.domain false Rows.textsSwapsRow.laid) (((OpenSpec.ofChange Rows.textsSwapsSpec).at F).post enc Tryz.prog Tryz.f8 false true false false) := by
  obtain ⟨places, hx⟩ := reads os enc
  refine returnsInHanded_of_row (C := Tryz.checked) (s := OpenSpec.ofChange Rows.textsSwapsSpec) own started (by kernel_rfl) Tryz.func8
    (witness_row_at (enc := enc) (C := Tryz.checked) false (World.laidAll Tryz.prog os tables) #[.string ⟨#[]⟩, .string ⟨#[]⟩, .string ⟨#[]⟩] (World.laidAll_os _ _ _) (by kernel_rfl) (by kernel_rfl) (by kernel_rfl)
      (OpenSpec.preRow_of_cond 8 hx (by kernel_rfl) (fun k hk => by cases hk) (by kernel_rfl) (met os))) ?_
  intro W base args ds gs before hval hW _ hcond _ hL hSh _
  have hW' := hW
  have hlt := hW.lt
  obtain ⟨p, q, hA0, hV, rfl, _, _⟩ := hW
  have hA : DataW.TrodAll enc Tryz.prog W 0 (fun _ => true) true Tryz.f8.params.toList args.toList ds p := hA0
  rw [Tryz.params8] at hA hval
  obtain ⟨v0, vs0, d0, ds0, p0, q0, hargs, rfl, rfl, h0, r0⟩ := trodAll_cons hA
  obtain ⟨v1, vs1, d1, ds1, p1, q1, rfl, rfl, rfl, h1, r1⟩ := trodAll_cons r0
  obtain ⟨v2, vs2, d2, ds2, p2, q2, rfl, rfl, rfl, h2, r2⟩ := trodAll_cons r1
  obtain ⟨rfl, rfl, rfl⟩ := trodAll_nil r2
  obtain rfl : args = #[v0, v1, v2] := by cases args; simp_all
  obtain ⟨rfl, rfl⟩ := trodVars_none hV
  obtain ⟨x0, rfl, rfl, rfl, wx0⟩ := ChangeMaps.open_string Tryz.underlying9 (hval 0 9 v0 rfl rfl) h0
  obtain ⟨x1, rfl, rfl, rfl, wx1⟩ := ChangeMaps.open_string Tryz.underlying9 (hval 1 9 v1 rfl rfl) h1
  obtain ⟨x2, rfl, rfl, rfl, wx2⟩ := ChangeMaps.open_string Tryz.underlying9 (hval 2 9 v2 rfl rfl) h2
  simp only [List.append_nil] at hW'
  refine (law x0 x1 x2 W wx0 wx1 wx2 (pow_of_laid hL) (mx_of_shaped hSh)).mono fun e W' ⟨he, hb⟩ => ?_
  subst he
  exact ⟨_, rfl, _, _, _, [], [], [], hW', trodAll_mk1 (shut_bool Tryz.underlying4 _), (trodAll_cons_mk (ChangeMaps.shut_string Tryz.underlying9 wx0) (trodAll_cons_mk (ChangeMaps.shut_string Tryz.underlying9 wx1) (trodAll_cons_mk (ChangeMaps.shut_string Tryz.underlying9 wx2) trodAll_mk0))), rfl, hb.frame _, fun h => by cases h⟩
theorem holds : Rows.TextsSwapsSaid :=
  OpenClaim.holds_of_cond 8 Tryz.f8 rfl rfl rfl rfl rfl rfl rfl ⟨rfl, rfl, rfl, rfl, rfl⟩ rfl rfl rfl rfl rfl (by kernel_rfl) Tryz.func8 (by kernel_rfl)
    (of_decide_eq_true (by kernel_rfl)) (by unfold Func.isWrapper; first | (rw [if_pos (by decide +kernel)]; kernel_rfl) | (rw [if_neg (by decide +kernel)]; exact ⟨rfl, rfl⟩))
    (fun os started H enc _ F => by rw [OpenClaim.pre_eq_preRow]; exact lifted os started H enc F)
theorem plain (f : FuncId) (fn : Func) (hf : Tryz.pinned.checked.prog.funcNamed "oriel/oriellaw09.TextsSwaps" = some f) (hfn : Tryz.pinned.checked.prog.funcs[f]? = some fn) :
    false = Tryz.pinned.checked.prog.looks [] ∧ ∀ (j : Nat) t, fn.params[j]? = some t → Tryz.pinned.checked.prog.wantsStandIn t = false := by
  obtain rfl : f = 8 := Option.some.inj ((show Tryz.prog.funcNamed "oriel/oriellaw09.TextsSwaps" = some 8 by kernel_rfl).symm.trans hf) |>.symm
  obtain rfl : fn = Tryz.f8 := (Option.some.inj (Tryz.func8.symm.trans hfn)).symm
  refine ⟨by kernel_rfl, fun j t ht => ?_⟩
  rw [Tryz.params8] at ht
  have hm : t ∈ [9, 9, 9] := by simpa using Array.mem_of_getElem? ht
  have hall : ([9, 9, 9].all fun u => !Tryz.prog.wantsStandIn u) = true := by kernel_rfl
  exact (show Tryz.prog.wantsStandIn t = false by simpa using List.all_eq_true.1 hall t hm)
/-- The card. -/
theorem card : Rows.TextsSwapsCardSaid :=
  Claim7.holds_tied_plain_at .later [] _ _ _ _ holds (fun _ h => by cases h) (by kernel_rfl) (fun _ h => by cases h) textsSwaps_row_tie rfl ⟨rfl, rfl⟩ (by kernel_rfl) rfl plain (by kernel_rfl)
end Go.Proofs.YtdcfnfapdceenaaGreatDoor.textsSwaps
namespace Go.Proofs.YtdcfnfapdceenaaGreatDoor
theorem textsSwaps_card : Rows.TextsSwapsCardSaid := textsSwaps.card
end Go.Proofs.YtdcfnfapdceenaaGreatDoor
