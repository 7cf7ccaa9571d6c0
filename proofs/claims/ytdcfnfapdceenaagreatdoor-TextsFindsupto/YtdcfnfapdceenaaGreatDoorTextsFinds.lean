/- TextsFinds, second form: of any two texts and any place: where FIND finds, the text stands, and at none from the first place asked for up to it; where it doesn't, at none: the law returns true, and its arguments read as before. The conditions: the arguments' bulk is at most 2^20; the tables of the library's package variables lie as laid, and one variable of the library holds a number. -/
import Derived.Test.YtdcfnfapdceenaaGreatDoorTR1
import Derived.Test.YtdcfnfapdceenaaGreatDoorTR2
import Derived.Test.YtdcfnfapdceenaaGreatDoorTR3
namespace Go.Proofs.YtdcfnfapdceenaaGreatDoor.textsFinds
open Go.Shelf Go.RowKit Go.ChangeShapes Go.WideShapes Go.ChangeAt
set_option linter.all false
theorem law (t s : ByteArray) (n : Int) (w : World) (hn : I64 n) (ht : t.size ≤ 1048576) (hs : s.size ≤ 1048576) (hP : Pow w) (hM : Mx w) : Calls Tryz.prog 6 #[.string t, .string s, .int .i64 n] w fun e w' => e = .returned (.bool true) ∧ Below w.heap.size w w' := by
  by_cases h : n < 1
  · exact f_lo t s n w h hP
  · by_cases h2 : 1099511627776 < n
    · exact f_hi t s n w h h2 hP
    · obtain ⟨k, hk⟩ : ∃ k : Nat, n = (k : Int) + 1 := ⟨(n - 1).toNat, by omega⟩
      subst hk
      by_cases h3 : s.size < k
      · exact f_far t s _ k rfl w (by omega) h3 _ rfl (fun i h4 h5 => absurd h5 (by omega)) ht hs hP hM
      · rcases idx_spec s t k (by omega) with ⟨h4, h5⟩ | ⟨j, h4, h5, h6, h7⟩
        · exact f_miss t s _ k rfl w (by omega) h4 _ rfl (fun i h8 h9 => h5 i h8 (by omega)) ht hs hP hM
        · exact f_hit t s _ k j rfl w (by omega) h5 h4 (k + j) rfl _ rfl (by omega) h5 h6 (fun i h8 h9 => h7 i h8 (by omega)) ht hs hP hM
theorem reads (os : Os) {H : Type} (enc : TypeId × Value → H) : ∃ places, DataW.whole enc Tryz.prog ((World.laidAll Tryz.prog os tables).forCall (fun _ _ => 0) ⟨#[], #[.string ⟨#[]⟩, .string ⟨#[]⟩, .int .i64 0], []⟩).memory Tryz.f6.params.toList Rows.textsFindsSpec.vars false #[.string ⟨#[]⟩, .string ⟨#[]⟩, .int .i64 0].toList 8 = some ([.lit (.string []), .lit (.string []), .lit (.int .i64 0)], [], places) :=
  ⟨[], by kernel_rfl⟩
theorem met (os : Os) : laidMetH Tryz.prog tables ((World.laidAll Tryz.prog os tables).forCall (fun _ _ => 0) ⟨#[], #[.string ⟨#[]⟩, .string ⟨#[]⟩, .int .i64 0], []⟩).memory := by
  rw [MakeChecks.laidMetH_plain _ _ _ (by kernel_rfl)]; exact laidMet_laidAll _ (by kernel_rfl) (by kernel_rfl)
set_option maxRecDepth 100000 in
theorem lifted (os : Os) (started : os.Started) (H : Type) (enc : TypeId × Value → H) (F : Stop.Interp) :
    ReturnsInHanded {} Tryz.checked os 6 .any ((Rows.OpenSpec.upto Rows.textsFindsSpec).preRow enc Tryz.prog Tryz.f6 Rows.textsFindsUptoRow.domain false Rows.textsFindsUptoRow.laid) (((Rows.OpenSpec.upto Rows.textsFindsSpec).at F).post enc Tryz.prog Tryz.f6 false true false false) := by
  obtain ⟨places, hx⟩ := reads os enc
  refine returnsInHanded_of_row (C := Tryz.checked) (s := Rows.OpenSpec.upto Rows.textsFindsSpec) own started (by kernel_rfl) Tryz.func6
    (witness_row_at (enc := enc) (C := Tryz.checked) false (World.laidAll Tryz.prog os tables) #[.string ⟨#[]⟩, .string ⟨#[]⟩, .int .i64 0] (World.laidAll_os _ _ _) (by kernel_rfl) (by kernel_rfl) (by kernel_rfl)
      (OpenSpec.preRow_of_cond 8 hx (by kernel_rfl) (fun k hk => by cases hk; kernel_rfl) (by kernel_rfl) (met os))) ?_
  intro W base args ds gs before hval hW _ hcond _ hL hSh _
  have hW' := hW
  have hlt := hW.lt
  obtain ⟨p, q, hA0, hV, rfl, _, _⟩ := hW
  have hA : DataW.TrodAll enc Tryz.prog W 0 (fun _ => true) true Tryz.f6.params.toList args.toList ds p := hA0
  rw [Tryz.params6] at hA hval
  obtain ⟨v0, vs0, d0, ds0, p0, q0, hargs, rfl, rfl, h0, r0⟩ := trodAll_cons hA
  obtain ⟨v1, vs1, d1, ds1, p1, q1, rfl, rfl, rfl, h1, r1⟩ := trodAll_cons r0
  obtain ⟨v2, vs2, d2, ds2, p2, q2, rfl, rfl, rfl, h2, r2⟩ := trodAll_cons r1
  obtain ⟨rfl, rfl, rfl⟩ := trodAll_nil r2
  obtain rfl : args = #[v0, v1, v2] := by cases args; simp_all
  obtain ⟨rfl, rfl⟩ := trodVars_none hV
  obtain ⟨x0, rfl, rfl, rfl, wx0⟩ := ChangeMaps.open_string Tryz.underlying9 (hval 0 9 v0 rfl rfl) h0
  obtain ⟨x1, rfl, rfl, rfl, wx1⟩ := ChangeMaps.open_string Tryz.underlying9 (hval 1 9 v1 rfl rfl) h1
  obtain ⟨x2, rfl, rfl, rfl, wx2⟩ := open_int Tryz.underlying3 (hval 2 3 v2 rfl rfl) h2
  have hk : Rows.uptoBulkAll ([.lit (.string x0.data.toList), .lit (.string x1.data.toList), .lit (.int .i64 x2)] : List (DataW H)) ≤ 1048576 := of_decide_eq_true (hcond _ rfl)
  have sz0 : x0.size ≤ 1048576 := by
    simp only [Rows.uptoBulkAll, Rows.uptoBulk] at hk
    have e : x0.size = x0.data.toList.length := (show x0.data.size = x0.data.toList.length from Array.length_toList.symm)
    omega
  have sz1 : x1.size ≤ 1048576 := by
    simp only [Rows.uptoBulkAll, Rows.uptoBulk] at hk
    have e : x1.size = x1.data.toList.length := (show x1.data.size = x1.data.toList.length from Array.length_toList.symm)
    omega
  simp only [List.append_nil] at hW'
  refine (law x0 x1 x2 W (i64_of wx2) sz0 sz1 (pow_of_laid hL) (mx_of_shaped hSh)).mono fun e W' ⟨he, hb⟩ => ?_
  subst he
  exact ⟨_, rfl, _, _, _, [], [], [], hW', trodAll_mk1 (shut_bool Tryz.underlying4 _), (trodAll_cons_mk (ChangeMaps.shut_string Tryz.underlying9 wx0) (trodAll_cons_mk (ChangeMaps.shut_string Tryz.underlying9 wx1) (trodAll_cons_mk (shut_int Tryz.underlying3 wx2) trodAll_mk0))), rfl, hb.frame _, fun h => by cases h⟩
theorem holds : Rows.TextsFindsUptoSaid :=
  OpenClaim.holds_of_cond 6 Tryz.f6 rfl rfl rfl rfl rfl rfl rfl ⟨rfl, rfl, rfl, rfl, rfl⟩ rfl rfl rfl rfl rfl (by kernel_rfl) Tryz.func6 (by kernel_rfl)
    (of_decide_eq_true (by kernel_rfl)) (by unfold Func.isWrapper; first | (rw [if_pos (by decide +kernel)]; kernel_rfl) | (rw [if_neg (by decide +kernel)]; exact ⟨rfl, rfl⟩))
    (fun os started H enc _ F => by rw [OpenClaim.pre_eq_preRow]; exact lifted os started H enc F)
theorem plain (f : FuncId) (fn : Func) (hf : Tryz.pinned.checked.prog.funcNamed "oriel/oriellaw09.TextsFinds" = some f) (hfn : Tryz.pinned.checked.prog.funcs[f]? = some fn) :
    false = Tryz.pinned.checked.prog.looks [] ∧ ∀ (j : Nat) t, fn.params[j]? = some t → Tryz.pinned.checked.prog.wantsStandIn t = false := by
  obtain rfl : f = 6 := Option.some.inj ((show Tryz.prog.funcNamed "oriel/oriellaw09.TextsFinds" = some 6 by kernel_rfl).symm.trans hf) |>.symm
  obtain rfl : fn = Tryz.f6 := (Option.some.inj (Tryz.func6.symm.trans hfn)).symm
  refine ⟨by kernel_rfl, fun j t ht => ?_⟩
  rw [Tryz.params6] at ht
  have hm : t ∈ [9, 9, 3] := by simpa using Array.mem_of_getElem? ht
  have hall : ([9, 9, 3].all fun u => !Tryz.prog.wantsStandIn u) = true := by kernel_rfl
  exact (show Tryz.prog.wantsStandIn t = false by simpa using List.all_eq_true.1 hall t hm)
/-- The card. -/
theorem card : Rows.TextsFindsUptoCardSaid :=
  Claim7.holds_tied_plain_at .later [] _ _ _ _ holds (fun _ h => by cases h) (by kernel_rfl) (fun _ h => by cases h) textsFindsUpto_row_tie rfl ⟨rfl, rfl⟩ (by kernel_rfl) rfl plain (by kernel_rfl)
end Go.Proofs.YtdcfnfapdceenaaGreatDoor.textsFinds
namespace Go.Proofs.YtdcfnfapdceenaaGreatDoor
theorem textsFinds_card : Rows.TextsFindsUptoCardSaid := textsFinds.card
end Go.Proofs.YtdcfnfapdceenaaGreatDoor
