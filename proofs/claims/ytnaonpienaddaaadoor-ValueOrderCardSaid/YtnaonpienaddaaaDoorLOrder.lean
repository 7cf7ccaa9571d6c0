/- ValueOrder: what follows of the program's Compare for any three values, without the document's Compare: the law returns true for every input. The card's own condition: the listed tables (five of Go's library, one of them pinned, and the program's table of names) lie as their initialisers lay them (tied to the program's text). -/
import Derived.Test.YtnaonpienaddaaaDoorVB
import Derived.Test.YtnaonpienaddaaaDoorLO1
import Derived.Test.YtnaonpienaddaaaDoorLO2
import Derived.Test.YtnaonpienaddaaaDoorLO3
namespace Go.Proofs.YtnaonpienaddaaaDoor.valueOrder
open Go.Shelf Go.RowKit Go.ChangeShapes Go.WideShapes Go.ChangeAt
set_option linter.all false
theorem law (t n : Int) (s : ByteArray) (b : Bool) (c : Int) (t' n' : Int) (s' : ByteArray) (b' : Bool) (c' : Int) (t'' n'' : Int) (s'' : ByteArray) (b'' : Bool) (c'' : Int) (w : World) (hn : I64 n) (hs : s.size ≤ maxLen) (hn' : I64 n') (hs' : s'.size ≤ maxLen) (hn'' : I64 n'') (hs'' : s''.size ≤ maxLen) (hN : Nam w) (hP : Pow w) : Calls Tryd.prog 8 #[(.agg #[.int .i64 (t), .int .i64 (n), .string s, .bool b, .int .i64 (c)]), (.agg #[.int .i64 (t'), .int .i64 (n'), .string s', .bool b', .int .i64 (c')]), (.agg #[.int .i64 (t''), .int .i64 (n''), .string s'', .bool b'', .int .i64 (c'')])] w fun e w' => e = .returned (.bool true) ∧ Below w.heap.size w w' := by
  by_cases ra : rankB t n s b c = true
  case neg => exact lo_a t n s b c t' n' s' b' c' t'' n'' s'' b'' c'' w hn hs hn' hs' hn'' hs'' hN hP (by simpa using ra)
  by_cases rb : rankB t' n' s' b' c' = true
  case neg => exact lo_b t n s b c t' n' s' b' c' t'' n'' s'' b'' c'' w hn hs hn' hs' hn'' hs'' hN hP ra (by simpa using rb)
  by_cases rc : rankB t'' n'' s'' b'' c'' = true
  case neg => exact lo_c t n s b c t' n' s' b' c' t'' n'' s'' b'' c'' w hn hs hn' hs' hn'' hs'' hN hP ra rb (by simpa using rc)
  by_cases hx : 0 < cmpV t n s b c t' n' s' b' c'
  · exact lo_x t n s b c t' n' s' b' c' t'' n'' s'' b'' c'' w hn hs hn' hs' hn'' hs'' hN hP ra rb rc hx
  by_cases hy : 0 < cmpV t' n' s' b' c' t'' n'' s'' b'' c''
  · exact lo_y t n s b c t' n' s' b' c' t'' n'' s'' b'' c'' w hn hs hn' hs' hn'' hs'' hN hP ra rb rc hx hy
  obtain ⟨h1, h2⟩ := cmp_trans ra rb rc hx hy
  by_cases hx0 : cmpV t n s b c t' n' s' b' c' < 0
  · exact lo_1 t n s b c t' n' s' b' c' t'' n'' s'' b'' c'' w hn hs hn' hs' hn'' hs'' hN hP ra rb rc hx hy hx0 (h2.2 (.inl hx0)) h1
  by_cases hy0 : cmpV t' n' s' b' c' t'' n'' s'' b'' c'' < 0
  · exact lo_2 t n s b c t' n' s' b' c' t'' n'' s'' b'' c'' w hn hs hn' hs' hn'' hs'' hN hP ra rb rc hx hy hx0 hy0 (h2.2 (.inr hy0)) h1
  exact lo_3 t n s b c t' n' s' b' c' t'' n'' s'' b'' c'' w hn hs hn' hs' hn'' hs'' hN hP ra rb rc hx hy hx0 hy0 (fun k => by rcases h2.1 k with k | k <;> contradiction) h1

set_option maxRecDepth 100000 in
theorem lifted (os : Os) (started : os.Started) (H : Type) (enc : TypeId × Value → H) :
    ReturnsInHanded {} Tryd.checked os 8 .any (fun w args => (Rows.valueOrderSpec.pre enc Tryd.prog Tryd.f8 [] false w args ∧ laidMetH Tryd.prog tables w) ∧ sizedMet enc Tryd.prog Tryd.f8 (OpenSpec.ofChange Rows.valueOrderSpec) false w args)
      (Rows.valueOrderSpec.post enc Tryd.prog Tryd.f8 false true false false) := by
  refine returnsInHanded_of_change_and (C := Tryd.checked) (X := fun w _ => laidMetH Tryd.prog tables w) (fun _ _ _ hh h => h.of_heap hh) own started (by kernel_rfl) Tryd.func8
    (ChangeSpec.witness_shaped (enc := enc) (C := Tryd.checked) (os := os) (X := fun w _ => laidMetH Tryd.prog tables w) false (World.laidAll Tryd.prog os tables) #[.agg #[.int .i64 0, .int .i64 0, .string ⟨#[]⟩, .bool false, .int .i64 0], .agg #[.int .i64 0, .int .i64 0, .string ⟨#[]⟩, .bool false, .int .i64 0], .agg #[.int .i64 0, .int .i64 0, .string ⟨#[]⟩, .bool false, .int .i64 0]] 8 (World.laidAll_os _ _ _)
      (World.shaped_of_ZipB (by kernel_rfl) (by kernel_rfl)) (by kernel_rfl) (by kernel_rfl) (by kernel_rfl)
      (by rw [MakeChecks.laidMetH_plain _ _ _ (by kernel_rfl)]; exact laidMet_laidAll _ (by kernel_rfl) (by kernel_rfl))) ?_
  intro W base args ds gs before hval0 hW _ _ hL _
  have hval : ∀ (j : Nat) t v, Tryd.f8.params[j]? = some t → args[j]? = some v → Value.okWide Tryd.prog W .any base t v := hval0
  have hW' := hW
  obtain ⟨p, q, hA0, hV, rfl, _, _⟩ := hW
  have hA : DataW.TrodAll enc Tryd.prog W 0 (fun _ => true) true Tryd.f8.params.toList args.toList ds p := hA0
  rw [Tryd.params8] at hA hval
  obtain ⟨v0, vs0, d0, ds0, p0, q0, hargs, rfl, rfl, h0, r0⟩ := trodAll_cons hA
  obtain ⟨v1, vs1, d1, ds1, p1, q1, rfl, rfl, rfl, h1, r1⟩ := trodAll_cons r0
  obtain ⟨v2, vs2, d2, ds2, p2, q2, rfl, rfl, rfl, h2, r2⟩ := trodAll_cons r1
  obtain ⟨rfl, rfl, rfl⟩ := trodAll_nil r2
  obtain rfl : args = #[v0, v1, v2] := by cases args; simp_all
  obtain ⟨rfl, rfl⟩ := trodVars_none hV
  obtain ⟨t0, n0, s0, b0, c0, rfl, rfl, rfl, wt0, wn0, ws0, wc0⟩ := open_value (hval 0 25 v0 rfl rfl) h0
  obtain ⟨t1, n1, s1, b1, c1, rfl, rfl, rfl, wt1, wn1, ws1, wc1⟩ := open_value (hval 1 25 v1 rfl rfl) h1
  obtain ⟨t2, n2, s2, b2, c2, rfl, rfl, rfl, wt2, wn2, ws2, wc2⟩ := open_value (hval 2 25 v2 rfl rfl) h2
  simp only [List.append_nil] at hW'
  refine (law t0 n0 s0 b0 c0 t1 n1 s1 b1 c1 t2 n2 s2 b2 c2 W (i64_of wn0) ws0 (i64_of wn1) ws1 (i64_of wn2) ws2 (nam_of_laid hL) (pow_of_laid hL)).mono fun e W' ⟨he, hb⟩ => ?_
  subst he
  exact ⟨_, rfl, _, _, _, [], [], [], hW', trodAll_mk1 (shut_bool Tryd.underlying4 _), (trodAll_cons_mk (shut_value wt0 wn0 ws0 wc0) (trodAll_cons_mk (shut_value wt1 wn1 ws1 wc1) (trodAll_cons_mk (shut_value wt2 wn2 ws2 wc2) trodAll_mk0))), rfl, hb.frame _, fun h => by cases h⟩

theorem holds : Rows.ValueOrderSaid :=
  OpenClaim.holds_of_wide 8 Tryd.f8 rfl rfl rfl rfl rfl rfl rfl ⟨rfl, rfl, rfl, rfl, rfl⟩ rfl rfl rfl rfl rfl (by kernel_rfl) Tryd.func8 (by kernel_rfl)
    (of_decide_eq_true (by kernel_rfl)) (by unfold Func.isWrapper; first | (rw [if_pos (by decide +kernel)]; kernel_rfl) | (rw [if_neg (by decide +kernel)]; exact ⟨rfl, rfl⟩))
    (fun os started H enc _ => lifted os started H enc)
theorem plain (f : FuncId) (fn : Func) (hf : Tryd.pinned.checked.prog.funcNamed "oriel/oriellaw02.ValueOrder" = some f) (hfn : Tryd.pinned.checked.prog.funcs[f]? = some fn) :
    false = Tryd.pinned.checked.prog.looks [] ∧ ∀ (j : Nat) t, fn.params[j]? = some t → Tryd.pinned.checked.prog.wantsStandIn t = false := by
  obtain rfl : f = 8 := Option.some.inj ((show Tryd.prog.funcNamed "oriel/oriellaw02.ValueOrder" = some 8 by kernel_rfl).symm.trans hf) |>.symm
  obtain rfl : fn = Tryd.f8 := (Option.some.inj (Tryd.func8.symm.trans hfn)).symm
  refine ⟨by kernel_rfl, fun j t ht => ?_⟩
  rw [Tryd.params8] at ht
  have hm : t ∈ [25, 25, 25] := by simpa using Array.mem_of_getElem? ht
  have hall : ([25, 25, 25].all fun u => !Tryd.prog.wantsStandIn u) = true := by kernel_rfl
  exact (show Tryd.prog.wantsStandIn t = false by simpa using List.all_eq_true.1 hall t hm)
/-- The card. -/
theorem card : Rows.ValueOrderCardSaid :=
  Claim7.holds_tied_plain_at .later [] _ _ _ _ holds (fun _ h => by cases h) (by kernel_rfl) (fun _ h => by cases h) valueOrder_row_tie rfl ⟨rfl, rfl⟩ (by kernel_rfl) rfl plain (by kernel_rfl)
end Go.Proofs.YtnaonpienaddaaaDoor.valueOrder
namespace Go.Proofs.YtnaonpienaddaaaDoor
theorem valueOrder_card : Rows.ValueOrderCardSaid := valueOrder.card
end Go.Proofs.YtnaonpienaddaaaDoor
