/- DecPowers: of any number and any exponent the program's Power answers what the document's does, and its Sqrt what the document's does: the law returns true for every input. The card's own condition: the listed tables of Go's library lie as their initialisers lay them (tied to the program's text). -/
import Derived.Test.YtkbpjomkbelaaaaDoorRPowZ
import Derived.Test.YtkbpjomkbelaaaaDoorBase
namespace Go.Proofs.YtkbpjomkbelaaaaDoor.decPowers
open Go.Shelf Go.RowKit Go.ChangeShapes Go.WideShapes Go.ChangeAt
set_option linter.all false
theorem both_pow (x n : Int) (hx : I64 x) : ∃ a c : Int, (∀ w : World, Calls Tryd.prog 5 #[.int .i64 x, .int .i64 n] w fun e w' => e = .returned (.tuple #[.int .i64 a, .int .i64 c]) ∧ Below w.heap.size w w') ∧ (∀ w : World, Calls Tryd.prog 6 #[.int .i64 x, .int .i64 n] w fun e w' => e = .returned (.tuple #[.int .i64 a, .int .i64 c]) ∧ Below w.heap.size w w') := by
  by_cases h1 : x = -9223372036854775808
  · exact ⟨0, 2, fun w => pow_min x n w h1, fun w => rp_min x n w h1⟩
  have h1' : -9223372036854775807 ≤ x := by have := hx.1; omega
  have hm : mayOk x = true := mayOk_t h1'
  by_cases h2 : n < -64
  · exact ⟨0, 8, fun w => pow_lo x n w h1' h2, fun w => rp_lo x n w hx hm h2⟩
  by_cases h3 : 64 < n
  · exact ⟨0, 8, fun w => pow_hi x n w h1' h3, fun w => rp_hi x n w hx hm h3⟩
  obtain ⟨s, low, hs, hs2, hl⟩ : ∃ (s : Nat) (low : Bool), ((x = s ∧ 0 ≤ x ∧ low = false) ∨ (x = -(s : Int) ∧ x < 0 ∧ low = true)) ∧ s ≤ 9223372036854775807 ∧ decide (x < 0) = low := by
    have g1 := hx.1
    have g2 := hx.2
    by_cases h : x < 0
    · exact ⟨x.natAbs, true, .inr ⟨by omega, h, rfl⟩, by omega, decide_eq_true h⟩
    · exact ⟨x.natAbs, false, .inl ⟨by omega, by omega, rfl⟩, by omega, decide_eq_false h⟩
  have hs' : x = s ∨ x = -(s : Int) := hs.elim (fun h => .inl h.1) (fun h => .inr h.1)
  by_cases h0 : n = 0
  · subst h0; exact ⟨10000, 0, fun w => pow_n0 x s low w h1' hs' hs2 hl, fun w => rp_n0 x w hx hm⟩
  by_cases hz : x = 0
  · subst hz
    by_cases hn : n < 0
    · exact ⟨0, 3, fun w => pow_0n n w (by omega) hn, fun w => rp_0n n w (by omega) hn⟩
    · refine ⟨0, 0, fun w => pow_0p n w (by omega) (by omega), fun w => ?_⟩
      obtain ⟨k, rfl⟩ : ∃ k : Nat, n = k := ⟨n.toNat, by omega⟩
      by_cases hk : k = 1
      · subst hk; exact rp_0p1 w
      · exact rp_0p2 k w (by omega) (by omega)
  have hs1 : 1 ≤ s := by omega
  by_cases hn : n < 0
  · obtain ⟨k, rfl⟩ : ∃ k : Nat, n = -(k : Int) := ⟨(-n).toNat, by omega⟩
    exact ⟨_, _, fun w => pow_neg x s k low w h1' hs' hs1 hs2 (by omega) (by omega) hl, fun w => rp_neg x s k low w hx hm hs hs1 hs2 (by omega) (by omega)⟩
  · obtain ⟨k, rfl⟩ : ∃ k : Nat, n = k := ⟨n.toNat, by omega⟩
    refine ⟨_, _, fun w => pow_pos x s k low w h1' hs' (.inr hs1) hs2 (by omega) hl (by simpa using hz), fun w => ?_⟩
    by_cases hk : k = 1
    · subst hk; exact rp_pos1 x s low w hx hm hs hs1 hs2
    · exact rp_pos2 x s k low w hx hm hs hs1 hs2 (by omega) (by omega)
theorem both_sqrt (x : Int) (hx : I64 x) : ∃ (c : Int) (Q : Int → Prop), (∀ a b, Q a → Q b → a = b) ∧ (∀ w : World, Calls Tryd.prog 8 #[.int .i64 x] w fun e w' => (∃ a : Int, e = .returned (.tuple #[.int .i64 a, .int .i64 c]) ∧ Q a) ∧ Below w.heap.size w w') ∧ (∀ w : World, Calls Tryd.prog 9 #[.int .i64 x] w fun e w' => (∃ a : Int, e = .returned (.tuple #[.int .i64 a, .int .i64 c]) ∧ Q a) ∧ Below w.heap.size w w') := by
  by_cases h1 : x = -9223372036854775808
  · exact ⟨2, (· = 0), fun a b h h' => h.trans h'.symm, fun w => (sqrt_min x w h1).mono (by rintro e w' ⟨rfl, rfl⟩; exact ⟨⟨0, rfl, rfl⟩, Below.refl _ _⟩), fun w => (rq_min x w h1).mono (by rintro e w' ⟨rfl, hb⟩; exact ⟨⟨0, rfl, rfl⟩, hb⟩)⟩
  have h1' : -9223372036854775807 ≤ x := by have := hx.1; omega
  by_cases h2 : x < 0
  · exact ⟨8, (· = 0), fun a b h h' => h.trans h'.symm, fun w => (sqrt_neg x w h1' h2).mono (by rintro e w' ⟨rfl, rfl⟩; exact ⟨⟨0, rfl, rfl⟩, Below.refl _ _⟩), fun w => (rq_neg x w hx (mayOk_t h1') h2).mono (by rintro e w' ⟨rfl, hb⟩; exact ⟨⟨0, rfl, rfl⟩, hb⟩)⟩
  refine ⟨0, RootInv (x * 40000) 0, fun a b h h' => Int.le_antisymm (root_le h h' (Int.le_refl _)) (root_le h' h (Int.le_refl _)), fun w => (sqrt_ok x w (by omega) hx.2).mono (by rintro e w' ⟨h, rfl⟩; exact ⟨h, Below.refl _ _⟩), fun w => ?_⟩
  have g2 := hx.2
  obtain ⟨k, rfl⟩ : ∃ k : Nat, x = k := ⟨x.toNat, by omega⟩
  exact rsqrt_ok k w (by omega)
set_option maxHeartbeats 1000000 in
theorem law (x n : Int) (w : World) (hx : I64 x) (hn : I64 n) (h : Pow w) : Calls Tryd.prog 3 #[.int .i64 x, .int .i64 n] w fun e w' => e = .returned (.bool true) ∧ Below w.heap.size w w' := by
  obtain ⟨a, c, H1, H2⟩ := both_pow x n hx
  obtain ⟨c2, Q, HU, H3, H4⟩ := both_sqrt x hx
  go_enter Tryd.func3, Tryd.ntmps3
  go_wp2_with (first
    | (go_at_call 5; refine (H1 _).mono ?_; rintro e w1 ⟨rfl, hb1⟩)
    | (go_at_call 6; refine (H2 _).mono ?_; rintro e w2 ⟨rfl, hb2⟩)
    | (go_at_call 8; refine (H3 _).mono ?_; rintro e w3 ⟨⟨r, rfl, hr⟩, hb3⟩)
    | (go_at_call 9; refine (H4 _).mono ?_; rintro e w4 ⟨⟨r2, rfl, hr2⟩, hb4⟩; obtain rfl := HU r2 r hr2 hr)
    | (go_at_call 7; refine (alike_same _ _ _).mono ?_; rintro e w9 ⟨rfl, rfl⟩)
    | (go_at_call 10; refine (known_any _ ((((h.stays hb1).stays hb2).stays hb3).stays hb4)).mono ?_; rintro e w5 ⟨rfl, hk⟩))
  go_ret
  exact ⟨rfl, bup (bup (bup (bup hb1 hb2) hb3) hb4) hk⟩

set_option maxRecDepth 100000 in
theorem lifted (os : Os) (started : os.Started) (H : Type) (enc : TypeId × Value → H) :
    ReturnsInHanded {} Tryd.checked os 3 .any (fun w args => (Rows.decPowersSpec.pre enc Tryd.prog Tryd.f3 [] false w args ∧ laidMetH Tryd.prog tables w) ∧ sizedMet enc Tryd.prog Tryd.f3 (OpenSpec.ofChange Rows.decPowersSpec) false w args)
      (Rows.decPowersSpec.post enc Tryd.prog Tryd.f3 false true false false) := by
  refine returnsInHanded_of_change_and (C := Tryd.checked) (X := fun w _ => laidMetH Tryd.prog tables w) (fun _ _ _ hh h => h.of_heap hh) own started (by kernel_rfl) Tryd.func3
    (ChangeSpec.witness_shaped (enc := enc) (C := Tryd.checked) (os := os) (X := fun w _ => laidMetH Tryd.prog tables w) false (World.laidAll Tryd.prog os tables) #[.int .i64 0, .int .i64 0] 8 (World.laidAll_os _ _ _)
      (World.shaped_of_ZipB (by kernel_rfl) (by kernel_rfl)) (by kernel_rfl) (by kernel_rfl) (by kernel_rfl)
      (by rw [MakeChecks.laidMetH_plain _ _ _ (by kernel_rfl)]; exact laidMet_laidAll _ (by kernel_rfl) (by kernel_rfl))) ?_
  intro W base args ds gs before hval0 hW _ _ hL _
  have hval : ∀ (j : Nat) t v, Tryd.f3.params[j]? = some t → args[j]? = some v → Value.okWide Tryd.prog W .any base t v := hval0
  have hW' := hW
  obtain ⟨p, q, hA0, hV, rfl, _, _⟩ := hW
  have hA : DataW.TrodAll enc Tryd.prog W 0 (fun _ => true) true Tryd.f3.params.toList args.toList ds p := hA0
  rw [Tryd.params3] at hA hval
  obtain ⟨v0, vs0, d0, ds0, p0, q0, hargs, rfl, rfl, h0, r0⟩ := trodAll_cons hA
  obtain ⟨v1, vs1, d1, ds1, p1, q1, rfl, rfl, rfl, h1, r1⟩ := trodAll_cons r0
  obtain ⟨rfl, rfl, rfl⟩ := trodAll_nil r1
  obtain rfl : args = #[v0, v1] := by cases args; simp_all
  obtain ⟨rfl, rfl⟩ := trodVars_none hV
  obtain ⟨x0, rfl, rfl, rfl, wx0⟩ := open_int Tryd.underlying2 (hval 0 2 v0 rfl rfl) h0
  obtain ⟨x1, rfl, rfl, rfl, wx1⟩ := open_int Tryd.underlying3 (hval 1 3 v1 rfl rfl) h1
  simp only [List.append_nil] at hW'
  refine (law x0 x1 W (i64_of wx0) (i64_of wx1) (pow_of_laid hL)).mono fun e W' ⟨he, hb⟩ => ?_
  subst he
  exact ⟨_, rfl, _, _, _, [], [], [], hW', trodAll_mk1 (shut_bool Tryd.underlying4 _), (trodAll_cons_mk (shut_int Tryd.underlying2 wx0) (trodAll_cons_mk (shut_int Tryd.underlying3 wx1) trodAll_mk0)), rfl, hb.frame _, fun h => by cases h⟩

theorem holds : Rows.DecPowersSaid :=
  OpenClaim.holds_of_wide 3 Tryd.f3 rfl rfl rfl rfl rfl rfl rfl ⟨rfl, rfl, rfl, rfl, rfl⟩ rfl rfl rfl rfl rfl (by kernel_rfl) Tryd.func3 (by kernel_rfl)
    (of_decide_eq_true (by kernel_rfl)) (by unfold Func.isWrapper; first | (rw [if_pos (by decide +kernel)]; kernel_rfl) | (rw [if_neg (by decide +kernel)]; exact ⟨rfl, rfl⟩))
    (fun os started H enc _ => lifted os started H enc)
theorem plain (f : FuncId) (fn : Func) (hf : Tryd.pinned.checked.prog.funcNamed "oriel/oriellaw01.DecPowers" = some f) (hfn : Tryd.pinned.checked.prog.funcs[f]? = some fn) :
    false = Tryd.pinned.checked.prog.looks [] ∧ ∀ (j : Nat) t, fn.params[j]? = some t → Tryd.pinned.checked.prog.wantsStandIn t = false := by
  obtain rfl : f = 3 := Option.some.inj ((show Tryd.prog.funcNamed "oriel/oriellaw01.DecPowers" = some 3 by kernel_rfl).symm.trans hf) |>.symm
  obtain rfl : fn = Tryd.f3 := (Option.some.inj (Tryd.func3.symm.trans hfn)).symm
  refine ⟨by kernel_rfl, fun j t ht => ?_⟩
  rw [Tryd.params3] at ht
  have hm : t ∈ [2, 3] := by simpa using Array.mem_of_getElem? ht
  have hall : ([2, 3].all fun u => !Tryd.prog.wantsStandIn u) = true := by kernel_rfl
  exact (show Tryd.prog.wantsStandIn t = false by simpa using List.all_eq_true.1 hall t hm)
/-- The card. -/
theorem card : Rows.DecPowersCardSaid :=
  Claim7.holds_tied_plain_at .later [] _ _ _ _ holds (fun _ h => by cases h) (by kernel_rfl) (fun _ h => by cases h) decPowers_row_tie rfl ⟨rfl, rfl⟩ (by kernel_rfl) rfl plain (by kernel_rfl)
end Go.Proofs.YtkbpjomkbelaaaaDoor.decPowers
namespace Go.Proofs.YtkbpjomkbelaaaaDoor
theorem decPowers_card : Rows.DecPowersCardSaid := decPowers.card
end Go.Proofs.YtkbpjomkbelaaaaDoor
