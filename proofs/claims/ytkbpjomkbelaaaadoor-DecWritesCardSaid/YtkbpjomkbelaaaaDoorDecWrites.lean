/- DecWrites: of any number the program's Print writes what the document's answer is, and what is written is read as that number: the law returns true for every input. The card's own condition: the listed tables of Go's library lie as their initialisers lay them (tied to the program's text). -/
import Derived.Test.YtkbpjomkbelaaaaDoorRPrint
import Derived.Test.YtkbpjomkbelaaaaDoorWriteM
import Derived.Test.YtkbpjomkbelaaaaDoorBase
import Derived.ShutString
namespace Go.Proofs.YtkbpjomkbelaaaaDoor.decWrites
open Go.Shelf Go.RowKit Go.ChangeShapes Go.WideShapes Go.ChangeAt
set_option linter.all false
theorem numB_size (n : Nat) (h : n ≤ 9223372036854775807) : (numB n).size ≤ 25 := by
  have h1 := ipB_size n h
  have h2 := frB_size n
  unfold numB
  split
  · omega
  · rw [ByteArray.size_append, ByteArray.size_append]
    have : (⟨#[46]⟩ : ByteArray).size = 1 := rfl
    omega
theorem printB_size (x : Int) (h1 : -9223372036854775807 ≤ x) (h2 : x ≤ 9223372036854775807) : (printB x).size ≤ maxLen := by
  have h := numB_size x.natAbs (by omega)
  unfold printB maxLen
  rw [if_neg (by omega)]
  split
  · rw [ByteArray.size_append]
    have : (⟨#[45]⟩ : ByteArray).size = 1 := rfl
    omega
  · omega
theorem bsame {w w1 w2 w4 : World} {k : Nat} (h1 : Below w.heap.size w w1) (h2 : Below w1.heap.size w1 w2) (h4 : Below (w2.drewN k).heap.size (w2.drewN k) w4) : Below w.heap.size w w4 :=
  bup (bup (bup h1 h2) (Joins.below_draws _ w2 k)) h4
set_option maxHeartbeats 1000000 in
theorem law_t (x : Int) (w : World) (hx : I64 x) (h1 : -9223372036854775807 ≤ x) (h : Pow w) : Calls Tryd.prog 4 #[.int .i64 x] w fun e w' => e = .returned (.bool true) ∧ Below w.heap.size w w' := by
  have hs := printB_size x h1 hx.2
  have hm : mayOk x = true := mayOk_t h1
  obtain ⟨p1, p2⟩ := read_back x h1 hx.2
  have q1 : ((printB x).toList == (printB x).toList) = true := by simp
  have q2 : (x == x) = true := by simp
  go_enter Tryd.func4, Tryd.ntmps4
  go_wp2_with (first
    | (go_at_call 11; refine (print_any _ _ hx h).mono ?_; rintro e w1 ⟨rfl, hb1⟩; have hP1 := h.stays hb1)
    | (go_at_call 12; refine (rprint_any _ _ hx).mono ?_; rintro e w2 ⟨rfl, hb2⟩; have hP2 := hP1.stays hb2)
    | (go_at_call 13; refine (parse_any _ _ hs).mono ?_; rintro e w3 ⟨rfl, k, rfl⟩)
    | (go_at_call 14; refine (rmayAny _ _ hx).mono ?_; rintro e w3 ⟨rfl, rfl⟩)
    | (go_at_call 10; refine (known_any _ (hP2.draws _)).mono ?_; rintro e w4 ⟨rfl, hk⟩))
  go_ret
  exact ⟨rfl, bsame hb1 hb2 hk⟩
set_option maxHeartbeats 1000000 in
theorem law_f (x : Int) (w : World) (hx : I64 x) (h1 : Hid (x = -9223372036854775808)) (h : Pow w) : Calls Tryd.prog 4 #[.int .i64 x] w fun e w' => e = .returned (.bool true) ∧ Below w.heap.size w w' := by
  have hE : printB x = ⟨#[]⟩ := if_pos h1.out
  have hs : (printB x).size ≤ maxLen := by rw [hE]; decide
  have hm : mayOk x = false := mayOk_f h1.out
  have p1 : parseOk (printB x) = false := by rw [hE]; exact read_none
  clear hE
  have q1 : ((printB x).toList == (printB x).toList) = true := by simp
  have q2 : (x == x) = true := by simp
  go_enter Tryd.func4, Tryd.ntmps4
  go_wp2_with (first
    | (go_at_call 11; refine (print_any _ _ hx h).mono ?_; rintro e w1 ⟨rfl, hb1⟩; have hP1 := h.stays hb1)
    | (go_at_call 12; refine (rprint_any _ _ hx).mono ?_; rintro e w2 ⟨rfl, hb2⟩; have hP2 := hP1.stays hb2)
    | (go_at_call 13; refine (parse_any _ _ hs).mono ?_; rintro e w3 ⟨rfl, k, rfl⟩)
    | (go_at_call 14; refine (rmayAny _ _ hx).mono ?_; rintro e w3 ⟨rfl, rfl⟩)
    | (go_at_call 10; refine (known_any _ (hP2.draws _)).mono ?_; rintro e w4 ⟨rfl, hk⟩))
  go_ret
  exact ⟨rfl, bsame hb1 hb2 hk⟩
theorem law (x : Int) (w : World) (hx : I64 x) (h : Pow w) : Calls Tryd.prog 4 #[.int .i64 x] w fun e w' => e = .returned (.bool true) ∧ Below w.heap.size w w' := by
  by_cases h1 : x = -9223372036854775808
  · exact law_f x w hx (Lib.hid h1) h
  · exact law_t x w hx (by have := hx.1; omega) h

set_option maxRecDepth 100000 in
theorem lifted (os : Os) (started : os.Started) (H : Type) (enc : TypeId × Value → H) :
    ReturnsInHanded {} Tryd.checked os 4 .any (fun w args => (Rows.decWritesSpec.pre enc Tryd.prog Tryd.f4 [] false w args ∧ laidMetH Tryd.prog tables w) ∧ sizedMet enc Tryd.prog Tryd.f4 (OpenSpec.ofChange Rows.decWritesSpec) false w args)
      (Rows.decWritesSpec.post enc Tryd.prog Tryd.f4 false true false false) := by
  refine returnsInHanded_of_change_and (C := Tryd.checked) (X := fun w _ => laidMetH Tryd.prog tables w) (fun _ _ _ hh h => h.of_heap hh) own started (by kernel_rfl) Tryd.func4
    (ChangeSpec.witness_shaped (enc := enc) (C := Tryd.checked) (os := os) (X := fun w _ => laidMetH Tryd.prog tables w) false (World.laidAll Tryd.prog os tables) #[.int .i64 0] 8 (World.laidAll_os _ _ _)
      (World.shaped_of_ZipB (by kernel_rfl) (by kernel_rfl)) (by kernel_rfl) (by kernel_rfl) (by kernel_rfl)
      (by rw [MakeChecks.laidMetH_plain _ _ _ (by kernel_rfl)]; exact laidMet_laidAll _ (by kernel_rfl) (by kernel_rfl))) ?_
  intro W base args ds gs before hval0 hW _ _ hL _
  have hval : ∀ (j : Nat) t v, Tryd.f4.params[j]? = some t → args[j]? = some v → Value.okWide Tryd.prog W .any base t v := hval0
  have hW' := hW
  obtain ⟨p, q, hA0, hV, rfl, _, _⟩ := hW
  have hA : DataW.TrodAll enc Tryd.prog W 0 (fun _ => true) true Tryd.f4.params.toList args.toList ds p := hA0
  rw [Tryd.params4] at hA hval
  obtain ⟨v0, vs0, d0, ds0, p0, q0, hargs, rfl, rfl, h0, r0⟩ := trodAll_cons hA
  obtain ⟨rfl, rfl, rfl⟩ := trodAll_nil r0
  obtain rfl : args = #[v0] := by cases args; simp_all
  obtain ⟨rfl, rfl⟩ := trodVars_none hV
  obtain ⟨x0, rfl, rfl, rfl, wx0⟩ := open_int Tryd.underlying2 (hval 0 2 v0 rfl rfl) h0
  simp only [List.append_nil] at hW'
  refine (law x0 W (i64_of wx0) (pow_of_laid hL)).mono fun e W' ⟨he, hb⟩ => ?_
  subst he
  exact ⟨_, rfl, _, _, _, [], [], [], hW', trodAll_mk1 (shut_bool Tryd.underlying4 _), (trodAll_cons_mk (shut_int Tryd.underlying2 wx0) trodAll_mk0), rfl, hb.frame _, fun h => by cases h⟩

theorem holds : Rows.DecWritesSaid :=
  OpenClaim.holds_of_wide 4 Tryd.f4 rfl rfl rfl rfl rfl rfl rfl ⟨rfl, rfl, rfl, rfl, rfl⟩ rfl rfl rfl rfl rfl (by kernel_rfl) Tryd.func4 (by kernel_rfl)
    (of_decide_eq_true (by kernel_rfl)) (by unfold Func.isWrapper; first | (rw [if_pos (by decide +kernel)]; kernel_rfl) | (rw [if_neg (by decide +kernel)]; exact ⟨rfl, rfl⟩))
    (fun os started H enc _ => lifted os started H enc)
theorem plain (f : FuncId) (fn : Func) (hf : Tryd.pinned.checked.prog.funcNamed "oriel/oriellaw01.DecWrites" = some f) (hfn : Tryd.pinned.checked.prog.funcs[f]? = some fn) :
    false = Tryd.pinned.checked.prog.looks [] ∧ ∀ (j : Nat) t, fn.params[j]? = some t → Tryd.pinned.checked.prog.wantsStandIn t = false := by
  obtain rfl : f = 4 := Option.some.inj ((show Tryd.prog.funcNamed "oriel/oriellaw01.DecWrites" = some 4 by kernel_rfl).symm.trans hf) |>.symm
  obtain rfl : fn = Tryd.f4 := (Option.some.inj (Tryd.func4.symm.trans hfn)).symm
  refine ⟨by kernel_rfl, fun j t ht => ?_⟩
  rw [Tryd.params4] at ht
  have hm : t ∈ [2] := by simpa using Array.mem_of_getElem? ht
  have hall : ([2].all fun u => !Tryd.prog.wantsStandIn u) = true := by kernel_rfl
  exact (show Tryd.prog.wantsStandIn t = false by simpa using List.all_eq_true.1 hall t hm)
/-- The card. -/
theorem card : Rows.DecWritesCardSaid :=
  Claim7.holds_tied_plain_at .later [] _ _ _ _ holds (fun _ h => by cases h) (by kernel_rfl) (fun _ h => by cases h) decWrites_row_tie rfl ⟨rfl, rfl⟩ (by kernel_rfl) rfl plain (by kernel_rfl)
end Go.Proofs.YtkbpjomkbelaaaaDoor.decWrites
namespace Go.Proofs.YtkbpjomkbelaaaaDoor
theorem decWrites_card : Rows.DecWritesCardSaid := decWrites.card
end Go.Proofs.YtkbpjomkbelaaaaDoor
