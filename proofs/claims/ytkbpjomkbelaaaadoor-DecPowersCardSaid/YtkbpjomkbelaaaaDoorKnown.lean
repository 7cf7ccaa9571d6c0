/- The contract of oriellaw01.known: it returns true; new memory alone is made. The condition: the library's table of powers of ten lies as its initialiser lays it. -/
import Derived.Test.YtkbpjomkbelaaaaDoorPrint
import Derived.Test.YtkbpjomkbelaaaaDoorParseAny
import Derived.Test.YtkbpjomkbelaaaaDoorQuot
import Derived.Lib.SmallJoins
namespace Go.Proofs.YtkbpjomkbelaaaaDoor
open Go.Shelf Go.RowKit
set_option linter.unusedVariables false
theorem Pow.draws {w : World} (h : Pow w) (k : Nat) : Pow (w.drewN k) := h.stays (Joins.below_draws _ w k)
theorem known_add (w : World) : Calls Tryd.prog 29 #[.int .i64 15000, .int .i64 (-5000)] w fun e w' => e = .returned (.tuple #[.int .i64 10000, .int .i64 0]) ∧ w' = w :=
  add_any 15000 (-5000) w ⟨by decide, by decide⟩ ⟨by decide, by decide⟩
theorem known_mul (w : World) : Calls Tryd.prog 30 #[.int .i64 15000, .int .i64 15000] w fun e w' => e = .returned (.tuple #[.int .i64 22500, .int .i64 0]) ∧ ∃ n, w' = w.drewN n :=
  mul_pp_ok 15000 15000 0 225000000 22500 w (by decide) (by decide) (by decide) (by decide) (by decide) (by decide) (mul64_is 15000 15000 (by decide) (by decide) (by decide) (by decide)) (quot_0 225000000 10000 (by decide) (by decide) (by decide) (by decide)) (by decide) (by decide)
theorem known_parseV : parseV ⟨#[45, 49, 46, 53, 48]⟩ = -15000 := by kernel_rfl
theorem known_parseOk : parseOk ⟨#[45, 49, 46, 53, 48]⟩ = true := by kernel_rfl
theorem known_parse (w : World) : Calls Tryd.prog 13 #[.string ⟨#[45, 49, 46, 53, 48]⟩] w fun e w' => e = .returned (.tuple #[.int .i64 (-15000), .bool true]) ∧ ∃ n, w' = w.drewN n := by
  have h := parse_any ⟨#[45, 49, 46, 53, 48]⟩ w (by decide)
  rw [known_parseV, known_parseOk] at h
  exact h
theorem dd_15000 : Lib.decDigits 15000 = [49, 53, 48, 48, 48] := by
  rw [Lib.decDigits_eq, Lib.nDigits_unique 4 15000 (by decide) (by decide)]; decide
theorem known_printB : printB (-15000) = ⟨#[45, 49, 46, 53]⟩ := by
  have e1 : ipB 15000 = ⟨#[49]⟩ := by
    unfold ipB; rw [Lib.decDigits_one (by decide)]; rfl
  have e2 : frB 15000 = ⟨#[53]⟩ := by
    unfold frB; rw [show 10000 + 15000 % 10000 = 15000 from rfl, dd_15000]; rfl
  show (⟨#[45]⟩ ++ numB 15000 : ByteArray) = _
  unfold numB
  rw [if_neg (by decide), e1, e2]
  rfl
theorem known_print (w : World) (h : Pow w) : Calls Tryd.prog 11 #[.int .i64 (-15000)] w fun e w' => e = .returned (.string ⟨#[45, 49, 46, 53]⟩) ∧ Below w.heap.size w w' := by
  have c := print_any (-15000) w ⟨by decide, by decide⟩ h
  rw [known_printB] at c
  exact c
theorem known_any (w : World) (h : Pow w) : Calls Tryd.prog 10 #[] w fun e w' => e = .returned (.bool true) ∧ Below w.heap.size w w' := by
  have hP := fun k => h.draws k
  go_enter Tryd.func10, Tryd.ntmps10
  go_wp2_with (first | (go_at_call 29; refine (known_add _).mono ?_; rintro e w' ⟨rfl, rfl⟩) | (go_at_call 30; refine (known_mul _).mono ?_; rintro e w' ⟨rfl, n1, rfl⟩) | (go_at_call 13; refine (known_parse _).mono ?_; rintro e w' ⟨rfl, n2, rfl⟩) | (go_at_call 11; refine (known_print _ (hP _)).mono ?_; rintro e w' ⟨rfl, hb⟩))
  go_ret
  exact ⟨rfl, (Joins.below_draws _ _ _).trans hb⟩
end Go.Proofs.YtkbpjomkbelaaaaDoor
