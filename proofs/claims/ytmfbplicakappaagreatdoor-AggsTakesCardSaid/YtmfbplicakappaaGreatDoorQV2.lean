/- The contracts of May (of package value and of the document's answer): of every value the same truth; new memory alone is made. No condition but that the number is an int64. -/
import Derived.Test.YtmfbplicakappaaGreatDoorQV1
import Derived.Deep.Light
namespace Go.Proofs.YtmfbplicakappaaGreatDoor
open Go.RowKit
set_option linter.all false
theorem may0 (n : Int) (s : ByteArray) (b : Bool) (c : Int) (w : World) : Calls Tryz.prog 100 #[(.agg #[.int .i64 (0), .int .i64 (n), .string s, .bool b, .int .i64 (c)])] w fun e w' => e = .returned (.bool (mayB (0) n s b c)) ∧ Below w.heap.size w w' := by
  have heq : ∀ w, (binOp .eql 26 (.agg #[.int .i64 (0), .int .i64 (n), .string s, .bool b, .int .i64 (c)]) (.agg #[.int .i64 (0), .int .i64 (0), .string ⟨#[]⟩, .bool false, .int .i64 (0)])).run Tryz.prog w = .ok (.bool (mayB (0) n s b c)) w := fun w => by rw [eqv]; exact congrArg (fun x => Result.ok (Value.bool x) w) (by simp [sameB, mayB])
  go_enter Tryz.func100, Tryz.ntmps100
  go_wp2
  all_goals go_ret
  all_goals first | exact ⟨rfl, bal _ _⟩ | exact ⟨rfl, (bal _ _).drew⟩ | exact ⟨rfl, bup (bal _ _) hb⟩ | exact ⟨rfl, bup (bal _ _) hb.drew⟩ | exact ⟨rfl, (bup (bal _ _) hb).drew⟩ | exact ⟨rfl, bup (bal _ _).drew hb⟩
theorem may1t (n : Int) (s : ByteArray) (b : Bool) (c : Int) (w : World) (hn : I64 n) (h : n ≠ (-9223372036854775808)) : Calls Tryz.prog 100 #[(.agg #[.int .i64 (1), .int .i64 (n), .string s, .bool b, .int .i64 (c)])] w fun e w' => e = .returned (.bool (mayB (1) n s b c)) ∧ Below w.heap.size w w' := by
  have heq : ∀ w, (binOp .eql 26 (.agg #[.int .i64 (1), .int .i64 (n), .string s, .bool b, .int .i64 (c)]) (.agg #[.int .i64 (1), .int .i64 (n), .string ⟨#[]⟩, .bool false, .int .i64 (0)])).run Tryz.prog w = .ok (.bool (mayB (1) n s b c)) w := fun w => by rw [eqv]; exact congrArg (fun x => Result.ok (Value.bool x) w) (by simp [sameB, mayB, h])
  go_enter Tryz.func100, Tryz.ntmps100
  go_wp2_with fail
  go_region_with (go_at_call 115; refine (num_t _ _ hn h).mono ?_; rintro e w1 ⟨rfl, hb⟩; have hcc := bcell hb)
  all_goals go_wp2
  all_goals go_ret
  all_goals first | exact ⟨rfl, bal _ _⟩ | exact ⟨rfl, (bal _ _).drew⟩ | exact ⟨rfl, bup (bal _ _) hb⟩ | exact ⟨rfl, bup (bal _ _) hb.drew⟩ | exact ⟨rfl, (bup (bal _ _) hb).drew⟩ | exact ⟨rfl, bup (bal _ _).drew hb⟩
theorem may1f (s : ByteArray) (b : Bool) (c : Int) (w : World) : Calls Tryz.prog 100 #[(.agg #[.int .i64 (1), .int .i64 ((-9223372036854775808)), .string s, .bool b, .int .i64 (c)])] w fun e w' => e = .returned (.bool (mayB 1 (-9223372036854775808) s b c)) ∧ Below w.heap.size w w' := by
  have heq : ∀ w, (binOp .eql 26 (.agg #[.int .i64 (1), .int .i64 ((-9223372036854775808)), .string s, .bool b, .int .i64 (c)]) (.agg #[.int .i64 (4), .int .i64 (0), .string ⟨#[]⟩, .bool false, .int .i64 (2)])).run Tryz.prog w = .ok (.bool (mayB 1 (-9223372036854775808) s b c)) w := fun w => by rw [eqv]; exact congrArg (fun x => Result.ok (Value.bool x) w) (by simp [sameB, mayB])
  go_enter Tryz.func100, Tryz.ntmps100
  go_wp2_with fail
  go_region_with (go_at_call 115; refine (num_f _ _ rfl).mono ?_; rintro e w1 ⟨rfl, hb⟩; have hcc := bcell hb)
  all_goals go_wp2
  all_goals go_ret
  all_goals first | exact ⟨rfl, bal _ _⟩ | exact ⟨rfl, (bal _ _).drew⟩ | exact ⟨rfl, bup (bal _ _) hb⟩ | exact ⟨rfl, bup (bal _ _) hb.drew⟩ | exact ⟨rfl, (bup (bal _ _) hb).drew⟩ | exact ⟨rfl, bup (bal _ _).drew hb⟩
theorem may2 (n : Int) (s : ByteArray) (b : Bool) (c : Int) (w : World) : Calls Tryz.prog 100 #[(.agg #[.int .i64 (2), .int .i64 (n), .string s, .bool b, .int .i64 (c)])] w fun e w' => e = .returned (.bool (mayB (2) n s b c)) ∧ Below w.heap.size w w' := by
  have heq : ∀ w, (binOp .eql 26 (.agg #[.int .i64 (2), .int .i64 (n), .string s, .bool b, .int .i64 (c)]) (.agg #[.int .i64 (2), .int .i64 (0), .string s, .bool false, .int .i64 (0)])).run Tryz.prog w = .ok (.bool (mayB (2) n s b c)) w := fun w => by rw [eqv]; exact congrArg (fun x => Result.ok (Value.bool x) w) (by simp [sameB, mayB])
  go_enter Tryz.func100, Tryz.ntmps100
  go_wp2_with fail
  go_region_with (go_at_call 136; refine (txt _ _).mono ?_; rintro e w1 ⟨rfl, hb⟩; have hcc := bcell hb)
  all_goals go_wp2
  all_goals go_ret
  all_goals first | exact ⟨rfl, bal _ _⟩ | exact ⟨rfl, (bal _ _).drew⟩ | exact ⟨rfl, bup (bal _ _) hb⟩ | exact ⟨rfl, bup (bal _ _) hb.drew⟩ | exact ⟨rfl, (bup (bal _ _) hb).drew⟩ | exact ⟨rfl, bup (bal _ _).drew hb⟩
theorem may3 (n : Int) (s : ByteArray) (b : Bool) (c : Int) (w : World) : Calls Tryz.prog 100 #[(.agg #[.int .i64 (3), .int .i64 (n), .string s, .bool b, .int .i64 (c)])] w fun e w' => e = .returned (.bool (mayB (3) n s b c)) ∧ Below w.heap.size w w' := by
  have heq : ∀ w, (binOp .eql 26 (.agg #[.int .i64 (3), .int .i64 (n), .string s, .bool b, .int .i64 (c)]) (.agg #[.int .i64 (3), .int .i64 (0), .string ⟨#[]⟩, .bool b, .int .i64 (0)])).run Tryz.prog w = .ok (.bool (mayB (3) n s b c)) w := fun w => by rw [eqv]; exact congrArg (fun x => Result.ok (Value.bool x) w) (by simp [sameB, mayB])
  go_enter Tryz.func100, Tryz.ntmps100
  go_wp2_with fail
  go_region_with (go_at_call 138; refine (truth _ _).mono ?_; rintro e w1 ⟨rfl, hb⟩; have hcc := bcell hb)
  all_goals go_wp2
  all_goals go_ret
  all_goals first | exact ⟨rfl, bal _ _⟩ | exact ⟨rfl, (bal _ _).drew⟩ | exact ⟨rfl, bup (bal _ _) hb⟩ | exact ⟨rfl, bup (bal _ _) hb.drew⟩ | exact ⟨rfl, (bup (bal _ _) hb).drew⟩ | exact ⟨rfl, bup (bal _ _).drew hb⟩
theorem may4 (n : Int) (s : ByteArray) (b : Bool) (c : Int) (w : World) : Calls Tryz.prog 100 #[(.agg #[.int .i64 (4), .int .i64 (n), .string s, .bool b, .int .i64 (c)])] w fun e w' => e = .returned (.bool (mayB (4) n s b c)) ∧ Below w.heap.size w w' := by
  have heq : ∀ w, (binOp .eql 26 (.agg #[.int .i64 (4), .int .i64 (n), .string s, .bool b, .int .i64 (c)]) (.agg #[.int .i64 (4), .int .i64 (0), .string ⟨#[]⟩, .bool false, .int .i64 (errC c)])).run Tryz.prog w = .ok (.bool (mayB (4) n s b c)) w := fun w => by rw [eqv]; exact congrArg (fun x => Result.ok (Value.bool x) w) (by unfold errC; by_cases h : 1 ≤ c ∧ c ≤ 8 <;> simp [sameB, mayB, h]; omega)
  go_enter Tryz.func100, Tryz.ntmps100
  go_wp2_with fail
  go_region_with (go_at_call 27; refine (err_any _ _).mono ?_; rintro e w1 ⟨rfl, hb⟩; have hcc := bcell hb)
  all_goals go_wp2
  all_goals go_ret
  all_goals first | exact ⟨rfl, bal _ _⟩ | exact ⟨rfl, (bal _ _).drew⟩ | exact ⟨rfl, bup (bal _ _) hb⟩ | exact ⟨rfl, bup (bal _ _) hb.drew⟩ | exact ⟨rfl, (bup (bal _ _) hb).drew⟩ | exact ⟨rfl, bup (bal _ _).drew hb⟩
theorem mayN (t n : Int) (s : ByteArray) (b : Bool) (c : Int) (w : World) (h : t < 0 ∨ 4 < t) : Calls Tryz.prog 100 #[(.agg #[.int .i64 (t), .int .i64 (n), .string s, .bool b, .int .i64 (c)])] w fun e w' => e = .returned (.bool (mayB t n s b c)) ∧ Below w.heap.size w w' := by
  have hr : mayB t n s b c = false := by simp [mayB]; omega
  have h0 : (t == 0) = false := by simp; omega
  have h1 : (t == 1) = false := by simp; omega
  have h2 : (t == 2) = false := by simp; omega
  have h3 : (t == 3) = false := by simp; omega
  have h4 : (t == 4) = false := by simp; omega
  rw [hr]
  clear hr h
  go_enter Tryz.func100, Tryz.ntmps100
  go_wp2
  go_ret
  exact ⟨rfl, bal _ _⟩
theorem mayV (t n : Int) (s : ByteArray) (b : Bool) (c : Int) (w : World) (hn : I64 n) : Calls Tryz.prog 100 #[(.agg #[.int .i64 (t), .int .i64 (n), .string s, .bool b, .int .i64 (c)])] w fun e w' => e = .returned (.bool (mayB t n s b c)) ∧ Below w.heap.size w w' := by
  by_cases h : t < 0 ∨ 4 < t
  · exact mayN t n s b c w h
  obtain rfl | rfl | rfl | rfl | rfl : t = 0 ∨ t = 1 ∨ t = 2 ∨ t = 3 ∨ t = 4 := by omega
  · exact may0 n s b c w
  · by_cases hm : n = (-9223372036854775808)
    · subst hm; exact may1f s b c w
    · exact may1t n s b c w hn hm
  · exact may2 n s b c w
  · exact may3 n s b c w
  · exact may4 n s b c w
theorem retB {x y : Bool} (h : x = y) : Ending.returned (.bool x) = .returned (.bool y) := by rw [h]
end Go.Proofs.YtmfbplicakappaaGreatDoor
