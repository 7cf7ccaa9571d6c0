/- Small laws of no function: blocks of the caller's own, slices as they are read. The contracts of nums.table, find and Known: of every text the row of the table. New memory alone is made. The contracts of May (of package value and of the document's answer): of every value the same truth; new memory alone is made. No condition but that the number is an int64. -/
import Derived.Test.YtcgcnpcimfaecaaGreatDoorQNT0
import Derived.Deep.RegionHeld3
import Derived.Lib.Hide
import Derived.Deep.QuietTactic
import Derived.BigQuiet
import Derived.Lib.Walk
import Derived.Deep.Light
import Derived.Test.YtcgcnpcimfaecaaGreatDoorQSums
namespace Go.Proofs.YtcgcnpcimfaecaaGreatDoor
open Go.RowKit
set_option linter.all false
theorem bdrewN {B : Nat} {a w : World} (h : Below B a w) (n : Nat) : Below B a (w.drewN n) := ⟨h.os, h.tape, h.output, h.size, h.block⟩
theorem Own.at {w : World} {A : Array Value} {T : TypeId} {n : Nat} (h : n = w.heap.size) : Own (w.alloc (.cells A T)) n A := by subst h; exact Own.new _ _ _
theorem Own.drewN {w : World} {b : Nat} {A : Array Value} (h : Own w b A) (n : Nat) : Own (w.drewN n) b A := h.keep (bdrewN (Below.refl _ _) n)
/-- The value is a slice of just these things, each of which has the cells that c tells. -/
def View {α : Type} (c : α → Array Value) (sz : Nat) (w : World) (v : Value) (xs : List α) : Prop :=
  ∃ p cap, v = .slice p xs.length cap ∧ xs.length ≤ cap ∧ (0 < xs.length → ∃ b o, p = some ⟨b, o, none⟩ ∧ b < w.heap.size ∧ ∀ i x, xs[i]? = some x → ∀ j, j < sz → w.cell? ⟨b, o + i * sz + j, none⟩ = (c x)[j]?)
theorem View.keep {α : Type} {c : α → Array Value} {sz : Nat} {w w' : World} {v : Value} {xs : List α} (h : View c sz w v xs) (hb : Below w.heap.size w w') : View c sz w' v xs := by
  obtain ⟨p, cap, e, hc, hf⟩ := h
  refine ⟨p, cap, e, hc, fun h0 => ?_⟩
  obtain ⟨b, o, e2, hlt, hcell⟩ := hf h0
  exact ⟨b, o, e2, Nat.lt_of_lt_of_le hlt hb.size, fun i x hi j hj => (hb.cell (p := ⟨b, o + i * sz + j, none⟩) hlt).trans (hcell i x hi j hj)⟩
theorem retBl {x y : Bool} (h : x = y) : Ending.returned (.bool x) = .returned (.bool y) := by rw [h]
end Go.Proofs.YtcgcnpcimfaecaaGreatDoor
namespace Go.Proofs.YtcgcnpcimfaecaaGreatDoor
open Go.RowKit
set_option linter.all false
theorem may0 (n : Int) (s : ByteArray) (b : Bool) (c : Int) (w : World) : Calls Tryz.prog 100 #[(.agg #[.int .i64 (0), .int .i64 (n), .string s, .bool b, .int .i64 (c)])] w fun e w' => e = .returned (.bool (mayB (0) n s b c)) ∧ Below w.heap.size w w' := by
  have heq : ∀ w, (binOp .eql 26 (.agg #[.int .i64 (0), .int .i64 (n), .string s, .bool b, .int .i64 (c)]) (.agg #[.int .i64 (0), .int .i64 (0), .string ⟨#[]⟩, .bool false, .int .i64 (0)])).run Tryz.prog w = .ok (.bool (mayB (0) n s b c)) w := fun w => by rw [eqv]; exact congrArg (fun x => Result.ok (Value.bool x) w) (by simp [sameB, mayB])
  go_enter Tryz.func100, Tryz.ntmps100
  go_wp2
  all_goals go_ret
  all_goals first | exact ⟨rfl, bal _ _⟩ | exact ⟨rfl, (bal _ _).drew⟩ | exact ⟨rfl, bup (bal _ _) hb⟩ | exact ⟨rfl, bup (bal _ _) hb.drew⟩ | exact ⟨rfl, (bup (bal _ _) hb).drew⟩ | exact ⟨rfl, bup (bal _ _).drew hb⟩
theorem may1t (n : Int) (s : ByteArray) (b : Bool) (c : Int) (w : World) (hn : I64 n) (h : n ≠ (-9223372036854775808)) : Calls Tryz.prog 100 #[(.agg #[.int .i64 (1), .int .i64 (n), .string s, .bool b, .int .i64 (c)])] w fun e w' => e = .returned (.bool (mayB (1) n s b c)) ∧ Below w.heap.size w w' := by
  have heq : ∀ w, (binOp .eql 26 (.agg #[.int .i64 (1), .int .i64 (n), .string s, .bool b, .int .i64 (c)]) (.agg #[.int .i64 (1), .int .i64 (n), .string ⟨#[]⟩, .bool false, .int .i64 (0)])).run Tryz.prog w = .ok (.bool (mayB (1) n s b c)) w := fun w => by rw [eqv]; exact congrArg (fun x => Result.ok (Value.bool x) w) (by simp [sameB, mayB, h])
  go_enter Tryz.func100, Tryz.ntmps100
  go_wp2_with fail
  go_region_with (go_at_call 115; refine (num_t _ _ hn h).mono ?_; rintro e w1 ⟨rfl, hb⟩; have hcc := bcell hb)
  all_goals go_wp2
  all_goals go_ret
  all_goals first | exact ⟨rfl, bal _ _⟩ | exact ⟨rfl, (bal _ _).drew⟩ | exact ⟨rfl, bup (bal _ _) hb⟩ | exact ⟨rfl, bup (bal _ _) hb.drew⟩ | exact ⟨rfl, (bup (bal _ _) hb).drew⟩ | exact ⟨rfl, bup (bal _ _).drew hb⟩
theorem may1f (s : ByteArray) (b : Bool) (c : Int) (w : World) : Calls Tryz.prog 100 #[(.agg #[.int .i64 (1), .int .i64 ((-9223372036854775808)), .string s, .bool b, .int .i64 (c)])] w fun e w' => e = .returned (.bool (mayB 1 (-9223372036854775808) s b c)) ∧ Below w.heap.size w w' := by
  have heq : ∀ w, (binOp .eql 26 (.agg #[.int .i64 (1), .int .i64 ((-9223372036854775808)), .string s, .bool b, .int .i64 (c)]) (.agg #[.int .i64 (4), .int .i64 (0), .string ⟨#[]⟩, .bool false, .int .i64 (2)])).run Tryz.prog w = .ok (.bool (mayB 1 (-9223372036854775808) s b c)) w := fun w => by rw [eqv]; exact congrArg (fun x => Result.ok (Value.bool x) w) (by simp [sameB, mayB])
  go_enter Tryz.func100, Tryz.ntmps100
  go_wp2_with fail
  go_region_with (go_at_call 115; refine (num_f _ _ rfl).mono ?_; rintro e w1 ⟨rfl, hb⟩; have hcc := bcell hb)
  all_goals go_wp2
  all_goals go_ret
  all_goals first | exact ⟨rfl, bal _ _⟩ | exact ⟨rfl, (bal _ _).drew⟩ | exact ⟨rfl, bup (bal _ _) hb⟩ | exact ⟨rfl, bup (bal _ _) hb.drew⟩ | exact ⟨rfl, (bup (bal _ _) hb).drew⟩ | exact ⟨rfl, bup (bal _ _).drew hb⟩
theorem may2 (n : Int) (s : ByteArray) (b : Bool) (c : Int) (w : World) : Calls Tryz.prog 100 #[(.agg #[.int .i64 (2), .int .i64 (n), .string s, .bool b, .int .i64 (c)])] w fun e w' => e = .returned (.bool (mayB (2) n s b c)) ∧ Below w.heap.size w w' := by
  have heq : ∀ w, (binOp .eql 26 (.agg #[.int .i64 (2), .int .i64 (n), .string s, .bool b, .int .i64 (c)]) (.agg #[.int .i64 (2), .int .i64 (0), .string s, .bool false, .int .i64 (0)])).run Tryz.prog w = .ok (.bool (mayB (2) n s b c)) w := fun w => by rw [eqv]; exact congrArg (fun x => Result.ok (Value.bool x) w) (by simp [sameB, mayB])
  go_enter Tryz.func100, Tryz.ntmps100
  go_wp2_with fail
  go_region_with (go_at_call 136; refine (txt _ _).mono ?_; rintro e w1 ⟨rfl, hb⟩; have hcc := bcell hb)
  all_goals go_wp2
  all_goals go_ret
  all_goals first | exact ⟨rfl, bal _ _⟩ | exact ⟨rfl, (bal _ _).drew⟩ | exact ⟨rfl, bup (bal _ _) hb⟩ | exact ⟨rfl, bup (bal _ _) hb.drew⟩ | exact ⟨rfl, (bup (bal _ _) hb).drew⟩ | exact ⟨rfl, bup (bal _ _).drew hb⟩
theorem may3 (n : Int) (s : ByteArray) (b : Bool) (c : Int) (w : World) : Calls Tryz.prog 100 #[(.agg #[.int .i64 (3), .int .i64 (n), .string s, .bool b, .int .i64 (c)])] w fun e w' => e = .returned (.bool (mayB (3) n s b c)) ∧ Below w.heap.size w w' := by
  have heq : ∀ w, (binOp .eql 26 (.agg #[.int .i64 (3), .int .i64 (n), .string s, .bool b, .int .i64 (c)]) (.agg #[.int .i64 (3), .int .i64 (0), .string ⟨#[]⟩, .bool b, .int .i64 (0)])).run Tryz.prog w = .ok (.bool (mayB (3) n s b c)) w := fun w => by rw [eqv]; exact congrArg (fun x => Result.ok (Value.bool x) w) (by simp [sameB, mayB])
  go_enter Tryz.func100, Tryz.ntmps100
  go_wp2_with fail
  go_region_with (go_at_call 138; refine (truth _ _).mono ?_; rintro e w1 ⟨rfl, hb⟩; have hcc := bcell hb)
  all_goals go_wp2
  all_goals go_ret
  all_goals first | exact ⟨rfl, bal _ _⟩ | exact ⟨rfl, (bal _ _).drew⟩ | exact ⟨rfl, bup (bal _ _) hb⟩ | exact ⟨rfl, bup (bal _ _) hb.drew⟩ | exact ⟨rfl, (bup (bal _ _) hb).drew⟩ | exact ⟨rfl, bup (bal _ _).drew hb⟩
theorem may4 (n : Int) (s : ByteArray) (b : Bool) (c : Int) (w : World) : Calls Tryz.prog 100 #[(.agg #[.int .i64 (4), .int .i64 (n), .string s, .bool b, .int .i64 (c)])] w fun e w' => e = .returned (.bool (mayB (4) n s b c)) ∧ Below w.heap.size w w' := by
  have heq : ∀ w, (binOp .eql 26 (.agg #[.int .i64 (4), .int .i64 (n), .string s, .bool b, .int .i64 (c)]) (.agg #[.int .i64 (4), .int .i64 (0), .string ⟨#[]⟩, .bool false, .int .i64 (errC c)])).run Tryz.prog w = .ok (.bool (mayB (4) n s b c)) w := fun w => by rw [eqv]; exact congrArg (fun x => Result.ok (Value.bool x) w) (by unfold errC; by_cases h : 1 ≤ c ∧ c ≤ 8 <;> simp [sameB, mayB, h]; omega)
  go_enter Tryz.func100, Tryz.ntmps100
  go_wp2_with fail
  go_region_with (go_at_call 27; refine (err_any _ _).mono ?_; rintro e w1 ⟨rfl, hb⟩; have hcc := bcell hb)
  all_goals go_wp2
  all_goals go_ret
  all_goals first | exact ⟨rfl, bal _ _⟩ | exact ⟨rfl, (bal _ _).drew⟩ | exact ⟨rfl, bup (bal _ _) hb⟩ | exact ⟨rfl, bup (bal _ _) hb.drew⟩ | exact ⟨rfl, (bup (bal _ _) hb).drew⟩ | exact ⟨rfl, bup (bal _ _).drew hb⟩
theorem mayN (t n : Int) (s : ByteArray) (b : Bool) (c : Int) (w : World) (h : t < 0 ∨ 4 < t) : Calls Tryz.prog 100 #[(.agg #[.int .i64 (t), .int .i64 (n), .string s, .bool b, .int .i64 (c)])] w fun e w' => e = .returned (.bool (mayB t n s b c)) ∧ Below w.heap.size w w' := by
  have hr : mayB t n s b c = false := by simp [mayB]; omega
  have h0 : (t == 0) = false := by simp; omega
  have h1 : (t == 1) = false := by simp; omega
  have h2 : (t == 2) = false := by simp; omega
  have h3 : (t == 3) = false := by simp; omega
  have h4 : (t == 4) = false := by simp; omega
  rw [hr]
  clear hr h
  go_enter Tryz.func100, Tryz.ntmps100
  go_wp2
  go_ret
  exact ⟨rfl, bal _ _⟩
theorem mayV (t n : Int) (s : ByteArray) (b : Bool) (c : Int) (w : World) (hn : I64 n) : Calls Tryz.prog 100 #[(.agg #[.int .i64 (t), .int .i64 (n), .string s, .bool b, .int .i64 (c)])] w fun e w' => e = .returned (.bool (mayB t n s b c)) ∧ Below w.heap.size w w' := by
  by_cases h : t < 0 ∨ 4 < t
  · exact mayN t n s b c w h
  obtain rfl | rfl | rfl | rfl | rfl : t = 0 ∨ t = 1 ∨ t = 2 ∨ t = 3 ∨ t = 4 := by omega
  · exact may0 n s b c w
  · by_cases hm : n = (-9223372036854775808)
    · subst hm; exact may1f s b c w
    · exact may1t n s b c w hn hm
  · exact may2 n s b c w
  · exact may3 n s b c w
  · exact may4 n s b c w
theorem emp (s : ByteArray) : s = ⟨#[]⟩ ↔ s.toList = [] := ⟨fun h => by rw [h, ByteArray.toList_eq], fun h => toList_inj (h.trans (by rw [ByteArray.toList_eq]))⟩
theorem retB {x y : Bool} (h : x = y) : Ending.returned (.bool x) = .returned (.bool y) := by rw [h]
theorem rmay0 (n : Int) (s : ByteArray) (b : Bool) (c : Int) (w : World) : Calls Tryz.prog 49 #[(.agg #[.int .i64 (0), .int .i64 (n), .string s, .bool b, .int .i64 (c)])] w fun e w' => e = .returned (.bool (mayB (0) n s b c)) ∧ Below w.heap.size w w' := by
  go_enter Tryz.func49, Tryz.ntmps49
  go_wp2
  all_goals go_ret
  all_goals exact ⟨retB (by go_light; simp_all [mayB, emp]; try omega), bal _ _⟩
theorem rmay2 (n : Int) (s : ByteArray) (b : Bool) (c : Int) (w : World) : Calls Tryz.prog 49 #[(.agg #[.int .i64 (2), .int .i64 (n), .string s, .bool b, .int .i64 (c)])] w fun e w' => e = .returned (.bool (mayB (2) n s b c)) ∧ Below w.heap.size w w' := by
  go_enter Tryz.func49, Tryz.ntmps49
  go_wp2
  all_goals go_ret
  all_goals exact ⟨retB (by go_light; simp_all [mayB, emp]; try omega), bal _ _⟩
theorem rmay3 (n : Int) (s : ByteArray) (b : Bool) (c : Int) (w : World) : Calls Tryz.prog 49 #[(.agg #[.int .i64 (3), .int .i64 (n), .string s, .bool b, .int .i64 (c)])] w fun e w' => e = .returned (.bool (mayB (3) n s b c)) ∧ Below w.heap.size w w' := by
  go_enter Tryz.func49, Tryz.ntmps49
  go_wp2
  all_goals go_ret
  all_goals exact ⟨retB (by go_light; simp_all [mayB, emp]; try omega), bal _ _⟩
theorem rmay4 (n : Int) (s : ByteArray) (b : Bool) (c : Int) (w : World) : Calls Tryz.prog 49 #[(.agg #[.int .i64 (4), .int .i64 (n), .string s, .bool b, .int .i64 (c)])] w fun e w' => e = .returned (.bool (mayB (4) n s b c)) ∧ Below w.heap.size w w' := by
  go_enter Tryz.func49, Tryz.ntmps49
  go_wp2
  all_goals go_ret
  all_goals exact ⟨retB (by go_light; simp_all [mayB, emp]; try omega), bal _ _⟩
theorem rmay5 (t n : Int) (s : ByteArray) (b : Bool) (c : Int) (w : World) (h : t < 0 ∨ 4 < t) : Calls Tryz.prog 49 #[(.agg #[.int .i64 (t), .int .i64 (n), .string s, .bool b, .int .i64 (c)])] w fun e w' => e = .returned (.bool (mayB (t) n s b c)) ∧ Below w.heap.size w w' := by
  have hr : mayB t n s b c = false := by simp [mayB]; omega
  have h0 : (t == 0) = false := by simp; omega
  have h1 : (t == 1) = false := by simp; omega
  have h2 : (t == 2) = false := by simp; omega
  have h3 : (t == 3) = false := by simp; omega
  have h4 : (t == 4) = false := by simp; omega
  have n0 : ¬ t = 0 := by omega
  have n1 : ¬ t = 1 := by omega
  have n2 : ¬ t = 2 := by omega
  have n3 : ¬ t = 3 := by omega
  have n4 : ¬ t = 4 := by omega
  rw [hr]
  clear hr h
  go_enter Tryz.func49, Tryz.ntmps49
  go_wp2
  all_goals go_ret
  all_goals exact ⟨rfl, bal _ _⟩
theorem rmay1 (n : Int) (s : ByteArray) (b : Bool) (c : Int) (w : World) (hn : I64 n) : Calls Tryz.prog 49 #[(.agg #[.int .i64 (1), .int .i64 (n), .string s, .bool b, .int .i64 (c)])] w fun e w' => e = .returned (.bool (mayB 1 n s b c)) ∧ Below w.heap.size w w' := by
  go_enter Tryz.func49, Tryz.ntmps49
  go_wp2_with (go_at_call 74; refine (rmayAny _ _ hn).mono ?_; rintro e w1 ⟨rfl, rfl⟩)
  all_goals go_ret
  all_goals exact ⟨retB (by go_light; simp_all [mayB, mayOk, emp]; try omega), bal _ _⟩
theorem rmayV (t n : Int) (s : ByteArray) (b : Bool) (c : Int) (w : World) (hn : I64 n) : Calls Tryz.prog 49 #[(.agg #[.int .i64 (t), .int .i64 (n), .string s, .bool b, .int .i64 (c)])] w fun e w' => e = .returned (.bool (mayB t n s b c)) ∧ Below w.heap.size w w' := by
  by_cases h : t < 0 ∨ 4 < t
  · exact rmay5 t n s b c w h
  obtain rfl | rfl | rfl | rfl | rfl : t = 0 ∨ t = 1 ∨ t = 2 ∨ t = 3 ∨ t = 4 := by omega
  · exact rmay0 n s b c w
  · exact rmay1 n s b c w hn
  · exact rmay2 n s b c w
  · exact rmay3 n s b c w
  · exact rmay4 n s b c w
end Go.Proofs.YtcgcnpcimfaecaaGreatDoor
