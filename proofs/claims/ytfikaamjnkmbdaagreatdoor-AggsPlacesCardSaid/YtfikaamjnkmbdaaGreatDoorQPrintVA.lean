/- The contract of dec.Print: for every int64 it returns the text of the number (nothing for the least one); new memory alone is made. The condition: the library's table of powers of ten lies as its initialiser lays it. · The contracts of AsNumber, AsText, AsBool and Show of package value, and of the document's AsNumber and AsBool: of every value what it is taken for, and the code. New memory alone is made. The conditions: the library's table of powers of ten and the program's table of names lie as their initialisers lay them (for AsText and Show). -/
import Derived.Ground.NamesProg
import Derived.Shelf.Strings.Trim
import Derived.Shelf.Strconv.Itoa1
import Derived.Shelf.Strconv.Itoa2
import Derived.Test.YtfikaamjnkmbdaaGreatDoorProg
import Derived.Test.YtfikaamjnkmbdaaGreatDoorRows
import Derived.Lib.Walk
import Derived.Lib.ItoaMem
import Derived.WalkKit
import Derived.BigCall
import Derived.BigGuard
import Derived.Test.YtfikaamjnkmbdaaGreatDoorQSumsV1
import Derived.Lib.AppendIntMem
import Derived.Lib.SmallJoins
import Derived.WalkSpells
import Derived.Outline
import Derived.Test.YtfikaamjnkmbdaaGreatDoorQV3V4
import Derived.Test.YtfikaamjnkmbdaaGreatDoorQVNVM
namespace Go.Proofs.YtfikaamjnkmbdaaGreatDoor
open Go.Shelf Go.RowKit Go.Sort Go.Lib Go.Joins
set_option linter.unusedVariables false
theorem gPow : Tryz.prog.globalNamed "internal/strconv.uint64pow10" = some 2 := by kernel_rfl
/-- The library's table of powers of ten lies as it is laid. -/
abbrev Pow (w : World) : Prop := Lib.TabIs Tryz.prog w "internal/strconv.uint64pow10" .u64 Lib.pow10Tab
theorem Pow.stays {w w' : World} (h : Pow w) (hb : Below w.heap.size w w') : Pow w' := tab_stays gPow h hb (Nat.le_refl _)

end Go.Proofs.YtfikaamjnkmbdaaGreatDoor
namespace Go.Proofs.YtfikaamjnkmbdaaGreatDoor
open Go.RowKit
set_option linter.all false
/-- What a value is taken for as a number, as a text, as a truth; and the code. -/
def asNum (t n : Int) (s : ByteArray) (b : Bool) (c : Int) : Int := if mayB t n s b c = true ∧ ¬ t = 4 then (if t = 1 then n else if t = 3 then partsI b else 0) else 0
def asCode (t n : Int) (s : ByteArray) (b : Bool) (c : Int) : Int := if mayB t n s b c = true ∧ ¬ t = 4 then (if t = 2 then 4 else 0) else wrongC t n s b c
theorem Pow.up {w w' : World} (h : Pow w) (hb : Below w.heap.size w w') : Pow w' := h.stays hb
theorem AsNumber_w (t n : Int) (s : ByteArray) (b : Bool) (c : Int) (w : World) (hn : I64 n) (hx : (wrongC (t) (n) s b (c) != 0) = true) (hy : (wrongC (t) (n) s b (c) == 0) = false) : Calls Tryz.prog 102 #[(.agg #[.int .i64 (t), .int .i64 (n), .string s, .bool b, .int .i64 (c)])] w fun e w' => e = .returned (.tuple #[.int .i64 (0), .int .i64 (wrongC (t) (n) s b (c))]) ∧ Below w.heap.size w w' := by
  go_enter Tryz.func102, Tryz.ntmps102
  go_wp2_with (go_at_call 139; refine (wrongV _ _ _ _ _ _ (by assumption)).mono ?_; rintro e w1 ⟨rfl, hb⟩; have hB : Below w.heap.size w w1 := bup (by with_reducible (first | assumption | exact Below.drew (by assumption) | exact bal _ _ | exact (bal _ _).alloc (by simp) _ | exact (bal _ _).drew | exact ((bal _ _).alloc (by simp) _).drew | exact Below.refl _ _ | exact (Below.refl _ _).drew)) hb; have o0 : Own w1 (w.heap.size) #[.int .i64 (t), .int .i64 (n), .string s, .bool b, .int .i64 (c)] := Own.keep (by with_reducible (first | assumption | exact Own.drew (by assumption) | exact Own.new _ _ _ | exact Own.new2 _ _ _ _ | exact (Own.new _ _ _).past _ | exact Own.drew (Own.new _ _ _) | exact (Own.new2 _ _ _ _).drew | exact ((Own.new _ _ _).past _).drew)) hb; have c0 := o0.cell; have f0 := o0.fro)
  all_goals go_ret2
  all_goals refine ⟨rfl, ?_⟩
  all_goals repeat' with_reducible first | assumption | refine Below.setCell ?_ (by first | exact Nat.le_refl _ | (simp; done) | (simp; omega)) _ | refine Below.drew ?_
theorem AsNumber_0  (w : World) (hw : wrongC (0) (0) ⟨#[]⟩ false (0) = 0) : Calls Tryz.prog 102 #[(.agg #[.int .i64 (0), .int .i64 (0), .string ⟨#[]⟩, .bool false, .int .i64 (0)])] w fun e w' => e = .returned (.tuple #[.int .i64 (0), .int .i64 (0)]) ∧ Below w.heap.size w w' := by
  have hz : I64 0 := ⟨by decide, by decide⟩
  go_enter Tryz.func102, Tryz.ntmps102
  go_wp2_with (first | (go_at_call 139; refine (wrongV _ _ _ _ _ _ (by assumption)).mono ?_; rintro e w1 ⟨rfl, hb⟩; have hB : Below w.heap.size w w1 := bup (by with_reducible (first | assumption | exact Below.drew (by assumption) | exact bal _ _ | exact (bal _ _).alloc (by simp) _ | exact (bal _ _).drew | exact ((bal _ _).alloc (by simp) _).drew | exact Below.refl _ _ | exact (Below.refl _ _).drew)) hb; have o0 : Own w1 (w.heap.size) #[.int .i64 (0), .int .i64 (0), .string ⟨#[]⟩, .bool false, .int .i64 (0)] := Own.keep (by with_reducible (first | assumption | exact Own.drew (by assumption) | exact Own.new _ _ _ | exact Own.new2 _ _ _ _ | exact (Own.new _ _ _).past _ | exact Own.drew (Own.new _ _ _) | exact (Own.new2 _ _ _ _).drew | exact ((Own.new _ _ _).past _).drew)) hb; have c0 := o0.cell; have f0 := o0.fro) | (go_at_call 140; refine (partsV _ _).mono ?_; rintro e w5 ⟨rfl, rfl⟩) | (go_at_call 157; refine (wordV _ _).mono ?_; rintro e w5 ⟨rfl, rfl⟩))
  all_goals go_ret2
  all_goals refine ⟨rfl, ?_⟩
  all_goals repeat' with_reducible first | assumption | refine Below.setCell ?_ (by first | exact Nat.le_refl _ | (simp; done) | (simp; omega)) _ | refine Below.drew ?_
theorem AsNumber_1 (n : Int) (w : World) (hn : I64 n) (hw : wrongC (1) (n) ⟨#[]⟩ false (0) = 0) : Calls Tryz.prog 102 #[(.agg #[.int .i64 (1), .int .i64 (n), .string ⟨#[]⟩, .bool false, .int .i64 (0)])] w fun e w' => e = .returned (.tuple #[.int .i64 (n), .int .i64 (0)]) ∧ Below w.heap.size w w' := by
  have hz : I64 0 := ⟨by decide, by decide⟩
  go_enter Tryz.func102, Tryz.ntmps102
  go_wp2_with (first | (go_at_call 139; refine (wrongV _ _ _ _ _ _ (by assumption)).mono ?_; rintro e w1 ⟨rfl, hb⟩; have hB : Below w.heap.size w w1 := bup (by with_reducible (first | assumption | exact Below.drew (by assumption) | exact bal _ _ | exact (bal _ _).alloc (by simp) _ | exact (bal _ _).drew | exact ((bal _ _).alloc (by simp) _).drew | exact Below.refl _ _ | exact (Below.refl _ _).drew)) hb; have o0 : Own w1 (w.heap.size) #[.int .i64 (1), .int .i64 (n), .string ⟨#[]⟩, .bool false, .int .i64 (0)] := Own.keep (by with_reducible (first | assumption | exact Own.drew (by assumption) | exact Own.new _ _ _ | exact Own.new2 _ _ _ _ | exact (Own.new _ _ _).past _ | exact Own.drew (Own.new _ _ _) | exact (Own.new2 _ _ _ _).drew | exact ((Own.new _ _ _).past _).drew)) hb; have c0 := o0.cell; have f0 := o0.fro) | (go_at_call 140; refine (partsV _ _).mono ?_; rintro e w5 ⟨rfl, rfl⟩) | (go_at_call 157; refine (wordV _ _).mono ?_; rintro e w5 ⟨rfl, rfl⟩))
  all_goals go_ret2
  all_goals refine ⟨rfl, ?_⟩
  all_goals repeat' with_reducible first | assumption | refine Below.setCell ?_ (by first | exact Nat.le_refl _ | (simp; done) | (simp; omega)) _ | refine Below.drew ?_
theorem AsNumber_2 (s : ByteArray) (w : World) (hw : wrongC (2) (0) s false (0) = 0) : Calls Tryz.prog 102 #[(.agg #[.int .i64 (2), .int .i64 (0), .string s, .bool false, .int .i64 (0)])] w fun e w' => e = .returned (.tuple #[.int .i64 (0), .int .i64 (4)]) ∧ Below w.heap.size w w' := by
  have hz : I64 0 := ⟨by decide, by decide⟩
  go_enter Tryz.func102, Tryz.ntmps102
  go_wp2_with (first | (go_at_call 139; refine (wrongV _ _ _ _ _ _ (by assumption)).mono ?_; rintro e w1 ⟨rfl, hb⟩; have hB : Below w.heap.size w w1 := bup (by with_reducible (first | assumption | exact Below.drew (by assumption) | exact bal _ _ | exact (bal _ _).alloc (by simp) _ | exact (bal _ _).drew | exact ((bal _ _).alloc (by simp) _).drew | exact Below.refl _ _ | exact (Below.refl _ _).drew)) hb; have o0 : Own w1 (w.heap.size) #[.int .i64 (2), .int .i64 (0), .string s, .bool false, .int .i64 (0)] := Own.keep (by with_reducible (first | assumption | exact Own.drew (by assumption) | exact Own.new _ _ _ | exact Own.new2 _ _ _ _ | exact (Own.new _ _ _).past _ | exact Own.drew (Own.new _ _ _) | exact (Own.new2 _ _ _ _).drew | exact ((Own.new _ _ _).past _).drew)) hb; have c0 := o0.cell; have f0 := o0.fro) | (go_at_call 140; refine (partsV _ _).mono ?_; rintro e w5 ⟨rfl, rfl⟩) | (go_at_call 157; refine (wordV _ _).mono ?_; rintro e w5 ⟨rfl, rfl⟩))
  all_goals go_ret2
  all_goals refine ⟨rfl, ?_⟩
  all_goals repeat' with_reducible first | assumption | refine Below.setCell ?_ (by first | exact Nat.le_refl _ | (simp; done) | (simp; omega)) _ | refine Below.drew ?_
theorem AsNumber_3 (b : Bool) (w : World) (hw : wrongC (3) (0) ⟨#[]⟩ b (0) = 0) : Calls Tryz.prog 102 #[(.agg #[.int .i64 (3), .int .i64 (0), .string ⟨#[]⟩, .bool b, .int .i64 (0)])] w fun e w' => e = .returned (.tuple #[.int .i64 (partsI b), .int .i64 (0)]) ∧ Below w.heap.size w w' := by
  have hz : I64 0 := ⟨by decide, by decide⟩
  go_enter Tryz.func102, Tryz.ntmps102
  go_wp2_with (first | (go_at_call 139; refine (wrongV _ _ _ _ _ _ (by assumption)).mono ?_; rintro e w1 ⟨rfl, hb⟩; have hB : Below w.heap.size w w1 := bup (by with_reducible (first | assumption | exact Below.drew (by assumption) | exact bal _ _ | exact (bal _ _).alloc (by simp) _ | exact (bal _ _).drew | exact ((bal _ _).alloc (by simp) _).drew | exact Below.refl _ _ | exact (Below.refl _ _).drew)) hb; have o0 : Own w1 (w.heap.size) #[.int .i64 (3), .int .i64 (0), .string ⟨#[]⟩, .bool b, .int .i64 (0)] := Own.keep (by with_reducible (first | assumption | exact Own.drew (by assumption) | exact Own.new _ _ _ | exact Own.new2 _ _ _ _ | exact (Own.new _ _ _).past _ | exact Own.drew (Own.new _ _ _) | exact (Own.new2 _ _ _ _).drew | exact ((Own.new _ _ _).past _).drew)) hb; have c0 := o0.cell; have f0 := o0.fro) | (go_at_call 140; refine (partsV _ _).mono ?_; rintro e w5 ⟨rfl, rfl⟩) | (go_at_call 157; refine (wordV _ _).mono ?_; rintro e w5 ⟨rfl, rfl⟩))
  all_goals go_ret2
  all_goals refine ⟨rfl, ?_⟩
  all_goals repeat' with_reducible first | assumption | refine Below.setCell ?_ (by first | exact Nat.le_refl _ | (simp; done) | (simp; omega)) _ | refine Below.drew ?_
theorem aNumberV (t n : Int) (s : ByteArray) (b : Bool) (c : Int) (w : World) (hn : I64 n) : Calls Tryz.prog 102 #[(.agg #[.int .i64 (t), .int .i64 (n), .string s, .bool b, .int .i64 (c)])] w fun e w' => e = .returned (.tuple #[.int .i64 (asNum t n s b c), .int .i64 (asCode t n s b c)]) ∧ Below w.heap.size w w' := by
  unfold asNum asCode
  by_cases hm : mayB t n s b c = true ∧ ¬ t = 4
  case neg =>
    rw [if_neg hm, if_neg hm]
    exact AsNumber_w t n s b c w hn (wrong_ne hm) (by have h := wrong_ne hm; simpa using h)
  rw [if_pos hm, if_pos hm]
  have hw := wrong_0 hm.1 hm.2
  rcases may_cases hm.1 hm.2 with ⟨rfl, rfl, rfl, rfl, rfl⟩ | ⟨rfl, rfl, rfl, rfl⟩ | ⟨rfl, rfl, rfl, rfl⟩ | ⟨rfl, rfl, rfl, rfl⟩
  · exact AsNumber_0 w hw
  · exact AsNumber_1 n w hn hw
  · exact AsNumber_2 s w hw
  · exact AsNumber_3 b w hw
end Go.Proofs.YtfikaamjnkmbdaaGreatDoor
