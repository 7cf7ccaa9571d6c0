/- The contracts of refs's may and takes: of every node whether it may be, and how many things it works on. New memory alone is made. No condition but that a value's number is an int64. -/
import Derived.Test.YtekpmdpmcbjkkaaDoorN1
namespace Go.Proofs.YtekpmdpmcbjkkaaDoor
open Go.Shelf Go.RowKit
set_option linter.all false
/-- Just the fields of its kind. -/
def mayN (n : Nd) : Bool :=
  if n.kind = 1 then sameN n ⟨1, n.tag, n.num, n.str, n.is, n.code, 0, 0, 0, 0, 0, 0, 0, ⟨#[]⟩, 0⟩ && standB n.tag n.num n.str n.is n.code else
  if n.kind = 2 then sameN n ⟨2, 0, 0, ⟨#[]⟩, false, 0, n.row, n.col, 0, 0, 0, 0, 0, ⟨#[]⟩, 0⟩ && mayC n.row n.col else
  if n.kind = 3 then sameN n ⟨3, 0, 0, ⟨#[]⟩, false, 0, 0, 0, n.top, n.left, n.bot, n.right, 0, ⟨#[]⟩, 0⟩ && mayR n.top n.left n.bot n.right else
  if n.kind = 4 then sameN n ⟨4, 0, 0, ⟨#[]⟩, false, 0, 0, 0, 0, 0, 0, 0, n.op, ⟨#[]⟩, 0⟩ && opOk n.op else
  if n.kind = 5 then sameN n ⟨5, 0, 0, ⟨#[]⟩, false, 0, 0, 0, 0, 0, 0, 0, 0, n.name, n.args⟩ && (nameOk n.name && decide (0 ≤ n.args ∧ n.args ≤ 16)) else
  false
set_option maxHeartbeats 1000000 in
theorem may1f (tag : Int) (num : Int) (str : ByteArray) (is : Bool) (code : Int) (row : Int) (col : Int) (top : Int) (left : Int) (bot : Int) (right : Int) (op : Int) (name : ByteArray) (args : Int) (w : World) (hn : Vv.I64 num) (hs : sameN ⟨1, tag, num, str, is, code, row, col, top, left, bot, right, op, name, args⟩ ⟨1, tag, num, str, is, code, 0, 0, 0, 0, 0, 0, 0, ⟨#[]⟩, 0⟩ = false) : Calls Tryd.prog 20 #[.agg #[.int .i64 1, .int .i64 tag, .int .i64 num, .string str, .bool is, .int .i64 code, .int .i64 row, .int .i64 col, .int .i64 top, .int .i64 left, .int .i64 bot, .int .i64 right, .int .i64 op, .string name, .int .i64 args]] w fun e w' => e = .returned (.bool false) ∧ Below w.heap.size w w' := by
  have heq := eqN ⟨1, tag, num, str, is, code, row, col, top, left, bot, right, op, name, args⟩ ⟨1, tag, num, str, is, code, 0, 0, 0, 0, 0, 0, 0, ⟨#[]⟩, 0⟩
  rw [hs] at heq
  go_enter Tryd.func20, Tryd.ntmps20
  go_wp2
  all_goals go_ret
  all_goals exact ⟨by first | rfl | (apply retB; simp; done) | (apply retB; simp; omega), by with_reducible (repeat' first | assumption | exact Below.refl _ _ | refine Below.drew ?_ | refine bdrewN ?_ _ | refine Below.setCell ?_ (by first | exact Nat.le_refl _ | (simp; done) | (simp; omega) | omega) _ | refine Below.alloc ?_ (by first | exact Nat.le_refl _ | (simp; done) | (simp; omega) | omega) _)⟩
set_option maxHeartbeats 1000000 in
theorem may1t (tag : Int) (num : Int) (str : ByteArray) (is : Bool) (code : Int) (row : Int) (col : Int) (top : Int) (left : Int) (bot : Int) (right : Int) (op : Int) (name : ByteArray) (args : Int) (w : World) (hn : Vv.I64 num) (hs : sameN ⟨1, tag, num, str, is, code, row, col, top, left, bot, right, op, name, args⟩ ⟨1, tag, num, str, is, code, 0, 0, 0, 0, 0, 0, 0, ⟨#[]⟩, 0⟩ = true) : Calls Tryd.prog 20 #[.agg #[.int .i64 1, .int .i64 tag, .int .i64 num, .string str, .bool is, .int .i64 code, .int .i64 row, .int .i64 col, .int .i64 top, .int .i64 left, .int .i64 bot, .int .i64 right, .int .i64 op, .string name, .int .i64 args]] w fun e w' => e = .returned (.bool (standB tag num str is code)) ∧ Below w.heap.size w w' := by
  have heq := eqN ⟨1, tag, num, str, is, code, row, col, top, left, bot, right, op, name, args⟩ ⟨1, tag, num, str, is, code, 0, 0, 0, 0, 0, 0, 0, ⟨#[]⟩, 0⟩
  rw [hs] at heq
  go_enter Tryd.func20, Tryd.ntmps20
  go_wp2_with (go_at_call 27; refine (stand_any tag num str is code _ hn).mono ?_; rintro e w1 ⟨rfl, hb⟩; have hB : Below w.heap.size w w1 := bup (by with_reducible (repeat' first | assumption | exact Below.refl _ _ | refine Below.drew ?_ | refine bdrewN ?_ _ | refine Below.setCell ?_ (by first | exact Nat.le_refl _ | (simp; done) | (simp; omega) | omega) _ | refine Below.alloc ?_ (by first | exact Nat.le_refl _ | (simp; done) | (simp; omega) | omega) _)) hb; have o0 : Own w1 (w.heap.size) #[.int .i64 1, .int .i64 tag, .int .i64 num, .string str, .bool is, .int .i64 code, .int .i64 row, .int .i64 col, .int .i64 top, .int .i64 left, .int .i64 bot, .int .i64 right, .int .i64 op, .string name, .int .i64 args] := Own.keep (by with_reducible (repeat' first | assumption | refine Own.drew ?_ | refine Own.drewN ?_ _ | (refine Own.at ?_; first | rfl | (simp; done)) | refine Own.past ?_ _ | refine Own.aside ?_ (by first | (simp; done) | (simp; omega) | omega) _)) hb; have c0 := o0.cell; have f0 := o0.fro; have l0 := o0.lt)
  all_goals go_ret
  all_goals exact ⟨by first | rfl | (apply retB; simp; done) | (apply retB; simp; omega), by with_reducible (repeat' first | assumption | exact Below.refl _ _ | refine Below.drew ?_ | refine bdrewN ?_ _ | refine Below.setCell ?_ (by first | exact Nat.le_refl _ | (simp; done) | (simp; omega) | omega) _ | refine Below.alloc ?_ (by first | exact Nat.le_refl _ | (simp; done) | (simp; omega) | omega) _)⟩
set_option maxHeartbeats 1000000 in
theorem may2f (tag : Int) (num : Int) (str : ByteArray) (is : Bool) (code : Int) (row : Int) (col : Int) (top : Int) (left : Int) (bot : Int) (right : Int) (op : Int) (name : ByteArray) (args : Int) (w : World) (hs : sameN ⟨2, tag, num, str, is, code, row, col, top, left, bot, right, op, name, args⟩ ⟨2, 0, 0, ⟨#[]⟩, false, 0, row, col, 0, 0, 0, 0, 0, ⟨#[]⟩, 0⟩ = false) : Calls Tryd.prog 20 #[.agg #[.int .i64 2, .int .i64 tag, .int .i64 num, .string str, .bool is, .int .i64 code, .int .i64 row, .int .i64 col, .int .i64 top, .int .i64 left, .int .i64 bot, .int .i64 right, .int .i64 op, .string name, .int .i64 args]] w fun e w' => e = .returned (.bool false) ∧ Below w.heap.size w w' := by
  have heq := eqN ⟨2, tag, num, str, is, code, row, col, top, left, bot, right, op, name, args⟩ ⟨2, 0, 0, ⟨#[]⟩, false, 0, row, col, 0, 0, 0, 0, 0, ⟨#[]⟩, 0⟩
  rw [hs] at heq
  go_enter Tryd.func20, Tryd.ntmps20
  go_wp2
  all_goals go_ret
  all_goals exact ⟨by first | rfl | (apply retB; simp; done) | (apply retB; simp; omega), by with_reducible (repeat' first | assumption | exact Below.refl _ _ | refine Below.drew ?_ | refine bdrewN ?_ _ | refine Below.setCell ?_ (by first | exact Nat.le_refl _ | (simp; done) | (simp; omega) | omega) _ | refine Below.alloc ?_ (by first | exact Nat.le_refl _ | (simp; done) | (simp; omega) | omega) _)⟩
set_option maxHeartbeats 1000000 in
theorem may2t (tag : Int) (num : Int) (str : ByteArray) (is : Bool) (code : Int) (row : Int) (col : Int) (top : Int) (left : Int) (bot : Int) (right : Int) (op : Int) (name : ByteArray) (args : Int) (w : World) (hs : sameN ⟨2, tag, num, str, is, code, row, col, top, left, bot, right, op, name, args⟩ ⟨2, 0, 0, ⟨#[]⟩, false, 0, row, col, 0, 0, 0, 0, 0, ⟨#[]⟩, 0⟩ = true) : Calls Tryd.prog 20 #[.agg #[.int .i64 2, .int .i64 tag, .int .i64 num, .string str, .bool is, .int .i64 code, .int .i64 row, .int .i64 col, .int .i64 top, .int .i64 left, .int .i64 bot, .int .i64 right, .int .i64 op, .string name, .int .i64 args]] w fun e w' => e = .returned (.bool (mayC row col)) ∧ Below w.heap.size w w' := by
  have heq := eqN ⟨2, tag, num, str, is, code, row, col, top, left, bot, right, op, name, args⟩ ⟨2, 0, 0, ⟨#[]⟩, false, 0, row, col, 0, 0, 0, 0, 0, ⟨#[]⟩, 0⟩
  rw [hs] at heq
  go_enter Tryd.func20, Tryd.ntmps20
  go_wp2_with (go_at_call 23; refine (may_any row col _).mono ?_; rintro e w1 ⟨rfl, hb⟩; have hB : Below w.heap.size w w1 := bup (by with_reducible (repeat' first | assumption | exact Below.refl _ _ | refine Below.drew ?_ | refine bdrewN ?_ _ | refine Below.setCell ?_ (by first | exact Nat.le_refl _ | (simp; done) | (simp; omega) | omega) _ | refine Below.alloc ?_ (by first | exact Nat.le_refl _ | (simp; done) | (simp; omega) | omega) _)) hb; have o0 : Own w1 (w.heap.size) #[.int .i64 2, .int .i64 tag, .int .i64 num, .string str, .bool is, .int .i64 code, .int .i64 row, .int .i64 col, .int .i64 top, .int .i64 left, .int .i64 bot, .int .i64 right, .int .i64 op, .string name, .int .i64 args] := Own.keep (by with_reducible (repeat' first | assumption | refine Own.drew ?_ | refine Own.drewN ?_ _ | (refine Own.at ?_; first | rfl | (simp; done)) | refine Own.past ?_ _ | refine Own.aside ?_ (by first | (simp; done) | (simp; omega) | omega) _)) hb; have c0 := o0.cell; have f0 := o0.fro; have l0 := o0.lt)
  all_goals go_ret
  all_goals exact ⟨by first | rfl | (apply retB; simp; done) | (apply retB; simp; omega), by with_reducible (repeat' first | assumption | exact Below.refl _ _ | refine Below.drew ?_ | refine bdrewN ?_ _ | refine Below.setCell ?_ (by first | exact Nat.le_refl _ | (simp; done) | (simp; omega) | omega) _ | refine Below.alloc ?_ (by first | exact Nat.le_refl _ | (simp; done) | (simp; omega) | omega) _)⟩
set_option maxHeartbeats 1000000 in
theorem may3f (tag : Int) (num : Int) (str : ByteArray) (is : Bool) (code : Int) (row : Int) (col : Int) (top : Int) (left : Int) (bot : Int) (right : Int) (op : Int) (name : ByteArray) (args : Int) (w : World) (hs : sameN ⟨3, tag, num, str, is, code, row, col, top, left, bot, right, op, name, args⟩ ⟨3, 0, 0, ⟨#[]⟩, false, 0, 0, 0, top, left, bot, right, 0, ⟨#[]⟩, 0⟩ = false) : Calls Tryd.prog 20 #[.agg #[.int .i64 3, .int .i64 tag, .int .i64 num, .string str, .bool is, .int .i64 code, .int .i64 row, .int .i64 col, .int .i64 top, .int .i64 left, .int .i64 bot, .int .i64 right, .int .i64 op, .string name, .int .i64 args]] w fun e w' => e = .returned (.bool false) ∧ Below w.heap.size w w' := by
  have heq := eqN ⟨3, tag, num, str, is, code, row, col, top, left, bot, right, op, name, args⟩ ⟨3, 0, 0, ⟨#[]⟩, false, 0, 0, 0, top, left, bot, right, 0, ⟨#[]⟩, 0⟩
  rw [hs] at heq
  go_enter Tryd.func20, Tryd.ntmps20
  go_wp2
  all_goals go_ret
  all_goals exact ⟨by first | rfl | (apply retB; simp; done) | (apply retB; simp; omega), by with_reducible (repeat' first | assumption | exact Below.refl _ _ | refine Below.drew ?_ | refine bdrewN ?_ _ | refine Below.setCell ?_ (by first | exact Nat.le_refl _ | (simp; done) | (simp; omega) | omega) _ | refine Below.alloc ?_ (by first | exact Nat.le_refl _ | (simp; done) | (simp; omega) | omega) _)⟩
set_option maxHeartbeats 1000000 in
theorem may3t (tag : Int) (num : Int) (str : ByteArray) (is : Bool) (code : Int) (row : Int) (col : Int) (top : Int) (left : Int) (bot : Int) (right : Int) (op : Int) (name : ByteArray) (args : Int) (w : World) (hs : sameN ⟨3, tag, num, str, is, code, row, col, top, left, bot, right, op, name, args⟩ ⟨3, 0, 0, ⟨#[]⟩, false, 0, 0, 0, top, left, bot, right, 0, ⟨#[]⟩, 0⟩ = true) : Calls Tryd.prog 20 #[.agg #[.int .i64 3, .int .i64 tag, .int .i64 num, .string str, .bool is, .int .i64 code, .int .i64 row, .int .i64 col, .int .i64 top, .int .i64 left, .int .i64 bot, .int .i64 right, .int .i64 op, .string name, .int .i64 args]] w fun e w' => e = .returned (.bool (mayR top left bot right)) ∧ Below w.heap.size w w' := by
  have heq := eqN ⟨3, tag, num, str, is, code, row, col, top, left, bot, right, op, name, args⟩ ⟨3, 0, 0, ⟨#[]⟩, false, 0, 0, 0, top, left, bot, right, 0, ⟨#[]⟩, 0⟩
  rw [hs] at heq
  go_enter Tryd.func20, Tryd.ntmps20
  go_wp2_with (go_at_call 28; refine (mayR_any top left bot right _).mono ?_; rintro e w1 ⟨rfl, hb⟩; have hB : Below w.heap.size w w1 := bup (by with_reducible (repeat' first | assumption | exact Below.refl _ _ | refine Below.drew ?_ | refine bdrewN ?_ _ | refine Below.setCell ?_ (by first | exact Nat.le_refl _ | (simp; done) | (simp; omega) | omega) _ | refine Below.alloc ?_ (by first | exact Nat.le_refl _ | (simp; done) | (simp; omega) | omega) _)) hb; have o0 : Own w1 (w.heap.size) #[.int .i64 3, .int .i64 tag, .int .i64 num, .string str, .bool is, .int .i64 code, .int .i64 row, .int .i64 col, .int .i64 top, .int .i64 left, .int .i64 bot, .int .i64 right, .int .i64 op, .string name, .int .i64 args] := Own.keep (by with_reducible (repeat' first | assumption | refine Own.drew ?_ | refine Own.drewN ?_ _ | (refine Own.at ?_; first | rfl | (simp; done)) | refine Own.past ?_ _ | refine Own.aside ?_ (by first | (simp; done) | (simp; omega) | omega) _)) hb; have c0 := o0.cell; have f0 := o0.fro; have l0 := o0.lt)
  all_goals go_ret
  all_goals exact ⟨by first | rfl | (apply retB; simp; done) | (apply retB; simp; omega), by with_reducible (repeat' first | assumption | exact Below.refl _ _ | refine Below.drew ?_ | refine bdrewN ?_ _ | refine Below.setCell ?_ (by first | exact Nat.le_refl _ | (simp; done) | (simp; omega) | omega) _ | refine Below.alloc ?_ (by first | exact Nat.le_refl _ | (simp; done) | (simp; omega) | omega) _)⟩
set_option maxHeartbeats 1000000 in
theorem may4f (tag : Int) (num : Int) (str : ByteArray) (is : Bool) (code : Int) (row : Int) (col : Int) (top : Int) (left : Int) (bot : Int) (right : Int) (op : Int) (name : ByteArray) (args : Int) (w : World) (hs : sameN ⟨4, tag, num, str, is, code, row, col, top, left, bot, right, op, name, args⟩ ⟨4, 0, 0, ⟨#[]⟩, false, 0, 0, 0, 0, 0, 0, 0, op, ⟨#[]⟩, 0⟩ = false) : Calls Tryd.prog 20 #[.agg #[.int .i64 4, .int .i64 tag, .int .i64 num, .string str, .bool is, .int .i64 code, .int .i64 row, .int .i64 col, .int .i64 top, .int .i64 left, .int .i64 bot, .int .i64 right, .int .i64 op, .string name, .int .i64 args]] w fun e w' => e = .returned (.bool false) ∧ Below w.heap.size w w' := by
  have heq := eqN ⟨4, tag, num, str, is, code, row, col, top, left, bot, right, op, name, args⟩ ⟨4, 0, 0, ⟨#[]⟩, false, 0, 0, 0, 0, 0, 0, 0, op, ⟨#[]⟩, 0⟩
  rw [hs] at heq
  go_enter Tryd.func20, Tryd.ntmps20
  go_wp2
  all_goals go_ret
  all_goals exact ⟨by first | rfl | (apply retB; simp; done) | (apply retB; simp; omega), by with_reducible (repeat' first | assumption | exact Below.refl _ _ | refine Below.drew ?_ | refine bdrewN ?_ _ | refine Below.setCell ?_ (by first | exact Nat.le_refl _ | (simp; done) | (simp; omega) | omega) _ | refine Below.alloc ?_ (by first | exact Nat.le_refl _ | (simp; done) | (simp; omega) | omega) _)⟩
set_option maxHeartbeats 1000000 in
theorem may4t (tag : Int) (num : Int) (str : ByteArray) (is : Bool) (code : Int) (row : Int) (col : Int) (top : Int) (left : Int) (bot : Int) (right : Int) (op : Int) (name : ByteArray) (args : Int) (w : World) (hs : sameN ⟨4, tag, num, str, is, code, row, col, top, left, bot, right, op, name, args⟩ ⟨4, 0, 0, ⟨#[]⟩, false, 0, 0, 0, 0, 0, 0, 0, op, ⟨#[]⟩, 0⟩ = true) : Calls Tryd.prog 20 #[.agg #[.int .i64 4, .int .i64 tag, .int .i64 num, .string str, .bool is, .int .i64 code, .int .i64 row, .int .i64 col, .int .i64 top, .int .i64 left, .int .i64 bot, .int .i64 right, .int .i64 op, .string name, .int .i64 args]] w fun e w' => e = .returned (.bool (opOk op)) ∧ Below w.heap.size w w' := by
  have heq := eqN ⟨4, tag, num, str, is, code, row, col, top, left, bot, right, op, name, args⟩ ⟨4, 0, 0, ⟨#[]⟩, false, 0, 0, 0, 0, 0, 0, 0, op, ⟨#[]⟩, 0⟩
  rw [hs] at heq
  go_enter Tryd.func20, Tryd.ntmps20
  go_wp2_with (go_at_call 29; refine (opMay_any op _).mono ?_; rintro e w1 ⟨rfl, hb⟩; have hB : Below w.heap.size w w1 := bup (by with_reducible (repeat' first | assumption | exact Below.refl _ _ | refine Below.drew ?_ | refine bdrewN ?_ _ | refine Below.setCell ?_ (by first | exact Nat.le_refl _ | (simp; done) | (simp; omega) | omega) _ | refine Below.alloc ?_ (by first | exact Nat.le_refl _ | (simp; done) | (simp; omega) | omega) _)) hb; have o0 : Own w1 (w.heap.size) #[.int .i64 4, .int .i64 tag, .int .i64 num, .string str, .bool is, .int .i64 code, .int .i64 row, .int .i64 col, .int .i64 top, .int .i64 left, .int .i64 bot, .int .i64 right, .int .i64 op, .string name, .int .i64 args] := Own.keep (by with_reducible (repeat' first | assumption | refine Own.drew ?_ | refine Own.drewN ?_ _ | (refine Own.at ?_; first | rfl | (simp; done)) | refine Own.past ?_ _ | refine Own.aside ?_ (by first | (simp; done) | (simp; omega) | omega) _)) hb; have c0 := o0.cell; have f0 := o0.fro; have l0 := o0.lt)
  all_goals go_ret
  all_goals exact ⟨by first | rfl | (apply retB; simp; done) | (apply retB; simp; omega), by with_reducible (repeat' first | assumption | exact Below.refl _ _ | refine Below.drew ?_ | refine bdrewN ?_ _ | refine Below.setCell ?_ (by first | exact Nat.le_refl _ | (simp; done) | (simp; omega) | omega) _ | refine Below.alloc ?_ (by first | exact Nat.le_refl _ | (simp; done) | (simp; omega) | omega) _)⟩
set_option maxHeartbeats 1000000 in
theorem may5f (tag : Int) (num : Int) (str : ByteArray) (is : Bool) (code : Int) (row : Int) (col : Int) (top : Int) (left : Int) (bot : Int) (right : Int) (op : Int) (name : ByteArray) (args : Int) (w : World) (hs : sameN ⟨5, tag, num, str, is, code, row, col, top, left, bot, right, op, name, args⟩ ⟨5, 0, 0, ⟨#[]⟩, false, 0, 0, 0, 0, 0, 0, 0, 0, name, args⟩ = false) : Calls Tryd.prog 20 #[.agg #[.int .i64 5, .int .i64 tag, .int .i64 num, .string str, .bool is, .int .i64 code, .int .i64 row, .int .i64 col, .int .i64 top, .int .i64 left, .int .i64 bot, .int .i64 right, .int .i64 op, .string name, .int .i64 args]] w fun e w' => e = .returned (.bool false) ∧ Below w.heap.size w w' := by
  have heq := eqN ⟨5, tag, num, str, is, code, row, col, top, left, bot, right, op, name, args⟩ ⟨5, 0, 0, ⟨#[]⟩, false, 0, 0, 0, 0, 0, 0, 0, 0, name, args⟩
  rw [hs] at heq
  go_enter Tryd.func20, Tryd.ntmps20
  go_wp2
  all_goals go_ret
  all_goals exact ⟨by first | rfl | (apply retB; simp; done) | (apply retB; simp; omega), by with_reducible (repeat' first | assumption | exact Below.refl _ _ | refine Below.drew ?_ | refine bdrewN ?_ _ | refine Below.setCell ?_ (by first | exact Nat.le_refl _ | (simp; done) | (simp; omega) | omega) _ | refine Below.alloc ?_ (by first | exact Nat.le_refl _ | (simp; done) | (simp; omega) | omega) _)⟩
set_option maxHeartbeats 1000000 in
theorem may5a (tag : Int) (num : Int) (str : ByteArray) (is : Bool) (code : Int) (row : Int) (col : Int) (top : Int) (left : Int) (bot : Int) (right : Int) (op : Int) (name : ByteArray) (args : Int) (w : World) (hs : sameN ⟨5, tag, num, str, is, code, row, col, top, left, bot, right, op, name, args⟩ ⟨5, 0, 0, ⟨#[]⟩, false, 0, 0, 0, 0, 0, 0, 0, 0, name, args⟩ = true) (hN : ∀ w, Calls Tryd.prog 30 #[.string name] w fun e w' => e = .returned (.bool false) ∧ Below w.heap.size w w') : Calls Tryd.prog 20 #[.agg #[.int .i64 5, .int .i64 tag, .int .i64 num, .string str, .bool is, .int .i64 code, .int .i64 row, .int .i64 col, .int .i64 top, .int .i64 left, .int .i64 bot, .int .i64 right, .int .i64 op, .string name, .int .i64 args]] w fun e w' => e = .returned (.bool false) ∧ Below w.heap.size w w' := by
  have heq := eqN ⟨5, tag, num, str, is, code, row, col, top, left, bot, right, op, name, args⟩ ⟨5, 0, 0, ⟨#[]⟩, false, 0, 0, 0, 0, 0, 0, 0, 0, name, args⟩
  rw [hs] at heq
  go_enter Tryd.func20, Tryd.ntmps20
  go_wp2_with (go_at_call 30; refine (hN _).mono ?_; rintro e w1 ⟨rfl, hb⟩; have hB : Below w.heap.size w w1 := bup (by with_reducible (repeat' first | assumption | exact Below.refl _ _ | refine Below.drew ?_ | refine bdrewN ?_ _ | refine Below.setCell ?_ (by first | exact Nat.le_refl _ | (simp; done) | (simp; omega) | omega) _ | refine Below.alloc ?_ (by first | exact Nat.le_refl _ | (simp; done) | (simp; omega) | omega) _)) hb; have o0 : Own w1 (w.heap.size) #[.int .i64 5, .int .i64 tag, .int .i64 num, .string str, .bool is, .int .i64 code, .int .i64 row, .int .i64 col, .int .i64 top, .int .i64 left, .int .i64 bot, .int .i64 right, .int .i64 op, .string name, .int .i64 args] := Own.keep (by with_reducible (repeat' first | assumption | refine Own.drew ?_ | refine Own.drewN ?_ _ | (refine Own.at ?_; first | rfl | (simp; done)) | refine Own.past ?_ _ | refine Own.aside ?_ (by first | (simp; done) | (simp; omega) | omega) _)) hb; have c0 := o0.cell; have f0 := o0.fro; have l0 := o0.lt)
  all_goals go_ret
  all_goals exact ⟨by first | rfl | (apply retB; simp; done) | (apply retB; simp; omega), by with_reducible (repeat' first | assumption | exact Below.refl _ _ | refine Below.drew ?_ | refine bdrewN ?_ _ | refine Below.setCell ?_ (by first | exact Nat.le_refl _ | (simp; done) | (simp; omega) | omega) _ | refine Below.alloc ?_ (by first | exact Nat.le_refl _ | (simp; done) | (simp; omega) | omega) _)⟩
set_option maxHeartbeats 1000000 in
theorem may5b (tag : Int) (num : Int) (str : ByteArray) (is : Bool) (code : Int) (row : Int) (col : Int) (top : Int) (left : Int) (bot : Int) (right : Int) (op : Int) (name : ByteArray) (args : Int) (w : World) (hs : sameN ⟨5, tag, num, str, is, code, row, col, top, left, bot, right, op, name, args⟩ ⟨5, 0, 0, ⟨#[]⟩, false, 0, 0, 0, 0, 0, 0, 0, 0, name, args⟩ = true) (hN : ∀ w, Calls Tryd.prog 30 #[.string name] w fun e w' => e = .returned (.bool true) ∧ Below w.heap.size w w') (hz : decide (0 ≤ args) = false) : Calls Tryd.prog 20 #[.agg #[.int .i64 5, .int .i64 tag, .int .i64 num, .string str, .bool is, .int .i64 code, .int .i64 row, .int .i64 col, .int .i64 top, .int .i64 left, .int .i64 bot, .int .i64 right, .int .i64 op, .string name, .int .i64 args]] w fun e w' => e = .returned (.bool false) ∧ Below w.heap.size w w' := by
  have heq := eqN ⟨5, tag, num, str, is, code, row, col, top, left, bot, right, op, name, args⟩ ⟨5, 0, 0, ⟨#[]⟩, false, 0, 0, 0, 0, 0, 0, 0, 0, name, args⟩
  rw [hs] at heq
  go_enter Tryd.func20, Tryd.ntmps20
  go_wp2_with (go_at_call 30; refine (hN _).mono ?_; rintro e w1 ⟨rfl, hb⟩; have hB : Below w.heap.size w w1 := bup (by with_reducible (repeat' first | assumption | exact Below.refl _ _ | refine Below.drew ?_ | refine bdrewN ?_ _ | refine Below.setCell ?_ (by first | exact Nat.le_refl _ | (simp; done) | (simp; omega) | omega) _ | refine Below.alloc ?_ (by first | exact Nat.le_refl _ | (simp; done) | (simp; omega) | omega) _)) hb; have o0 : Own w1 (w.heap.size) #[.int .i64 5, .int .i64 tag, .int .i64 num, .string str, .bool is, .int .i64 code, .int .i64 row, .int .i64 col, .int .i64 top, .int .i64 left, .int .i64 bot, .int .i64 right, .int .i64 op, .string name, .int .i64 args] := Own.keep (by with_reducible (repeat' first | assumption | refine Own.drew ?_ | refine Own.drewN ?_ _ | (refine Own.at ?_; first | rfl | (simp; done)) | refine Own.past ?_ _ | refine Own.aside ?_ (by first | (simp; done) | (simp; omega) | omega) _)) hb; have c0 := o0.cell; have f0 := o0.fro; have l0 := o0.lt)
  all_goals go_ret
  all_goals exact ⟨by first | rfl | (apply retB; simp; done) | (apply retB; simp; omega), by with_reducible (repeat' first | assumption | exact Below.refl _ _ | refine Below.drew ?_ | refine bdrewN ?_ _ | refine Below.setCell ?_ (by first | exact Nat.le_refl _ | (simp; done) | (simp; omega) | omega) _ | refine Below.alloc ?_ (by first | exact Nat.le_refl _ | (simp; done) | (simp; omega) | omega) _)⟩
set_option maxHeartbeats 1000000 in
theorem may5c (tag : Int) (num : Int) (str : ByteArray) (is : Bool) (code : Int) (row : Int) (col : Int) (top : Int) (left : Int) (bot : Int) (right : Int) (op : Int) (name : ByteArray) (args : Int) (w : World) (hs : sameN ⟨5, tag, num, str, is, code, row, col, top, left, bot, right, op, name, args⟩ ⟨5, 0, 0, ⟨#[]⟩, false, 0, 0, 0, 0, 0, 0, 0, 0, name, args⟩ = true) (hN : ∀ w, Calls Tryd.prog 30 #[.string name] w fun e w' => e = .returned (.bool true) ∧ Below w.heap.size w w') (hz : 0 ≤ args) : Calls Tryd.prog 20 #[.agg #[.int .i64 5, .int .i64 tag, .int .i64 num, .string str, .bool is, .int .i64 code, .int .i64 row, .int .i64 col, .int .i64 top, .int .i64 left, .int .i64 bot, .int .i64 right, .int .i64 op, .string name, .int .i64 args]] w fun e w' => e = .returned (.bool (decide (args ≤ 16))) ∧ Below w.heap.size w w' := by
  have heq := eqN ⟨5, tag, num, str, is, code, row, col, top, left, bot, right, op, name, args⟩ ⟨5, 0, 0, ⟨#[]⟩, false, 0, 0, 0, 0, 0, 0, 0, 0, name, args⟩
  rw [hs] at heq
  go_enter Tryd.func20, Tryd.ntmps20
  go_wp2_with (go_at_call 30; refine (hN _).mono ?_; rintro e w1 ⟨rfl, hb⟩; have hB : Below w.heap.size w w1 := bup (by with_reducible (repeat' first | assumption | exact Below.refl _ _ | refine Below.drew ?_ | refine bdrewN ?_ _ | refine Below.setCell ?_ (by first | exact Nat.le_refl _ | (simp; done) | (simp; omega) | omega) _ | refine Below.alloc ?_ (by first | exact Nat.le_refl _ | (simp; done) | (simp; omega) | omega) _)) hb; have o0 : Own w1 (w.heap.size) #[.int .i64 5, .int .i64 tag, .int .i64 num, .string str, .bool is, .int .i64 code, .int .i64 row, .int .i64 col, .int .i64 top, .int .i64 left, .int .i64 bot, .int .i64 right, .int .i64 op, .string name, .int .i64 args] := Own.keep (by with_reducible (repeat' first | assumption | refine Own.drew ?_ | refine Own.drewN ?_ _ | (refine Own.at ?_; first | rfl | (simp; done)) | refine Own.past ?_ _ | refine Own.aside ?_ (by first | (simp; done) | (simp; omega) | omega) _)) hb; have c0 := o0.cell; have f0 := o0.fro; have l0 := o0.lt)
  all_goals go_ret
  all_goals exact ⟨by first | rfl | (apply retB; simp; done) | (apply retB; simp; omega), by with_reducible (repeat' first | assumption | exact Below.refl _ _ | refine Below.drew ?_ | refine bdrewN ?_ _ | refine Below.setCell ?_ (by first | exact Nat.le_refl _ | (simp; done) | (simp; omega) | omega) _ | refine Below.alloc ?_ (by first | exact Nat.le_refl _ | (simp; done) | (simp; omega) | omega) _)⟩
set_option maxHeartbeats 1000000 in
theorem mayX (kind : Int) (tag : Int) (num : Int) (str : ByteArray) (is : Bool) (code : Int) (row : Int) (col : Int) (top : Int) (left : Int) (bot : Int) (right : Int) (op : Int) (name : ByteArray) (args : Int) (w : World) (h1 : (kind == 1) = false) (h2 : (kind == 2) = false) (h3 : (kind == 3) = false) (h4 : (kind == 4) = false) (h5 : (kind == 5) = false) : Calls Tryd.prog 20 #[.agg #[.int .i64 kind, .int .i64 tag, .int .i64 num, .string str, .bool is, .int .i64 code, .int .i64 row, .int .i64 col, .int .i64 top, .int .i64 left, .int .i64 bot, .int .i64 right, .int .i64 op, .string name, .int .i64 args]] w fun e w' => e = .returned (.bool false) ∧ Below w.heap.size w w' := by
  go_enter Tryd.func20, Tryd.ntmps20
  go_wp2
  all_goals go_ret
  all_goals exact ⟨rfl, by with_reducible (repeat' first | assumption | exact Below.refl _ _ | refine Below.drew ?_ | refine bdrewN ?_ _ | refine Below.setCell ?_ (by first | exact Nat.le_refl _ | (simp; done) | (simp; omega) | omega) _ | refine Below.alloc ?_ (by first | exact Nat.le_refl _ | (simp; done) | (simp; omega) | omega) _)⟩
theorem mayN_any (n : Nd) (w : World) (hn : Vv.I64 n.num) : Calls Tryd.prog 20 #[.agg n.cells] w fun e w' => e = .returned (.bool (mayN n)) ∧ Below w.heap.size w w' := by
  obtain ⟨kind, tag, num, str, is, code, row, col, top, left, bot, right, op, name, args⟩ := n
  show Calls Tryd.prog 20 #[.agg #[.int .i64 kind, .int .i64 tag, .int .i64 num, .string str, .bool is, .int .i64 code, .int .i64 row, .int .i64 col, .int .i64 top, .int .i64 left, .int .i64 bot, .int .i64 right, .int .i64 op, .string name, .int .i64 args]] w _
  replace hn : Vv.I64 num := hn
  by_cases h1 : kind = 1
  · subst h1
    have e : mayN ⟨1, tag, num, str, is, code, row, col, top, left, bot, right, op, name, args⟩ = (sameN ⟨1, tag, num, str, is, code, row, col, top, left, bot, right, op, name, args⟩ ⟨1, tag, num, str, is, code, 0, 0, 0, 0, 0, 0, 0, ⟨#[]⟩, 0⟩ && standB tag num str is code) := by unfold mayN; rw [if_pos rfl]
    rw [e]
    cases hs : sameN ⟨1, tag, num, str, is, code, row, col, top, left, bot, right, op, name, args⟩ ⟨1, tag, num, str, is, code, 0, 0, 0, 0, 0, 0, 0, ⟨#[]⟩, 0⟩
    · exact may1f tag num str is code row col top left bot right op name args w hn hs
    · rw [Bool.true_and]; exact may1t tag num str is code row col top left bot right op name args w hn hs
  by_cases h2 : kind = 2
  · subst h2
    have e : mayN ⟨2, tag, num, str, is, code, row, col, top, left, bot, right, op, name, args⟩ = (sameN ⟨2, tag, num, str, is, code, row, col, top, left, bot, right, op, name, args⟩ ⟨2, 0, 0, ⟨#[]⟩, false, 0, row, col, 0, 0, 0, 0, 0, ⟨#[]⟩, 0⟩ && mayC row col) := by unfold mayN; rw [if_neg (show ¬ (2 : Int) = 1 by decide), if_pos rfl]
    rw [e]
    cases hs : sameN ⟨2, tag, num, str, is, code, row, col, top, left, bot, right, op, name, args⟩ ⟨2, 0, 0, ⟨#[]⟩, false, 0, row, col, 0, 0, 0, 0, 0, ⟨#[]⟩, 0⟩
    · exact may2f tag num str is code row col top left bot right op name args w hs
    · rw [Bool.true_and]; exact may2t tag num str is code row col top left bot right op name args w hs
  by_cases h3 : kind = 3
  · subst h3
    have e : mayN ⟨3, tag, num, str, is, code, row, col, top, left, bot, right, op, name, args⟩ = (sameN ⟨3, tag, num, str, is, code, row, col, top, left, bot, right, op, name, args⟩ ⟨3, 0, 0, ⟨#[]⟩, false, 0, 0, 0, top, left, bot, right, 0, ⟨#[]⟩, 0⟩ && mayR top left bot right) := by unfold mayN; rw [if_neg (show ¬ (3 : Int) = 1 by decide), if_neg (show ¬ (3 : Int) = 2 by decide), if_pos rfl]
    rw [e]
    cases hs : sameN ⟨3, tag, num, str, is, code, row, col, top, left, bot, right, op, name, args⟩ ⟨3, 0, 0, ⟨#[]⟩, false, 0, 0, 0, top, left, bot, right, 0, ⟨#[]⟩, 0⟩
    · exact may3f tag num str is code row col top left bot right op name args w hs
    · rw [Bool.true_and]; exact may3t tag num str is code row col top left bot right op name args w hs
  by_cases h4 : kind = 4
  · subst h4
    have e : mayN ⟨4, tag, num, str, is, code, row, col, top, left, bot, right, op, name, args⟩ = (sameN ⟨4, tag, num, str, is, code, row, col, top, left, bot, right, op, name, args⟩ ⟨4, 0, 0, ⟨#[]⟩, false, 0, 0, 0, 0, 0, 0, 0, op, ⟨#[]⟩, 0⟩ && opOk op) := by unfold mayN; rw [if_neg (show ¬ (4 : Int) = 1 by decide), if_neg (show ¬ (4 : Int) = 2 by decide), if_neg (show ¬ (4 : Int) = 3 by decide), if_pos rfl]
    rw [e]
    cases hs : sameN ⟨4, tag, num, str, is, code, row, col, top, left, bot, right, op, name, args⟩ ⟨4, 0, 0, ⟨#[]⟩, false, 0, 0, 0, 0, 0, 0, 0, op, ⟨#[]⟩, 0⟩
    · exact may4f tag num str is code row col top left bot right op name args w hs
    · rw [Bool.true_and]; exact may4t tag num str is code row col top left bot right op name args w hs
  by_cases h5 : kind = 5
  · subst h5
    have e : mayN ⟨5, tag, num, str, is, code, row, col, top, left, bot, right, op, name, args⟩ = (sameN ⟨5, tag, num, str, is, code, row, col, top, left, bot, right, op, name, args⟩ ⟨5, 0, 0, ⟨#[]⟩, false, 0, 0, 0, 0, 0, 0, 0, 0, name, args⟩ && (nameOk name && decide (0 ≤ args ∧ args ≤ 16))) := by unfold mayN; rw [if_neg (show ¬ (5 : Int) = 1 by decide), if_neg (show ¬ (5 : Int) = 2 by decide), if_neg (show ¬ (5 : Int) = 3 by decide), if_neg (show ¬ (5 : Int) = 4 by decide), if_pos rfl]
    rw [e]
    cases hs : sameN ⟨5, tag, num, str, is, code, row, col, top, left, bot, right, op, name, args⟩ ⟨5, 0, 0, ⟨#[]⟩, false, 0, 0, 0, 0, 0, 0, 0, 0, name, args⟩
    · exact may5f tag num str is code row col top left bot right op name args w hs
    · rw [Bool.true_and]
      have hN := fun w => name_any name w
      cases hb : nameOk name
      · rw [hb] at hN; exact may5a tag num str is code row col top left bot right op name args w hs hN
      rw [hb] at hN; rw [Bool.true_and]
      by_cases hz : 0 ≤ args
      · have e2 : decide (0 ≤ args ∧ args ≤ 16) = decide (args ≤ 16) := by rw [Bool.eq_iff_iff]; simp only [decide_eq_true_eq]; omega
        rw [e2]; exact may5c tag num str is code row col top left bot right op name args w hs hN hz
      · have e2 : decide (0 ≤ args ∧ args ≤ 16) = false := by simp only [decide_eq_false_iff_not]; omega
        rw [e2]; exact may5b tag num str is code row col top left bot right op name args w hs hN (by simpa using hz)
  have e : mayN ⟨kind, tag, num, str, is, code, row, col, top, left, bot, right, op, name, args⟩ = false := by unfold mayN; rw [if_neg h1, if_neg h2, if_neg h3, if_neg h4, if_neg h5]
  rw [e]
  exact mayX kind tag num str is code row col top left bot right op name args w (by simpa using h1) (by simpa using h2) (by simpa using h3) (by simpa using h4) (by simpa using h5)
/-- How many things a node works on. -/
def takI (n : Nd) : Int := if n.kind = 4 then cntN n.op else n.args
set_option maxHeartbeats 1000000 in
theorem tak4 (tag : Int) (num : Int) (str : ByteArray) (is : Bool) (code : Int) (row : Int) (col : Int) (top : Int) (left : Int) (bot : Int) (right : Int) (op : Int) (name : ByteArray) (args : Int) (w : World) : Calls Tryd.prog 21 #[.agg #[.int .i64 4, .int .i64 tag, .int .i64 num, .string str, .bool is, .int .i64 code, .int .i64 row, .int .i64 col, .int .i64 top, .int .i64 left, .int .i64 bot, .int .i64 right, .int .i64 op, .string name, .int .i64 args]] w fun e w' => e = .returned (.int .i64 (cntN op)) ∧ Below w.heap.size w w' := by
  by_cases h1 : op = 1
  · have h := (by simp [cntN, h1] : cntN op = 1)
    rw [h]; subst h1; clear h
    go_enter Tryd.func21, Tryd.ntmps21
    go_wp2
    all_goals go_ret
    all_goals exact ⟨rfl, by with_reducible (repeat' first | assumption | exact Below.refl _ _ | refine Below.drew ?_ | refine bdrewN ?_ _ | refine Below.setCell ?_ (by first | exact Nat.le_refl _ | (simp; done) | (simp; omega) | omega) _ | refine Below.alloc ?_ (by first | exact Nat.le_refl _ | (simp; done) | (simp; omega) | omega) _)⟩
  by_cases h2 : op = 2
  · have h := (by simp [cntN, h2] : cntN op = 1)
    rw [h]; subst h2; clear h
    go_enter Tryd.func21, Tryd.ntmps21
    go_wp2
    all_goals go_ret
    all_goals exact ⟨rfl, by with_reducible (repeat' first | assumption | exact Below.refl _ _ | refine Below.drew ?_ | refine bdrewN ?_ _ | refine Below.setCell ?_ (by first | exact Nat.le_refl _ | (simp; done) | (simp; omega) | omega) _ | refine Below.alloc ?_ (by first | exact Nat.le_refl _ | (simp; done) | (simp; omega) | omega) _)⟩
  have h : cntN op = 2 := by simp [cntN, h1, h2]
  rw [h]
  have b1 : (op == 1) = false := by simpa using h1
  have b2 : (op == 2) = false := by simpa using h2
  clear h h1 h2
  go_enter Tryd.func21, Tryd.ntmps21
  go_wp2
  all_goals go_ret
  all_goals exact ⟨rfl, by with_reducible (repeat' first | assumption | exact Below.refl _ _ | refine Below.drew ?_ | refine bdrewN ?_ _ | refine Below.setCell ?_ (by first | exact Nat.le_refl _ | (simp; done) | (simp; omega) | omega) _ | refine Below.alloc ?_ (by first | exact Nat.le_refl _ | (simp; done) | (simp; omega) | omega) _)⟩
set_option maxHeartbeats 1000000 in
theorem takX (kind : Int) (tag : Int) (num : Int) (str : ByteArray) (is : Bool) (code : Int) (row : Int) (col : Int) (top : Int) (left : Int) (bot : Int) (right : Int) (op : Int) (name : ByteArray) (args : Int) (w : World) (h4 : (kind == 4) = false) : Calls Tryd.prog 21 #[.agg #[.int .i64 kind, .int .i64 tag, .int .i64 num, .string str, .bool is, .int .i64 code, .int .i64 row, .int .i64 col, .int .i64 top, .int .i64 left, .int .i64 bot, .int .i64 right, .int .i64 op, .string name, .int .i64 args]] w fun e w' => e = .returned (.int .i64 args) ∧ Below w.heap.size w w' := by
  go_enter Tryd.func21, Tryd.ntmps21
  go_wp2
  all_goals go_ret
  all_goals exact ⟨rfl, by with_reducible (repeat' first | assumption | exact Below.refl _ _ | refine Below.drew ?_ | refine bdrewN ?_ _ | refine Below.setCell ?_ (by first | exact Nat.le_refl _ | (simp; done) | (simp; omega) | omega) _ | refine Below.alloc ?_ (by first | exact Nat.le_refl _ | (simp; done) | (simp; omega) | omega) _)⟩
theorem takI_any (n : Nd) (w : World) : Calls Tryd.prog 21 #[.agg n.cells] w fun e w' => e = .returned (.int .i64 (takI n)) ∧ Below w.heap.size w w' := by
  obtain ⟨kind, tag, num, str, is, code, row, col, top, left, bot, right, op, name, args⟩ := n
  show Calls Tryd.prog 21 #[.agg #[.int .i64 kind, .int .i64 tag, .int .i64 num, .string str, .bool is, .int .i64 code, .int .i64 row, .int .i64 col, .int .i64 top, .int .i64 left, .int .i64 bot, .int .i64 right, .int .i64 op, .string name, .int .i64 args]] w _
  by_cases h4 : kind = 4
  · subst h4
    exact tak4 tag num str is code row col top left bot right op name args w
  · have e : takI ⟨kind, tag, num, str, is, code, row, col, top, left, bot, right, op, name, args⟩ = args := by unfold takI; rw [if_neg h4]
    rw [e]; exact takX kind tag num str is code row col top left bot right op name args w (by simpa using h4)
end Go.Proofs.YtekpmdpmcbjkkaaDoor
