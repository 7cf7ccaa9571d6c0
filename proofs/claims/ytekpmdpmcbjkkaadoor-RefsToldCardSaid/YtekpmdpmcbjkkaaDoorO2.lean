/- The contracts of refs's reference and of the document's Ref: of every node its reference, or none. New memory alone is made. The condition (of the first): of a node that is a cell: that the cell may be. -/
import Derived.Test.YtekpmdpmcbjkkaaDoorO1
namespace Go.Proofs.YtekpmdpmcbjkkaaDoor
open Go.Shelf Go.RowKit
set_option linter.all false
/-- A node's reference. -/
def refN (n : Nd) : Option Rf := if n.kind = 2 then some ⟨false, n.row, n.col, n.row, n.col⟩ else if n.kind = 3 then some ⟨true, n.top, n.left, n.bot, n.right⟩ else none
def refOut (r : Option Rf) : Value := match r with
  | some x => .tuple #[.agg x.cells, .bool true]
  | none => .tuple #[.agg rf0.cells, .bool false]
theorem span_same (a b : Int) (w : World) (h : mayC a b = true) : Calls Tryd.prog 17 #[(.agg #[.int .i64 (a), .int .i64 (b)]), (.agg #[.int .i64 (a), .int .i64 (b)])] w fun e w' => e = .returned (.agg #[.int .i64 a, .int .i64 b, .int .i64 a, .int .i64 b]) ∧ Below w.heap.size w w' := by
  have h3 := span3 a b a b w h h
  rw [lsI_l a a (by omega), lsI_l b b (by omega), mrI_l a a (by omega), mrI_l b b (by omega)] at h3
  exact h3
set_option maxHeartbeats 1000000 in
theorem refe2 (tag : Int) (num : Int) (str : ByteArray) (is : Bool) (code : Int) (row : Int) (col : Int) (top : Int) (left : Int) (bot : Int) (right : Int) (op : Int) (name : ByteArray) (args : Int) (w : World) (h : mayC row col = true) : Calls Tryd.prog 11 #[.agg #[.int .i64 2, .int .i64 tag, .int .i64 num, .string str, .bool is, .int .i64 code, .int .i64 row, .int .i64 col, .int .i64 top, .int .i64 left, .int .i64 bot, .int .i64 right, .int .i64 op, .string name, .int .i64 args]] w fun e w' => e = .returned (.tuple #[.agg #[.bool false, .int .i64 row, .int .i64 col, .int .i64 row, .int .i64 col], .bool true]) ∧ Below w.heap.size w w' := by
  go_enter Tryd.func11, Tryd.ntmps11
  go_wp2_with (go_at_call 17; refine (span_same row col _ h).mono ?_; rintro e w1 ⟨rfl, hb⟩; have hB : Below w.heap.size w w1 := bup (by with_reducible (repeat' first | assumption | exact Below.refl _ _ | refine Below.drew ?_ | refine bdrewN ?_ _ | refine Below.setCell ?_ (by first | exact Nat.le_refl _ | (simp; done) | (simp; omega) | omega) _ | refine Below.alloc ?_ (by first | exact Nat.le_refl _ | (simp; done) | (simp; omega) | omega) _)) hb; have o0 : Own w1 (w.heap.size) #[.int .i64 2, .int .i64 tag, .int .i64 num, .string str, .bool is, .int .i64 code, .int .i64 row, .int .i64 col, .int .i64 top, .int .i64 left, .int .i64 bot, .int .i64 right, .int .i64 op, .string name, .int .i64 args] := Own.keep (by with_reducible (repeat' first | assumption | refine Own.drew ?_ | refine Own.drewN ?_ _ | (refine Own.at ?_; first | rfl | (simp; done)) | refine Own.past ?_ _ | refine Own.aside ?_ (by first | (simp; done) | (simp; omega) | omega) _)) hb; have c0 := o0.cell; have f0 := o0.fro; have l0 := o0.lt; have o1 : Own w1 (w.heap.size + 1) #[.bool false, .int .i64 0, .int .i64 0, .int .i64 0, .int .i64 0] := Own.keep (by with_reducible (repeat' first | assumption | refine Own.drew ?_ | refine Own.drewN ?_ _ | (refine Own.at ?_; first | rfl | (simp; done)) | refine Own.past ?_ _ | refine Own.aside ?_ (by first | (simp; done) | (simp; omega) | omega) _)) hb; have c1 := o1.cell; have f1 := o1.fro; have l1 := o1.lt)
  all_goals exact bodyPost_ret (v := .tuple #[.agg #[.bool false, .int .i64 row, .int .i64 col, .int .i64 row, .int .i64 col], .bool true]) (by simp [results, Tryd.results11, go_sem, *]) rfl ⟨rfl, by with_reducible (repeat' first | assumption | exact Below.refl _ _ | refine Below.drew ?_ | refine bdrewN ?_ _ | refine Below.setCell ?_ (by first | exact Nat.le_refl _ | (simp; done) | (simp; omega) | omega) _ | refine Below.alloc ?_ (by first | exact Nat.le_refl _ | (simp; done) | (simp; omega) | omega) _)⟩
set_option maxHeartbeats 1000000 in
theorem refe3 (tag : Int) (num : Int) (str : ByteArray) (is : Bool) (code : Int) (row : Int) (col : Int) (top : Int) (left : Int) (bot : Int) (right : Int) (op : Int) (name : ByteArray) (args : Int) (w : World)  : Calls Tryd.prog 11 #[.agg #[.int .i64 3, .int .i64 tag, .int .i64 num, .string str, .bool is, .int .i64 code, .int .i64 row, .int .i64 col, .int .i64 top, .int .i64 left, .int .i64 bot, .int .i64 right, .int .i64 op, .string name, .int .i64 args]] w fun e w' => e = .returned (.tuple #[.agg #[.bool true, .int .i64 top, .int .i64 left, .int .i64 bot, .int .i64 right], .bool true]) ∧ Below w.heap.size w w' := by
  go_enter Tryd.func11, Tryd.ntmps11
  go_wp2
  all_goals exact bodyPost_ret (v := .tuple #[.agg #[.bool true, .int .i64 top, .int .i64 left, .int .i64 bot, .int .i64 right], .bool true]) (by simp [results, Tryd.results11, go_sem, *]) rfl ⟨rfl, by with_reducible (repeat' first | assumption | exact Below.refl _ _ | refine Below.drew ?_ | refine bdrewN ?_ _ | refine Below.setCell ?_ (by first | exact Nat.le_refl _ | (simp; done) | (simp; omega) | omega) _ | refine Below.alloc ?_ (by first | exact Nat.le_refl _ | (simp; done) | (simp; omega) | omega) _)⟩
set_option maxHeartbeats 1000000 in
theorem refex (kind : Int) (tag : Int) (num : Int) (str : ByteArray) (is : Bool) (code : Int) (row : Int) (col : Int) (top : Int) (left : Int) (bot : Int) (right : Int) (op : Int) (name : ByteArray) (args : Int) (w : World) (h2 : (kind == 2) = false) (h3 : (kind == 3) = false) : Calls Tryd.prog 11 #[.agg #[.int .i64 kind, .int .i64 tag, .int .i64 num, .string str, .bool is, .int .i64 code, .int .i64 row, .int .i64 col, .int .i64 top, .int .i64 left, .int .i64 bot, .int .i64 right, .int .i64 op, .string name, .int .i64 args]] w fun e w' => e = .returned (.tuple #[.agg #[.bool false, .int .i64 0, .int .i64 0, .int .i64 0, .int .i64 0], .bool false]) ∧ Below w.heap.size w w' := by
  go_enter Tryd.func11, Tryd.ntmps11
  go_wp2
  all_goals exact bodyPost_ret (v := .tuple #[.agg #[.bool false, .int .i64 0, .int .i64 0, .int .i64 0, .int .i64 0], .bool false]) (by simp [results, Tryd.results11, go_sem, *]) rfl ⟨rfl, by with_reducible (repeat' first | assumption | exact Below.refl _ _ | refine Below.drew ?_ | refine bdrewN ?_ _ | refine Below.setCell ?_ (by first | exact Nat.le_refl _ | (simp; done) | (simp; omega) | omega) _ | refine Below.alloc ?_ (by first | exact Nat.le_refl _ | (simp; done) | (simp; omega) | omega) _)⟩
set_option maxHeartbeats 1000000 in
theorem rref2 (tag : Int) (num : Int) (str : ByteArray) (is : Bool) (code : Int) (row : Int) (col : Int) (top : Int) (left : Int) (bot : Int) (right : Int) (op : Int) (name : ByteArray) (args : Int) (w : World)  : Calls Tryd.prog 13 #[.agg #[.int .i64 2, .int .i64 tag, .int .i64 num, .string str, .bool is, .int .i64 code, .int .i64 row, .int .i64 col, .int .i64 top, .int .i64 left, .int .i64 bot, .int .i64 right, .int .i64 op, .string name, .int .i64 args]] w fun e w' => e = .returned (.tuple #[.agg #[.bool false, .int .i64 row, .int .i64 col, .int .i64 row, .int .i64 col], .bool true]) ∧ Below w.heap.size w w' := by
  go_enter Tryd.func13, Tryd.ntmps13
  go_wp2
  all_goals exact bodyPost_ret (v := .tuple #[.agg #[.bool false, .int .i64 row, .int .i64 col, .int .i64 row, .int .i64 col], .bool true]) (by simp [results, Tryd.results13, go_sem, *]) rfl ⟨rfl, by with_reducible (repeat' first | assumption | exact Below.refl _ _ | refine Below.drew ?_ | refine bdrewN ?_ _ | refine Below.setCell ?_ (by first | exact Nat.le_refl _ | (simp; done) | (simp; omega) | omega) _ | refine Below.alloc ?_ (by first | exact Nat.le_refl _ | (simp; done) | (simp; omega) | omega) _)⟩
set_option maxHeartbeats 1000000 in
theorem rref3 (tag : Int) (num : Int) (str : ByteArray) (is : Bool) (code : Int) (row : Int) (col : Int) (top : Int) (left : Int) (bot : Int) (right : Int) (op : Int) (name : ByteArray) (args : Int) (w : World)  : Calls Tryd.prog 13 #[.agg #[.int .i64 3, .int .i64 tag, .int .i64 num, .string str, .bool is, .int .i64 code, .int .i64 row, .int .i64 col, .int .i64 top, .int .i64 left, .int .i64 bot, .int .i64 right, .int .i64 op, .string name, .int .i64 args]] w fun e w' => e = .returned (.tuple #[.agg #[.bool true, .int .i64 top, .int .i64 left, .int .i64 bot, .int .i64 right], .bool true]) ∧ Below w.heap.size w w' := by
  go_enter Tryd.func13, Tryd.ntmps13
  go_wp2
  all_goals exact bodyPost_ret (v := .tuple #[.agg #[.bool true, .int .i64 top, .int .i64 left, .int .i64 bot, .int .i64 right], .bool true]) (by simp [results, Tryd.results13, go_sem, *]) rfl ⟨rfl, by with_reducible (repeat' first | assumption | exact Below.refl _ _ | refine Below.drew ?_ | refine bdrewN ?_ _ | refine Below.setCell ?_ (by first | exact Nat.le_refl _ | (simp; done) | (simp; omega) | omega) _ | refine Below.alloc ?_ (by first | exact Nat.le_refl _ | (simp; done) | (simp; omega) | omega) _)⟩
set_option maxHeartbeats 1000000 in
theorem rrefx (kind : Int) (tag : Int) (num : Int) (str : ByteArray) (is : Bool) (code : Int) (row : Int) (col : Int) (top : Int) (left : Int) (bot : Int) (right : Int) (op : Int) (name : ByteArray) (args : Int) (w : World) (h2 : (kind == 2) = false) (h3 : (kind == 3) = false) : Calls Tryd.prog 13 #[.agg #[.int .i64 kind, .int .i64 tag, .int .i64 num, .string str, .bool is, .int .i64 code, .int .i64 row, .int .i64 col, .int .i64 top, .int .i64 left, .int .i64 bot, .int .i64 right, .int .i64 op, .string name, .int .i64 args]] w fun e w' => e = .returned (.tuple #[.agg #[.bool false, .int .i64 0, .int .i64 0, .int .i64 0, .int .i64 0], .bool false]) ∧ Below w.heap.size w w' := by
  go_enter Tryd.func13, Tryd.ntmps13
  go_wp2
  all_goals exact bodyPost_ret (v := .tuple #[.agg #[.bool false, .int .i64 0, .int .i64 0, .int .i64 0, .int .i64 0], .bool false]) (by simp [results, Tryd.results13, go_sem, *]) rfl ⟨rfl, by with_reducible (repeat' first | assumption | exact Below.refl _ _ | refine Below.drew ?_ | refine bdrewN ?_ _ | refine Below.setCell ?_ (by first | exact Nat.le_refl _ | (simp; done) | (simp; omega) | omega) _ | refine Below.alloc ?_ (by first | exact Nat.le_refl _ | (simp; done) | (simp; omega) | omega) _)⟩
theorem ref_any (n : Nd) (w : World) (h : n.kind = 2 → mayC n.row n.col = true) : Calls Tryd.prog 11 #[.agg n.cells] w fun e w' => e = .returned (refOut (refN n)) ∧ Below w.heap.size w w' := by
  obtain ⟨kind, tag, num, str, is, code, row, col, top, left, bot, right, op, name, args⟩ := n
  show Calls Tryd.prog 11 #[.agg #[.int .i64 kind, .int .i64 tag, .int .i64 num, .string str, .bool is, .int .i64 code, .int .i64 row, .int .i64 col, .int .i64 top, .int .i64 left, .int .i64 bot, .int .i64 right, .int .i64 op, .string name, .int .i64 args]] w _
  by_cases h2 : kind = 2
  · subst h2; exact refe2 tag num str is code row col top left bot right op name args w (h rfl)
  by_cases h3 : kind = 3
  · subst h3; exact refe3 tag num str is code row col top left bot right op name args w
  have e : refN ⟨kind, tag, num, str, is, code, row, col, top, left, bot, right, op, name, args⟩ = none := by unfold refN; rw [if_neg h2, if_neg h3]
  rw [e]; exact refex kind tag num str is code row col top left bot right op name args w (by simpa using h2) (by simpa using h3)
theorem rref_any (n : Nd) (w : World) : Calls Tryd.prog 13 #[.agg n.cells] w fun e w' => e = .returned (refOut (refN n)) ∧ Below w.heap.size w w' := by
  obtain ⟨kind, tag, num, str, is, code, row, col, top, left, bot, right, op, name, args⟩ := n
  show Calls Tryd.prog 13 #[.agg #[.int .i64 kind, .int .i64 tag, .int .i64 num, .string str, .bool is, .int .i64 code, .int .i64 row, .int .i64 col, .int .i64 top, .int .i64 left, .int .i64 bot, .int .i64 right, .int .i64 op, .string name, .int .i64 args]] w _
  by_cases h2 : kind = 2
  · subst h2; exact rref2 tag num str is code row col top left bot right op name args w
  by_cases h3 : kind = 3
  · subst h3; exact rref3 tag num str is code row col top left bot right op name args w
  have e : refN ⟨kind, tag, num, str, is, code, row, col, top, left, bot, right, op, name, args⟩ = none := by unfold refN; rw [if_neg h2, if_neg h3]
  rw [e]; exact rrefx kind tag num str is code row col top left bot right op name args w (by simpa using h2) (by simpa using h3)
theorem may_ref {n : Nd} {r : Rf} (hm : mayN n = true) (h : refN n = some r) : r.wf := by
  unfold mayN at hm
  unfold refN at h
  by_cases h2 : n.kind = 2
  · rw [if_pos h2] at h
    rw [if_neg (by omega), if_pos h2, Bool.and_eq_true] at hm
    have := mayC_is hm.2
    cases h
    unfold Rf.wf I64
    dsimp only
    omega
  · rw [if_neg h2] at h
    by_cases h3 : n.kind = 3
    · rw [if_pos h3] at h
      rw [if_neg (by omega), if_neg h2, if_pos h3, Bool.and_eq_true] at hm
      have := mayR_is hm.2
      cases h
      unfold Rf.wf I64
      dsimp only
      omega
    · rw [if_neg h3] at h; cases h
theorem may_cell {n : Nd} (hm : mayN n = true) (h2 : n.kind = 2) : mayC n.row n.col = true := by
  unfold mayN at hm
  rw [if_neg (by omega), if_pos h2, Bool.and_eq_true] at hm
  exact hm.2
end Go.Proofs.YtekpmdpmcbjkkaaDoor
