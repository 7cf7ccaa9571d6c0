/- The contract of ParseRect of package addr: of every text the rectangle whose name it is, and whether it is one. New memory alone is made. No condition but that the text is no longer than a text may be. -/
import Derived.Test.YtaamphdihmghhaaGreatDoorQP2
import Derived.Test.YtaamphdihmghhaaGreatDoorQPC
import Derived.Test.YtaamphdihmghhaaGreatDoorQA2
namespace Go.Proofs.YtaamphdihmghhaaGreatDoor
open Go.RowKit
set_option linter.all false
/-- What is read out of a text as a rectangle. -/
def qB (s : ByteArray) : Bool := pB (cutA s) && (pB (cutB s) && mayR (pR (cutA s)) (pC (cutA s)) (pR (cutB s)) (pC (cutB s)))
def qT (s : ByteArray) : Int := if qB s then pR (cutA s) else 0
def qL (s : ByteArray) : Int := if qB s then pC (cutA s) else 0
def qO (s : ByteArray) : Int := if qB s then pR (cutB s) else 0
def qR (s : ByteArray) : Int := if qB s then pC (cutB s) else 0
theorem qN {s : ByteArray} (h : qB s = false) : qT s = 0 ∧ qL s = 0 ∧ qO s = 0 ∧ qR s = 0 := by simp [qT, qL, qO, qR, h]
theorem qS {s : ByteArray} (h : qB s = true) : qT s = pR (cutA s) ∧ qL s = pC (cutA s) ∧ qO s = pR (cutB s) ∧ qR s = pC (cutB s) := by simp [qT, qL, qO, qR, h]
set_option maxHeartbeats 2000000 in
theorem prect1 (s : ByteArray) (w : World) (hs : s.size ≤ maxLen) (h1 : pB (cutA s) = false) : Calls Tryz.prog 76 #[.string s] w fun e w' => e = .returned (.tuple #[(.agg #[.int .i64 (0), .int .i64 (0), .int .i64 (0), .int .i64 (0)]), .bool false]) ∧ Below w.heap.size w w' := by
  go_enter Tryz.func76, Tryz.ntmps76
  go_wp2_with (go_at_call 66; refine (cut_bel s hs _).mono ?_; rintro e w0 ⟨rfl, hb⟩; have hB0 : Below w.heap.size w w0 := bup (by with_reducible (repeat' first | assumption | exact Below.refl _ _ | refine Below.drew ?_ | refine Below.setCell ?_ (by first | exact Nat.le_refl _ | (simp; done) | (simp; omega) | omega) _ | refine Below.alloc ?_ (by first | exact Nat.le_refl _ | (simp; done) | (simp; omega) | omega) _)) hb; have o0 : Own w0 (w.heap.size) #[.int .i64 (0), .int .i64 (0), .int .i64 (0), .int .i64 (0)] := Own.keep (by with_reducible (repeat' first | assumption | refine Own.drew ?_ | (refine Own.at ?_; first | rfl | (simp; done)) | refine Own.past ?_ _)) hb; have c0 := o0.cell; have f0 := o0.fro; have l0 := o0.lt)
  all_goals go_at_call 77
  all_goals refine (parse_any _ _).mono ?_
  all_goals rintro e w1 ⟨rfl, hb⟩
  all_goals have hB1 : Below w.heap.size w w1 := bup (by with_reducible (repeat' first | assumption | exact Below.refl _ _ | refine Below.drew ?_ | refine Below.setCell ?_ (by first | exact Nat.le_refl _ | (simp; done) | (simp; omega) | omega) _ | refine Below.alloc ?_ (by first | exact Nat.le_refl _ | (simp; done) | (simp; omega) | omega) _)) hb
  all_goals have o0 : Own w1 (w.heap.size) #[.int .i64 (0), .int .i64 (0), .int .i64 (0), .int .i64 (0)] := Own.keep (by with_reducible (repeat' first | assumption | refine Own.drew ?_ | (refine Own.at ?_; first | rfl | (simp; done)) | refine Own.past ?_ _)) hb
  all_goals have c0 := o0.cell
  all_goals have f0 := o0.fro
  all_goals have l0 := o0.lt
  all_goals go_wp2_with fail
  all_goals go_at_call 77
  all_goals refine (parse_any _ _).mono ?_
  all_goals rintro e w2 ⟨rfl, hb⟩
  all_goals have hB2 : Below w.heap.size w w2 := bup (by with_reducible (repeat' first | assumption | exact Below.refl _ _ | refine Below.drew ?_ | refine Below.setCell ?_ (by first | exact Nat.le_refl _ | (simp; done) | (simp; omega) | omega) _ | refine Below.alloc ?_ (by first | exact Nat.le_refl _ | (simp; done) | (simp; omega) | omega) _)) hb
  all_goals have o0 : Own w2 (w.heap.size) #[.int .i64 (0), .int .i64 (0), .int .i64 (0), .int .i64 (0)] := Own.keep (by with_reducible (repeat' first | assumption | refine Own.drew ?_ | (refine Own.at ?_; first | rfl | (simp; done)) | refine Own.past ?_ _)) hb
  all_goals have c0 := o0.cell
  all_goals have f0 := o0.fro
  all_goals have l0 := o0.lt
  all_goals have o1 : Own w2 (w1.heap.size) #[.int .i64 (pR (cutA s)), .int .i64 (pC (cutA s))] := Own.keep (by with_reducible (repeat' first | assumption | refine Own.drew ?_ | (refine Own.at ?_; first | rfl | (simp; done)) | refine Own.past ?_ _)) hb
  all_goals have c1 := o1.cell
  all_goals have f1 := o1.fro
  all_goals have l1 := o1.lt
  all_goals go_wp2_with (go_at_call 90; refine (mayR_any _ _ _ _ _).mono ?_; rintro e w3 ⟨rfl, hb⟩; have hB3 : Below w.heap.size w w3 := bup (by with_reducible (repeat' first | assumption | exact Below.refl _ _ | refine Below.drew ?_ | refine Below.setCell ?_ (by first | exact Nat.le_refl _ | (simp; done) | (simp; omega) | omega) _ | refine Below.alloc ?_ (by first | exact Nat.le_refl _ | (simp; done) | (simp; omega) | omega) _)) hb; have o0 : Own w3 (w.heap.size) #[.int .i64 (0), .int .i64 (0), .int .i64 (0), .int .i64 (0)] := Own.keep (by with_reducible (repeat' first | assumption | refine Own.drew ?_ | (refine Own.at ?_; first | rfl | (simp; done)) | refine Own.past ?_ _)) hb; have c0 := o0.cell; have f0 := o0.fro; have l0 := o0.lt; have o1 : Own w3 (w2.heap.size + 1) #[.int .i64 (pR (cutA s)), .int .i64 (pC (cutA s)), .int .i64 (pR (cutB s)), .int .i64 (pC (cutB s))] := Own.keep (by with_reducible (repeat' first | assumption | refine Own.drew ?_ | (refine Own.at ?_; first | rfl | (simp; done)) | refine Own.past ?_ _)) hb; have c1 := o1.cell; have f1 := o1.fro; have l1 := o1.lt)
  all_goals exact bodyPost_ret (v := (.tuple #[(.agg #[.int .i64 (0), .int .i64 (0), .int .i64 (0), .int .i64 (0)]), .bool false])) (by simp [results, Tryz.results76, go_sem, c0, f0, l0]) rfl ⟨rfl, by with_reducible (repeat' first | assumption | exact Below.refl _ _ | refine Below.drew ?_ | refine Below.setCell ?_ (by first | exact Nat.le_refl _ | (simp; done) | (simp; omega) | omega) _ | refine Below.alloc ?_ (by first | exact Nat.le_refl _ | (simp; done) | (simp; omega) | omega) _)⟩
set_option maxHeartbeats 2000000 in
theorem prect2 (s : ByteArray) (w : World) (hs : s.size ≤ maxLen) (h1 : pB (cutA s) = true) (h2 : pB (cutB s) = false) : Calls Tryz.prog 76 #[.string s] w fun e w' => e = .returned (.tuple #[(.agg #[.int .i64 (0), .int .i64 (0), .int .i64 (0), .int .i64 (0)]), .bool false]) ∧ Below w.heap.size w w' := by
  go_enter Tryz.func76, Tryz.ntmps76
  go_wp2_with (go_at_call 66; refine (cut_bel s hs _).mono ?_; rintro e w0 ⟨rfl, hb⟩; have hB0 : Below w.heap.size w w0 := bup (by with_reducible (repeat' first | assumption | exact Below.refl _ _ | refine Below.drew ?_ | refine Below.setCell ?_ (by first | exact Nat.le_refl _ | (simp; done) | (simp; omega) | omega) _ | refine Below.alloc ?_ (by first | exact Nat.le_refl _ | (simp; done) | (simp; omega) | omega) _)) hb; have o0 : Own w0 (w.heap.size) #[.int .i64 (0), .int .i64 (0), .int .i64 (0), .int .i64 (0)] := Own.keep (by with_reducible (repeat' first | assumption | refine Own.drew ?_ | (refine Own.at ?_; first | rfl | (simp; done)) | refine Own.past ?_ _)) hb; have c0 := o0.cell; have f0 := o0.fro; have l0 := o0.lt)
  all_goals go_at_call 77
  all_goals refine (parse_any _ _).mono ?_
  all_goals rintro e w1 ⟨rfl, hb⟩
  all_goals have hB1 : Below w.heap.size w w1 := bup (by with_reducible (repeat' first | assumption | exact Below.refl _ _ | refine Below.drew ?_ | refine Below.setCell ?_ (by first | exact Nat.le_refl _ | (simp; done) | (simp; omega) | omega) _ | refine Below.alloc ?_ (by first | exact Nat.le_refl _ | (simp; done) | (simp; omega) | omega) _)) hb
  all_goals have o0 : Own w1 (w.heap.size) #[.int .i64 (0), .int .i64 (0), .int .i64 (0), .int .i64 (0)] := Own.keep (by with_reducible (repeat' first | assumption | refine Own.drew ?_ | (refine Own.at ?_; first | rfl | (simp; done)) | refine Own.past ?_ _)) hb
  all_goals have c0 := o0.cell
  all_goals have f0 := o0.fro
  all_goals have l0 := o0.lt
  all_goals go_wp2_with fail
  all_goals go_at_call 77
  all_goals refine (parse_any _ _).mono ?_
  all_goals rintro e w2 ⟨rfl, hb⟩
  all_goals have hB2 : Below w.heap.size w w2 := bup (by with_reducible (repeat' first | assumption | exact Below.refl _ _ | refine Below.drew ?_ | refine Below.setCell ?_ (by first | exact Nat.le_refl _ | (simp; done) | (simp; omega) | omega) _ | refine Below.alloc ?_ (by first | exact Nat.le_refl _ | (simp; done) | (simp; omega) | omega) _)) hb
  all_goals have o0 : Own w2 (w.heap.size) #[.int .i64 (0), .int .i64 (0), .int .i64 (0), .int .i64 (0)] := Own.keep (by with_reducible (repeat' first | assumption | refine Own.drew ?_ | (refine Own.at ?_; first | rfl | (simp; done)) | refine Own.past ?_ _)) hb
  all_goals have c0 := o0.cell
  all_goals have f0 := o0.fro
  all_goals have l0 := o0.lt
  all_goals have o1 : Own w2 (w1.heap.size) #[.int .i64 (pR (cutA s)), .int .i64 (pC (cutA s))] := Own.keep (by with_reducible (repeat' first | assumption | refine Own.drew ?_ | (refine Own.at ?_; first | rfl | (simp; done)) | refine Own.past ?_ _)) hb
  all_goals have c1 := o1.cell
  all_goals have f1 := o1.fro
  all_goals have l1 := o1.lt
  all_goals go_wp2_with (go_at_call 90; refine (mayR_any _ _ _ _ _).mono ?_; rintro e w3 ⟨rfl, hb⟩; have hB3 : Below w.heap.size w w3 := bup (by with_reducible (repeat' first | assumption | exact Below.refl _ _ | refine Below.drew ?_ | refine Below.setCell ?_ (by first | exact Nat.le_refl _ | (simp; done) | (simp; omega) | omega) _ | refine Below.alloc ?_ (by first | exact Nat.le_refl _ | (simp; done) | (simp; omega) | omega) _)) hb; have o0 : Own w3 (w.heap.size) #[.int .i64 (0), .int .i64 (0), .int .i64 (0), .int .i64 (0)] := Own.keep (by with_reducible (repeat' first | assumption | refine Own.drew ?_ | (refine Own.at ?_; first | rfl | (simp; done)) | refine Own.past ?_ _)) hb; have c0 := o0.cell; have f0 := o0.fro; have l0 := o0.lt; have o1 : Own w3 (w2.heap.size + 1) #[.int .i64 (pR (cutA s)), .int .i64 (pC (cutA s)), .int .i64 (pR (cutB s)), .int .i64 (pC (cutB s))] := Own.keep (by with_reducible (repeat' first | assumption | refine Own.drew ?_ | (refine Own.at ?_; first | rfl | (simp; done)) | refine Own.past ?_ _)) hb; have c1 := o1.cell; have f1 := o1.fro; have l1 := o1.lt)
  all_goals exact bodyPost_ret (v := (.tuple #[(.agg #[.int .i64 (0), .int .i64 (0), .int .i64 (0), .int .i64 (0)]), .bool false])) (by simp [results, Tryz.results76, go_sem, c0, f0, l0]) rfl ⟨rfl, by with_reducible (repeat' first | assumption | exact Below.refl _ _ | refine Below.drew ?_ | refine Below.setCell ?_ (by first | exact Nat.le_refl _ | (simp; done) | (simp; omega) | omega) _ | refine Below.alloc ?_ (by first | exact Nat.le_refl _ | (simp; done) | (simp; omega) | omega) _)⟩
set_option maxHeartbeats 2000000 in
theorem prect3 (s : ByteArray) (w : World) (hs : s.size ≤ maxLen) (h1 : pB (cutA s) = true) (h2 : pB (cutB s) = true) (h3 : mayR (pR (cutA s)) (pC (cutA s)) (pR (cutB s)) (pC (cutB s)) = false) : Calls Tryz.prog 76 #[.string s] w fun e w' => e = .returned (.tuple #[(.agg #[.int .i64 (0), .int .i64 (0), .int .i64 (0), .int .i64 (0)]), .bool false]) ∧ Below w.heap.size w w' := by
  go_enter Tryz.func76, Tryz.ntmps76
  go_wp2_with (go_at_call 66; refine (cut_bel s hs _).mono ?_; rintro e w0 ⟨rfl, hb⟩; have hB0 : Below w.heap.size w w0 := bup (by with_reducible (repeat' first | assumption | exact Below.refl _ _ | refine Below.drew ?_ | refine Below.setCell ?_ (by first | exact Nat.le_refl _ | (simp; done) | (simp; omega) | omega) _ | refine Below.alloc ?_ (by first | exact Nat.le_refl _ | (simp; done) | (simp; omega) | omega) _)) hb; have o0 : Own w0 (w.heap.size) #[.int .i64 (0), .int .i64 (0), .int .i64 (0), .int .i64 (0)] := Own.keep (by with_reducible (repeat' first | assumption | refine Own.drew ?_ | (refine Own.at ?_; first | rfl | (simp; done)) | refine Own.past ?_ _)) hb; have c0 := o0.cell; have f0 := o0.fro; have l0 := o0.lt)
  all_goals go_at_call 77
  all_goals refine (parse_any _ _).mono ?_
  all_goals rintro e w1 ⟨rfl, hb⟩
  all_goals have hB1 : Below w.heap.size w w1 := bup (by with_reducible (repeat' first | assumption | exact Below.refl _ _ | refine Below.drew ?_ | refine Below.setCell ?_ (by first | exact Nat.le_refl _ | (simp; done) | (simp; omega) | omega) _ | refine Below.alloc ?_ (by first | exact Nat.le_refl _ | (simp; done) | (simp; omega) | omega) _)) hb
  all_goals have o0 : Own w1 (w.heap.size) #[.int .i64 (0), .int .i64 (0), .int .i64 (0), .int .i64 (0)] := Own.keep (by with_reducible (repeat' first | assumption | refine Own.drew ?_ | (refine Own.at ?_; first | rfl | (simp; done)) | refine Own.past ?_ _)) hb
  all_goals have c0 := o0.cell
  all_goals have f0 := o0.fro
  all_goals have l0 := o0.lt
  all_goals go_wp2_with fail
  all_goals go_at_call 77
  all_goals refine (parse_any _ _).mono ?_
  all_goals rintro e w2 ⟨rfl, hb⟩
  all_goals have hB2 : Below w.heap.size w w2 := bup (by with_reducible (repeat' first | assumption | exact Below.refl _ _ | refine Below.drew ?_ | refine Below.setCell ?_ (by first | exact Nat.le_refl _ | (simp; done) | (simp; omega) | omega) _ | refine Below.alloc ?_ (by first | exact Nat.le_refl _ | (simp; done) | (simp; omega) | omega) _)) hb
  all_goals have o0 : Own w2 (w.heap.size) #[.int .i64 (0), .int .i64 (0), .int .i64 (0), .int .i64 (0)] := Own.keep (by with_reducible (repeat' first | assumption | refine Own.drew ?_ | (refine Own.at ?_; first | rfl | (simp; done)) | refine Own.past ?_ _)) hb
  all_goals have c0 := o0.cell
  all_goals have f0 := o0.fro
  all_goals have l0 := o0.lt
  all_goals have o1 : Own w2 (w1.heap.size) #[.int .i64 (pR (cutA s)), .int .i64 (pC (cutA s))] := Own.keep (by with_reducible (repeat' first | assumption | refine Own.drew ?_ | (refine Own.at ?_; first | rfl | (simp; done)) | refine Own.past ?_ _)) hb
  all_goals have c1 := o1.cell
  all_goals have f1 := o1.fro
  all_goals have l1 := o1.lt
  all_goals go_wp2_with (go_at_call 90; refine (mayR_any _ _ _ _ _).mono ?_; rintro e w3 ⟨rfl, hb⟩; have hB3 : Below w.heap.size w w3 := bup (by with_reducible (repeat' first | assumption | exact Below.refl _ _ | refine Below.drew ?_ | refine Below.setCell ?_ (by first | exact Nat.le_refl _ | (simp; done) | (simp; omega) | omega) _ | refine Below.alloc ?_ (by first | exact Nat.le_refl _ | (simp; done) | (simp; omega) | omega) _)) hb; have o0 : Own w3 (w.heap.size) #[.int .i64 (0), .int .i64 (0), .int .i64 (0), .int .i64 (0)] := Own.keep (by with_reducible (repeat' first | assumption | refine Own.drew ?_ | (refine Own.at ?_; first | rfl | (simp; done)) | refine Own.past ?_ _)) hb; have c0 := o0.cell; have f0 := o0.fro; have l0 := o0.lt; have o1 : Own w3 (w2.heap.size + 1) #[.int .i64 (pR (cutA s)), .int .i64 (pC (cutA s)), .int .i64 (pR (cutB s)), .int .i64 (pC (cutB s))] := Own.keep (by with_reducible (repeat' first | assumption | refine Own.drew ?_ | (refine Own.at ?_; first | rfl | (simp; done)) | refine Own.past ?_ _)) hb; have c1 := o1.cell; have f1 := o1.fro; have l1 := o1.lt)
  all_goals exact bodyPost_ret (v := (.tuple #[(.agg #[.int .i64 (0), .int .i64 (0), .int .i64 (0), .int .i64 (0)]), .bool false])) (by simp [results, Tryz.results76, go_sem, c0, f0, l0]) rfl ⟨rfl, by with_reducible (repeat' first | assumption | exact Below.refl _ _ | refine Below.drew ?_ | refine Below.setCell ?_ (by first | exact Nat.le_refl _ | (simp; done) | (simp; omega) | omega) _ | refine Below.alloc ?_ (by first | exact Nat.le_refl _ | (simp; done) | (simp; omega) | omega) _)⟩
set_option maxHeartbeats 2000000 in
theorem prect4 (s : ByteArray) (w : World) (hs : s.size ≤ maxLen) (h1 : pB (cutA s) = true) (h2 : pB (cutB s) = true) (h3 : mayR (pR (cutA s)) (pC (cutA s)) (pR (cutB s)) (pC (cutB s)) = true) : Calls Tryz.prog 76 #[.string s] w fun e w' => e = .returned (.tuple #[.agg #[.int .i64 (pR (cutA s)), .int .i64 (pC (cutA s)), .int .i64 (pR (cutB s)), .int .i64 (pC (cutB s))], .bool true]) ∧ Below w.heap.size w w' := by
  go_enter Tryz.func76, Tryz.ntmps76
  go_wp2_with (go_at_call 66; refine (cut_bel s hs _).mono ?_; rintro e w0 ⟨rfl, hb⟩; have hB0 : Below w.heap.size w w0 := bup (by with_reducible (repeat' first | assumption | exact Below.refl _ _ | refine Below.drew ?_ | refine Below.setCell ?_ (by first | exact Nat.le_refl _ | (simp; done) | (simp; omega) | omega) _ | refine Below.alloc ?_ (by first | exact Nat.le_refl _ | (simp; done) | (simp; omega) | omega) _)) hb; have o0 : Own w0 (w.heap.size) #[.int .i64 (0), .int .i64 (0), .int .i64 (0), .int .i64 (0)] := Own.keep (by with_reducible (repeat' first | assumption | refine Own.drew ?_ | (refine Own.at ?_; first | rfl | (simp; done)) | refine Own.past ?_ _)) hb; have c0 := o0.cell; have f0 := o0.fro; have l0 := o0.lt)
  all_goals go_at_call 77
  all_goals refine (parse_any _ _).mono ?_
  all_goals rintro e w1 ⟨rfl, hb⟩
  all_goals have hB1 : Below w.heap.size w w1 := bup (by with_reducible (repeat' first | assumption | exact Below.refl _ _ | refine Below.drew ?_ | refine Below.setCell ?_ (by first | exact Nat.le_refl _ | (simp; done) | (simp; omega) | omega) _ | refine Below.alloc ?_ (by first | exact Nat.le_refl _ | (simp; done) | (simp; omega) | omega) _)) hb
  all_goals have o0 : Own w1 (w.heap.size) #[.int .i64 (0), .int .i64 (0), .int .i64 (0), .int .i64 (0)] := Own.keep (by with_reducible (repeat' first | assumption | refine Own.drew ?_ | (refine Own.at ?_; first | rfl | (simp; done)) | refine Own.past ?_ _)) hb
  all_goals have c0 := o0.cell
  all_goals have f0 := o0.fro
  all_goals have l0 := o0.lt
  all_goals go_wp2_with fail
  all_goals go_at_call 77
  all_goals refine (parse_any _ _).mono ?_
  all_goals rintro e w2 ⟨rfl, hb⟩
  all_goals have hB2 : Below w.heap.size w w2 := bup (by with_reducible (repeat' first | assumption | exact Below.refl _ _ | refine Below.drew ?_ | refine Below.setCell ?_ (by first | exact Nat.le_refl _ | (simp; done) | (simp; omega) | omega) _ | refine Below.alloc ?_ (by first | exact Nat.le_refl _ | (simp; done) | (simp; omega) | omega) _)) hb
  all_goals have o0 : Own w2 (w.heap.size) #[.int .i64 (0), .int .i64 (0), .int .i64 (0), .int .i64 (0)] := Own.keep (by with_reducible (repeat' first | assumption | refine Own.drew ?_ | (refine Own.at ?_; first | rfl | (simp; done)) | refine Own.past ?_ _)) hb
  all_goals have c0 := o0.cell
  all_goals have f0 := o0.fro
  all_goals have l0 := o0.lt
  all_goals have o1 : Own w2 (w1.heap.size) #[.int .i64 (pR (cutA s)), .int .i64 (pC (cutA s))] := Own.keep (by with_reducible (repeat' first | assumption | refine Own.drew ?_ | (refine Own.at ?_; first | rfl | (simp; done)) | refine Own.past ?_ _)) hb
  all_goals have c1 := o1.cell
  all_goals have f1 := o1.fro
  all_goals have l1 := o1.lt
  all_goals go_wp2_with (go_at_call 90; refine (mayR_any _ _ _ _ _).mono ?_; rintro e w3 ⟨rfl, hb⟩; have hB3 : Below w.heap.size w w3 := bup (by with_reducible (repeat' first | assumption | exact Below.refl _ _ | refine Below.drew ?_ | refine Below.setCell ?_ (by first | exact Nat.le_refl _ | (simp; done) | (simp; omega) | omega) _ | refine Below.alloc ?_ (by first | exact Nat.le_refl _ | (simp; done) | (simp; omega) | omega) _)) hb; have o0 : Own w3 (w.heap.size) #[.int .i64 (0), .int .i64 (0), .int .i64 (0), .int .i64 (0)] := Own.keep (by with_reducible (repeat' first | assumption | refine Own.drew ?_ | (refine Own.at ?_; first | rfl | (simp; done)) | refine Own.past ?_ _)) hb; have c0 := o0.cell; have f0 := o0.fro; have l0 := o0.lt; have o1 : Own w3 (w2.heap.size + 1) #[.int .i64 (pR (cutA s)), .int .i64 (pC (cutA s)), .int .i64 (pR (cutB s)), .int .i64 (pC (cutB s))] := Own.keep (by with_reducible (repeat' first | assumption | refine Own.drew ?_ | (refine Own.at ?_; first | rfl | (simp; done)) | refine Own.past ?_ _)) hb; have c1 := o1.cell; have f1 := o1.fro; have l1 := o1.lt)
  all_goals exact bodyPost_ret (v := (.tuple #[.agg #[.int .i64 (pR (cutA s)), .int .i64 (pC (cutA s)), .int .i64 (pR (cutB s)), .int .i64 (pC (cutB s))], .bool true])) (by simp [results, Tryz.results76, go_sem, c0, f0, l0]) rfl ⟨rfl, by with_reducible (repeat' first | assumption | exact Below.refl _ _ | refine Below.drew ?_ | refine Below.setCell ?_ (by first | exact Nat.le_refl _ | (simp; done) | (simp; omega) | omega) _ | refine Below.alloc ?_ (by first | exact Nat.le_refl _ | (simp; done) | (simp; omega) | omega) _)⟩
theorem prect_any (s : ByteArray) (w : World) (hs : s.size ≤ maxLen) : Calls Tryz.prog 76 #[.string s] w fun e w' => e = .returned (.tuple #[(.agg #[.int .i64 (qT s), .int .i64 (qL s), .int .i64 (qO s), .int .i64 (qR s)]), .bool (qB s)]) ∧ Below w.heap.size w w' := by
  cases h1 : pB (cutA s)
  · have e : qB s = false := by simp [qB, h1]
    have k := qN e
    rw [k.1, k.2.1, k.2.2.1, k.2.2.2, e]; exact prect1 s w hs h1
  cases h2 : pB (cutB s)
  · have e : qB s = false := by simp [qB, h2]
    have k := qN e
    rw [k.1, k.2.1, k.2.2.1, k.2.2.2, e]; exact prect2 s w hs h1 h2
  cases h3 : mayR (pR (cutA s)) (pC (cutA s)) (pR (cutB s)) (pC (cutB s))
  · have e : qB s = false := by simp [qB, h3]
    have k := qN e
    rw [k.1, k.2.1, k.2.2.1, k.2.2.2, e]; exact prect3 s w hs h1 h2 h3
  · have e : qB s = true := by simp [qB, h1, h2, h3]
    have k := qS e
    rw [k.1, k.2.1, k.2.2.1, k.2.2.2, e]; exact prect4 s w hs h1 h2 h3
end Go.Proofs.YtaamphdihmghhaaGreatDoor
