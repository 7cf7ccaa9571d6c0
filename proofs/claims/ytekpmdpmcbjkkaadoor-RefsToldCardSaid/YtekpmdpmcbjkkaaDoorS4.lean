/- The contracts of the document's takes, Level, within and part, in the words of the program's. New memory alone is made. The conditions (of part): at most 1024 things, none deeper than 4096; of an operation at most two; of what is neither an operation nor a call none; what is no operation has no Op. -/
import Derived.Test.YtekpmdpmcbjkkaaDoorN7
namespace Go.Proofs.YtekpmdpmcbjkkaaDoor
open Go.Shelf Go.RowKit
set_option linter.all false
def rtakI (n : Nd) : Int := if n.kind = 5 then n.args else if n.kind = 4 then cntN n.op else 0
set_option maxHeartbeats 1000000 in
theorem rtak5 (tag : Int) (num : Int) (str : ByteArray) (is : Bool) (code : Int) (row : Int) (col : Int) (top : Int) (left : Int) (bot : Int) (right : Int) (op : Int) (name : ByteArray) (args : Int) (w : World)  : Calls Tryd.prog 25 #[.agg #[.int .i64 5, .int .i64 tag, .int .i64 num, .string str, .bool is, .int .i64 code, .int .i64 row, .int .i64 col, .int .i64 top, .int .i64 left, .int .i64 bot, .int .i64 right, .int .i64 op, .string name, .int .i64 args]] w fun e w' => e = .returned (.int .i64 args) ∧ Below w.heap.size w w' := by
  go_enter Tryd.func25, Tryd.ntmps25
  go_wp2
  all_goals go_ret
  all_goals exact ⟨rfl, by with_reducible (repeat' first | assumption | exact Below.refl _ _ | refine Below.drew ?_ | refine bdrewN ?_ _ | refine Below.setCell ?_ (by first | exact Nat.le_refl _ | (simp; done) | (simp; omega) | omega) _ | refine Below.alloc ?_ (by first | exact Nat.le_refl _ | (simp; done) | (simp; omega) | omega) _)⟩
set_option maxHeartbeats 1000000 in
theorem rtak41 (tag : Int) (num : Int) (str : ByteArray) (is : Bool) (code : Int) (row : Int) (col : Int) (top : Int) (left : Int) (bot : Int) (right : Int) (op : Int) (name : ByteArray) (args : Int) (w : World) (h : (op == 1) = true) : Calls Tryd.prog 25 #[.agg #[.int .i64 4, .int .i64 tag, .int .i64 num, .string str, .bool is, .int .i64 code, .int .i64 row, .int .i64 col, .int .i64 top, .int .i64 left, .int .i64 bot, .int .i64 right, .int .i64 op, .string name, .int .i64 args]] w fun e w' => e = .returned (.int .i64 1) ∧ Below w.heap.size w w' := by
  go_enter Tryd.func25, Tryd.ntmps25
  go_wp2
  all_goals go_ret
  all_goals exact ⟨rfl, by with_reducible (repeat' first | assumption | exact Below.refl _ _ | refine Below.drew ?_ | refine bdrewN ?_ _ | refine Below.setCell ?_ (by first | exact Nat.le_refl _ | (simp; done) | (simp; omega) | omega) _ | refine Below.alloc ?_ (by first | exact Nat.le_refl _ | (simp; done) | (simp; omega) | omega) _)⟩
set_option maxHeartbeats 1000000 in
theorem rtak42 (tag : Int) (num : Int) (str : ByteArray) (is : Bool) (code : Int) (row : Int) (col : Int) (top : Int) (left : Int) (bot : Int) (right : Int) (op : Int) (name : ByteArray) (args : Int) (w : World) (h1 : (op == 1) = false) (h : (op == 2) = true) : Calls Tryd.prog 25 #[.agg #[.int .i64 4, .int .i64 tag, .int .i64 num, .string str, .bool is, .int .i64 code, .int .i64 row, .int .i64 col, .int .i64 top, .int .i64 left, .int .i64 bot, .int .i64 right, .int .i64 op, .string name, .int .i64 args]] w fun e w' => e = .returned (.int .i64 1) ∧ Below w.heap.size w w' := by
  go_enter Tryd.func25, Tryd.ntmps25
  go_wp2
  all_goals go_ret
  all_goals exact ⟨rfl, by with_reducible (repeat' first | assumption | exact Below.refl _ _ | refine Below.drew ?_ | refine bdrewN ?_ _ | refine Below.setCell ?_ (by first | exact Nat.le_refl _ | (simp; done) | (simp; omega) | omega) _ | refine Below.alloc ?_ (by first | exact Nat.le_refl _ | (simp; done) | (simp; omega) | omega) _)⟩
set_option maxHeartbeats 1000000 in
theorem rtak4x (tag : Int) (num : Int) (str : ByteArray) (is : Bool) (code : Int) (row : Int) (col : Int) (top : Int) (left : Int) (bot : Int) (right : Int) (op : Int) (name : ByteArray) (args : Int) (w : World) (h1 : (op == 1) = false) (h2 : (op == 2) = false) : Calls Tryd.prog 25 #[.agg #[.int .i64 4, .int .i64 tag, .int .i64 num, .string str, .bool is, .int .i64 code, .int .i64 row, .int .i64 col, .int .i64 top, .int .i64 left, .int .i64 bot, .int .i64 right, .int .i64 op, .string name, .int .i64 args]] w fun e w' => e = .returned (.int .i64 2) ∧ Below w.heap.size w w' := by
  go_enter Tryd.func25, Tryd.ntmps25
  go_wp2
  all_goals go_ret
  all_goals exact ⟨rfl, by with_reducible (repeat' first | assumption | exact Below.refl _ _ | refine Below.drew ?_ | refine bdrewN ?_ _ | refine Below.setCell ?_ (by first | exact Nat.le_refl _ | (simp; done) | (simp; omega) | omega) _ | refine Below.alloc ?_ (by first | exact Nat.le_refl _ | (simp; done) | (simp; omega) | omega) _)⟩
set_option maxHeartbeats 1000000 in
theorem rtakx (kind : Int) (tag : Int) (num : Int) (str : ByteArray) (is : Bool) (code : Int) (row : Int) (col : Int) (top : Int) (left : Int) (bot : Int) (right : Int) (op : Int) (name : ByteArray) (args : Int) (w : World) (h5 : (kind == 5) = false) (h4 : (kind == 4) = false) : Calls Tryd.prog 25 #[.agg #[.int .i64 kind, .int .i64 tag, .int .i64 num, .string str, .bool is, .int .i64 code, .int .i64 row, .int .i64 col, .int .i64 top, .int .i64 left, .int .i64 bot, .int .i64 right, .int .i64 op, .string name, .int .i64 args]] w fun e w' => e = .returned (.int .i64 0) ∧ Below w.heap.size w w' := by
  go_enter Tryd.func25, Tryd.ntmps25
  go_wp2
  all_goals go_ret
  all_goals exact ⟨rfl, by with_reducible (repeat' first | assumption | exact Below.refl _ _ | refine Below.drew ?_ | refine bdrewN ?_ _ | refine Below.setCell ?_ (by first | exact Nat.le_refl _ | (simp; done) | (simp; omega) | omega) _ | refine Below.alloc ?_ (by first | exact Nat.le_refl _ | (simp; done) | (simp; omega) | omega) _)⟩
theorem rtak_any (n : Nd) (w : World) : Calls Tryd.prog 25 #[.agg n.cells] w fun e w' => e = .returned (.int .i64 (rtakI n)) ∧ Below w.heap.size w w' := by
  obtain ⟨kind, tag, num, str, is, code, row, col, top, left, bot, right, op, name, args⟩ := n
  show Calls Tryd.prog 25 #[.agg #[.int .i64 kind, .int .i64 tag, .int .i64 num, .string str, .bool is, .int .i64 code, .int .i64 row, .int .i64 col, .int .i64 top, .int .i64 left, .int .i64 bot, .int .i64 right, .int .i64 op, .string name, .int .i64 args]] w _
  unfold rtakI
  by_cases h5 : kind = 5
  · subst h5; exact rtak5 tag num str is code row col top left bot right op name args w
  by_cases h4 : kind = 4
  · subst h4
    show Calls _ _ _ _ fun e w' => e = .returned (.int .i64 ((cntN op : Nat) : Int)) ∧ _
    unfold cntN
    by_cases h1 : op = 1
    · rw [if_pos (.inl h1)]; exact rtak41 tag num str is code row col top left bot right op name args w (by simpa using h1)
    by_cases h2 : op = 2
    · rw [if_pos (.inr h2)]; exact rtak42 tag num str is code row col top left bot right op name args w (by simpa using h1) (by simpa using h2)
    rw [if_neg (by omega)]; exact rtak4x tag num str is code row col top left bot right op name args w (by simpa using h1) (by simpa using h2)
  dsimp only
  rw [if_neg h5, if_neg h4]
  exact rtakx kind tag num str is code row col top left bot right op name args w (by simpa using h5) (by simpa using h4)
theorem rtak_may {n : Nd} (h : mayN n = true) : rtakI n = takI n := by
  have hm := may_args h
  unfold rtakI
  by_cases h5 : n.kind = 5
  · rw [if_pos h5]; unfold takI; rw [if_neg (by omega)]
  by_cases h4 : n.kind = 4
  · rw [if_neg h5, if_pos h4]; unfold takI; rw [if_pos h4]
  rw [if_neg h5, if_neg h4, hm.2.2.1 h4 h5]
theorem rlev_1 (w : World) : Calls Tryd.prog 37 #[.int .i64 1] w fun e w' => e = .returned (.int .i64 5) ∧ Below w.heap.size w w' := by
  go_enter Tryd.func37, Tryd.ntmps37
  go_wp2
  all_goals go_ret
  all_goals exact ⟨rfl, Below.refl _ _⟩
theorem rlev_2 (w : World) : Calls Tryd.prog 37 #[.int .i64 2] w fun e w' => e = .returned (.int .i64 6) ∧ Below w.heap.size w w' := by
  go_enter Tryd.func37, Tryd.ntmps37
  go_wp2
  all_goals go_ret
  all_goals exact ⟨rfl, Below.refl _ _⟩
theorem rlev_3 (w : World) : Calls Tryd.prog 37 #[.int .i64 3] w fun e w' => e = .returned (.int .i64 4) ∧ Below w.heap.size w w' := by
  go_enter Tryd.func37, Tryd.ntmps37
  go_wp2
  all_goals go_ret
  all_goals exact ⟨rfl, Below.refl _ _⟩
theorem rlev_4 (w : World) : Calls Tryd.prog 37 #[.int .i64 4] w fun e w' => e = .returned (.int .i64 4) ∧ Below w.heap.size w w' := by
  go_enter Tryd.func37, Tryd.ntmps37
  go_wp2
  all_goals go_ret
  all_goals exact ⟨rfl, Below.refl _ _⟩
theorem rlev_5 (w : World) : Calls Tryd.prog 37 #[.int .i64 5] w fun e w' => e = .returned (.int .i64 3) ∧ Below w.heap.size w w' := by
  go_enter Tryd.func37, Tryd.ntmps37
  go_wp2
  all_goals go_ret
  all_goals exact ⟨rfl, Below.refl _ _⟩
theorem rlev_6 (w : World) : Calls Tryd.prog 37 #[.int .i64 6] w fun e w' => e = .returned (.int .i64 3) ∧ Below w.heap.size w w' := by
  go_enter Tryd.func37, Tryd.ntmps37
  go_wp2
  all_goals go_ret
  all_goals exact ⟨rfl, Below.refl _ _⟩
theorem rlev_7 (w : World) : Calls Tryd.prog 37 #[.int .i64 7] w fun e w' => e = .returned (.int .i64 2) ∧ Below w.heap.size w w' := by
  go_enter Tryd.func37, Tryd.ntmps37
  go_wp2
  all_goals go_ret
  all_goals exact ⟨rfl, Below.refl _ _⟩
theorem rlev_8 (w : World) : Calls Tryd.prog 37 #[.int .i64 8] w fun e w' => e = .returned (.int .i64 1) ∧ Below w.heap.size w w' := by
  go_enter Tryd.func37, Tryd.ntmps37
  go_wp2
  all_goals go_ret
  all_goals exact ⟨rfl, Below.refl _ _⟩
theorem rlev_9 (w : World) : Calls Tryd.prog 37 #[.int .i64 9] w fun e w' => e = .returned (.int .i64 1) ∧ Below w.heap.size w w' := by
  go_enter Tryd.func37, Tryd.ntmps37
  go_wp2
  all_goals go_ret
  all_goals exact ⟨rfl, Below.refl _ _⟩
theorem rlev_10 (w : World) : Calls Tryd.prog 37 #[.int .i64 10] w fun e w' => e = .returned (.int .i64 1) ∧ Below w.heap.size w w' := by
  go_enter Tryd.func37, Tryd.ntmps37
  go_wp2
  all_goals go_ret
  all_goals exact ⟨rfl, Below.refl _ _⟩
theorem rlev_11 (w : World) : Calls Tryd.prog 37 #[.int .i64 11] w fun e w' => e = .returned (.int .i64 1) ∧ Below w.heap.size w w' := by
  go_enter Tryd.func37, Tryd.ntmps37
  go_wp2
  all_goals go_ret
  all_goals exact ⟨rfl, Below.refl _ _⟩
theorem rlev_12 (w : World) : Calls Tryd.prog 37 #[.int .i64 12] w fun e w' => e = .returned (.int .i64 1) ∧ Below w.heap.size w w' := by
  go_enter Tryd.func37, Tryd.ntmps37
  go_wp2
  all_goals go_ret
  all_goals exact ⟨rfl, Below.refl _ _⟩
theorem rlev_13 (w : World) : Calls Tryd.prog 37 #[.int .i64 13] w fun e w' => e = .returned (.int .i64 1) ∧ Below w.heap.size w w' := by
  go_enter Tryd.func37, Tryd.ntmps37
  go_wp2
  all_goals go_ret
  all_goals exact ⟨rfl, Below.refl _ _⟩
theorem rlevel_any (op : Int) (w : World) (h1 : 1 ≤ op) (h2 : op ≤ 13) : Calls Tryd.prog 37 #[.int .i64 op] w fun e w' => e = .returned (.int .i64 (levI op)) ∧ Below w.heap.size w w' := by
  obtain rfl | rfl | rfl | rfl | rfl | rfl | rfl | rfl | rfl | rfl | rfl | rfl | rfl : op = 1 ∨ op = 2 ∨ op = 3 ∨ op = 4 ∨ op = 5 ∨ op = 6 ∨ op = 7 ∨ op = 8 ∨ op = 9 ∨ op = 10 ∨ op = 11 ∨ op = 12 ∨ op = 13 := by omega
  · exact rlev_1 w
  · exact rlev_2 w
  · exact rlev_3 w
  · exact rlev_4 w
  · exact rlev_5 w
  · exact rlev_6 w
  · exact rlev_7 w
  · exact rlev_8 w
  · exact rlev_9 w
  · exact rlev_10 w
  · exact rlev_11 w
  · exact rlev_12 w
  · exact rlev_13 w
def Th.pcells (t : Th) : Array Value := #[.int .i64 t.dep, .int .i64 t.lev, .bool t.many]
set_option maxHeartbeats 1000000 in
theorem within_y (d : Nat) (lv least : Int) (m : Bool) (w : World) (hd : d ≤ 100000) (h : lv < least) : Calls Tryd.prog 38 #[.agg #[.int .i64 (d : Nat), .int .i64 lv, .bool m], .int .i64 least] w fun e w' => e = .returned (.int .i64 ((d : Int) + 1)) ∧ Below w.heap.size w w' := by
  go_enter Tryd.func38, Tryd.ntmps38
  go_wp2
  all_goals go_ret
  all_goals exact ⟨rfl, by with_reducible (repeat' first | assumption | exact Below.refl _ _ | refine Below.drew ?_ | refine bdrewN ?_ _ | refine Below.setCell ?_ (by first | exact Nat.le_refl _ | (simp; done) | (simp; omega) | omega) _ | refine Below.alloc ?_ (by first | exact Nat.le_refl _ | (simp; done) | (simp; omega) | omega) _)⟩
set_option maxHeartbeats 1000000 in
theorem within_n (d : Nat) (lv least : Int) (m : Bool) (w : World) (hd : d ≤ 100000) (h : ¬ lv < least) : Calls Tryd.prog 38 #[.agg #[.int .i64 (d : Nat), .int .i64 lv, .bool m], .int .i64 least] w fun e w' => e = .returned (.int .i64 (d : Nat)) ∧ Below w.heap.size w w' := by
  go_enter Tryd.func38, Tryd.ntmps38
  go_wp2
  all_goals go_ret
  all_goals exact ⟨rfl, by with_reducible (repeat' first | assumption | exact Below.refl _ _ | refine Below.drew ?_ | refine bdrewN ?_ _ | refine Below.setCell ?_ (by first | exact Nat.le_refl _ | (simp; done) | (simp; omega) | omega) _ | refine Below.alloc ?_ (by first | exact Nat.le_refl _ | (simp; done) | (simp; omega) | omega) _)⟩
theorem within_at (op : Int) (i : Nat) (t : Th) (w : World) (hi : i < 2) (hd : t.dep ≤ 100000) : Calls Tryd.prog 38 #[.agg #[.int .i64 t.dep, .int .i64 t.lev, .bool t.many], .int .i64 (levI op + (i : Int))] w fun e w' => e = .returned (.int .i64 (bump op true i t : Nat)) ∧ Below w.heap.size w w' := by
  by_cases h : t.lev < levI op + (i : Int)
  · have e : inBr op i t.lev = true := by
      unfold inBr
      by_cases q : t.lev < levI op
      · simp [q]
      · have e1 : t.lev = levI op := by omega
        have e2 : (0 : Int) < i := by omega
        have e3 : 0 < i := by omega
        simp [e1, e3]
    rw [bump_t e]
    have := within_y t.dep t.lev (levI op + (i : Int)) t.many w hd h
    simpa using this
  · have e : inBr op i t.lev = false := by
      unfold inBr
      have q : ¬ t.lev < levI op := by omega
      have q2 : ¬ ((0 : Int) < i ∧ t.lev = levI op) := by omega
      by_cases z : 0 < i
      · have : ¬ t.lev = levI op := fun h2 => q2 ⟨by omega, h2⟩
        simp [q, this]
      · simp [q, z]
    rw [bump_f e]
    exact within_n t.dep t.lev (levI op + (i : Int)) t.many w hd h
end Go.Proofs.YtekpmdpmcbjkkaaDoor
