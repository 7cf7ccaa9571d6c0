/- The contracts of package ops, and of refs's mayStand, mayName, may and takes: of every argument a plain function's answer. New memory alone is made. No condition but that a value's number is an int64. -/
import Derived.Test.YtekpmdpmcbjkkaaDoorN0
import Derived.Test.YtekpmdpmcbjkkaaDoorShelfX
import Derived.Deep.Light
namespace Go.Proofs.YtekpmdpmcbjkkaaDoor
open Go.Shelf Go.RowKit
set_option linter.all false
def bs (l : List UInt8) : ByteArray := ⟨l.toArray⟩
theorem bs_list (l : List UInt8) : (bs l).data.toList = l := by simp [bs]
theorem toL (s : ByteArray) : s.toList = s.data.toList := ByteArray.toList_eq s
theorem bs_toL (l : List UInt8) : (bs l).toList = l := by rw [toL, bs_list]
theorem size_len (s : ByteArray) : s.size = s.data.toList.length := by simp
/-- An operation that may be. -/
def opOk (op : Int) : Bool := decide (1 ≤ op ∧ op ≤ 13)
theorem opMay_any (op : Int) (w : World) : Calls Tryd.prog 29 #[.int .i64 op] w fun e w' => e = .returned (.bool (opOk op)) ∧ Below w.heap.size w w' := by
  go_enter Tryd.func29, Tryd.ntmps29
  go_wp2
  all_goals go_ret
  all_goals refine ⟨retB ?_, Below.refl _ _⟩
  all_goals (unfold opOk; simp; try omega)
/-- How many things an operation works on. -/
def cntN (op : Int) : Nat := if op = 1 ∨ op = 2 then 1 else 2
/-- How an operation binds. -/
def levI (op : Int) : Int := if 8 ≤ op ∧ op ≤ 13 then 1 else if op = 7 then 2 else if op = 5 ∨ op = 6 then 3 else if op = 3 ∨ op = 4 then 4 else if op = 1 then 5 else if op = 2 then 6 else 7
theorem levI_is (op : Int) : 1 ≤ levI op ∧ levI op ≤ 7 := by unfold levI; (repeat' split) <;> omega
theorem lev_far (op : Int) (w : World) (h : op < 1 ∨ 13 < op) : Calls Tryd.prog 32 #[.int .i64 op] w fun e w' => e = .returned (.int .i64 7) ∧ Below w.heap.size w w' := by
  have b1 : (op == 1) = false := by simp; omega
  have b2 : (op == 2) = false := by simp; omega
  have b3 : (op == 3) = false := by simp; omega
  have b4 : (op == 4) = false := by simp; omega
  have b5 : (op == 5) = false := by simp; omega
  have b6 : (op == 6) = false := by simp; omega
  have b7 : (op == 7) = false := by simp; omega
  have b8 : (op == 8) = false := by simp; omega
  have b9 : (op == 9) = false := by simp; omega
  have b10 : (op == 10) = false := by simp; omega
  have b11 : (op == 11) = false := by simp; omega
  have b12 : (op == 12) = false := by simp; omega
  have b13 : (op == 13) = false := by simp; omega
  clear h
  go_enter Tryd.func32, Tryd.ntmps32
  go_wp2
  all_goals go_ret
  all_goals exact ⟨rfl, Below.refl _ _⟩
theorem lev_1 (w : World) : Calls Tryd.prog 32 #[.int .i64 1] w fun e w' => e = .returned (.int .i64 5) ∧ Below w.heap.size w w' := by
  go_enter Tryd.func32, Tryd.ntmps32
  go_wp2
  all_goals go_ret
  all_goals exact ⟨rfl, Below.refl _ _⟩
theorem lev_2 (w : World) : Calls Tryd.prog 32 #[.int .i64 2] w fun e w' => e = .returned (.int .i64 6) ∧ Below w.heap.size w w' := by
  go_enter Tryd.func32, Tryd.ntmps32
  go_wp2
  all_goals go_ret
  all_goals exact ⟨rfl, Below.refl _ _⟩
theorem lev_3 (w : World) : Calls Tryd.prog 32 #[.int .i64 3] w fun e w' => e = .returned (.int .i64 4) ∧ Below w.heap.size w w' := by
  go_enter Tryd.func32, Tryd.ntmps32
  go_wp2
  all_goals go_ret
  all_goals exact ⟨rfl, Below.refl _ _⟩
theorem lev_4 (w : World) : Calls Tryd.prog 32 #[.int .i64 4] w fun e w' => e = .returned (.int .i64 4) ∧ Below w.heap.size w w' := by
  go_enter Tryd.func32, Tryd.ntmps32
  go_wp2
  all_goals go_ret
  all_goals exact ⟨rfl, Below.refl _ _⟩
theorem lev_5 (w : World) : Calls Tryd.prog 32 #[.int .i64 5] w fun e w' => e = .returned (.int .i64 3) ∧ Below w.heap.size w w' := by
  go_enter Tryd.func32, Tryd.ntmps32
  go_wp2
  all_goals go_ret
  all_goals exact ⟨rfl, Below.refl _ _⟩
theorem lev_6 (w : World) : Calls Tryd.prog 32 #[.int .i64 6] w fun e w' => e = .returned (.int .i64 3) ∧ Below w.heap.size w w' := by
  go_enter Tryd.func32, Tryd.ntmps32
  go_wp2
  all_goals go_ret
  all_goals exact ⟨rfl, Below.refl _ _⟩
theorem lev_7 (w : World) : Calls Tryd.prog 32 #[.int .i64 7] w fun e w' => e = .returned (.int .i64 2) ∧ Below w.heap.size w w' := by
  go_enter Tryd.func32, Tryd.ntmps32
  go_wp2
  all_goals go_ret
  all_goals exact ⟨rfl, Below.refl _ _⟩
theorem lev_8 (w : World) : Calls Tryd.prog 32 #[.int .i64 8] w fun e w' => e = .returned (.int .i64 1) ∧ Below w.heap.size w w' := by
  go_enter Tryd.func32, Tryd.ntmps32
  go_wp2
  all_goals go_ret
  all_goals exact ⟨rfl, Below.refl _ _⟩
theorem lev_9 (w : World) : Calls Tryd.prog 32 #[.int .i64 9] w fun e w' => e = .returned (.int .i64 1) ∧ Below w.heap.size w w' := by
  go_enter Tryd.func32, Tryd.ntmps32
  go_wp2
  all_goals go_ret
  all_goals exact ⟨rfl, Below.refl _ _⟩
theorem lev_10 (w : World) : Calls Tryd.prog 32 #[.int .i64 10] w fun e w' => e = .returned (.int .i64 1) ∧ Below w.heap.size w w' := by
  go_enter Tryd.func32, Tryd.ntmps32
  go_wp2
  all_goals go_ret
  all_goals exact ⟨rfl, Below.refl _ _⟩
theorem lev_11 (w : World) : Calls Tryd.prog 32 #[.int .i64 11] w fun e w' => e = .returned (.int .i64 1) ∧ Below w.heap.size w w' := by
  go_enter Tryd.func32, Tryd.ntmps32
  go_wp2
  all_goals go_ret
  all_goals exact ⟨rfl, Below.refl _ _⟩
theorem lev_12 (w : World) : Calls Tryd.prog 32 #[.int .i64 12] w fun e w' => e = .returned (.int .i64 1) ∧ Below w.heap.size w w' := by
  go_enter Tryd.func32, Tryd.ntmps32
  go_wp2
  all_goals go_ret
  all_goals exact ⟨rfl, Below.refl _ _⟩
theorem lev_13 (w : World) : Calls Tryd.prog 32 #[.int .i64 13] w fun e w' => e = .returned (.int .i64 1) ∧ Below w.heap.size w w' := by
  go_enter Tryd.func32, Tryd.ntmps32
  go_wp2
  all_goals go_ret
  all_goals exact ⟨rfl, Below.refl _ _⟩
theorem level_any (op : Int) (w : World) : Calls Tryd.prog 32 #[.int .i64 op] w fun e w' => e = .returned (.int .i64 (levI op)) ∧ Below w.heap.size w w' := by
  by_cases h : op < 1 ∨ 13 < op
  · have e : levI op = 7 := by unfold levI; rw [if_neg (by omega), if_neg (by omega), if_neg (by omega), if_neg (by omega), if_neg (by omega), if_neg (by omega)]
    rw [e]; exact lev_far op w h
  obtain rfl | rfl | rfl | rfl | rfl | rfl | rfl | rfl | rfl | rfl | rfl | rfl | rfl : op = 1 ∨ op = 2 ∨ op = 3 ∨ op = 4 ∨ op = 5 ∨ op = 6 ∨ op = 7 ∨ op = 8 ∨ op = 9 ∨ op = 10 ∨ op = 11 ∨ op = 12 ∨ op = 13 := by omega
  · exact lev_1 w
  · exact lev_2 w
  · exact lev_3 w
  · exact lev_4 w
  · exact lev_5 w
  · exact lev_6 w
  · exact lev_7 w
  · exact lev_8 w
  · exact lev_9 w
  · exact lev_10 w
  · exact lev_11 w
  · exact lev_12 w
  · exact lev_13 w
/-- Whether what binds on a level must stand in brackets at a place of an operation. -/
def inBr (op place level : Int) : Bool := decide (level < levI op) || (decide (0 < place) && (level == levI op))
theorem inBr_any (op place level : Int) (w : World) : Calls Tryd.prog 31 #[.int .i64 op, .int .i64 place, .int .i64 level] w fun e w' => e = .returned (.bool (inBr op place level)) ∧ Below w.heap.size w w' := by
  unfold inBr
  have hL := fun w => level_any op w
  revert hL
  generalize levI op = lv
  intro hL
  by_cases h1 : level < lv
  · have d1 : decide (level < lv) = true := by simpa using h1
    rw [d1]
    go_enter Tryd.func31, Tryd.ntmps31
    go_wp2_with (go_at_call 32; refine (hL _).mono ?_; rintro e w1 ⟨rfl, hb⟩)
    all_goals go_ret
    all_goals exact ⟨rfl, by assumption⟩
  · have d1 : decide (level < lv) = false := by simpa using h1
    rw [d1]
    by_cases h2 : 0 < place
    · have d2 : decide (0 < place) = true := by simpa using h2
      rw [d2]
      go_enter Tryd.func31, Tryd.ntmps31
      go_wp2_with (go_at_call 32; refine (hL _).mono ?_; rintro e w1 ⟨rfl, hb⟩)
      all_goals go_ret
      all_goals exact ⟨retB (by simp), by assumption⟩
    · have d2 : decide (0 < place) = false := by simpa using h2
      rw [d2]
      go_enter Tryd.func31, Tryd.ntmps31
      go_wp2_with (go_at_call 32; refine (hL _).mono ?_; rintro e w1 ⟨rfl, hb⟩)
      all_goals go_ret
      all_goals exact ⟨rfl, by assumption⟩
/-- A value that may stand in a formula. -/
def standB (t n : Int) (s : ByteArray) (b : Bool) (c : Int) : Bool := Vv.mayB t n s b c && decide (t ≠ 0 ∧ 0 ≤ n ∧ c ≠ 1)
theorem mayB_num {t n : Int} {s : ByteArray} {b : Bool} {c : Int} (h : Vv.mayB t n s b c = true) (k : t ≠ 1) : n = 0 := by simp only [Vv.mayB, decide_eq_true_eq] at h; exact h.1 k
theorem mayB_code {t n : Int} {s : ByteArray} {b : Bool} {c : Int} (h : Vv.mayB t n s b c = true) (k : t ≠ 4) : c = 0 := by simp only [Vv.mayB, decide_eq_true_eq] at h; exact h.2.2.2.1 k
theorem stand_no (t n : Int) (s : ByteArray) (b : Bool) (c : Int) (w : World) (hn : Vv.I64 n) (hm : Vv.mayB t n s b c = false) : Calls Tryd.prog 27 #[.agg #[.int .i64 t, .int .i64 n, .string s, .bool b, .int .i64 c]] w fun e w' => e = .returned (.bool false) ∧ Below w.heap.size w w' := by
  have hV := fun w => Vv.mayV t n s b c w hn
  rw [hm] at hV
  go_enter Tryd.func27, Tryd.ntmps27
  go_wp2_with (go_at_call 39; refine (hV _).mono ?_; rintro e w1 ⟨rfl, hb⟩; have hB : Below w.heap.size w w1 := bup (by with_reducible (repeat' first | assumption | exact Below.refl _ _ | refine Below.drew ?_ | refine bdrewN ?_ _ | refine Below.setCell ?_ (by first | exact Nat.le_refl _ | (simp; done) | (simp; omega) | omega) _ | refine Below.alloc ?_ (by first | exact Nat.le_refl _ | (simp; done) | (simp; omega) | omega) _)) hb; have o0 : Own w1 (w.heap.size) #[.int .i64 t, .int .i64 n, .string s, .bool b, .int .i64 c] := Own.keep (by with_reducible (repeat' first | assumption | refine Own.drew ?_ | refine Own.drewN ?_ _ | (refine Own.at ?_; first | rfl | (simp; done)) | refine Own.past ?_ _ | refine Own.aside ?_ (by first | (simp; done) | (simp; omega) | omega) _)) hb; have c0 := o0.cell; have f0 := o0.fro; have l0 := o0.lt)
  all_goals go_ret
  all_goals exact ⟨by first | rfl | (apply retB; simp), by with_reducible (repeat' first | assumption | exact Below.refl _ _ | refine Below.drew ?_ | refine bdrewN ?_ _ | refine Below.setCell ?_ (by first | exact Nat.le_refl _ | (simp; done) | (simp; omega) | omega) _ | refine Below.alloc ?_ (by first | exact Nat.le_refl _ | (simp; done) | (simp; omega) | omega) _)⟩
theorem stand_0 (n : Int) (s : ByteArray) (b : Bool) (c : Int) (w : World) (hn : Vv.I64 n) (hm : Vv.mayB (0) n s b c = true) : Calls Tryd.prog 27 #[.agg #[.int .i64 0, .int .i64 n, .string s, .bool b, .int .i64 c]] w fun e w' => e = .returned (.bool false) ∧ Below w.heap.size w w' := by
  have hV := fun w => Vv.mayV (0) n s b c w hn
  rw [hm] at hV
  go_enter Tryd.func27, Tryd.ntmps27
  go_wp2_with (go_at_call 39; refine (hV _).mono ?_; rintro e w1 ⟨rfl, hb⟩; have hB : Below w.heap.size w w1 := bup (by with_reducible (repeat' first | assumption | exact Below.refl _ _ | refine Below.drew ?_ | refine bdrewN ?_ _ | refine Below.setCell ?_ (by first | exact Nat.le_refl _ | (simp; done) | (simp; omega) | omega) _ | refine Below.alloc ?_ (by first | exact Nat.le_refl _ | (simp; done) | (simp; omega) | omega) _)) hb; have o0 : Own w1 (w.heap.size) #[.int .i64 0, .int .i64 n, .string s, .bool b, .int .i64 c] := Own.keep (by with_reducible (repeat' first | assumption | refine Own.drew ?_ | refine Own.drewN ?_ _ | (refine Own.at ?_; first | rfl | (simp; done)) | refine Own.past ?_ _ | refine Own.aside ?_ (by first | (simp; done) | (simp; omega) | omega) _)) hb; have c0 := o0.cell; have f0 := o0.fro; have l0 := o0.lt)
  all_goals go_ret
  all_goals exact ⟨by first | rfl | (apply retB; simp), by with_reducible (repeat' first | assumption | exact Below.refl _ _ | refine Below.drew ?_ | refine bdrewN ?_ _ | refine Below.setCell ?_ (by first | exact Nat.le_refl _ | (simp; done) | (simp; omega) | omega) _ | refine Below.alloc ?_ (by first | exact Nat.le_refl _ | (simp; done) | (simp; omega) | omega) _)⟩
theorem stand_1 (n : Int) (s : ByteArray) (b : Bool) (c : Int) (w : World) (hn : Vv.I64 n) (hm : Vv.mayB (1) n s b c = true) : Calls Tryd.prog 27 #[.agg #[.int .i64 1, .int .i64 n, .string s, .bool b, .int .i64 c]] w fun e w' => e = .returned (.bool (decide (0 ≤ n))) ∧ Below w.heap.size w w' := by
  have hV := fun w => Vv.mayV (1) n s b c w hn
  rw [hm] at hV
  go_enter Tryd.func27, Tryd.ntmps27
  go_wp2_with (go_at_call 39; refine (hV _).mono ?_; rintro e w1 ⟨rfl, hb⟩; have hB : Below w.heap.size w w1 := bup (by with_reducible (repeat' first | assumption | exact Below.refl _ _ | refine Below.drew ?_ | refine bdrewN ?_ _ | refine Below.setCell ?_ (by first | exact Nat.le_refl _ | (simp; done) | (simp; omega) | omega) _ | refine Below.alloc ?_ (by first | exact Nat.le_refl _ | (simp; done) | (simp; omega) | omega) _)) hb; have o0 : Own w1 (w.heap.size) #[.int .i64 1, .int .i64 n, .string s, .bool b, .int .i64 c] := Own.keep (by with_reducible (repeat' first | assumption | refine Own.drew ?_ | refine Own.drewN ?_ _ | (refine Own.at ?_; first | rfl | (simp; done)) | refine Own.past ?_ _ | refine Own.aside ?_ (by first | (simp; done) | (simp; omega) | omega) _)) hb; have c0 := o0.cell; have f0 := o0.fro; have l0 := o0.lt)
  all_goals go_ret
  all_goals exact ⟨by first | rfl | (apply retB; simp), by with_reducible (repeat' first | assumption | exact Below.refl _ _ | refine Below.drew ?_ | refine bdrewN ?_ _ | refine Below.setCell ?_ (by first | exact Nat.le_refl _ | (simp; done) | (simp; omega) | omega) _ | refine Below.alloc ?_ (by first | exact Nat.le_refl _ | (simp; done) | (simp; omega) | omega) _)⟩
theorem stand_4 (n : Int) (s : ByteArray) (b : Bool) (c : Int) (w : World) (hn : Vv.I64 n) (hm : Vv.mayB (4) n s b c = true) : Calls Tryd.prog 27 #[.agg #[.int .i64 4, .int .i64 n, .string s, .bool b, .int .i64 c]] w fun e w' => e = .returned (.bool (c != 1)) ∧ Below w.heap.size w w' := by
  have hV := fun w => Vv.mayV (4) n s b c w hn
  rw [hm] at hV
  go_enter Tryd.func27, Tryd.ntmps27
  go_wp2_with (go_at_call 39; refine (hV _).mono ?_; rintro e w1 ⟨rfl, hb⟩; have hB : Below w.heap.size w w1 := bup (by with_reducible (repeat' first | assumption | exact Below.refl _ _ | refine Below.drew ?_ | refine bdrewN ?_ _ | refine Below.setCell ?_ (by first | exact Nat.le_refl _ | (simp; done) | (simp; omega) | omega) _ | refine Below.alloc ?_ (by first | exact Nat.le_refl _ | (simp; done) | (simp; omega) | omega) _)) hb; have o0 : Own w1 (w.heap.size) #[.int .i64 4, .int .i64 n, .string s, .bool b, .int .i64 c] := Own.keep (by with_reducible (repeat' first | assumption | refine Own.drew ?_ | refine Own.drewN ?_ _ | (refine Own.at ?_; first | rfl | (simp; done)) | refine Own.past ?_ _ | refine Own.aside ?_ (by first | (simp; done) | (simp; omega) | omega) _)) hb; have c0 := o0.cell; have f0 := o0.fro; have l0 := o0.lt)
  all_goals go_ret
  all_goals exact ⟨by first | rfl | (apply retB; simp), by with_reducible (repeat' first | assumption | exact Below.refl _ _ | refine Below.drew ?_ | refine bdrewN ?_ _ | refine Below.setCell ?_ (by first | exact Nat.le_refl _ | (simp; done) | (simp; omega) | omega) _ | refine Below.alloc ?_ (by first | exact Nat.le_refl _ | (simp; done) | (simp; omega) | omega) _)⟩
theorem stand_x (t n : Int) (s : ByteArray) (b : Bool) (c : Int) (w : World) (hn : Vv.I64 n) (hm : Vv.mayB t n s b c = true) (h0 : (t == 0) = false) (h1 : (t == 1) = false) (h4 : (t == 4) = false) : Calls Tryd.prog 27 #[.agg #[.int .i64 t, .int .i64 n, .string s, .bool b, .int .i64 c]] w fun e w' => e = .returned (.bool true) ∧ Below w.heap.size w w' := by
  have hV := fun w => Vv.mayV t n s b c w hn
  rw [hm] at hV
  go_enter Tryd.func27, Tryd.ntmps27
  go_wp2_with (go_at_call 39; refine (hV _).mono ?_; rintro e w1 ⟨rfl, hb⟩; have hB : Below w.heap.size w w1 := bup (by with_reducible (repeat' first | assumption | exact Below.refl _ _ | refine Below.drew ?_ | refine bdrewN ?_ _ | refine Below.setCell ?_ (by first | exact Nat.le_refl _ | (simp; done) | (simp; omega) | omega) _ | refine Below.alloc ?_ (by first | exact Nat.le_refl _ | (simp; done) | (simp; omega) | omega) _)) hb; have o0 : Own w1 (w.heap.size) #[.int .i64 t, .int .i64 n, .string s, .bool b, .int .i64 c] := Own.keep (by with_reducible (repeat' first | assumption | refine Own.drew ?_ | refine Own.drewN ?_ _ | (refine Own.at ?_; first | rfl | (simp; done)) | refine Own.past ?_ _ | refine Own.aside ?_ (by first | (simp; done) | (simp; omega) | omega) _)) hb; have c0 := o0.cell; have f0 := o0.fro; have l0 := o0.lt)
  all_goals go_ret
  all_goals exact ⟨by first | rfl | (apply retB; simp), by with_reducible (repeat' first | assumption | exact Below.refl _ _ | refine Below.drew ?_ | refine bdrewN ?_ _ | refine Below.setCell ?_ (by first | exact Nat.le_refl _ | (simp; done) | (simp; omega) | omega) _ | refine Below.alloc ?_ (by first | exact Nat.le_refl _ | (simp; done) | (simp; omega) | omega) _)⟩
theorem stand_any (t n : Int) (s : ByteArray) (b : Bool) (c : Int) (w : World) (hn : Vv.I64 n) : Calls Tryd.prog 27 #[.agg #[.int .i64 t, .int .i64 n, .string s, .bool b, .int .i64 c]] w fun e w' => e = .returned (.bool (standB t n s b c)) ∧ Below w.heap.size w w' := by
  cases hm : Vv.mayB t n s b c
  · have e : standB t n s b c = false := by simp [standB, hm]
    rw [e]; exact stand_no t n s b c w hn hm
  · have e0 : standB t n s b c = decide (t ≠ 0 ∧ 0 ≤ n ∧ c ≠ 1) := by simp [standB, hm]
    rw [e0]
    by_cases h0 : t = 0
    · subst h0
      have e : decide ((0 : Int) ≠ 0 ∧ 0 ≤ n ∧ c ≠ 1) = false := by simp
      rw [e]; exact stand_0 n s b c w hn hm
    by_cases h1 : t = 1
    · subst h1
      have hc := mayB_code hm (by decide)
      have e : decide ((1 : Int) ≠ 0 ∧ 0 ≤ n ∧ c ≠ 1) = decide (0 ≤ n) := by subst hc; simp
      rw [e]; exact stand_1 n s b c w hn hm
    by_cases h4 : t = 4
    · subst h4
      have hq := mayB_num hm (by decide)
      have e : decide ((4 : Int) ≠ 0 ∧ 0 ≤ n ∧ c ≠ 1) = (c != 1) := by subst hq; by_cases q : c = 1 <;> simp [q]
      rw [e]; exact stand_4 n s b c w hn hm
    have hq := mayB_num hm h1
    have hc := mayB_code hm h4
    have e : decide (t ≠ 0 ∧ 0 ≤ n ∧ c ≠ 1) = true := by subst hq; subst hc; simp [h0]
    rw [e]; exact stand_x t n s b c w hn hm (by simpa using h0) (by simpa using h1) (by simpa using h4)
def ltrs : ByteArray := ⟨#[65, 66, 67, 68, 69, 70, 71, 72, 73, 74, 75, 76, 77, 78, 79, 80, 81, 82, 83, 84, 85, 86, 87, 88, 89, 90]⟩
def inNm : ByteArray := ⟨#[65, 66, 67, 68, 69, 70, 71, 72, 73, 74, 75, 76, 77, 78, 79, 80, 81, 82, 83, 84, 85, 86, 87, 88, 89, 90, 48, 49, 50, 51, 52, 53, 54, 55, 56, 57, 95]⟩
def digs : ByteArray := ⟨#[48, 49, 50, 51, 52, 53, 54, 55, 56, 57]⟩
theorem ascii_all {l : List UInt8} (h : l.all (fun b => decide (b.toNat < 128)) = true) : ∀ (j : Nat) b, l[j]? = some b → b.toNat < 128 := fun j b hj => by
  have := List.all_eq_true.1 h b (List.mem_of_getElem? hj)
  simpa using this
theorem trimL (s these : ByteArray) (w : World) (hcs : these.size < 4294967281) (ha : ∀ (j : Nat) b, these.data.toList[j]? = some b → b.toNat < 128) :
    Calls Tryd.prog 41 #[.string s, .string these] w fun e w' => e = .returned (.string (bs (s.data.toList.dropWhile (these.data.toList.contains ·)))) ∧ Below w.heap.size w w' :=
  Any.strings_TrimLeft_laid Tryd.lays161 (by kernel_rfl) s these w hcs ha
/-- What stands behind the signs of a list at a text's begin. -/
def behind (s these : ByteArray) : ByteArray := bs (s.data.toList.dropWhile (these.data.toList.contains ·))
theorem tr1 (s : ByteArray) (w : World) : Calls Tryd.prog 41 #[.string s, .string ⟨#[65, 66, 67, 68, 69, 70, 71, 72, 73, 74, 75, 76, 77, 78, 79, 80, 81, 82, 83, 84, 85, 86, 87, 88, 89, 90]⟩] w fun e w' => e = .returned (.string (behind s ltrs)) ∧ Below w.heap.size w w' := trimL s ltrs w (by decide) (ascii_all (by decide))
theorem tr2 (s : ByteArray) (w : World) : Calls Tryd.prog 41 #[.string s, .string ⟨#[65, 66, 67, 68, 69, 70, 71, 72, 73, 74, 75, 76, 77, 78, 79, 80, 81, 82, 83, 84, 85, 86, 87, 88, 89, 90, 48, 49, 50, 51, 52, 53, 54, 55, 56, 57, 95]⟩] w fun e w' => e = .returned (.string (behind s inNm)) ∧ Below w.heap.size w w' := trimL s inNm w (by decide) (ascii_all (by decide))
theorem tr3 (s : ByteArray) (w : World) : Calls Tryd.prog 41 #[.string s, .string ⟨#[48, 49, 50, 51, 52, 53, 54, 55, 56, 57]⟩] w fun e w' => e = .returned (.string (behind s digs)) ∧ Below w.heap.size w w' := trimL s digs w (by decide) (ascii_all (by decide))
/-- A name that a call may have. -/
def nameOk (s : ByteArray) : Bool :=
  if ((behind s ltrs).toList == s.toList) = true then false else if 16 < s.size then false else if ((behind (behind s ltrs) inNm).toList == []) = false then false
  else if (s.toList == [84, 82, 85, 69]) = true then false else if (s.toList == [70, 65, 76, 83, 69]) = true then false
  else if ((behind s ltrs).toList == []) = true then true else !((behind (behind s ltrs) digs).toList == [])
theorem name_1 (s q r d : ByteArray) (w : World) (h1 : ∀ w, Calls Tryd.prog 41 #[.string s, .string ⟨#[65, 66, 67, 68, 69, 70, 71, 72, 73, 74, 75, 76, 77, 78, 79, 80, 81, 82, 83, 84, 85, 86, 87, 88, 89, 90]⟩] w fun e w' => e = .returned (.string q) ∧ Below w.heap.size w w') (h2 : ∀ w, Calls Tryd.prog 41 #[.string q, .string ⟨#[65, 66, 67, 68, 69, 70, 71, 72, 73, 74, 75, 76, 77, 78, 79, 80, 81, 82, 83, 84, 85, 86, 87, 88, 89, 90, 48, 49, 50, 51, 52, 53, 54, 55, 56, 57, 95]⟩] w fun e w' => e = .returned (.string r) ∧ Below w.heap.size w w') (h3 : ∀ w, Calls Tryd.prog 41 #[.string q, .string ⟨#[48, 49, 50, 51, 52, 53, 54, 55, 56, 57]⟩] w fun e w' => e = .returned (.string d) ∧ Below w.heap.size w w')
    (k1 : (q.toList == s.toList) = true) : Calls Tryd.prog 30 #[.string s] w fun e w' => e = .returned (.bool false) ∧ Below w.heap.size w w' := by
  go_enter Tryd.func30, Tryd.ntmps30
  go_wp2_with (first | (go_at_call 41; refine (h1 _).mono ?_; rintro e w1 ⟨rfl, hb1⟩; have hB1 : Below w.heap.size w w1 := hb1; clear hb1 h1) | (go_at_call 41; refine (h2 _).mono ?_; rintro e w2 ⟨rfl, hb2⟩; have hB2 : Below w.heap.size w w2 := bup hB1 hb2; clear hb2 h2) | (go_at_call 41; refine (h3 _).mono ?_; rintro e w3 ⟨rfl, hb3⟩; have hB3 : Below w.heap.size w w3 := bup hB2 hb3; clear hb3 h3))
  all_goals go_ret
  all_goals exact ⟨by first | rfl | exact retB (by cases d.toList <;> rfl), by assumption⟩
theorem name_2 (s q r d : ByteArray) (w : World) (h1 : ∀ w, Calls Tryd.prog 41 #[.string s, .string ⟨#[65, 66, 67, 68, 69, 70, 71, 72, 73, 74, 75, 76, 77, 78, 79, 80, 81, 82, 83, 84, 85, 86, 87, 88, 89, 90]⟩] w fun e w' => e = .returned (.string q) ∧ Below w.heap.size w w') (h2 : ∀ w, Calls Tryd.prog 41 #[.string q, .string ⟨#[65, 66, 67, 68, 69, 70, 71, 72, 73, 74, 75, 76, 77, 78, 79, 80, 81, 82, 83, 84, 85, 86, 87, 88, 89, 90, 48, 49, 50, 51, 52, 53, 54, 55, 56, 57, 95]⟩] w fun e w' => e = .returned (.string r) ∧ Below w.heap.size w w') (h3 : ∀ w, Calls Tryd.prog 41 #[.string q, .string ⟨#[48, 49, 50, 51, 52, 53, 54, 55, 56, 57]⟩] w fun e w' => e = .returned (.string d) ∧ Below w.heap.size w w')
    (k1 : (q.toList == s.toList) = false) (k2 : (16 : Int) < s.size) : Calls Tryd.prog 30 #[.string s] w fun e w' => e = .returned (.bool false) ∧ Below w.heap.size w w' := by
  go_enter Tryd.func30, Tryd.ntmps30
  go_wp2_with (first | (go_at_call 41; refine (h1 _).mono ?_; rintro e w1 ⟨rfl, hb1⟩; have hB1 : Below w.heap.size w w1 := hb1; clear hb1 h1) | (go_at_call 41; refine (h2 _).mono ?_; rintro e w2 ⟨rfl, hb2⟩; have hB2 : Below w.heap.size w w2 := bup hB1 hb2; clear hb2 h2) | (go_at_call 41; refine (h3 _).mono ?_; rintro e w3 ⟨rfl, hb3⟩; have hB3 : Below w.heap.size w w3 := bup hB2 hb3; clear hb3 h3))
  all_goals go_ret
  all_goals exact ⟨by first | rfl | exact retB (by cases d.toList <;> rfl), by assumption⟩
theorem name_3 (s q r d : ByteArray) (w : World) (h1 : ∀ w, Calls Tryd.prog 41 #[.string s, .string ⟨#[65, 66, 67, 68, 69, 70, 71, 72, 73, 74, 75, 76, 77, 78, 79, 80, 81, 82, 83, 84, 85, 86, 87, 88, 89, 90]⟩] w fun e w' => e = .returned (.string q) ∧ Below w.heap.size w w') (h2 : ∀ w, Calls Tryd.prog 41 #[.string q, .string ⟨#[65, 66, 67, 68, 69, 70, 71, 72, 73, 74, 75, 76, 77, 78, 79, 80, 81, 82, 83, 84, 85, 86, 87, 88, 89, 90, 48, 49, 50, 51, 52, 53, 54, 55, 56, 57, 95]⟩] w fun e w' => e = .returned (.string r) ∧ Below w.heap.size w w') (h3 : ∀ w, Calls Tryd.prog 41 #[.string q, .string ⟨#[48, 49, 50, 51, 52, 53, 54, 55, 56, 57]⟩] w fun e w' => e = .returned (.string d) ∧ Below w.heap.size w w')
    (k1 : (q.toList == s.toList) = false) (k2 : ¬ (16 : Int) < s.size) (k3 : (r.toList == []) = false) : Calls Tryd.prog 30 #[.string s] w fun e w' => e = .returned (.bool false) ∧ Below w.heap.size w w' := by
  go_enter Tryd.func30, Tryd.ntmps30
  go_wp2_with (first | (go_at_call 41; refine (h1 _).mono ?_; rintro e w1 ⟨rfl, hb1⟩; have hB1 : Below w.heap.size w w1 := hb1; clear hb1 h1) | (go_at_call 41; refine (h2 _).mono ?_; rintro e w2 ⟨rfl, hb2⟩; have hB2 : Below w.heap.size w w2 := bup hB1 hb2; clear hb2 h2) | (go_at_call 41; refine (h3 _).mono ?_; rintro e w3 ⟨rfl, hb3⟩; have hB3 : Below w.heap.size w w3 := bup hB2 hb3; clear hb3 h3))
  all_goals go_ret
  all_goals exact ⟨by first | rfl | exact retB (by cases d.toList <;> rfl), by assumption⟩
theorem name_4 (s q r d : ByteArray) (w : World) (h1 : ∀ w, Calls Tryd.prog 41 #[.string s, .string ⟨#[65, 66, 67, 68, 69, 70, 71, 72, 73, 74, 75, 76, 77, 78, 79, 80, 81, 82, 83, 84, 85, 86, 87, 88, 89, 90]⟩] w fun e w' => e = .returned (.string q) ∧ Below w.heap.size w w') (h2 : ∀ w, Calls Tryd.prog 41 #[.string q, .string ⟨#[65, 66, 67, 68, 69, 70, 71, 72, 73, 74, 75, 76, 77, 78, 79, 80, 81, 82, 83, 84, 85, 86, 87, 88, 89, 90, 48, 49, 50, 51, 52, 53, 54, 55, 56, 57, 95]⟩] w fun e w' => e = .returned (.string r) ∧ Below w.heap.size w w') (h3 : ∀ w, Calls Tryd.prog 41 #[.string q, .string ⟨#[48, 49, 50, 51, 52, 53, 54, 55, 56, 57]⟩] w fun e w' => e = .returned (.string d) ∧ Below w.heap.size w w')
    (k1 : (q.toList == s.toList) = false) (k2 : ¬ (16 : Int) < s.size) (k3 : (r.toList == []) = true) (k4 : (s.toList == [84, 82, 85, 69]) = true) : Calls Tryd.prog 30 #[.string s] w fun e w' => e = .returned (.bool false) ∧ Below w.heap.size w w' := by
  go_enter Tryd.func30, Tryd.ntmps30
  go_wp2_with (first | (go_at_call 41; refine (h1 _).mono ?_; rintro e w1 ⟨rfl, hb1⟩; have hB1 : Below w.heap.size w w1 := hb1; clear hb1 h1) | (go_at_call 41; refine (h2 _).mono ?_; rintro e w2 ⟨rfl, hb2⟩; have hB2 : Below w.heap.size w w2 := bup hB1 hb2; clear hb2 h2) | (go_at_call 41; refine (h3 _).mono ?_; rintro e w3 ⟨rfl, hb3⟩; have hB3 : Below w.heap.size w w3 := bup hB2 hb3; clear hb3 h3))
  all_goals go_ret
  all_goals exact ⟨by first | rfl | exact retB (by cases d.toList <;> rfl), by assumption⟩
theorem name_5 (s q r d : ByteArray) (w : World) (h1 : ∀ w, Calls Tryd.prog 41 #[.string s, .string ⟨#[65, 66, 67, 68, 69, 70, 71, 72, 73, 74, 75, 76, 77, 78, 79, 80, 81, 82, 83, 84, 85, 86, 87, 88, 89, 90]⟩] w fun e w' => e = .returned (.string q) ∧ Below w.heap.size w w') (h2 : ∀ w, Calls Tryd.prog 41 #[.string q, .string ⟨#[65, 66, 67, 68, 69, 70, 71, 72, 73, 74, 75, 76, 77, 78, 79, 80, 81, 82, 83, 84, 85, 86, 87, 88, 89, 90, 48, 49, 50, 51, 52, 53, 54, 55, 56, 57, 95]⟩] w fun e w' => e = .returned (.string r) ∧ Below w.heap.size w w') (h3 : ∀ w, Calls Tryd.prog 41 #[.string q, .string ⟨#[48, 49, 50, 51, 52, 53, 54, 55, 56, 57]⟩] w fun e w' => e = .returned (.string d) ∧ Below w.heap.size w w')
    (k1 : (q.toList == s.toList) = false) (k2 : ¬ (16 : Int) < s.size) (k3 : (r.toList == []) = true) (k4 : (s.toList == [84, 82, 85, 69]) = false) (k5 : (s.toList == [70, 65, 76, 83, 69]) = true) : Calls Tryd.prog 30 #[.string s] w fun e w' => e = .returned (.bool false) ∧ Below w.heap.size w w' := by
  go_enter Tryd.func30, Tryd.ntmps30
  go_wp2_with (first | (go_at_call 41; refine (h1 _).mono ?_; rintro e w1 ⟨rfl, hb1⟩; have hB1 : Below w.heap.size w w1 := hb1; clear hb1 h1) | (go_at_call 41; refine (h2 _).mono ?_; rintro e w2 ⟨rfl, hb2⟩; have hB2 : Below w.heap.size w w2 := bup hB1 hb2; clear hb2 h2) | (go_at_call 41; refine (h3 _).mono ?_; rintro e w3 ⟨rfl, hb3⟩; have hB3 : Below w.heap.size w w3 := bup hB2 hb3; clear hb3 h3))
  all_goals go_ret
  all_goals exact ⟨by first | rfl | exact retB (by cases d.toList <;> rfl), by assumption⟩
theorem name_6 (s q r d : ByteArray) (w : World) (h1 : ∀ w, Calls Tryd.prog 41 #[.string s, .string ⟨#[65, 66, 67, 68, 69, 70, 71, 72, 73, 74, 75, 76, 77, 78, 79, 80, 81, 82, 83, 84, 85, 86, 87, 88, 89, 90]⟩] w fun e w' => e = .returned (.string q) ∧ Below w.heap.size w w') (h2 : ∀ w, Calls Tryd.prog 41 #[.string q, .string ⟨#[65, 66, 67, 68, 69, 70, 71, 72, 73, 74, 75, 76, 77, 78, 79, 80, 81, 82, 83, 84, 85, 86, 87, 88, 89, 90, 48, 49, 50, 51, 52, 53, 54, 55, 56, 57, 95]⟩] w fun e w' => e = .returned (.string r) ∧ Below w.heap.size w w') (h3 : ∀ w, Calls Tryd.prog 41 #[.string q, .string ⟨#[48, 49, 50, 51, 52, 53, 54, 55, 56, 57]⟩] w fun e w' => e = .returned (.string d) ∧ Below w.heap.size w w')
    (k1 : (q.toList == s.toList) = false) (k2 : ¬ (16 : Int) < s.size) (k3 : (r.toList == []) = true) (k4 : (s.toList == [84, 82, 85, 69]) = false) (k5 : (s.toList == [70, 65, 76, 83, 69]) = false) (k6 : (q.toList == []) = true) : Calls Tryd.prog 30 #[.string s] w fun e w' => e = .returned (.bool true) ∧ Below w.heap.size w w' := by
  go_enter Tryd.func30, Tryd.ntmps30
  go_wp2_with (first | (go_at_call 41; refine (h1 _).mono ?_; rintro e w1 ⟨rfl, hb1⟩; have hB1 : Below w.heap.size w w1 := hb1; clear hb1 h1) | (go_at_call 41; refine (h2 _).mono ?_; rintro e w2 ⟨rfl, hb2⟩; have hB2 : Below w.heap.size w w2 := bup hB1 hb2; clear hb2 h2) | (go_at_call 41; refine (h3 _).mono ?_; rintro e w3 ⟨rfl, hb3⟩; have hB3 : Below w.heap.size w w3 := bup hB2 hb3; clear hb3 h3))
  all_goals go_ret
  all_goals exact ⟨by first | rfl | exact retB (by cases d.toList <;> rfl), by assumption⟩
theorem name_7 (s q r d : ByteArray) (w : World) (h1 : ∀ w, Calls Tryd.prog 41 #[.string s, .string ⟨#[65, 66, 67, 68, 69, 70, 71, 72, 73, 74, 75, 76, 77, 78, 79, 80, 81, 82, 83, 84, 85, 86, 87, 88, 89, 90]⟩] w fun e w' => e = .returned (.string q) ∧ Below w.heap.size w w') (h2 : ∀ w, Calls Tryd.prog 41 #[.string q, .string ⟨#[65, 66, 67, 68, 69, 70, 71, 72, 73, 74, 75, 76, 77, 78, 79, 80, 81, 82, 83, 84, 85, 86, 87, 88, 89, 90, 48, 49, 50, 51, 52, 53, 54, 55, 56, 57, 95]⟩] w fun e w' => e = .returned (.string r) ∧ Below w.heap.size w w') (h3 : ∀ w, Calls Tryd.prog 41 #[.string q, .string ⟨#[48, 49, 50, 51, 52, 53, 54, 55, 56, 57]⟩] w fun e w' => e = .returned (.string d) ∧ Below w.heap.size w w')
    (k1 : (q.toList == s.toList) = false) (k2 : ¬ (16 : Int) < s.size) (k3 : (r.toList == []) = true) (k4 : (s.toList == [84, 82, 85, 69]) = false) (k5 : (s.toList == [70, 65, 76, 83, 69]) = false) (k6 : (q.toList == []) = false) : Calls Tryd.prog 30 #[.string s] w fun e w' => e = .returned (.bool (!(d.toList == []))) ∧ Below w.heap.size w w' := by
  go_enter Tryd.func30, Tryd.ntmps30
  go_wp2_with (first | (go_at_call 41; refine (h1 _).mono ?_; rintro e w1 ⟨rfl, hb1⟩; have hB1 : Below w.heap.size w w1 := hb1; clear hb1 h1) | (go_at_call 41; refine (h2 _).mono ?_; rintro e w2 ⟨rfl, hb2⟩; have hB2 : Below w.heap.size w w2 := bup hB1 hb2; clear hb2 h2) | (go_at_call 41; refine (h3 _).mono ?_; rintro e w3 ⟨rfl, hb3⟩; have hB3 : Below w.heap.size w w3 := bup hB2 hb3; clear hb3 h3))
  all_goals go_ret
  all_goals exact ⟨by first | rfl | exact retB (by cases d.toList <;> rfl), by assumption⟩
theorem name_any (s : ByteArray) (w : World) : Calls Tryd.prog 30 #[.string s] w fun e w' => e = .returned (.bool (nameOk s)) ∧ Below w.heap.size w w' := by
  unfold nameOk
  have h1 := fun w => tr1 s w
  have h2 := fun w => tr2 (behind s ltrs) w
  have h3 := fun w => tr3 (behind s ltrs) w
  revert h1 h2 h3
  generalize behind (behind s ltrs) inNm = r
  generalize behind (behind s ltrs) digs = d
  generalize behind s ltrs = q
  intro h1 h2 h3
  cases k1 : (q.toList == s.toList)
  · rw [if_neg (by decide)]
    by_cases k2 : 16 < s.size
    · rw [if_pos k2]; exact name_2 s q r d w h1 h2 h3 k1 (by omega)
    rw [if_neg k2]
    cases k3 : (r.toList == [])
    · exact name_3 s q r d w h1 h2 h3 k1 (by omega) k3
    rw [if_neg (by decide)]
    cases k4 : (s.toList == [84, 82, 85, 69])
    · rw [if_neg (by decide)]
      cases k5 : (s.toList == [70, 65, 76, 83, 69])
      · rw [if_neg (by decide)]
        cases k6 : (q.toList == [])
        · rw [if_neg (by decide)]; exact name_7 s q r d w h1 h2 h3 k1 (by omega) k3 k4 k5 k6
        · exact name_6 s q r d w h1 h2 h3 k1 (by omega) k3 k4 k5 k6
      · exact name_5 s q r d w h1 h2 h3 k1 (by omega) k3 k4 k5
    · exact name_4 s q r d w h1 h2 h3 k1 (by omega) k3 k4
  · exact name_1 s q r d w h1 h2 h3 k1
end Go.Proofs.YtekpmdpmcbjkkaaDoor
