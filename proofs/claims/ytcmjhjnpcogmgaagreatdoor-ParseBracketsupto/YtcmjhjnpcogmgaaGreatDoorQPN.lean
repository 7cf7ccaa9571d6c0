/- The contracts of parse's small functions: what a sign is, how a reading gives up and what is told then, the nodes of operations, calls, values and truths. New memory alone is made. No condition. -/
import Derived.Test.YtcmjhjnpcogmgaaGreatDoorQLIpLI2p
import Derived.Test.YtcmjhjnpcogmgaaGreatDoorQRfN0
namespace Go.Proofs.YtcmjhjnpcogmgaaGreatDoor
open Go.Shelf Go.RowKit
set_option linter.all false
/-- Whether a token is this sign. -/
def sgB (t : Tk) (s : ByteArray) : Bool := (t.kind == 7) && (t.str.toList == s.toList)
set_option maxHeartbeats 1000000 in
theorem isSign_n (kind at_ num : Int) (str : ByteArray) (c0 c1 r0 r1 r2 r3 code : Int) (s : ByteArray) (w : World) (h : (kind == 7) = false) : Calls Tryz.prog 53 #[.agg #[.int .i64 kind, .int .i64 at_, .int .i64 num, .string str, .int .i64 c0, .int .i64 c1, .int .i64 r0, .int .i64 r1, .int .i64 r2, .int .i64 r3, .int .i64 code], .string s] w fun e w' => e = .returned (.bool false) ∧ Below w.heap.size w w' := by
  go_enter Tryz.func53, Tryz.ntmps53
  go_wp2
  go_ret
  exact ⟨rfl, by with_reducible (repeat' first | assumption | exact Below.refl _ _ | refine Below.drew ?_ | refine bdrewN ?_ _ | refine Below.setCell ?_ (by first | exact Nat.le_refl _ | (simp; done) | (simp; omega) | omega) _ | refine Below.alloc ?_ (by first | exact Nat.le_refl _ | (simp; done) | (simp; omega) | omega) _)⟩
set_option maxHeartbeats 1000000 in
theorem isSign_y (kind at_ num : Int) (str : ByteArray) (c0 c1 r0 r1 r2 r3 code : Int) (s : ByteArray) (w : World) : Calls Tryz.prog 53 #[.agg #[.int .i64 7, .int .i64 at_, .int .i64 num, .string str, .int .i64 c0, .int .i64 c1, .int .i64 r0, .int .i64 r1, .int .i64 r2, .int .i64 r3, .int .i64 code], .string s] w fun e w' => e = .returned (.bool (str.toList == s.toList)) ∧ Below w.heap.size w w' := by
  go_enter Tryz.func53, Tryz.ntmps53
  go_wp2
  go_ret
  exact ⟨rfl, by with_reducible (repeat' first | assumption | exact Below.refl _ _ | refine Below.drew ?_ | refine bdrewN ?_ _ | refine Below.setCell ?_ (by first | exact Nat.le_refl _ | (simp; done) | (simp; omega) | omega) _ | refine Below.alloc ?_ (by first | exact Nat.le_refl _ | (simp; done) | (simp; omega) | omega) _)⟩
theorem isSign_any (t : Tk) (s : ByteArray) (w : World) : Calls Tryz.prog 53 #[.agg #[.int .i64 t.kind, .int .i64 t.at', .int .i64 t.num, .string t.str, .int .i64 t.c0, .int .i64 t.c1, .int .i64 t.r0, .int .i64 t.r1, .int .i64 t.r2, .int .i64 t.r3, .int .i64 t.code], .string s] w fun e w' => e = .returned (.bool (sgB t s)) ∧ Below w.heap.size w w' := by
  obtain ⟨kind, at_, num, str, c0, c1, r0, r1, r2, r3, code⟩ := t
  unfold sgB
  cases h : (kind == 7)
  · exact isSign_n kind at_ num str c0 c1 r0 r1 r2 r3 code s w h
  · have e : kind = 7 := by simpa using h
    subst e
    exact isSign_y 7 at_ num str c0 c1 r0 r1 r2 r3 code s w
/-- What the reading gives up with. -/
def refV (code at' : Int) : Value := .iface 82 (.agg #[.int .i64 code, .int .i64 at'])
def refC (code at' : Int) : List PanicEntry := [{ v := refV code at', recovered := false }]
set_option maxHeartbeats 1000000 in
theorem refuse_any (code at' : Int) (w : World) : Calls Tryz.prog 88 #[.int .i64 code, .int .i64 at'] w fun e w' => e = .panicked (refC code at') ∧ Below w.heap.size w w' := by
  go_enter Tryz.func88, Tryz.ntmps88
  go_wp2
  exact ⟨rfl, rfl, Below.refl _ _⟩
set_option maxHeartbeats 1000000 in
theorem opNode_any (op : Int) (w : World) : Calls Tryz.prog 95 #[.int .i64 op] w fun e w' => e = .returned (.agg #[.int .i64 4, .int .i64 0, .int .i64 0, .string ⟨#[]⟩, .bool false, .int .i64 0, .int .i64 0, .int .i64 0, .int .i64 0, .int .i64 0, .int .i64 0, .int .i64 0, .int .i64 op, .string ⟨#[]⟩, .int .i64 0]) ∧ Below w.heap.size w w' := by
  go_enter Tryz.func95, Tryz.ntmps95
  go_wp2
  all_goals exact bodyPost_ret (v := .agg #[.int .i64 4, .int .i64 0, .int .i64 0, .string ⟨#[]⟩, .bool false, .int .i64 0, .int .i64 0, .int .i64 0, .int .i64 0, .int .i64 0, .int .i64 0, .int .i64 0, .int .i64 op, .string ⟨#[]⟩, .int .i64 0]) (by simp [results, Tryz.results95, go_sem, *]) rfl ⟨rfl, by with_reducible (repeat' first | assumption | exact Below.refl _ _ | refine Below.drew ?_ | refine bdrewN ?_ _ | refine Below.setCell ?_ (by first | exact Nat.le_refl _ | (simp; done) | (simp; omega) | omega) _ | refine Below.alloc ?_ (by first | exact Nat.le_refl _ | (simp; done) | (simp; omega) | omega) _)⟩
set_option maxHeartbeats 1000000 in
theorem callNode_any (name : ByteArray) (args : Int) (w : World) : Calls Tryz.prog 134 #[.string name, .int .i64 args] w fun e w' => e = .returned (.agg #[.int .i64 5, .int .i64 0, .int .i64 0, .string ⟨#[]⟩, .bool false, .int .i64 0, .int .i64 0, .int .i64 0, .int .i64 0, .int .i64 0, .int .i64 0, .int .i64 0, .int .i64 0, .string name, .int .i64 args]) ∧ Below w.heap.size w w' := by
  go_enter Tryz.func134, Tryz.ntmps134
  go_wp2
  all_goals exact bodyPost_ret (v := .agg #[.int .i64 5, .int .i64 0, .int .i64 0, .string ⟨#[]⟩, .bool false, .int .i64 0, .int .i64 0, .int .i64 0, .int .i64 0, .int .i64 0, .int .i64 0, .int .i64 0, .int .i64 0, .string name, .int .i64 args]) (by simp [results, Tryz.results134, go_sem, *]) rfl ⟨rfl, by with_reducible (repeat' first | assumption | exact Below.refl _ _ | refine Below.drew ?_ | refine bdrewN ?_ _ | refine Below.setCell ?_ (by first | exact Nat.le_refl _ | (simp; done) | (simp; omega) | omega) _ | refine Below.alloc ?_ (by first | exact Nat.le_refl _ | (simp; done) | (simp; omega) | omega) _)⟩
set_option maxHeartbeats 1000000 in
theorem valueNode_any (tag num : Int) (str : ByteArray) (is : Bool) (code : Int) (w : World) : Calls Tryz.prog 136 #[.agg #[.int .i64 tag, .int .i64 num, .string str, .bool is, .int .i64 code]] w fun e w' => e = .returned (.agg #[.int .i64 1, .int .i64 tag, .int .i64 num, .string str, .bool is, .int .i64 code, .int .i64 0, .int .i64 0, .int .i64 0, .int .i64 0, .int .i64 0, .int .i64 0, .int .i64 0, .string ⟨#[]⟩, .int .i64 0]) ∧ Below w.heap.size w w' := by
  go_enter Tryz.func136, Tryz.ntmps136
  go_wp2
  all_goals exact bodyPost_ret (v := .agg #[.int .i64 1, .int .i64 tag, .int .i64 num, .string str, .bool is, .int .i64 code, .int .i64 0, .int .i64 0, .int .i64 0, .int .i64 0, .int .i64 0, .int .i64 0, .int .i64 0, .string ⟨#[]⟩, .int .i64 0]) (by simp [results, Tryz.results136, go_sem, *]) rfl ⟨rfl, by with_reducible (repeat' first | assumption | exact Below.refl _ _ | refine Below.drew ?_ | refine bdrewN ?_ _ | refine Below.setCell ?_ (by first | exact Nat.le_refl _ | (simp; done) | (simp; omega) | omega) _ | refine Below.alloc ?_ (by first | exact Nat.le_refl _ | (simp; done) | (simp; omega) | omega) _)⟩
end Go.Proofs.YtcmjhjnpcogmgaaGreatDoor
