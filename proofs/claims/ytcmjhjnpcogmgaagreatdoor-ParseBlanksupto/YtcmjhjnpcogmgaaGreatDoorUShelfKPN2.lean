/- The library's contract of internal/stringslite.Clone, laid at this program: the table of n -/
import Derived.Test.YtcmjhjnpcogmgaaGreatDoorUAuto
import Derived.Ground.MpProg
import Derived.Shelf.Pu.Clone
import Derived.Test.YtcmjhjnpcogmgaaGreatDoorProg
import Derived.Test.YtcmjhjnpcogmgaaGreatDoorURfN0PN
set_option linter.all false
set_option maxRecDepth 100000
set_option maxHeartbeats 4000000
namespace Go.Proofs
open Go.Shelf
def Tryz.laysPu25_ren : Go.Shelf.Ren := ⟨fun | 25 => 191 | n => n, fun | 9 => 9 | 3 => 3 | 4 => 4 | 37 => 71 | 0 => 0 | 47 => 112 | 5 => 5 | n => n, fun | n => n⟩
theorem Tryz.laysPu25 : Go.Proofs.LaysPu.n25 Tryz.prog Tryz.laysPu25_ren := {
 mixed := by kernel_rfl
 f25 := Tryz.func191.trans (congrArg some zq14)
 t0 := Tryz.underlying0
 a0 := Tryz.isAgg0
 z0 := Tryz.sizeOf0
 v0 := Tryz.zeroValue0
 i0 := by kernel_rfl
 t3 := Tryz.underlying3
 a3 := Tryz.isAgg3
 z3 := Tryz.sizeOf3
 v3 := Tryz.zeroValue3
 i3 := by kernel_rfl
 t4 := Tryz.underlying4
 a4 := Tryz.isAgg4
 z4 := Tryz.sizeOf4
 v4 := Tryz.zeroValue4
 i4 := by kernel_rfl
 t5 := Tryz.underlying5
 a5 := Tryz.isAgg5
 z5 := Tryz.sizeOf5
 v5 := Tryz.zeroValue5
 i5 := by kernel_rfl
 t9 := Tryz.underlying9
 a9 := Tryz.isAgg9
 z9 := Tryz.sizeOf9
 v9 := Tryz.zeroValue9
 i9 := by kernel_rfl
 t37 := Tryz.underlying71
 a37 := Tryz.isAgg71
 z37 := Tryz.sizeOf71
 v37 := Tryz.zeroValue71
 i37 := by kernel_rfl
 t47 := Tryz.underlying112
 a47 := Tryz.isAgg112
 z47 := Tryz.sizeOf112
 v47 := Tryz.zeroValue112
 i47 := by kernel_rfl }
end Go.Proofs
namespace Go.Proofs.YtcmjhjnpcogmgaaGreatDoor
open Go.Shelf Go.RowKit
theorem slc_any (s : ByteArray) (w : World) (h : s.size ≤ 281474976710656) : Calls Tryz.prog 191 #[.string s] w fun e w' => e = .returned (.string s) ∧ Below w.heap.size w w' := AnyPu.stringslite_Clone Tryz.laysPu25 s w h
theorem clone_any (s : ByteArray) (w : World) (h : s.size ≤ 281474976710656) : Calls Tryz.prog 173 #[.string s] w fun e w' => e = .returned (.string s) ∧ Below w.heap.size w w' := by
 have HC : Hid _ := fun w1 => slc_any s w1 h
 go_enter Tryz.func173, Tryz.ntmps173
 go_wp2_with (go_at_call 191; refine (HC.out _).mono ?_; rintro e w1 ⟨rfl, hb⟩; have hB := bux w zq1 hb)
 go_ret
 exact ⟨rfl, hB⟩
theorem own_any (kind at_ num : Int) (str : ByteArray) (c0 c1 r0 r1 r2 r3 code : Int) (w : World) (h : str.size ≤ 281474976710656) : Calls Tryz.prog 135 #[.agg #[.int .i64 kind, .int .i64 at_, .int .i64 num, .string str, .int .i64 c0, .int .i64 c1, .int .i64 r0, .int .i64 r1, .int .i64 r2, .int .i64 r3, .int .i64 code]] w fun e w' => e = .returned (.string str) ∧ Below w.heap.size w w' := by
 have HC : Hid _ := fun w1 => clone_any str w1 h
 go_enter Tryz.func135, Tryz.ntmps135
 go_wp2_with (go_at_call 173; refine (HC.out _).mono ?_; rintro e w1 ⟨rfl, hb⟩; have hB := bux w zq1 hb)
 go_ret
 exact ⟨rfl, hB⟩
def truB (s : ByteArray) : Option Bool := if s.toList = [84, 82, 85, 69] then some true else if s.toList = [70, 65, 76, 83, 69] then some false else none
theorem truth_t (s : ByteArray) (w : World) (h1 : (s.toList == [84, 82, 85, 69]) = true) : Calls Tryz.prog 137 #[.string s] w fun e w' => e = .returned (.tuple #[.agg #[.int .i64 1, .int .i64 3, .int .i64 0, .string ⟨#[]⟩, .bool true, .int .i64 0, .int .i64 0, .int .i64 0, .int .i64 0, .int .i64 0, .int .i64 0, .int .i64 0, .int .i64 0, .string ⟨#[]⟩, .int .i64 0], .bool true]) ∧ Below w.heap.size w w' := by
 go_enter Tryz.func137, Tryz.ntmps137
 go_wp2_with (go_at_call 136; refine (valueNode_any 3 0 ⟨#[]⟩ true 0 _).mono ?_; rintro e w1 ⟨rfl, hb⟩; have hB := bux w zq1 hb; have o0 : Own w1 w.heap.size #[.int .i64 0, .int .i64 0, .int .i64 0, .string ⟨#[]⟩, .bool false, .int .i64 0, .int .i64 0, .int .i64 0, .int .i64 0, .int .i64 0, .int .i64 0, .int .i64 0, .int .i64 0, .string ⟨#[]⟩, .int .i64 0] := Own.keep zq4 hb; have c0 := o0.cell; have f0 := o0.fro; have l0 := o0.lt)
 all_goals exact bodyPost_ret (v := .tuple #[.agg #[.int .i64 1, .int .i64 3, .int .i64 0, .string ⟨#[]⟩, .bool true, .int .i64 0, .int .i64 0, .int .i64 0, .int .i64 0, .int .i64 0, .int .i64 0, .int .i64 0, .int .i64 0, .string ⟨#[]⟩, .int .i64 0], .bool true]) (by simp [results, Tryz.results137, go_sem, *]) rfl ⟨rfl, zq1⟩
theorem truth_f (s : ByteArray) (w : World) (h1 : (s.toList == [84, 82, 85, 69]) = false) (h2 : (s.toList == [70, 65, 76, 83, 69]) = true) : Calls Tryz.prog 137 #[.string s] w fun e w' => e = .returned (.tuple #[.agg #[.int .i64 1, .int .i64 3, .int .i64 0, .string ⟨#[]⟩, .bool false, .int .i64 0, .int .i64 0, .int .i64 0, .int .i64 0, .int .i64 0, .int .i64 0, .int .i64 0, .int .i64 0, .string ⟨#[]⟩, .int .i64 0], .bool true]) ∧ Below w.heap.size w w' := by
 go_enter Tryz.func137, Tryz.ntmps137
 go_wp2_with (go_at_call 136; refine (valueNode_any 3 0 ⟨#[]⟩ false 0 _).mono ?_; rintro e w1 ⟨rfl, hb⟩; have hB := bux w zq1 hb; have o0 : Own w1 w.heap.size #[.int .i64 0, .int .i64 0, .int .i64 0, .string ⟨#[]⟩, .bool false, .int .i64 0, .int .i64 0, .int .i64 0, .int .i64 0, .int .i64 0, .int .i64 0, .int .i64 0, .int .i64 0, .string ⟨#[]⟩, .int .i64 0] := Own.keep zq4 hb; have c0 := o0.cell; have f0 := o0.fro; have l0 := o0.lt)
 all_goals exact bodyPost_ret (v := .tuple #[.agg #[.int .i64 1, .int .i64 3, .int .i64 0, .string ⟨#[]⟩, .bool false, .int .i64 0, .int .i64 0, .int .i64 0, .int .i64 0, .int .i64 0, .int .i64 0, .int .i64 0, .int .i64 0, .string ⟨#[]⟩, .int .i64 0], .bool true]) (by simp [results, Tryz.results137, go_sem, *]) rfl ⟨rfl, zq1⟩
theorem truth_n (s : ByteArray) (w : World) (h1 : (s.toList == [84, 82, 85, 69]) = false) (h2 : (s.toList == [70, 65, 76, 83, 69]) = false) : Calls Tryz.prog 137 #[.string s] w fun e w' => e = .returned (.tuple #[.agg #[.int .i64 0, .int .i64 0, .int .i64 0, .string ⟨#[]⟩, .bool false, .int .i64 0, .int .i64 0, .int .i64 0, .int .i64 0, .int .i64 0, .int .i64 0, .int .i64 0, .int .i64 0, .string ⟨#[]⟩, .int .i64 0], .bool false]) ∧ Below w.heap.size w w' := by
 go_enter Tryz.func137, Tryz.ntmps137
 go_wp2
 all_goals exact bodyPost_ret (v := .tuple #[.agg #[.int .i64 0, .int .i64 0, .int .i64 0, .string ⟨#[]⟩, .bool false, .int .i64 0, .int .i64 0, .int .i64 0, .int .i64 0, .int .i64 0, .int .i64 0, .int .i64 0, .int .i64 0, .string ⟨#[]⟩, .int .i64 0], .bool false]) (by simp [results, Tryz.results137, go_sem, *]) rfl ⟨rfl, zq1⟩
def truV (s : ByteArray) : Value := match truB s with
 | some b => .tuple #[.agg #[.int .i64 1, .int .i64 3, .int .i64 0, .string ⟨#[]⟩, .bool b, .int .i64 0, .int .i64 0, .int .i64 0, .int .i64 0, .int .i64 0, .int .i64 0, .int .i64 0, .int .i64 0, .string ⟨#[]⟩, .int .i64 0], .bool true]
 | none => .tuple #[.agg #[.int .i64 0, .int .i64 0, .int .i64 0, .string ⟨#[]⟩, .bool false, .int .i64 0, .int .i64 0, .int .i64 0, .int .i64 0, .int .i64 0, .int .i64 0, .int .i64 0, .int .i64 0, .string ⟨#[]⟩, .int .i64 0], .bool false]
theorem truth_any (s : ByteArray) (w : World) : Calls Tryz.prog 137 #[.string s] w fun e w' => e = .returned (truV s) ∧ Below w.heap.size w w' := by
 cases h1 : (s.toList == [84, 82, 85, 69])
 ·have e1 : ¬ s.toList = [84, 82, 85, 69] := by simpa using h1
  cases h2 : (s.toList == [70, 65, 76, 83, 69])
  ·have e2 : ¬ s.toList = [70, 65, 76, 83, 69] := by simpa using h2
   have e : truV s = .tuple #[.agg #[.int .i64 0, .int .i64 0, .int .i64 0, .string ⟨#[]⟩, .bool false, .int .i64 0, .int .i64 0, .int .i64 0, .int .i64 0, .int .i64 0, .int .i64 0, .int .i64 0, .int .i64 0, .string ⟨#[]⟩, .int .i64 0], .bool false] := by unfold truV truB; rw [if_neg e1, if_neg e2]
   rw [e]; exact truth_n s w h1 h2
  ·have e2 : s.toList = [70, 65, 76, 83, 69] := by simpa using h2
   have e : truV s = .tuple #[.agg #[.int .i64 1, .int .i64 3, .int .i64 0, .string ⟨#[]⟩, .bool false, .int .i64 0, .int .i64 0, .int .i64 0, .int .i64 0, .int .i64 0, .int .i64 0, .int .i64 0, .int .i64 0, .string ⟨#[]⟩, .int .i64 0], .bool true] := by unfold truV truB; rw [if_neg e1, if_pos e2]
   rw [e]; exact truth_f s w h1 h2
 ·have e1 : s.toList = [84, 82, 85, 69] := by simpa using h1
  have e : truV s = .tuple #[.agg #[.int .i64 1, .int .i64 3, .int .i64 0, .string ⟨#[]⟩, .bool true, .int .i64 0, .int .i64 0, .int .i64 0, .int .i64 0, .int .i64 0, .int .i64 0, .int .i64 0, .int .i64 0, .string ⟨#[]⟩, .int .i64 0], .bool true] := by unfold truV truB; rw [if_pos e1]
  rw [e]; exact truth_t s w h1
end Go.Proofs.YtcmjhjnpcogmgaaGreatDoor
