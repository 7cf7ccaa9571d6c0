/- Nodes of a formula as they lie in memory: their fifteen cells, and when two are the same -/
import Derived.Test.YtcmjhjnpcogmgaaGreatDoorUAuto
import Derived.Test.YtcmjhjnpcogmgaaGreatDoorUA2P3
import Derived.Test.YtcmjhjnpcogmgaaGreatDoorUVvSumsVvV1VvVNVvVMVvV2
import Derived.Lib.Hide
import Derived.Test.YtcmjhjnpcogmgaaGreatDoorULIpLI2p
set_option linter.all false
set_option maxRecDepth 100000
set_option maxHeartbeats 4000000
namespace Go.Proofs.YtcmjhjnpcogmgaaGreatDoor.Rf
open Go.RowKit
structure Nd where
 kind : Int
 tag : Int
 num : Int
 str : ByteArray
 is : Bool
 code : Int
 row : Int
 col : Int
 top : Int
 left : Int
 bot : Int
 right : Int
 op : Int
 name : ByteArray
 args : Int
theorem keepD {W w1 : World} (nd : Nd) (blk : Nat) (h : Own W blk #[.int .i64 nd.kind, .int .i64 nd.tag, .int .i64 nd.num, .string nd.str, .bool nd.is, .int .i64 nd.code, .int .i64 nd.row, .int .i64 nd.col, .int .i64 nd.top, .int .i64 nd.left, .int .i64 nd.bot, .int .i64 nd.right, .int .i64 nd.op, .string nd.name, .int .i64 nd.args]) (hb : Below W.heap.size W w1) : Own w1 blk #[.int .i64 nd.kind, .int .i64 nd.tag, .int .i64 nd.num, .string nd.str, .bool nd.is, .int .i64 nd.code, .int .i64 nd.row, .int .i64 nd.col, .int .i64 nd.top, .int .i64 nd.left, .int .i64 nd.bot, .int .i64 nd.right, .int .i64 nd.op, .string nd.name, .int .i64 nd.args] := Own.keep h hb
def Nd.cells (n : Nd) : Array Value := #[.int .i64 n.kind, .int .i64 n.tag, .int .i64 n.num, .string n.str, .bool n.is, .int .i64 n.code, .int .i64 n.row, .int .i64 n.col, .int .i64 n.top, .int .i64 n.left, .int .i64 n.bot, .int .i64 n.right, .int .i64 n.op, .string n.name, .int .i64 n.args]
def nd0 : Nd := ⟨0, 0, 0, ⟨#[]⟩, false, 0, 0, 0, 0, 0, 0, 0, 0, ⟨#[]⟩, 0⟩
def sameN (a b : Nd) : Bool := decide (a.kind = b.kind ∧ a.tag = b.tag ∧ a.num = b.num ∧ a.str = b.str ∧ a.is = b.is ∧ a.code = b.code ∧ a.row = b.row ∧ a.col = b.col ∧ a.top = b.top ∧ a.left = b.left ∧ a.bot = b.bot ∧ a.right = b.right ∧ a.op = b.op ∧ a.name = b.name ∧ a.args = b.args)
theorem sameN_refl (a : Nd) : sameN a a = true := by simp [sameN]
theorem sameN_is {a b : Nd} (h : sameN a b = true) : a = b := by
 cases a; cases b; simpa [sameN] using h
theorem toLi {s s' : ByteArray} (h : s.toList = s'.toList) : s = s' := Vv.toList_inj h
theorem eqIn (a b : Nd) (w : World) : (Op.equalIn 10000 65 (.agg #[.int .i64 a.kind, .int .i64 a.tag, .int .i64 a.num, .string a.str, .bool a.is, .int .i64 a.code, .int .i64 a.row, .int .i64 a.col, .int .i64 a.top, .int .i64 a.left, .int .i64 a.bot, .int .i64 a.right, .int .i64 a.op, .string a.name, .int .i64 a.args]) (.agg #[.int .i64 b.kind, .int .i64 b.tag, .int .i64 b.num, .string b.str, .bool b.is, .int .i64 b.code, .int .i64 b.row, .int .i64 b.col, .int .i64 b.top, .int .i64 b.left, .int .i64 b.bot, .int .i64 b.right, .int .i64 b.op, .string b.name, .int .i64 b.args])).run Tryz.prog w = .ok (sameN a b) w := by
 have hv : ∀ (d : Nat) (xs ys : Array Value) (w : World), (Op.equalIn (d + 1) 63 (.agg xs) (.agg ys)).run Tryz.prog w = (Op.eqFields d xs ys (Tryz.prog.fieldsOf 63).toList).run Tryz.prog w := fun d xs ys w => run_equalIn_agg w d 63 _ _ zq14 zq14
 have hc : ∀ (d : Nat) (xs ys : Array Value) (w : World), (Op.equalIn (d + 1) 38 (.agg xs) (.agg ys)).run Tryz.prog w = (Op.eqFields d xs ys (Tryz.prog.fieldsOf 38).toList).run Tryz.prog w := fun d xs ys w => run_equalIn_agg w d 38 _ _ zq14 zq14
 have hr : ∀ (d : Nat) (xs ys : Array Value) (w : World), (Op.equalIn (d + 1) 40 (.agg xs) (.agg ys)).run Tryz.prog w = (Op.eqFields d xs ys (Tryz.prog.fieldsOf 40).toList).run Tryz.prog w := fun d xs ys w => run_equalIn_agg w d 40 _ _ zq14 zq14
 rw [run_equalIn_agg w 9999 65 _ _ zq14 zq14]
 unfold sameN
 go_simp
 by_cases h_kind : a.kind = b.kind
 ·skip
  by_cases h_tag : a.tag = b.tag
  ·skip
   by_cases h_num : a.num = b.num
   ·skip
    by_cases h_str : a.str = b.str
    ·skip
     by_cases h_is : a.is = b.is
     ·skip
      by_cases h_code : a.code = b.code
      ·skip
       by_cases h_row : a.row = b.row
       ·skip
        by_cases h_col : a.col = b.col
        ·skip
         by_cases h_top : a.top = b.top
         ·skip
          by_cases h_left : a.left = b.left
          ·skip
           by_cases h_bot : a.bot = b.bot
           ·skip
            by_cases h_right : a.right = b.right
            ·skip
             by_cases h_op : a.op = b.op
             ·skip
              by_cases h_name : a.name = b.name
              ·skip
               by_cases h_args : a.args = b.args
               ·skip
                simp [h_kind, h_tag, h_num, h_str, h_is, h_code, h_row, h_col, h_top, h_left, h_bot, h_right, h_op, h_name, h_args]
               ·simp [h_kind, h_tag, h_num, h_str, h_is, h_code, h_row, h_col, h_top, h_left, h_bot, h_right, h_op, h_name, h_args]
              ·have q : ¬ a.name.toList = b.name.toList := fun h => h_name (toLi h)
               simp [h_kind, h_tag, h_num, h_str, h_is, h_code, h_row, h_col, h_top, h_left, h_bot, h_right, h_op, h_name, q]
             ·simp [h_kind, h_tag, h_num, h_str, h_is, h_code, h_row, h_col, h_top, h_left, h_bot, h_right, h_op]
            ·simp [h_kind, h_tag, h_num, h_str, h_is, h_code, h_row, h_col, h_top, h_left, h_bot, h_right]
           ·simp [h_kind, h_tag, h_num, h_str, h_is, h_code, h_row, h_col, h_top, h_left, h_bot]
          ·simp [h_kind, h_tag, h_num, h_str, h_is, h_code, h_row, h_col, h_top, h_left]
         ·simp [h_kind, h_tag, h_num, h_str, h_is, h_code, h_row, h_col, h_top]
        ·simp [h_kind, h_tag, h_num, h_str, h_is, h_code, h_row, h_col]
       ·simp [h_kind, h_tag, h_num, h_str, h_is, h_code, h_row]
      ·simp [h_kind, h_tag, h_num, h_str, h_is, h_code]
     ·simp [h_kind, h_tag, h_num, h_str, h_is]
    ·have q : ¬ a.str.toList = b.str.toList := fun h => h_str (toLi h)
     simp [h_kind, h_tag, h_num, h_str, q]
   ·simp [h_kind, h_tag, h_num]
  ·simp [h_kind, h_tag]
 ·simp [h_kind]
theorem eqN (a b : Nd) (w : World) : (binOp .eql 65 (.agg #[.int .i64 a.kind, .int .i64 a.tag, .int .i64 a.num, .string a.str, .bool a.is, .int .i64 a.code, .int .i64 a.row, .int .i64 a.col, .int .i64 a.top, .int .i64 a.left, .int .i64 a.bot, .int .i64 a.right, .int .i64 a.op, .string a.name, .int .i64 a.args]) (.agg #[.int .i64 b.kind, .int .i64 b.tag, .int .i64 b.num, .string b.str, .bool b.is, .int .i64 b.code, .int .i64 b.row, .int .i64 b.col, .int .i64 b.top, .int .i64 b.left, .int .i64 b.bot, .int .i64 b.right, .int .i64 b.op, .string b.name, .int .i64 b.args])).run Tryz.prog w = .ok (.bool (sameN a b)) w := by
 rw [run_eql_struct, eqIn]; rfl
theorem neN (a b : Nd) (w : World) : (binOp .neq 65 (.agg #[.int .i64 a.kind, .int .i64 a.tag, .int .i64 a.num, .string a.str, .bool a.is, .int .i64 a.code, .int .i64 a.row, .int .i64 a.col, .int .i64 a.top, .int .i64 a.left, .int .i64 a.bot, .int .i64 a.right, .int .i64 a.op, .string a.name, .int .i64 a.args]) (.agg #[.int .i64 b.kind, .int .i64 b.tag, .int .i64 b.num, .string b.str, .bool b.is, .int .i64 b.code, .int .i64 b.row, .int .i64 b.col, .int .i64 b.top, .int .i64 b.left, .int .i64 b.bot, .int .i64 b.right, .int .i64 b.op, .string b.name, .int .i64 b.args])).run Tryz.prog w = .ok (.bool (!sameN a b)) w := by
 rw [run_neq_struct, eqIn]; rfl
end Go.Proofs.YtcmjhjnpcogmgaaGreatDoor.Rf
namespace Go.Proofs.YtcmjhjnpcogmgaaGreatDoor
open Go.Shelf Go.RowKit
def sgB (t : Tk) (s : ByteArray) : Bool := (t.kind == 7) && (t.str.toList == s.toList)
theorem isSign_n (kind at_ num : Int) (str : ByteArray) (c0 c1 r0 r1 r2 r3 code : Int) (s : ByteArray) (w : World) (h : (kind == 7) = false) : Calls Tryz.prog 53 #[.agg #[.int .i64 kind, .int .i64 at_, .int .i64 num, .string str, .int .i64 c0, .int .i64 c1, .int .i64 r0, .int .i64 r1, .int .i64 r2, .int .i64 r3, .int .i64 code], .string s] w fun e w' => e = .returned (.bool false) ∧ Below w.heap.size w w' := by
 go_enter Tryz.func53, Tryz.ntmps53
 go_wp2
 go_ret
 exact ⟨rfl, zq1⟩
theorem isSign_y (kind at_ num : Int) (str : ByteArray) (c0 c1 r0 r1 r2 r3 code : Int) (s : ByteArray) (w : World) : Calls Tryz.prog 53 #[.agg #[.int .i64 7, .int .i64 at_, .int .i64 num, .string str, .int .i64 c0, .int .i64 c1, .int .i64 r0, .int .i64 r1, .int .i64 r2, .int .i64 r3, .int .i64 code], .string s] w fun e w' => e = .returned (.bool (str.toList == s.toList)) ∧ Below w.heap.size w w' := by
 go_enter Tryz.func53, Tryz.ntmps53
 go_wp2
 go_ret
 exact ⟨rfl, zq1⟩
theorem isSign_any (t : Tk) (s : ByteArray) (w : World) : Calls Tryz.prog 53 #[.agg #[.int .i64 t.kind, .int .i64 t.at', .int .i64 t.num, .string t.str, .int .i64 t.c0, .int .i64 t.c1, .int .i64 t.r0, .int .i64 t.r1, .int .i64 t.r2, .int .i64 t.r3, .int .i64 t.code], .string s] w fun e w' => e = .returned (.bool (sgB t s)) ∧ Below w.heap.size w w' := by
 obtain ⟨kind, at_, num, str, c0, c1, r0, r1, r2, r3, code⟩ := t
 unfold sgB
 cases h : (kind == 7)
 ·exact isSign_n kind at_ num str c0 c1 r0 r1 r2 r3 code s w h
 ·have e : kind = 7 := by simpa using h
  subst e
  exact isSign_y 7 at_ num str c0 c1 r0 r1 r2 r3 code s w
def refV (code at' : Int) : Value := .iface 82 (.agg #[.int .i64 code, .int .i64 at'])
def refC (code at' : Int) : List PanicEntry := [{ v := refV code at', recovered := false }]
theorem refuse_any (code at' : Int) (w : World) : Calls Tryz.prog 88 #[.int .i64 code, .int .i64 at'] w fun e w' => e = .panicked (refC code at') ∧ Below w.heap.size w w' := by
 go_enter Tryz.func88, Tryz.ntmps88
 go_wp2
 exact ⟨rfl, rfl, Below.refl _ _⟩
theorem opNode_any (op : Int) (w : World) : Calls Tryz.prog 95 #[.int .i64 op] w fun e w' => e = .returned (.agg #[.int .i64 4, .int .i64 0, .int .i64 0, .string ⟨#[]⟩, .bool false, .int .i64 0, .int .i64 0, .int .i64 0, .int .i64 0, .int .i64 0, .int .i64 0, .int .i64 0, .int .i64 op, .string ⟨#[]⟩, .int .i64 0]) ∧ Below w.heap.size w w' := by
 go_enter Tryz.func95, Tryz.ntmps95
 go_wp2
 all_goals exact bodyPost_ret (v := .agg #[.int .i64 4, .int .i64 0, .int .i64 0, .string ⟨#[]⟩, .bool false, .int .i64 0, .int .i64 0, .int .i64 0, .int .i64 0, .int .i64 0, .int .i64 0, .int .i64 0, .int .i64 op, .string ⟨#[]⟩, .int .i64 0]) (by simp [results, Tryz.results95, go_sem, *]) rfl ⟨rfl, zq1⟩
theorem callNode_any (name : ByteArray) (args : Int) (w : World) : Calls Tryz.prog 134 #[.string name, .int .i64 args] w fun e w' => e = .returned (.agg #[.int .i64 5, .int .i64 0, .int .i64 0, .string ⟨#[]⟩, .bool false, .int .i64 0, .int .i64 0, .int .i64 0, .int .i64 0, .int .i64 0, .int .i64 0, .int .i64 0, .int .i64 0, .string name, .int .i64 args]) ∧ Below w.heap.size w w' := by
 go_enter Tryz.func134, Tryz.ntmps134
 go_wp2
 all_goals exact bodyPost_ret (v := .agg #[.int .i64 5, .int .i64 0, .int .i64 0, .string ⟨#[]⟩, .bool false, .int .i64 0, .int .i64 0, .int .i64 0, .int .i64 0, .int .i64 0, .int .i64 0, .int .i64 0, .int .i64 0, .string name, .int .i64 args]) (by simp [results, Tryz.results134, go_sem, *]) rfl ⟨rfl, zq1⟩
theorem valueNode_any (tag num : Int) (str : ByteArray) (is : Bool) (code : Int) (w : World) : Calls Tryz.prog 136 #[.agg #[.int .i64 tag, .int .i64 num, .string str, .bool is, .int .i64 code]] w fun e w' => e = .returned (.agg #[.int .i64 1, .int .i64 tag, .int .i64 num, .string str, .bool is, .int .i64 code, .int .i64 0, .int .i64 0, .int .i64 0, .int .i64 0, .int .i64 0, .int .i64 0, .int .i64 0, .string ⟨#[]⟩, .int .i64 0]) ∧ Below w.heap.size w w' := by
 go_enter Tryz.func136, Tryz.ntmps136
 go_wp2
 all_goals exact bodyPost_ret (v := .agg #[.int .i64 1, .int .i64 tag, .int .i64 num, .string str, .bool is, .int .i64 code, .int .i64 0, .int .i64 0, .int .i64 0, .int .i64 0, .int .i64 0, .int .i64 0, .int .i64 0, .string ⟨#[]⟩, .int .i64 0]) (by simp [results, Tryz.results136, go_sem, *]) rfl ⟨rfl, zq1⟩
end Go.Proofs.YtcmjhjnpcogmgaaGreatDoor
