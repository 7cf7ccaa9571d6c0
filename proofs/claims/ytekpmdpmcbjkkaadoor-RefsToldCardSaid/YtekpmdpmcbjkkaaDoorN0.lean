/- Nodes of a formula as they lie in memory: their fifteen cells, and when two are the same. No function's text is walked here. -/
import Derived.Test.YtekpmdpmcbjkkaaDoorA2
import Derived.Test.YtekpmdpmcbjkkaaDoorVvV2
import Derived.Lib.Hide
namespace Go.Proofs.YtekpmdpmcbjkkaaDoor
open Go.RowKit
set_option linter.all false
/-- A node. -/
structure Nd where
  kind : Int
  tag : Int
  num : Int
  str : ByteArray
  is : Bool
  code : Int
  row : Int
  col : Int
  top : Int
  left : Int
  bot : Int
  right : Int
  op : Int
  name : ByteArray
  args : Int
def Nd.cells (n : Nd) : Array Value := #[.int .i64 n.kind, .int .i64 n.tag, .int .i64 n.num, .string n.str, .bool n.is, .int .i64 n.code, .int .i64 n.row, .int .i64 n.col, .int .i64 n.top, .int .i64 n.left, .int .i64 n.bot, .int .i64 n.right, .int .i64 n.op, .string n.name, .int .i64 n.args]
/-- The node with nothing in it. -/
def nd0 : Nd := ⟨0, 0, 0, ⟨#[]⟩, false, 0, 0, 0, 0, 0, 0, 0, 0, ⟨#[]⟩, 0⟩
/-- Its integers are int64. -/
def Nd.wf (n : Nd) : Prop := I64 n.kind ∧ I64 n.tag ∧ I64 n.num ∧ I64 n.code ∧ I64 n.row ∧ I64 n.col ∧ I64 n.top ∧ I64 n.left ∧ I64 n.bot ∧ I64 n.right ∧ I64 n.op ∧ I64 n.args
def sameN (a b : Nd) : Bool := decide (a.kind = b.kind ∧ a.tag = b.tag ∧ a.num = b.num ∧ a.str = b.str ∧ a.is = b.is ∧ a.code = b.code ∧ a.row = b.row ∧ a.col = b.col ∧ a.top = b.top ∧ a.left = b.left ∧ a.bot = b.bot ∧ a.right = b.right ∧ a.op = b.op ∧ a.name = b.name ∧ a.args = b.args)
theorem sameN_refl (a : Nd) : sameN a a = true := by simp [sameN]
theorem sameN_is {a b : Nd} (h : sameN a b = true) : a = b := by
  cases a; cases b; simpa [sameN] using h
theorem sameN_comm (a b : Nd) : sameN a b = sameN b a := by
  cases h : sameN a b
  · cases k : sameN b a
    · rfl
    · rw [sameN_is k, sameN_refl] at h; cases h
  · rw [sameN_is h, sameN_refl]
theorem toLi {s s' : ByteArray} (h : s.toList = s'.toList) : s = s' := Vv.toList_inj h
theorem beqL (s s' : ByteArray) : (s.toList == s'.toList) = decide (s = s') := by
  by_cases h : s = s'
  · subst h; simp
  · have : ¬ s.toList = s'.toList := fun k => h (toLi k)
    simp [h, this]
set_option maxHeartbeats 1000000 in
theorem eqIn (a b : Nd) (w : World) : (Op.equalIn 10000 42 (.agg #[.int .i64 a.kind, .int .i64 a.tag, .int .i64 a.num, .string a.str, .bool a.is, .int .i64 a.code, .int .i64 a.row, .int .i64 a.col, .int .i64 a.top, .int .i64 a.left, .int .i64 a.bot, .int .i64 a.right, .int .i64 a.op, .string a.name, .int .i64 a.args]) (.agg #[.int .i64 b.kind, .int .i64 b.tag, .int .i64 b.num, .string b.str, .bool b.is, .int .i64 b.code, .int .i64 b.row, .int .i64 b.col, .int .i64 b.top, .int .i64 b.left, .int .i64 b.bot, .int .i64 b.right, .int .i64 b.op, .string b.name, .int .i64 b.args])).run Tryd.prog w = .ok (sameN a b) w := by
  have hv : ∀ (d : Nat) (xs ys : Array Value) (w : World), (Op.equalIn (d + 1) 38 (.agg xs) (.agg ys)).run Tryd.prog w = (Op.eqFields d xs ys (Tryd.prog.fieldsOf 38).toList).run Tryd.prog w := fun d xs ys w => run_equalIn_agg w d 38 _ _ (by kernel_rfl) (by kernel_rfl)
  have hc : ∀ (d : Nat) (xs ys : Array Value) (w : World), (Op.equalIn (d + 1) 40 (.agg xs) (.agg ys)).run Tryd.prog w = (Op.eqFields d xs ys (Tryd.prog.fieldsOf 40).toList).run Tryd.prog w := fun d xs ys w => run_equalIn_agg w d 40 _ _ (by kernel_rfl) (by kernel_rfl)
  have hr : ∀ (d : Nat) (xs ys : Array Value) (w : World), (Op.equalIn (d + 1) 29 (.agg xs) (.agg ys)).run Tryd.prog w = (Op.eqFields d xs ys (Tryd.prog.fieldsOf 29).toList).run Tryd.prog w := fun d xs ys w => run_equalIn_agg w d 29 _ _ (by kernel_rfl) (by kernel_rfl)
  rw [run_equalIn_agg w 9999 42 _ _ (by kernel_rfl) (by kernel_rfl)]
  unfold sameN
  go_simp
  by_cases h_kind : a.kind = b.kind
  · skip
    by_cases h_tag : a.tag = b.tag
    · skip
      by_cases h_num : a.num = b.num
      · skip
        by_cases h_str : a.str = b.str
        · skip
          by_cases h_is : a.is = b.is
          · skip
            by_cases h_code : a.code = b.code
            · skip
              by_cases h_row : a.row = b.row
              · skip
                by_cases h_col : a.col = b.col
                · skip
                  by_cases h_top : a.top = b.top
                  · skip
                    by_cases h_left : a.left = b.left
                    · skip
                      by_cases h_bot : a.bot = b.bot
                      · skip
                        by_cases h_right : a.right = b.right
                        · skip
                          by_cases h_op : a.op = b.op
                          · skip
                            by_cases h_name : a.name = b.name
                            · skip
                              by_cases h_args : a.args = b.args
                              · skip
                                simp [h_kind, h_tag, h_num, h_str, h_is, h_code, h_row, h_col, h_top, h_left, h_bot, h_right, h_op, h_name, h_args]
                              · simp [h_kind, h_tag, h_num, h_str, h_is, h_code, h_row, h_col, h_top, h_left, h_bot, h_right, h_op, h_name, h_args]
                            · have q : ¬ a.name.toList = b.name.toList := fun h => h_name (toLi h)
                              simp [h_kind, h_tag, h_num, h_str, h_is, h_code, h_row, h_col, h_top, h_left, h_bot, h_right, h_op, h_name, q]
                          · simp [h_kind, h_tag, h_num, h_str, h_is, h_code, h_row, h_col, h_top, h_left, h_bot, h_right, h_op]
                        · simp [h_kind, h_tag, h_num, h_str, h_is, h_code, h_row, h_col, h_top, h_left, h_bot, h_right]
                      · simp [h_kind, h_tag, h_num, h_str, h_is, h_code, h_row, h_col, h_top, h_left, h_bot]
                    · simp [h_kind, h_tag, h_num, h_str, h_is, h_code, h_row, h_col, h_top, h_left]
                  · simp [h_kind, h_tag, h_num, h_str, h_is, h_code, h_row, h_col, h_top]
                · simp [h_kind, h_tag, h_num, h_str, h_is, h_code, h_row, h_col]
              · simp [h_kind, h_tag, h_num, h_str, h_is, h_code, h_row]
            · simp [h_kind, h_tag, h_num, h_str, h_is, h_code]
          · simp [h_kind, h_tag, h_num, h_str, h_is]
        · have q : ¬ a.str.toList = b.str.toList := fun h => h_str (toLi h)
          simp [h_kind, h_tag, h_num, h_str, q]
      · simp [h_kind, h_tag, h_num]
    · simp [h_kind, h_tag]
  · simp [h_kind]
theorem eqN (a b : Nd) (w : World) : (binOp .eql 42 (.agg #[.int .i64 a.kind, .int .i64 a.tag, .int .i64 a.num, .string a.str, .bool a.is, .int .i64 a.code, .int .i64 a.row, .int .i64 a.col, .int .i64 a.top, .int .i64 a.left, .int .i64 a.bot, .int .i64 a.right, .int .i64 a.op, .string a.name, .int .i64 a.args]) (.agg #[.int .i64 b.kind, .int .i64 b.tag, .int .i64 b.num, .string b.str, .bool b.is, .int .i64 b.code, .int .i64 b.row, .int .i64 b.col, .int .i64 b.top, .int .i64 b.left, .int .i64 b.bot, .int .i64 b.right, .int .i64 b.op, .string b.name, .int .i64 b.args])).run Tryd.prog w = .ok (.bool (sameN a b)) w := by
  rw [run_eql_struct, eqIn]; rfl
theorem neN (a b : Nd) (w : World) : (binOp .neq 42 (.agg #[.int .i64 a.kind, .int .i64 a.tag, .int .i64 a.num, .string a.str, .bool a.is, .int .i64 a.code, .int .i64 a.row, .int .i64 a.col, .int .i64 a.top, .int .i64 a.left, .int .i64 a.bot, .int .i64 a.right, .int .i64 a.op, .string a.name, .int .i64 a.args]) (.agg #[.int .i64 b.kind, .int .i64 b.tag, .int .i64 b.num, .string b.str, .bool b.is, .int .i64 b.code, .int .i64 b.row, .int .i64 b.col, .int .i64 b.top, .int .i64 b.left, .int .i64 b.bot, .int .i64 b.right, .int .i64 b.op, .string b.name, .int .i64 b.args])).run Tryd.prog w = .ok (.bool (!sameN a b)) w := by
  rw [run_neq_struct, eqIn]; rfl
end Go.Proofs.YtekpmdpmcbjkkaaDoor
