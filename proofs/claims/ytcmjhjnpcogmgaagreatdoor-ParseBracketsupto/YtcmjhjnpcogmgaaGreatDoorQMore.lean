/- What this claim wants of three texts beyond what stands there. -/
import Derived.Test.YtcmjhjnpcogmgaaGreatDoorQLX
import Derived.Test.YtcmjhjnpcogmgaaGreatDoorQRfN0
import Derived.Test.YtcmjhjnpcogmgaaGreatDoorQRfN3
namespace Go.Proofs.YtcmjhjnpcogmgaaGreatDoor
open Go.RowKit
set_option linter.all false
theorem reachL_nil : reachL [] = 0 := by simp [reachL]
end Go.Proofs.YtcmjhjnpcogmgaaGreatDoor
namespace Go.Proofs.YtcmjhjnpcogmgaaGreatDoor.Rf
open Go.RowKit
set_option linter.all false
theorem sameN_refl (a : Nd) : sameN a a = true := by simp [sameN]
theorem neN (a b : Nd) (w : World) : (binOp .neq 65 (.agg #[.int .i64 a.kind, .int .i64 a.tag, .int .i64 a.num, .string a.str, .bool a.is, .int .i64 a.code, .int .i64 a.row, .int .i64 a.col, .int .i64 a.top, .int .i64 a.left, .int .i64 a.bot, .int .i64 a.right, .int .i64 a.op, .string a.name, .int .i64 a.args]) (.agg #[.int .i64 b.kind, .int .i64 b.tag, .int .i64 b.num, .string b.str, .bool b.is, .int .i64 b.code, .int .i64 b.row, .int .i64 b.col, .int .i64 b.top, .int .i64 b.left, .int .i64 b.bot, .int .i64 b.right, .int .i64 b.op, .string b.name, .int .i64 b.args])).run Tryz.prog w = .ok (.bool (!sameN a b)) w := by
  rw [run_neq_struct, eqIn]; rfl
end Go.Proofs.YtcmjhjnpcogmgaaGreatDoor.Rf
namespace Go.Proofs.YtcmjhjnpcogmgaaGreatDoor.Rf
open Go.RowKit
set_option linter.all false
/-- Whether two lists of nodes are the same. -/
def sameL : List Nd → List Nd → Bool
  | [], [] => true
  | a :: xs, b :: ys => sameN a b && sameL xs ys
  | _, _ => false
theorem sameL_refl : ∀ l : List Nd, sameL l l = true
  | [] => rfl
  | a :: xs => by simp [sameL, sameN_refl, sameL_refl xs]
theorem sameL_is : ∀ {a b : List Nd}, sameL a b = true → a = b
  | [], [], _ => rfl
  | a :: xs, b :: ys, h => by
    simp only [sameL, Bool.and_eq_true] at h
    rw [sameN_is h.1, sameL_is h.2]
  | [], b :: ys, h => by cases h
  | a :: xs, [], h => by cases h
theorem sameL_f {a b : List Nd} (h : a ≠ b) : sameL a b = false := by
  cases e : sameL a b
  · rfl
  · exact absurd (sameL_is e) h
theorem ne_at {xs ys : List Nd} {i : Nat} {x y : Nd} (h1 : xs[i]? = some x) (h2 : ys[i]? = some y) (hs : sameN x y = false) : xs ≠ ys := by
  rintro rfl
  rw [h1] at h2
  cases h2
  rw [sameN_refl] at hs
  cases hs
theorem take_more {xs ys : List Nd} {i : Nat} {x y : Nd} (h1 : xs[i]? = some x) (h2 : ys[i]? = some y) (hs : sameN x y = true) (h : xs.take i = ys.take i) : xs.take (i + 1) = ys.take (i + 1) := by
  rw [List.take_succ, List.take_succ, h1, h2, h, sameN_is hs]
end Go.Proofs.YtcmjhjnpcogmgaaGreatDoor.Rf
