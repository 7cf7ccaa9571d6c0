/- References: their cells, when two are the same, what they read as where they are a map's keys; the contracts of refs's reference and of the document's Ref. New memory alone is made. The condition: of a node that is a cell: that the cell may be. -/
import Derived.Test.YtekpmdpmcbjkkaaDoorN2
import Derived.Test.YtekpmdpmcbjkkaaDoorN3
import Derived.Test.YtekpmdpmcbjkkaaDoorA6
import Derived.Maps.OwnSet
import Derived.Maps.OwnOps
import Derived.DeepKeys4
namespace Go.Proofs.YtekpmdpmcbjkkaaDoor
open Go.Shelf Go.RowKit
set_option linter.all false
/-- A reference. -/
structure Rf where
  many : Bool
  top : Int
  left : Int
  bot : Int
  right : Int
def Rf.cells (r : Rf) : Array Value := #[.bool r.many, .int .i64 r.top, .int .i64 r.left, .int .i64 r.bot, .int .i64 r.right]
theorem Rf.cells_size (r : Rf) : r.cells.size = 5 := rfl
def rf0 : Rf := ⟨false, 0, 0, 0, 0⟩
def sameRf (a b : Rf) : Bool := decide (a.many = b.many ∧ a.top = b.top ∧ a.left = b.left ∧ a.bot = b.bot ∧ a.right = b.right)
theorem sameRf_refl (a : Rf) : sameRf a a = true := by simp [sameRf]
theorem sameRf_is {a b : Rf} (h : sameRf a b = true) : a = b := by
  cases a; cases b; simpa [sameRf] using h
theorem sameRf_f {a b : Rf} (h : a ≠ b) : sameRf a b = false := by
  cases e : sameRf a b
  · rfl
  · exact absurd (sameRf_is e) h
set_option maxHeartbeats 1000000 in
theorem eqInR (a b : Rf) (w : World) : (Op.equalIn 10000 31 (.agg #[.bool a.many, .int .i64 a.top, .int .i64 a.left, .int .i64 a.bot, .int .i64 a.right]) (.agg #[.bool b.many, .int .i64 b.top, .int .i64 b.left, .int .i64 b.bot, .int .i64 b.right])).run Tryd.prog w = .ok (sameRf a b) w := by
  have hr : ∀ (d : Nat) (xs ys : Array Value) (w : World), (Op.equalIn (d + 1) 29 (.agg xs) (.agg ys)).run Tryd.prog w = (Op.eqFields d xs ys (Tryd.prog.fieldsOf 29).toList).run Tryd.prog w := fun d xs ys w => run_equalIn_agg w d 29 _ _ (by kernel_rfl) (by kernel_rfl)
  rw [run_equalIn_agg w 9999 31 _ _ (by kernel_rfl) (by kernel_rfl)]
  unfold sameRf
  go_simp
  by_cases h_many : a.many = b.many
  · skip
    by_cases h_top : a.top = b.top
    · skip
      by_cases h_left : a.left = b.left
      · skip
        by_cases h_bot : a.bot = b.bot
        · skip
          by_cases h_right : a.right = b.right
          · skip
            simp [h_many, h_top, h_left, h_bot, h_right]
          · simp [h_many, h_top, h_left, h_bot, h_right]
        · simp [h_many, h_top, h_left, h_bot]
      · simp [h_many, h_top, h_left]
    · simp [h_many, h_top]
  · simp [h_many]
theorem eqRf (a b : Rf) (w : World) : (binOp .eql 31 (.agg #[.bool a.many, .int .i64 a.top, .int .i64 a.left, .int .i64 a.bot, .int .i64 a.right]) (.agg #[.bool b.many, .int .i64 b.top, .int .i64 b.left, .int .i64 b.bot, .int .i64 b.right])).run Tryd.prog w = .ok (.bool (sameRf a b)) w := by
  rw [run_eql_struct, eqInR]; rfl
theorem neRf (a b : Rf) (w : World) : (binOp .neq 31 (.agg #[.bool a.many, .int .i64 a.top, .int .i64 a.left, .int .i64 a.bot, .int .i64 a.right]) (.agg #[.bool b.many, .int .i64 b.top, .int .i64 b.left, .int .i64 b.bot, .int .i64 b.right])).run Tryd.prog w = .ok (.bool (!sameRf a b)) w := by
  rw [run_neq_struct, eqInR]; rfl
/-- Its integers are int64. -/
def Rf.wf (r : Rf) : Prop := I64 r.top ∧ I64 r.left ∧ I64 r.bot ∧ I64 r.right
theorem wf_of {x : Int} (h : I64 x) : (Lit.int .i64 x).wf = true := WalkArith.wf_i64 (by have := h.1; have := h.2; omega)
theorem laidOut : laidOutB Tryd.prog = true := by kernel_rfl
theorem wideRef : (match Tryd.prog.underlying 31 with | some (.array _ _) | some (.struct _) => true | _ => false) = true := by kernel_rfl
theorem rowRef : 31 < Tryd.prog.types.size := of_decide_eq_true (by kernel_rfl)
set_option maxRecDepth 100000 in
theorem lawRef : Go.Maps.Keyed Tryd.prog 31 := Go.Maps.Keyed.of_law (deep_law_laid laidOut (m := 4) (by omega) rowRef (by kernel_rfl) wideRef)
/-- What a reference reads as, as a key. -/
def keyL (r : Rf) : Lit := .string (keyBytes [.bool r.many, .int .i64 r.top, .int .i64 r.left, .int .i64 r.bot, .int .i64 r.right])
theorem typesN : Tryd.prog.types.size + 1 = (Tryd.prog.types.size - 2) + 3 := by have := rowRef; omega
theorem cellsRef : Tryd.prog.cellsOf 31 = 5 := by kernel_rfl
theorem cellsBool : Tryd.prog.cellsOf 4 = 1 := by kernel_rfl
theorem keyTypeRef : Tryd.prog.keyType 31 = true := by kernel_rfl
theorem kl_int (d : Nat) (n : Int) (h : (Lit.int .i64 n).wf = true) : Tryd.prog.keyLits (d + 1) 3 [.int .i64 n] = some [.int .i64 n] := by
  unfold Program.keyLits
  rw [Tryd.underlying3]
  simp [h]
theorem kl_bool (d : Nat) (b : Bool) : Tryd.prog.keyLits (d + 1) 4 [.bool b] = some [.bool b] := by
  unfold Program.keyLits
  rw [Tryd.underlying4]
theorem kl_rect (d : Nat) (a b c e : Int) (h1 : (Lit.int .i64 a).wf = true) (h2 : (Lit.int .i64 b).wf = true) (h3 : (Lit.int .i64 c).wf = true) (h4 : (Lit.int .i64 e).wf = true) :
    Tryd.prog.keyLits (d + 1 + 1) 29 [.int .i64 a, .int .i64 b, .int .i64 c, .int .i64 e] = some [.int .i64 a, .int .i64 b, .int .i64 c, .int .i64 e] := by
  rw [Program.keyLits.eq_def]
  simp only [Tryd.underlying29, cellsR]
  simp [cellsI, kl_int, h1, h2, h3, h4]
theorem kl_ref (d : Nat) (m : Bool) (a b c e : Int) (h1 : (Lit.int .i64 a).wf = true) (h2 : (Lit.int .i64 b).wf = true) (h3 : (Lit.int .i64 c).wf = true) (h4 : (Lit.int .i64 e).wf = true) :
    Tryd.prog.keyLits (d + 1 + 1 + 1) 31 [.bool m, .int .i64 a, .int .i64 b, .int .i64 c, .int .i64 e] = some [.bool m, .int .i64 a, .int .i64 b, .int .i64 c, .int .i64 e] := by
  rw [Program.keyLits.eq_def]
  simp only [Tryd.underlying31, cellsRef]
  simp [cellsBool, cellsR, kl_bool, kl_rect, h1, h2, h3, h4]
theorem key_of (r : Rf) (h : r.wf) : keyOf Tryd.prog 31 (.agg #[.bool r.many, .int .i64 r.top, .int .i64 r.left, .int .i64 r.bot, .int .i64 r.right]) = some (keyL r) := by
  obtain ⟨h1, h2, h3, h4⟩ := h
  have hf : (Value.agg #[.bool r.many, .int .i64 r.top, .int .i64 r.left, .int .i64 r.bot, .int .i64 r.right]).formed Tryd.prog 31 = true := by unfold Value.formed; simp only [Tryd.underlying31, cellsRef]; rfl
  obtain ⟨d, hd⟩ : ∃ d, Tryd.prog.types.size + 1 = d + 1 + 1 + 1 := ⟨_, typesN⟩
  have hk : Tryd.prog.keyLits (Tryd.prog.types.size + 1) 31 (Value.agg #[.bool r.many, .int .i64 r.top, .int .i64 r.left, .int .i64 r.bot, .int .i64 r.right]).cells.toList = some [.bool r.many, .int .i64 r.top, .int .i64 r.left, .int .i64 r.bot, .int .i64 r.right] := by
    rw [hd]; exact kl_ref d _ _ _ _ _ (wf_of h1) (wf_of h2) (wf_of h3) (wf_of h4)
  unfold keyOf
  rw [hf, keyTypeRef, hk]
  simp only [Tryd.underlying31, Bool.and_true, if_true]
  rfl
theorem key_inj {a b : Rf} (ha : a.wf) (hb : b.wf) (h : keyL a = keyL b) : a = b := by
  have h1 := key_of a ha
  rw [h] at h1
  have h2 := lawRef.inj h1 (key_of b hb)
  cases a; cases b
  simpa using h2
end Go.Proofs.YtekpmdpmcbjkkaaDoor
