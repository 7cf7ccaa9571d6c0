/- What the laws of this seat share: numbers, blocks of the caller's own, cells and rectangles as they come in and read afterwards, equality of cells and rectangles. No function's text is walked here. -/
import Derived.Test.YtekpmdpmcbjkkaaDoorRows
import Derived.WalkKit
import Derived.WalkSpells
import Derived.Outline
import Derived.Laws.StructEq
import Derived.Laws.NewBlocks
import Derived.Deep.RegionWith
import Derived.Deep.RegionHeld3
import Derived.ProofKit
import Derived.OpenShut
import Derived.ShutString
import Derived.Deep.QuietTactic
import Derived.BigQuiet
namespace Go.Proofs.YtekpmdpmcbjkkaaDoor
open Go.RowKit Go.ChangeShapes Go.WideShapes Go.ChangeAt
set_option linter.all false
/-- An int64. -/
def I64 (x : Int) : Prop := -9223372036854775808 ≤ x ∧ x ≤ 9223372036854775807
theorem i64_of {x : Int} (h : (Lit.int .i64 x).wf = true) : I64 x := by
  have : -9223372036854775808 ≤ x ∧ x ≤ 9223372036854775807 := by simpa [Lit.wf, IntKind.min, IntKind.max, IntKind.signed, IntKind.bits] using h
  exact this
theorem retB {a b : Bool} (h : a = b) : Ending.returned (.bool a) = .returned (.bool b) := by rw [h]
theorem ret1 {k : IntKind} {a b : Int} (h : a = b) : Ending.returned (.int k a) = .returned (.int k b) := by rw [h]
theorem retS {a b : ByteArray} (h : a = b) : Ending.returned (.string a) = .returned (.string b) := by rw [h]
theorem bal (w : World) (o : Obj) : Below w.heap.size w (w.alloc o) := (Below.refl _ _).alloc (Nat.le_refl _) _
theorem bup {w W w1 : World} (h : Below w.heap.size w W) (hb : Below W.heap.size W w1) : Below w.heap.size w w1 := h.trans (hb.mono h.size)
/-- The block holds these cells, and none of them is frozen. -/
structure Own (w : World) (blk : Nat) (A : Array Value) : Prop where
  lt : blk < w.heap.size
  cell : ∀ o, w.cell? ⟨blk, o, none⟩ = A[o]?
  fro : ∀ o, w.frozen? ⟨blk, o, none⟩ = false
theorem Own.keep {W w1 : World} {blk : Nat} {A : Array Value} (h : Own W blk A) (hb : Below W.heap.size W w1) : Own w1 blk A :=
  ⟨Nat.lt_of_lt_of_le h.lt hb.size, fun o => (hb.cell (p := ⟨blk, o, none⟩) h.lt).trans (h.cell o), fun o => (hb.frozen (p := ⟨blk, o, none⟩) h.lt).trans (h.fro o)⟩
theorem Own.new (w : World) (A : Array Value) (T : TypeId) : Own (w.alloc (.cells A T)) w.heap.size A :=
  ⟨by simp, fun o => World.cell?_alloc_new w A T o, fun o => World.frozen?_alloc_new w A T o⟩
theorem Own.past {w : World} {blk : Nat} {A : Array Value} (h : Own w blk A) (x : Obj) : Own (w.alloc x) blk A := h.keep (bal w x)
theorem Own.drew {w : World} {blk : Nat} {A : Array Value} (h : Own w blk A) : Own w.drew blk A := h.keep (Below.refl _ _).drew
theorem Own.at {w : World} {A : Array Value} {T : TypeId} {n : Nat} (h : n = w.heap.size) : Own (w.alloc (.cells A T)) n A := by subst h; exact Own.new _ _ _
theorem Own.size {w : World} {blk : Nat} {A : Array Value} (h : Own w blk A) : blk < w.heap.size := h.lt
/-- Whether two cells, two rectangles are the same. -/
def sameC (a b a' b' : Int) : Bool := decide (a = a' ∧ b = b')
def sameR (a b c d a' b' c' d' : Int) : Bool := decide (a = a' ∧ b = b' ∧ c = c' ∧ d = d')
theorem sameC_refl (a b : Int) : sameC a b a b = true := by simp [sameC]
theorem sameR_refl (a b c d : Int) : sameR a b c d a b c d = true := by simp [sameR]
theorem eqC (a b a' b' : Int) (w : World) : (binOp .eql 40 (.agg #[.int .i64 a, .int .i64 b]) (.agg #[.int .i64 a', .int .i64 b'])).run Tryd.prog w = .ok (.bool (sameC a b a' b')) w := by
  rw [run_eql_struct, run_equalIn_agg w 9999 40 _ _ (by kernel_rfl) (by kernel_rfl)]
  unfold sameC
  go_simp
  by_cases h1 : a = a' <;> by_cases h2 : b = b' <;> simp [h1, h2]
theorem eqR (a b c d a' b' c' d' : Int) (w : World) : (binOp .eql 29 (.agg #[.int .i64 a, .int .i64 b, .int .i64 c, .int .i64 d]) (.agg #[.int .i64 a', .int .i64 b', .int .i64 c', .int .i64 d'])).run Tryd.prog w = .ok (.bool (sameR a b c d a' b' c' d')) w := by
  rw [run_eql_struct, run_equalIn_agg w 9999 29 _ _ (by kernel_rfl) (by kernel_rfl)]
  unfold sameR
  go_simp
  by_cases h1 : a = a'
  · by_cases h2 : b = b'
    · by_cases h3 : c = c' <;> by_cases h4 : d = d' <;> simp [h1, h2, h3, h4]
    · simp [h1, h2]
  · simp [h1]
theorem neC (a b a' b' : Int) (w : World) : (binOp .neq 40 (.agg #[.int .i64 a, .int .i64 b]) (.agg #[.int .i64 a', .int .i64 b'])).run Tryd.prog w = .ok (.bool (!sameC a b a' b')) w := by
  rw [run_neq_struct, run_equalIn_agg w 9999 40 _ _ (by kernel_rfl) (by kernel_rfl)]
  unfold sameC
  go_simp
  by_cases h1 : a = a' <;> by_cases h2 : b = b' <;> simp [h1, h2]
theorem neR (a b c d a' b' c' d' : Int) (w : World) : (binOp .neq 29 (.agg #[.int .i64 a, .int .i64 b, .int .i64 c, .int .i64 d]) (.agg #[.int .i64 a', .int .i64 b', .int .i64 c', .int .i64 d'])).run Tryd.prog w = .ok (.bool (!sameR a b c d a' b' c' d')) w := by
  rw [run_neq_struct, run_equalIn_agg w 9999 29 _ _ (by kernel_rfl) (by kernel_rfl)]
  unfold sameR
  go_simp
  by_cases h1 : a = a'
  · by_cases h2 : b = b'
    · by_cases h3 : c = c' <;> by_cases h4 : d = d' <;> simp [h1, h2, h3, h4]
    · simp [h1, h2]
  · simp [h1]
theorem own : ownKnob Tryd.prog.godebug = none := by kernel_rfl
theorem cellsI : Tryd.prog.cellsOf 3 = 1 := by kernel_rfl
theorem cellsC : Tryd.prog.cellsOf 40 = 2 := by kernel_rfl
theorem cellsR : Tryd.prog.cellsOf 29 = 4 := by kernel_rfl
theorem array2 {α : Type} {cs : Array α} (h : cs.size = 2) : ∃ c0 c1, cs = #[c0, c1] := by
  obtain ⟨l⟩ := cs
  match l, h with
  | [c0, c1], _ => exact ⟨c0, c1, rfl⟩
theorem array4 {α : Type} {cs : Array α} (h : cs.size = 4) : ∃ c0 c1 c2 c3, cs = #[c0, c1, c2, c3] := by
  obtain ⟨l⟩ := cs
  match l, h with
  | [c0, c1, c2, c3], _ => exact ⟨c0, c1, c2, c3, rfl⟩
end Go.Proofs.YtekpmdpmcbjkkaaDoor
