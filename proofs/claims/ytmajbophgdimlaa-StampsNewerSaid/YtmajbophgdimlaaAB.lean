/- What the laws of this seat share: numbers, blocks of the caller's own, cells and rectangles as they come in and read afterwards, equality of cells and rectangles. No function's text is walked here. -/
import Derived.Test.YtmajbophgdimlaaRows
import Derived.WalkKit
import Derived.WalkSpells
import Derived.Outline
import Derived.Laws.StructEq
import Derived.Laws.NewBlocks
import Derived.Deep.RegionWith
import Derived.Deep.RegionHeld3
import Derived.ProofKit
import Derived.OpenShut
import Derived.ShutString
import Derived.Deep.QuietTactic
import Derived.BigQuiet
namespace Go.Proofs.Ytmajbophgdimlaa
open Go.RowKit Go.ChangeShapes Go.WideShapes Go.ChangeAt
set_option linter.all false
/-- An int64. -/
def I64 (x : Int) : Prop := -9223372036854775808 ≤ x ∧ x ≤ 9223372036854775807
theorem i64_of {x : Int} (h : (Lit.int .i64 x).wf = true) : I64 x := by
  have : -9223372036854775808 ≤ x ∧ x ≤ 9223372036854775807 := by simpa [Lit.wf, IntKind.min, IntKind.max, IntKind.signed, IntKind.bits] using h
  exact this
theorem retB {a b : Bool} (h : a = b) : Ending.returned (.bool a) = .returned (.bool b) := by rw [h]
theorem ret1 {k : IntKind} {a b : Int} (h : a = b) : Ending.returned (.int k a) = .returned (.int k b) := by rw [h]
theorem retS {a b : ByteArray} (h : a = b) : Ending.returned (.string a) = .returned (.string b) := by rw [h]
theorem bal (w : World) (o : Obj) : Below w.heap.size w (w.alloc o) := (Below.refl _ _).alloc (Nat.le_refl _) _
theorem bup {w W w1 : World} (h : Below w.heap.size w W) (hb : Below W.heap.size W w1) : Below w.heap.size w w1 := h.trans (hb.mono h.size)
/-- The block holds these cells, and none of them is frozen. -/
structure Own (w : World) (blk : Nat) (A : Array Value) : Prop where
  lt : blk < w.heap.size
  cell : ∀ o, w.cell? ⟨blk, o, none⟩ = A[o]?
  fro : ∀ o, w.frozen? ⟨blk, o, none⟩ = false
theorem Own.keep {W w1 : World} {blk : Nat} {A : Array Value} (h : Own W blk A) (hb : Below W.heap.size W w1) : Own w1 blk A :=
  ⟨Nat.lt_of_lt_of_le h.lt hb.size, fun o => (hb.cell (p := ⟨blk, o, none⟩) h.lt).trans (h.cell o), fun o => (hb.frozen (p := ⟨blk, o, none⟩) h.lt).trans (h.fro o)⟩
theorem Own.new (w : World) (A : Array Value) (T : TypeId) : Own (w.alloc (.cells A T)) w.heap.size A :=
  ⟨by simp, fun o => World.cell?_alloc_new w A T o, fun o => World.frozen?_alloc_new w A T o⟩
theorem Own.past {w : World} {blk : Nat} {A : Array Value} (h : Own w blk A) (x : Obj) : Own (w.alloc x) blk A := h.keep (bal w x)
theorem Own.drew {w : World} {blk : Nat} {A : Array Value} (h : Own w blk A) : Own w.drew blk A := h.keep (Below.refl _ _).drew
theorem Own.at {w : World} {A : Array Value} {T : TypeId} {n : Nat} (h : n = w.heap.size) : Own (w.alloc (.cells A T)) n A := by subst h; exact Own.new _ _ _
theorem Own.size {w : World} {blk : Nat} {A : Array Value} (h : Own w blk A) : blk < w.heap.size := h.lt
/-- Whether two cells, two rectangles are the same. -/
def sameC (a b a' b' : Int) : Bool := decide (a = a' ∧ b = b')
theorem sameC_refl (a b : Int) : sameC a b a b = true := by simp [sameC]
theorem eqC (a b a' b' : Int) (w : World) : (binOp .eql 30 (.agg #[.int .i64 a, .int .i64 b]) (.agg #[.int .i64 a', .int .i64 b'])).run Try.prog w = .ok (.bool (sameC a b a' b')) w := by
  rw [run_eql_struct, run_equalIn_agg w 9999 30 _ _ (by kernel_rfl) (by kernel_rfl)]
  unfold sameC
  go_simp
  by_cases h1 : a = a' <;> by_cases h2 : b = b' <;> simp [h1, h2]
theorem neC (a b a' b' : Int) (w : World) : (binOp .neq 30 (.agg #[.int .i64 a, .int .i64 b]) (.agg #[.int .i64 a', .int .i64 b'])).run Try.prog w = .ok (.bool (!sameC a b a' b')) w := by
  rw [run_neq_struct, run_equalIn_agg w 9999 30 _ _ (by kernel_rfl) (by kernel_rfl)]
  unfold sameC
  go_simp
  by_cases h1 : a = a' <;> by_cases h2 : b = b' <;> simp [h1, h2]
theorem own : ownKnob Try.prog.godebug = none := by kernel_rfl
theorem cellsI : Try.prog.cellsOf 3 = 1 := by kernel_rfl
theorem cellsC : Try.prog.cellsOf 30 = 2 := by kernel_rfl
theorem array2 {α : Type} {cs : Array α} (h : cs.size = 2) : ∃ c0 c1, cs = #[c0, c1] := by
  obtain ⟨l⟩ := cs
  match l, h with
  | [c0, c1], _ => exact ⟨c0, c1, rfl⟩
theorem array4 {α : Type} {cs : Array α} (h : cs.size = 4) : ∃ c0 c1 c2 c3, cs = #[c0, c1, c2, c3] := by
  obtain ⟨l⟩ := cs
  match l, h with
  | [c0, c1, c2, c3], _ => exact ⟨c0, c1, c2, c3, rfl⟩
section
variable {H : Type} {enc : TypeId × Value → H} {w : World} {base : Nat} {spare : Nat → Bool} {held : Bool} {r : Reach} {b0 : Nat}
set_option maxRecDepth 100000 in
/-- A cell's two numbers as they are read. -/
theorem trod_cell {n : Nat} {c0 c1 : Value} {y : DataW H × List MemPlace} (h : DataW.trod enc Try.prog w base spare held n 30 [c0, c1] = some y) :
    ∃ a b : Int, c0 = .int .i64 a ∧ c1 = .int .i64 b ∧ y = (.agg [.lit (.int .i64 a), .lit (.int .i64 b)], []) ∧ (Lit.int .i64 a).wf = true ∧ (Lit.int .i64 b).wf = true := by
  obtain ⟨y0, y1, m, rfl, _, g0, g1⟩ := trod_struct2 Try.underlying30 h
  have g0' : DataW.trod enc Try.prog w base spare held m 3 [c0] = some y0 := by simpa [cellsI] using g0
  have g1' : DataW.trod enc Try.prog w base spare held m 3 [c1] = some y1 := by simpa [cellsI] using g1
  obtain ⟨a, e0, rfl, w0⟩ := DataW.trod_int Try.underlying3 g0'
  obtain ⟨b, e1, rfl, w1⟩ := DataW.trod_int Try.underlying3 g1'
  simp only [List.cons.injEq, and_true] at e0 e1
  exact ⟨a, b, e0, e1, rfl, w0, w1⟩
set_option maxRecDepth 100000 in
theorem trod_cell_mk (n : Nat) {a b : Int} (h0 : (Lit.int .i64 a).wf = true) (h1 : (Lit.int .i64 b).wf = true) :
    DataW.trod enc Try.prog w base spare held (n + 2) 30 [.int .i64 a, .int .i64 b] = some (.agg [.lit (.int .i64 a), .lit (.int .i64 b)], []) := by
  have k0 : DataW.trod enc Try.prog w base spare held (n + 1) 3 [.int .i64 a] = some (.lit (.int .i64 a), []) := trod_int_mk n Try.underlying3 h0
  have k1 : DataW.trod enc Try.prog w base spare held (n + 1) 3 [.int .i64 b] = some (.lit (.int .i64 b), []) := trod_int_mk n Try.underlying3 h1
  have hk := trod_struct_mk (enc := enc) (P := Try.prog) (w := w) (base := base) (spare := spare) (held := held) (n := n + 1) (cs := [.int .i64 a, .int .i64 b]) (xs := [(.lit (.int .i64 a), []), (.lit (.int .i64 b), [])]) Try.underlying30 (by rw [cellsC]; rfl) (by
    simp [cellsI, k0, k1])
  simpa using hk
set_option maxRecDepth 100000 in
theorem open_cell {v : Value} {d : DataW H} {p : List MemPlace}
    (hv : Value.okWide Try.prog w r b0 30 v) (h : DataW.Trod enc Try.prog w base spare held 30 v d p) :
    ∃ a b : Int, v = .agg #[.int .i64 a, .int .i64 b] ∧ d = .agg [.lit (.int .i64 a), .lit (.int .i64 b)] ∧ p = [] ∧ (Lit.int .i64 a).wf = true ∧ (Lit.int .i64 b).wf = true := by
  obtain ⟨cs, rfl, hsz⟩ := okWide_struct Try.underlying30 hv
  obtain ⟨c0, c1, rfl⟩ := array2 (hsz.trans cellsC)
  obtain ⟨fuel, hf⟩ := h
  obtain ⟨a, b, rfl, rfl, e, w0, w1⟩ := trod_cell (by simpa [Value.cells] using hf)
  simp only [Prod.mk.injEq] at e
  exact ⟨a, b, rfl, e.1, e.2, w0, w1⟩
set_option maxRecDepth 100000 in
theorem shut_cell {a b : Int} (h0 : (Lit.int .i64 a).wf = true) (h1 : (Lit.int .i64 b).wf = true) :
    DataW.Trod enc Try.prog w base spare held 30 (.agg #[.int .i64 a, .int .i64 b]) (.agg [.lit (.int .i64 a), .lit (.int .i64 b)]) [] :=
  ⟨2, by simpa [Value.cells] using trod_cell_mk 0 h0 h1⟩
end
end Go.Proofs.Ytmajbophgdimlaa
