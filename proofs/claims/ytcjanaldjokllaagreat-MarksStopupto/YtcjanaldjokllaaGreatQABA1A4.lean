/- What the laws of this seat share: numbers, blocks of the caller's own, cells and rectangles as they come in and read afterwards, equality of cells and rectangles. No function's text is walked here. · The contracts of May (of package addr and of the document's answer): of every cell whether it may be. New memory alone is made. No condition. · The contract of In of package addr: of every rectangle and cell whether the cell is in it. New memory alone is made. No condition. -/
import Derived.Test.YtcjanaldjokllaaGreatRows
import Derived.WalkKit
import Derived.WalkSpells
import Derived.Outline
import Derived.Laws.StructEq
import Derived.Laws.NewBlocks
import Derived.Deep.RegionWith
import Derived.Deep.RegionHeld3
import Derived.ProofKit
import Derived.OpenShut
import Derived.ShutString
import Derived.Deep.QuietTactic
import Derived.BigQuiet
namespace Go.Proofs.YtcjanaldjokllaaGreat
open Go.RowKit Go.ChangeShapes Go.WideShapes Go.ChangeAt
set_option linter.all false
/-- An int64. -/
def I64 (x : Int) : Prop := -9223372036854775808 ≤ x ∧ x ≤ 9223372036854775807
theorem i64_of {x : Int} (h : (Lit.int .i64 x).wf = true) : I64 x := by
  have : -9223372036854775808 ≤ x ∧ x ≤ 9223372036854775807 := by simpa [Lit.wf, IntKind.min, IntKind.max, IntKind.signed, IntKind.bits] using h
  exact this
theorem retB {a b : Bool} (h : a = b) : Ending.returned (.bool a) = .returned (.bool b) := by rw [h]
theorem ret1 {k : IntKind} {a b : Int} (h : a = b) : Ending.returned (.int k a) = .returned (.int k b) := by rw [h]
theorem bal (w : World) (o : Obj) : Below w.heap.size w (w.alloc o) := (Below.refl _ _).alloc (Nat.le_refl _) _
theorem bup {w W w1 : World} (h : Below w.heap.size w W) (hb : Below W.heap.size W w1) : Below w.heap.size w w1 := h.trans (hb.mono h.size)
/-- The block holds these cells, and none of them is frozen. -/
structure Own (w : World) (blk : Nat) (A : Array Value) : Prop where
  lt : blk < w.heap.size
  cell : ∀ o, w.cell? ⟨blk, o, none⟩ = A[o]?
  fro : ∀ o, w.frozen? ⟨blk, o, none⟩ = false
theorem Own.keep {W w1 : World} {blk : Nat} {A : Array Value} (h : Own W blk A) (hb : Below W.heap.size W w1) : Own w1 blk A :=
  ⟨Nat.lt_of_lt_of_le h.lt hb.size, fun o => (hb.cell (p := ⟨blk, o, none⟩) h.lt).trans (h.cell o), fun o => (hb.frozen (p := ⟨blk, o, none⟩) h.lt).trans (h.fro o)⟩
theorem Own.new (w : World) (A : Array Value) (T : TypeId) : Own (w.alloc (.cells A T)) w.heap.size A :=
  ⟨by simp, fun o => World.cell?_alloc_new w A T o, fun o => World.frozen?_alloc_new w A T o⟩
theorem Own.past {w : World} {blk : Nat} {A : Array Value} (h : Own w blk A) (x : Obj) : Own (w.alloc x) blk A := h.keep (bal w x)
theorem Own.drew {w : World} {blk : Nat} {A : Array Value} (h : Own w blk A) : Own w.drew blk A := h.keep (Below.refl _ _).drew
theorem Own.at {w : World} {A : Array Value} {T : TypeId} {n : Nat} (h : n = w.heap.size) : Own (w.alloc (.cells A T)) n A := by subst h; exact Own.new _ _ _
theorem Own.size {w : World} {blk : Nat} {A : Array Value} (h : Own w blk A) : blk < w.heap.size := h.lt
/-- Whether two cells, two rectangles are the same. -/
def sameC (a b a' b' : Int) : Bool := decide (a = a' ∧ b = b')
theorem eqC (a b a' b' : Int) (w : World) : (binOp .eql 32 (.agg #[.int .i64 a, .int .i64 b]) (.agg #[.int .i64 a', .int .i64 b'])).run Tryz.prog w = .ok (.bool (sameC a b a' b')) w := by
  rw [run_eql_struct, run_equalIn_agg w 9999 32 _ _ (by kernel_rfl) (by kernel_rfl)]
  unfold sameC
  go_simp
  by_cases h1 : a = a' <;> by_cases h2 : b = b' <;> simp [h1, h2]
theorem neC (a b a' b' : Int) (w : World) : (binOp .neq 32 (.agg #[.int .i64 a, .int .i64 b]) (.agg #[.int .i64 a', .int .i64 b'])).run Tryz.prog w = .ok (.bool (!sameC a b a' b')) w := by
  rw [run_neq_struct, run_equalIn_agg w 9999 32 _ _ (by kernel_rfl) (by kernel_rfl)]
  unfold sameC
  go_simp
  by_cases h1 : a = a' <;> by_cases h2 : b = b' <;> simp [h1, h2]
theorem own : ownKnob Tryz.prog.godebug = none := by kernel_rfl
theorem cellsI : Tryz.prog.cellsOf 3 = 1 := by kernel_rfl
theorem cellsC : Tryz.prog.cellsOf 32 = 2 := by kernel_rfl
theorem cellsR : Tryz.prog.cellsOf 51 = 4 := by kernel_rfl
theorem array2 {α : Type} {cs : Array α} (h : cs.size = 2) : ∃ c0 c1, cs = #[c0, c1] := by
  obtain ⟨l⟩ := cs
  match l, h with
  | [c0, c1], _ => exact ⟨c0, c1, rfl⟩
section
variable {H : Type} {enc : TypeId × Value → H} {w : World} {base : Nat} {spare : Nat → Bool} {held : Bool} {r : Reach} {b0 : Nat}
set_option maxRecDepth 100000 in
/-- A cell's two numbers as they are read. -/
theorem trod_cell {n : Nat} {c0 c1 : Value} {y : DataW H × List MemPlace} (h : DataW.trod enc Tryz.prog w base spare held n 32 [c0, c1] = some y) :
    ∃ a b : Int, c0 = .int .i64 a ∧ c1 = .int .i64 b ∧ y = (.agg [.lit (.int .i64 a), .lit (.int .i64 b)], []) ∧ (Lit.int .i64 a).wf = true ∧ (Lit.int .i64 b).wf = true := by
  obtain ⟨y0, y1, m, rfl, _, g0, g1⟩ := trod_struct2 Tryz.underlying32 h
  have g0' : DataW.trod enc Tryz.prog w base spare held m 3 [c0] = some y0 := by simpa [cellsI] using g0
  have g1' : DataW.trod enc Tryz.prog w base spare held m 3 [c1] = some y1 := by simpa [cellsI] using g1
  obtain ⟨a, e0, rfl, w0⟩ := DataW.trod_int Tryz.underlying3 g0'
  obtain ⟨b, e1, rfl, w1⟩ := DataW.trod_int Tryz.underlying3 g1'
  simp only [List.cons.injEq, and_true] at e0 e1
  exact ⟨a, b, e0, e1, rfl, w0, w1⟩
set_option maxRecDepth 100000 in
theorem trod_cell_mk (n : Nat) {a b : Int} (h0 : (Lit.int .i64 a).wf = true) (h1 : (Lit.int .i64 b).wf = true) :
    DataW.trod enc Tryz.prog w base spare held (n + 2) 32 [.int .i64 a, .int .i64 b] = some (.agg [.lit (.int .i64 a), .lit (.int .i64 b)], []) := by
  have k0 : DataW.trod enc Tryz.prog w base spare held (n + 1) 3 [.int .i64 a] = some (.lit (.int .i64 a), []) := trod_int_mk n Tryz.underlying3 h0
  have k1 : DataW.trod enc Tryz.prog w base spare held (n + 1) 3 [.int .i64 b] = some (.lit (.int .i64 b), []) := trod_int_mk n Tryz.underlying3 h1
  have hk := trod_struct_mk (enc := enc) (P := Tryz.prog) (w := w) (base := base) (spare := spare) (held := held) (n := n + 1) (cs := [.int .i64 a, .int .i64 b]) (xs := [(.lit (.int .i64 a), []), (.lit (.int .i64 b), [])]) Tryz.underlying32 (by rw [cellsC]; rfl) (by
    simp [cellsI, k0, k1])
  simpa using hk
set_option maxRecDepth 100000 in
theorem open_cell {v : Value} {d : DataW H} {p : List MemPlace}
    (hv : Value.okWide Tryz.prog w r b0 32 v) (h : DataW.Trod enc Tryz.prog w base spare held 32 v d p) :
    ∃ a b : Int, v = .agg #[.int .i64 a, .int .i64 b] ∧ d = .agg [.lit (.int .i64 a), .lit (.int .i64 b)] ∧ p = [] ∧ (Lit.int .i64 a).wf = true ∧ (Lit.int .i64 b).wf = true := by
  obtain ⟨cs, rfl, hsz⟩ := okWide_struct Tryz.underlying32 hv
  obtain ⟨c0, c1, rfl⟩ := array2 (hsz.trans cellsC)
  obtain ⟨fuel, hf⟩ := h
  obtain ⟨a, b, rfl, rfl, e, w0, w1⟩ := trod_cell (by simpa [Value.cells] using hf)
  simp only [Prod.mk.injEq] at e
  exact ⟨a, b, rfl, e.1, e.2, w0, w1⟩
set_option maxRecDepth 100000 in
theorem shut_cell {a b : Int} (h0 : (Lit.int .i64 a).wf = true) (h1 : (Lit.int .i64 b).wf = true) :
    DataW.Trod enc Tryz.prog w base spare held 32 (.agg #[.int .i64 a, .int .i64 b]) (.agg [.lit (.int .i64 a), .lit (.int .i64 b)]) [] :=
  ⟨2, by simpa [Value.cells] using trod_cell_mk 0 h0 h1⟩
end
end Go.Proofs.YtcjanaldjokllaaGreat
namespace Go.Proofs.YtcjanaldjokllaaGreat
open Go.RowKit
set_option linter.all false
theorem bdrewN {B : Nat} {a w : World} (h : Below B a w) (n : Nat) : Below B a (w.drewN n) := ⟨h.os, h.tape, h.output, h.size, h.block⟩
theorem zqb {P : Prop} (h : P := by with_reducible (repeat' first | assumption | exact Below.refl _ _ | refine Below.drew ?_ | refine bdrewN ?_ _ | refine Below.setCell ?_ (by first | exact Nat.le_refl _ | (simp; done) | (simp; omega) | omega) _ | refine Below.alloc ?_ (by first | exact Nat.le_refl _ | (simp; done) | (simp; omega) | omega) _)) : P := h
/-- A cell that may be. -/
def mayC (r c : Int) : Bool := decide (1 ≤ r ∧ r ≤ 4096 ∧ 1 ≤ c ∧ c ≤ 256)
theorem mayC_t {r c : Int} (h : 1 ≤ r ∧ r ≤ 4096 ∧ 1 ≤ c ∧ c ≤ 256) : mayC r c = true := by simpa [mayC] using h
theorem mayC_f {r c : Int} (h : ¬ (1 ≤ r ∧ r ≤ 4096 ∧ 1 ≤ c ∧ c ≤ 256)) : mayC r c = false := by simpa [mayC] using h
theorem mayC_is {r c : Int} (h : mayC r c = true) : 1 ≤ r ∧ r ≤ 4096 ∧ 1 ≤ c ∧ c ≤ 256 := by simpa [mayC] using h
theorem may_any (r c : Int) (w : World) : Calls Tryz.prog 21 #[.agg #[.int .i64 r, .int .i64 c]] w fun e w' => e = .returned (.bool (mayC r c)) ∧ Below w.heap.size w w' := by
  go_enter Tryz.func21, Tryz.ntmps21
  go_wp2
  all_goals go_ret
  all_goals refine ⟨retB ?_, bal _ _⟩
  all_goals first | (rw [mayC_t (by omega)]; done) | (rw [mayC_f (by omega)]; done) | (rw [Bool.eq_iff_iff]; simp only [mayC, decide_eq_true_eq]; omega)
/-- From low to high. -/
def witB (n a b : Int) : Bool := decide (a ≤ n ∧ n ≤ b)
theorem within_any (n a b : Int) (w : World) : Calls Tryz.prog 53 #[.int .i64 n, .int .i64 a, .int .i64 b] w fun e w' => e = .returned (.bool (witB n a b)) ∧ w' = w := by
  go_enter Tryz.func53, Tryz.ntmps53
  go_wp2
  all_goals go_ret
  all_goals refine ⟨retB ?_, rfl⟩
  all_goals (unfold witB; simp; try omega)
theorem witB_t {n a b : Int} (h : a ≤ n ∧ n ≤ b) : witB n a b = true := by simpa [witB] using h
theorem witB_f {n a b : Int} (h : ¬ (a ≤ n ∧ n ≤ b)) : witB n a b = false := by simpa [witB] using h
theorem witB_may (r c : Int) : mayC r c = (witB r 1 4096 && witB c 1 256) := by
  by_cases h : 1 ≤ r ∧ r ≤ 4096 ∧ 1 ≤ c ∧ c ≤ 256
  · rw [mayC_t h, witB_t (by omega), witB_t (by omega)]; rfl
  · rw [mayC_f h]
    by_cases k : 1 ≤ r ∧ r ≤ 4096
    · rw [witB_f (n := c) (by omega)]; simp
    · rw [witB_f (n := r) (by omega)]; simp
theorem rmay_any (r c : Int) (w : World) : Calls Tryz.prog 48 #[.agg #[.int .i64 r, .int .i64 c]] w fun e w' => e = .returned (.bool (mayC r c)) ∧ Below w.heap.size w w' := by
  rw [witB_may]
  go_enter Tryz.func48, Tryz.ntmps48
  cases h1 : witB r 1 4096
  all_goals go_wp2_with (go_at_call 53; refine (within_any _ _ _ _).mono ?_; rintro e w5 ⟨rfl, rfl⟩)
  all_goals go_ret
  all_goals refine ⟨retB ?_, bal _ _⟩
  all_goals simp
end Go.Proofs.YtcjanaldjokllaaGreat
namespace Go.Proofs.YtcjanaldjokllaaGreat
open Go.RowKit
set_option linter.all false
/-- A cell (x, y) in the rectangle (t, l, b, r). -/
def inB (t l b r x y : Int) : Bool := decide (t ≤ x ∧ x ≤ b ∧ l ≤ y ∧ y ≤ r)
theorem inB_t {t l b r x y : Int} (h : t ≤ x ∧ x ≤ b ∧ l ≤ y ∧ y ≤ r) : inB t l b r x y = true := by simpa [inB] using h
theorem inB_f {t l b r x y : Int} (h : ¬ (t ≤ x ∧ x ≤ b ∧ l ≤ y ∧ y ≤ r)) : inB t l b r x y = false := by simpa [inB] using h
theorem inB_is {t l b r x y : Int} (h : inB t l b r x y = true) : t ≤ x ∧ x ≤ b ∧ l ≤ y ∧ y ≤ r := by simpa [inB] using h
theorem in_any (t l b r x y : Int) (w : World) : Calls Tryz.prog 129 #[.agg #[.int .i64 t, .int .i64 l, .int .i64 b, .int .i64 r], .agg #[.int .i64 x, .int .i64 y]] w fun e w' => e = .returned (.bool (inB t l b r x y)) ∧ Below w.heap.size w w' := by
  go_enter Tryz.func129, Tryz.ntmps129
  go_wp2
  all_goals go_ret
  all_goals refine ⟨retB ?_, (bal _ _).alloc (by simp) _⟩
  all_goals first | (rw [inB_t (by omega)]; done) | (rw [inB_f (by omega)]; done) | (rw [Bool.eq_iff_iff]; simp only [inB, decide_eq_true_eq]; omega)
end Go.Proofs.YtcjanaldjokllaaGreat
