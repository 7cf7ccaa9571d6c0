/- What the laws of this seat share: how a value comes in and reads afterwards; what the row's list of tables gives to the walks. -/
import Derived.Test.YtnaonpienaddaaaDoorVK
import Derived.Test.YtnaonpienaddaaaDoorCards
import Derived.Test.YtnaonpienaddaaaDoorTie
import Derived.ProofKit
import Derived.OpenShut
import Derived.ShutString
import Derived.Lib.LaidTab
import Derived.Lay
import Derived.Stop.LaidErr
import Derived.LaidOnce
import Derived.SevenTiedAt
namespace Go.Proofs.YtnaonpienaddaaaDoor
open Go.Shelf Go.RowKit Go.Joins Go.ChangeShapes Go.WideShapes Go.ChangeAt
set_option linter.all false
theorem i64_of {x : Int} (h : (Lit.int .i64 x).wf = true) : I64 x := by
  have : -9223372036854775808 ≤ x ∧ x ≤ 9223372036854775807 := by simpa [Lit.wf, IntKind.min, IntKind.max, IntKind.signed, IntKind.bits] using h
  exact this
theorem gPowType : (Tryd.prog.globals[1]?).map (·.type) = some 89 := by kernel_rfl
theorem cellsPow : Tryd.prog.cellsOf 89 = 20 := by kernel_rfl
theorem cellsU64 : Tryd.prog.cellsOf 62 = 1 := by kernel_rfl
/-- The six tables that each row of this seat lists. -/
def tables : List (String × DataW Unit) := [("math/bits.deBruijn32tab", Rows.laid_math_bits_deBruijn32tab), ("math/bits.deBruijn64tab", Rows.laid_math_bits_deBruijn64tab), ("internal/strconv.uint64pow10", Rows.laid_internal_strconv_uint64pow10), ("unicode/utf8.acceptRanges", Rows.laid_unicode_utf8_acceptRanges), ("oriel/value.names", Rows.laid_oriel_value_names), ("unicode/utf8.first", Rows.laid_unicode_utf8_first)]
theorem pow_of_laid {W : World} (h : laidMetH Tryd.prog tables W) : Pow W := by
  rw [MakeChecks.laidMetH_plain _ _ _ (by kernel_rfl)] at h
  exact Lib.tabIs_of_head (rest := [("unicode/utf8.acceptRanges", Rows.laid_unicode_utf8_acceptRanges), ("oriel/value.names", Rows.laid_oriel_value_names), ("unicode/utf8.first", Rows.laid_unicode_utf8_first)]) gPow gPowType Tryd.underlying89 Tryd.underlying62 cellsU64 cellsPow (laidMet.tail (laidMet.tail h))
theorem nam_of_laid {W : World} (h : laidMetH Tryd.prog tables W) : Nam W := by
  rw [MakeChecks.laidMetH_plain _ _ _ (by kernel_rfl)] at h
  exact nam_of_head (rest := [("unicode/utf8.first", Rows.laid_unicode_utf8_first)]) (laidMet.tail (laidMet.tail (laidMet.tail (laidMet.tail h))))
theorem own : ownKnob Tryd.prog.godebug = none := by kernel_rfl
theorem cellsV : Tryd.prog.cellsOf 25 = 5 := by kernel_rfl
theorem cellsTag : Tryd.prog.cellsOf 23 = 1 := by kernel_rfl
theorem cellsI64 : Tryd.prog.cellsOf 2 = 1 := by kernel_rfl
theorem cellsBool : Tryd.prog.cellsOf 4 = 1 := by kernel_rfl
theorem cellsCode : Tryd.prog.cellsOf 22 = 1 := by kernel_rfl
theorem array5 {α : Type} {cs : Array α} (h : cs.size = 5) : ∃ c0 c1 c2 c3 c4, cs = #[c0, c1, c2, c3, c4] := by
  obtain ⟨l⟩ := cs
  match l, h with
  | [c0, c1, c2, c3, c4], _ => exact ⟨c0, c1, c2, c3, c4, rfl⟩
set_option maxRecDepth 100000 in
/-- A value that came in: its five fields. -/
theorem open_value {H : Type} {enc : TypeId × Value → H} {w : World} {base : Nat} {spare : Nat → Bool} {held : Bool} {r : Reach} {b0 : Nat} {v : Value} {d : DataW H} {p : List MemPlace}
    (hv : Value.okWide Tryd.prog w r b0 25 v) (h : DataW.Trod enc Tryd.prog w base spare held 25 v d p) :
    ∃ (t n : Int) (s : ByteArray) (b : Bool) (c : Int), v = .agg #[.int .i64 t, .int .i64 n, .string s, .bool b, .int .i64 c] ∧ d = .agg [.lit (.int .i64 t), .lit (.int .i64 n), .lit (.string s.data.toList), .lit (.bool b), .lit (.int .i64 c)] ∧ p = [] ∧
      (Lit.int .i64 t).wf = true ∧ (Lit.int .i64 n).wf = true ∧ s.size ≤ maxLen ∧ (Lit.int .i64 c).wf = true := by
  obtain ⟨cs, rfl, hsz⟩ := okWide_struct Tryd.underlying25 hv
  obtain ⟨c0, c1, c2, c3, c4, rfl⟩ := array5 (hsz.trans cellsV)
  obtain ⟨fuel, hf⟩ := h
  obtain ⟨xs, n, _, hx, hl, hlen, hfl⟩ := DataW.trod_struct Tryd.underlying25 hf
  have hlen5 : xs.length = 5 := by simpa using hlen
  match xs, hlen5 with
  | [y0, y1, y2, y3, y4], _ =>
    have g0 : DataW.trod enc Tryd.prog w base spare held n 23 [c0] = some y0 := by
      have q := hfl 0 _ rfl
      simpa [cellsTag, Value.cells] using q
    have g1 : DataW.trod enc Tryd.prog w base spare held n 2 [c1] = some y1 := by
      have q := hfl 1 _ rfl
      simpa [cellsI64, Value.cells] using q
    have g2 : DataW.trod enc Tryd.prog w base spare held n 9 [c2] = some y2 := by
      have q := hfl 2 _ rfl
      simpa [cellsStr, Value.cells] using q
    have g3 : DataW.trod enc Tryd.prog w base spare held n 4 [c3] = some y3 := by
      have q := hfl 3 _ rfl
      simpa [cellsBool, Value.cells] using q
    have g4 : DataW.trod enc Tryd.prog w base spare held n 22 [c4] = some y4 := by
      have q := hfl 4 _ rfl
      simpa [cellsCode, Value.cells] using q
    obtain ⟨t, e0, rfl, w0⟩ := DataW.trod_int Tryd.underlying23 g0
    obtain ⟨m, e1, rfl, w1⟩ := DataW.trod_int Tryd.underlying2 g1
    obtain ⟨s, e2, rfl, w2⟩ := DataW.trod_string Tryd.underlying9 g2
    obtain ⟨b, e3, rfl⟩ := DataW.trod_bool Tryd.underlying4 g3
    obtain ⟨c, e4, rfl, w4⟩ := DataW.trod_int Tryd.underlying22 g4
    simp only [List.cons.injEq, and_true] at e0 e1 e2 e3 e4
    subst e0 e1 e2 e3 e4
    simp only [Prod.mk.injEq] at hx
    exact ⟨t, m, s, b, c, rfl, by simpa using hx.1, by simpa using hx.2, w0, w1, w2, w4⟩
set_option maxRecDepth 100000 in
/-- A value read again. -/
theorem shut_value {H : Type} {enc : TypeId × Value → H} {w : World} {base : Nat} {spare : Nat → Bool} {held : Bool} {t n : Int} {s : ByteArray} {b : Bool} {c : Int}
    (h0 : (Lit.int .i64 t).wf = true) (h1 : (Lit.int .i64 n).wf = true) (h2 : s.size ≤ maxLen) (h4 : (Lit.int .i64 c).wf = true) :
    DataW.Trod enc Tryd.prog w base spare held 25 (.agg #[.int .i64 t, .int .i64 n, .string s, .bool b, .int .i64 c]) (.agg [.lit (.int .i64 t), .lit (.int .i64 n), .lit (.string s.data.toList), .lit (.bool b), .lit (.int .i64 c)]) [] := by
  have k0 : DataW.trod enc Tryd.prog w base spare held 1 23 [.int .i64 t] = some (.lit (.int .i64 t), []) := by simp [DataW.trod, Tryd.underlying23, h0]
  have k1 : DataW.trod enc Tryd.prog w base spare held 1 2 [.int .i64 n] = some (.lit (.int .i64 n), []) := by simp [DataW.trod, Tryd.underlying2, h1]
  have k2 : DataW.trod enc Tryd.prog w base spare held 1 9 [.string s] = some (.lit (.string s.data.toList), []) := by simp [DataW.trod, Tryd.underlying9, h2]
  have k3 : DataW.trod enc Tryd.prog w base spare held 1 4 [.bool b] = some (.lit (.bool b), []) := by simp [DataW.trod, Tryd.underlying4]
  have k4 : DataW.trod enc Tryd.prog w base spare held 1 22 [.int .i64 c] = some (.lit (.int .i64 c), []) := by simp [DataW.trod, Tryd.underlying22, h4]
  have hk := trod_struct_mk (enc := enc) (P := Tryd.prog) (w := w) (base := base) (spare := spare) (held := held) (n := 1) (cs := [.int .i64 t, .int .i64 n, .string s, .bool b, .int .i64 c]) (xs := [(.lit (.int .i64 t), []), (.lit (.int .i64 n), []), (.lit (.string s.data.toList), []), (.lit (.bool b), []), (.lit (.int .i64 c), [])]) Tryd.underlying25 (by rw [cellsV]; rfl) (by
    simp [cellsTag, cellsI64, cellsStr, cellsBool, cellsCode, k0, k1, k2, k3, k4])
  exact ⟨_, by simpa [Value.cells] using hk⟩
end Go.Proofs.YtnaonpienaddaaaDoor
