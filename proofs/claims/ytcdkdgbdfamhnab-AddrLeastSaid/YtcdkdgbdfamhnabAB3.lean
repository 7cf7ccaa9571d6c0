/- An array of three cells as it comes in and reads afterwards. No function's text is walked here. -/
import Derived.Test.YtcdkdgbdfamhnabAB
namespace Go.Proofs.Ytcdkdgbdfamhnab
open Go.RowKit Go.ChangeShapes Go.WideShapes Go.ChangeAt
set_option linter.all false
theorem cells3 : Try.prog.cellsOf 29 = 6 := by kernel_rfl
theorem array6 {α : Type} {cs : Array α} (h : cs.size = 6) : ∃ c0 c1 c2 c3 c4 c5, cs = #[c0, c1, c2, c3, c4, c5] := by
  obtain ⟨l⟩ := cs
  match l, h with
  | [c0, c1, c2, c3, c4, c5], _ => exact ⟨c0, c1, c2, c3, c4, c5, rfl⟩
section
variable {H : Type} {enc : TypeId × Value → H} {w : World} {base : Nat} {spare : Nat → Bool} {held : Bool} {r : Reach} {b0 : Nat}
theorem okWide_arr {P : Program} {t : TypeId} {v : Value} {n : Nat} {e : TypeId} (ht : P.underlying t = some (.array n e)) (h : Value.okWide P w r b0 t v) : ∃ cs, v = .agg cs ∧ cs.size = P.cellsOf t := by
  simp only [Value.okWide, ht] at h
  obtain ⟨cs, h1, h2, _⟩ := h
  exact ⟨cs, h1, h2⟩
set_option maxRecDepth 100000 in
theorem open_cells3 {v : Value} {d : DataW H} {p : List MemPlace}
    (hv : Value.okWide Try.prog w r b0 29 v) (h : DataW.Trod enc Try.prog w base spare held 29 v d p) :
    ∃ a b c e f g : Int, v = .agg #[.int .i64 a, .int .i64 b, .int .i64 c, .int .i64 e, .int .i64 f, .int .i64 g] ∧ d = .agg [.agg [.lit (.int .i64 a), .lit (.int .i64 b)], .agg [.lit (.int .i64 c), .lit (.int .i64 e)], .agg [.lit (.int .i64 f), .lit (.int .i64 g)]] ∧ p = [] ∧
      (Lit.int .i64 a).wf = true ∧ (Lit.int .i64 b).wf = true ∧ (Lit.int .i64 c).wf = true ∧ (Lit.int .i64 e).wf = true ∧ (Lit.int .i64 f).wf = true ∧ (Lit.int .i64 g).wf = true := by
  obtain ⟨cs, rfl, hsz⟩ := okWide_arr Try.underlying29 hv
  obtain ⟨c0, c1, c2, c3, c4, c5, rfl⟩ := array6 (hsz.trans cells3)
  obtain ⟨fuel, hf⟩ := h
  obtain ⟨xs, n, _, hx, hl, hlen, hfl⟩ := DataW.trod_array Try.underlying29 hf
  match xs, hlen with
  | [y0, y1, y2], _ =>
    have g0 : DataW.trod enc Try.prog w base spare held n 23 [c0, c1] = some y0 := by
      have q := hfl 0 (by omega)
      simpa [cellsC, Value.cells] using q
    have g1 : DataW.trod enc Try.prog w base spare held n 23 [c2, c3] = some y1 := by
      have q := hfl 1 (by omega)
      simpa [cellsC, Value.cells] using q
    have g2 : DataW.trod enc Try.prog w base spare held n 23 [c4, c5] = some y2 := by
      have q := hfl 2 (by omega)
      simpa [cellsC, Value.cells] using q
    obtain ⟨a, b, rfl, rfl, rfl, w0, w1⟩ := trod_cell g0
    obtain ⟨c, e, rfl, rfl, rfl, w2, w3⟩ := trod_cell g1
    obtain ⟨f, g, rfl, rfl, rfl, w4, w5⟩ := trod_cell g2
    simp only [Prod.mk.injEq] at hx
    exact ⟨a, b, c, e, f, g, rfl, by simpa using hx.1, by simpa using hx.2, w0, w1, w2, w3, w4, w5⟩
set_option maxRecDepth 100000 in
theorem shut_cells3 {a b c e f g : Int} (h0 : (Lit.int .i64 a).wf = true) (h1 : (Lit.int .i64 b).wf = true) (h2 : (Lit.int .i64 c).wf = true) (h3 : (Lit.int .i64 e).wf = true) (h4 : (Lit.int .i64 f).wf = true) (h5 : (Lit.int .i64 g).wf = true) :
    DataW.Trod enc Try.prog w base spare held 29 (.agg #[.int .i64 a, .int .i64 b, .int .i64 c, .int .i64 e, .int .i64 f, .int .i64 g]) (.agg [.agg [.lit (.int .i64 a), .lit (.int .i64 b)], .agg [.lit (.int .i64 c), .lit (.int .i64 e)], .agg [.lit (.int .i64 f), .lit (.int .i64 g)]]) [] := by
  have k0 := trod_cell_mk (enc := enc) (w := w) (base := base) (spare := spare) (held := held) 0 h0 h1
  have k1 := trod_cell_mk (enc := enc) (w := w) (base := base) (spare := spare) (held := held) 0 h2 h3
  have k2 := trod_cell_mk (enc := enc) (w := w) (base := base) (spare := spare) (held := held) 0 h4 h5
  have r3 : List.range 3 = [0, 1, 2] := rfl
  refine ⟨3, ?_⟩
  unfold DataW.trod
  rw [Try.underlying29]
  simp [r3, cellsC, cells3, Value.cells, k0, k1, k2]
end
end Go.Proofs.Ytcdkdgbdfamhnab
