/- How lists of deeds come in. -/
import Derived.Test.YtaafpfjmnhmalaaSG
import Derived.Test.YtaafpfjmnhmalaaS26
namespace Go.Proofs.Ytaafpfjmnhmalaa
open Go.RowKit Go.ChangeShapes Go.WideShapes Go.ChangeAt
set_option linter.all false
theorem cellsDd : Try.prog.cellsOf 36 = 8 := by kernel_rfl
theorem bytesDd : Try.prog.bytesOf 36 = 64 := by kernel_rfl
theorem rowDeeds : 22 < Try.prog.types.size := of_decide_eq_true (by kernel_rfl)
theorem list4' {α : Type} {l : List α} (h : l.length = 4) : ∃ a b c d, l = [a, b, c, d] := by
  match l, h with
  | [a, b, c, d], _ => exact ⟨a, b, c, d, rfl⟩
theorem list8' {α : Type} {l : List α} (h : l.length = 8) : ∃ a b c d e f g i, l = [a, b, c, d, e, f, g, i] := by
  match l, h with
  | [a, b, c, d, e, f, g, i], _ => exact ⟨a, b, c, d, e, f, g, i, rfl⟩
section
variable {H : Type} {enc : TypeId × Value → H} {w : World} {base : Nat} {spare : Nat → Bool} {held : Bool} {r : Reach} {b0 : Nat}
set_option maxRecDepth 100000 in
theorem trod_rect4 {n : Nat} {c0 c1 c2 c3 : Value} {y : DataW H × List MemPlace} (h : DataW.trod enc Try.prog w base spare held n 34 [c0, c1, c2, c3] = some y) : ∃ r0 r1 r2 r3 : Int, c0 = .int .i64 r0 ∧ c1 = .int .i64 r1 ∧ c2 = .int .i64 r2 ∧ c3 = .int .i64 r3 ∧ I64 r0 ∧ I64 r1 ∧ I64 r2 ∧ I64 r3 := by
  obtain ⟨xs, nf, _, hx, hl, hlen, hf⟩ := DataW.trod_struct Try.underlying34 h
  obtain ⟨y0, y1, y2, y3, rfl⟩ := list4' (show xs.length = 4 by simpa using hlen)
  have g0 : DataW.trod enc Try.prog w base spare held nf 3 [c0] = some y0 := by
    have q := hf 0 _ rfl
    simpa [cellsI] using q
  have g1 : DataW.trod enc Try.prog w base spare held nf 3 [c1] = some y1 := by
    have q := hf 1 _ rfl
    simpa [cellsI] using q
  have g2 : DataW.trod enc Try.prog w base spare held nf 3 [c2] = some y2 := by
    have q := hf 2 _ rfl
    simpa [cellsI] using q
  have g3 : DataW.trod enc Try.prog w base spare held nf 3 [c3] = some y3 := by
    have q := hf 3 _ rfl
    simpa [cellsI] using q
  obtain ⟨a0, e0, _, w0⟩ := DataW.trod_int Try.underlying3 g0
  obtain ⟨a1, e1, _, w1⟩ := DataW.trod_int Try.underlying3 g1
  obtain ⟨a2, e2, _, w2⟩ := DataW.trod_int Try.underlying3 g2
  obtain ⟨a3, e3, _, w3⟩ := DataW.trod_int Try.underlying3 g3
  simp only [List.cons.injEq, and_true] at e0 e1 e2 e3
  exact ⟨a0, a1, a2, a3, e0, e1, e2, e3, i64_of w0, i64_of w1, i64_of w2, i64_of w3⟩
set_option maxRecDepth 100000 in
theorem trod_dd {n : Nat} {cs : List Value} {y : DataW H × List MemPlace} (h : DataW.trod enc Try.prog w base spare held n 36 cs = some y) : ∃ x : Dd, cs = x.cells.toList ∧ x.ok := by
  obtain ⟨xs, nf, _, hx, hl, hlen, hf⟩ := DataW.trod_struct Try.underlying36 h
  obtain ⟨c0, c1, c2, c3, c4, c5, c6, c7, rfl⟩ := list8' (hl.trans cellsDd)
  obtain ⟨y0, y1, y2, y3, rfl⟩ := list4' (show xs.length = 4 by simpa using hlen)
  have g0 : DataW.trod enc Try.prog w base spare held nf 3 [c0] = some y0 := by
    have q := hf 0 _ rfl
    simpa [cellsI] using q
  have g1 : DataW.trod enc Try.prog w base spare held nf 32 [c1, c2] = some y1 := by
    have q := hf 1 _ rfl
    simpa [cellsI, cellsC] using q
  have g2 : DataW.trod enc Try.prog w base spare held nf 34 [c3, c4, c5, c6] = some y2 := by
    have q := hf 2 _ rfl
    simpa [cellsI, cellsC, cellsR] using q
  have g3 : DataW.trod enc Try.prog w base spare held nf 3 [c7] = some y3 := by
    have q := hf 3 _ rfl
    simpa [cellsI, cellsC, cellsR] using q
  obtain ⟨a0, e0, _, w0⟩ := DataW.trod_int Try.underlying3 g0
  obtain ⟨a1, a2, rfl, rfl, _, w1, w2⟩ := trod_cell g1
  obtain ⟨a3, a4, a5, a6, rfl, rfl, rfl, rfl, w3, w4, w5, w6⟩ := trod_rect4 g2
  obtain ⟨a7, e7, _, w7⟩ := DataW.trod_int Try.underlying3 g3
  simp only [List.cons.injEq, and_true] at e0 e7
  subst e0
  subst e7
  exact ⟨⟨a0, a1, a2, a3, a4, a5, a6, a7⟩, rfl, ⟨i64_of w0, i64_of w1, i64_of w2, w3, w4, w5, w6, i64_of w7⟩⟩
set_option maxRecDepth 100000 in
theorem open_deeds {v : Value} {d : DataW H} {p : List MemPlace} (hv : Value.okWide Try.prog w r b0 22 v) (h : DataW.Trod enc Try.prog w base spare held 22 v d p) : ∃ l : List Dd, CV Dd.cells 8 w v l ∧ (∀ x ∈ l, x.ok) :=
  open_list Dd.cells 8 ⟨0, 0, 0, 0, 0, 0, 0, 0⟩ _ 36 Try.underlying22 cellsDd (by omega) (fun _ => rfl) _ (fun _ _ _ h => trod_dd h) hv h
end
end Go.Proofs.Ytaafpfjmnhmalaa
