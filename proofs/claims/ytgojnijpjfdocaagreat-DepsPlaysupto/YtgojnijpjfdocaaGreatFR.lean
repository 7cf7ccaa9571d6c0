/- Ranging over a map by cells, at the operations of a walk. -/
import Derived.Test.YtgojnijpjfdocaaGreatFP
namespace Go.Proofs.YtgojnijpjfdocaaGreat
open Go.RowKit Go.Shelf
set_option linter.all false
theorem RangeF.left_eq {w : World} {b r n : Nat} {f : Int → Int → Value} {K : List Cl} {cnt : Nat} (h : RangeF w b r n f K cnt) : w.rangeLeft b r = cnt := by
  obtain ⟨D, left, h1, _⟩ := h
  exact h1.left_eq
section
variable {w : World} {ops : Array Oper} {rest : List Oper} {o : Oper} {a : Act} {Q : Exit → Act → World → Prop}
theorem wpList_rangeF (hg : o.guard = none) (m : Operand) (t e : TypeId) (hop : o.op = Op.range t m) {b n : Nat} {f : Int → Int → Value} (hm : a.eval m = .map (some b)) (h : MapF w b n f) (ht : Tryz.prog.underlying t = some (.map 33 e))
    (hK : ∀ w' cnt, RangeF w' b w.heap.size n f [] cnt → Below w.heap.size w w' → w'.heap.size = w.heap.size + 1 → wpList Tryz.prog ops Q rest (a.put o.dst (.pointer (some ⟨w.heap.size, 0, none⟩))) w') : wpList Tryz.prog ops Q (o :: rest) a w := by
  refine wpList_plain hg fun K' hK' => ?_
  obtain ⟨w', cnt, hrun, r1, r2, r3⟩ := h.range ht
  unfold Oper.wp
  simp [execOp, hop, hm, hrun, Result.andThen]
  exact hK' _ _ (hK w' cnt r1 r2 r3)
theorem wpList_nextF (hg : o.guard = none) (it : Operand) (hop : o.op = Op.next it false) {b r n : Nat} {f : Int → Int → Value} {K : List Cl} {cnt : Nat} (hit : a.eval it = .pointer (some ⟨r, 0, none⟩)) (h : RangeF w b r n f K cnt)
    (hDone : (∀ x y, I64 x → I64 y → f x y ≠ nilS → (⟨x, y⟩ : Cl) ∈ K) → wpList Tryz.prog ops Q rest (a.put o.dst (.tuple #[.bool false])) w)
    (hMore : ∀ x y w' cnt', I64 x → I64 y → (⟨x, y⟩ : Cl) ∉ K → f x y ≠ nilS → RangeF w' b r n f (K ++ [⟨x, y⟩]) cnt' → cnt' < cnt → Mut (fun k => k = r) w w' → w'.heap.size = w.heap.size → (Instr.entry (.pointer (some ⟨r, 0, none⟩))).run Tryz.prog w' = .ok (.tuple #[.agg #[.int .i64 x, .int .i64 y], f x y]) w' → wpList Tryz.prog ops Q rest (a.put o.dst (.tuple #[.bool true, .agg #[.int .i64 x, .int .i64 y], f x y])) w') : wpList Tryz.prog ops Q (o :: rest) a w := by
  refine wpList_plain hg fun K' hK' => ?_
  unfold Oper.wp
  rcases h.next o.type with ⟨h0, hrun⟩ | ⟨x, y, w', cnt', hx, hy, hn, hf, hrun, hrg, hlt, hm, hsz, hen⟩
  · simp [execOp, hop, hit, hrun, Result.andThen]
    exact hK' _ _ (hDone h0)
  · simp [execOp, hop, hit, hrun, Result.andThen]
    exact hK' _ _ (hMore x y w' cnt' hx hy hn hf hrg hlt hm hsz hen)
end
end Go.Proofs.YtgojnijpjfdocaaGreat
