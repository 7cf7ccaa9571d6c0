/- Pieces of a row that are appended. No function's text is walked here. -/
import Derived.Test.YtgojnijpjfdocaaGreatCV
namespace Go.Proofs.YtgojnijpjfdocaaGreat
open Go.RowKit
set_option linter.all false
/-- A piece: nothing, or so many behind an address. -/
def VG {α : Type} (sz : Nat) (cs : α → List Value) (w : World) (v : Value) (k : List α) : Prop := (v = .slice none 0 0 ∧ k = []) ∨ ∃ a cp, v = .slice (some a) k.length cp ∧ ∀ j u, (flatG cs k)[j]? = some u → w.cell? (a.add j) = some u
theorem VG.keep {α : Type} {sz : Nat} {cs : α → List Value} {w w' : World} {g o n cp : Nat} {k : List α} (h : VG sz cs w (.slice (some ⟨g, o, none⟩) n cp) k) (hb : Below w.heap.size w w') (hg : g < w.heap.size) : VG sz cs w' (.slice (some ⟨g, o, none⟩) n cp) k := by
  rcases h with ⟨h, _⟩ | ⟨a, c2, h, hc⟩
  · cases h
  · injection h with h1 h2 h3
    injection h1 with h1
    subst h1
    refine .inr ⟨_, c2, by rw [h2, h3], fun j u hu => ?_⟩
    rw [add_none]
    refine (hb.cell (p := ⟨g, o + j, none⟩) hg).trans ?_
    have := hc j u hu
    rwa [add_none] at this
theorem app_piece {α : Type} {E T : TypeId} {sz by' : Nat} {cs : α → List Value} {i : TypeInfo} {z : Value} (hT : Tryz.prog.underlying T = some (.slice E)) (hi : Tryz.prog.info? E = some i) (hz : i.zero = some z) (hs : i.size = sz) (hb : i.bytes = by') (hzs : z.cells.size = sz) (hsz : 0 < sz) (hc : ∀ x, (cs x).length = sz) (h1 : ∀ x, ∀ u ∈ cs x, u.oneCell' = true)
    {w : World} {base : Nat} {v x : Value} {l k : List α} (h : RowG E sz cs w base v l) (hx : VG sz cs w x k) (hw : base ≤ w.heap.size) (hl : (l.length + k.length) * by' ≤ 140737488355328) (hm : l.length + k.length ≤ 9223372036854775807) (ty : TypeId) :
    ∃ q n c w', (Builtin.append_ #[T, T] ty #[v, x]).run Tryz.prog w = .ok (.slice q n c) w' ∧ RowG E sz cs w' base (.slice q n c) (l ++ k) ∧ Below base w w' := by
  have hslice : ∀ {w' : World} {v' : Value}, RowG E sz cs w' base v' (l ++ k) → ∃ q n c, v' = .slice q n c := fun h' => by
    rcases RowG.two h' with ⟨rfl, _⟩ | ⟨g, cap, cur, rfl, _⟩ <;> exact ⟨_, _, _, rfl⟩
  rcases hx with ⟨rfl, rfl⟩ | ⟨a, cp, rfl, hcell⟩
  · have hsl : ∃ q cp, v = .slice q l.length cp ∧ l.length ≤ cp := by
      rcases h.two with ⟨rfl, rfl⟩ | ⟨g, cap, cur, rfl, _, _, _, h3, _⟩
      · exact ⟨_, _, rfl, Nat.le_refl _⟩
      · exact ⟨_, _, rfl, h3⟩
    obtain ⟨q, cp, rfl, hle⟩ := hsl
    refine ⟨q, _, cp, w, ?_, by rw [List.append_nil]; exact h, Below.refl _ _⟩
    simp [Builtin.append_, run_underlying hT, sizeOf, typeInfo, hi, Builtin.lenOf, hle, Builtin.firstCells, storeCells]
    cases q <;> rfl
  · obtain ⟨v', w', k1, k2, k3, k4, k5⟩ := run_append_own_at (P := Tryz.prog) w base T ty E i z sz by' hT hi hz hs hb hzs hsz v l.length (flatG cs l) h a k.length cp (flatG cs k) (flatG_len hc k) hcell (flatG_one h1 k) (by unfold maxLen; omega) hl hw
    have hR : RowG E sz cs w' base v' (l ++ k) := by
      unfold RowG
      rw [flatG_app, List.length_append]
      exact k2
    obtain ⟨q, n, c, rfl⟩ := hslice hR
    refine ⟨q, n, c, w', k1, hR, ⟨k3.os, k3.tape, k3.output, k3.size, fun b hb => k3.block b (by omega) (fun q => ?_)⟩⟩
    have := (h.lt b q.symm).1
    omega
/-- The pieces of a row that lies in memory. -/
theorem VG.cut {α : Type} {sz : Nat} {cs : α → List Value} (hc : ∀ x, (cs x).length = sz) {w : World} {g cap : Nat} {l : List α} (hg : ∀ i x, l[i]? = some x → ∀ j u, (cs x)[j]? = some u → w.cell? ⟨g, i * sz + j, none⟩ = some u) (i m : Nat) (hm : i + m ≤ l.length) : VG sz cs w (.slice (some ⟨g, i * sz, none⟩) m cap) ((l.drop i).take m) := by
  have hlen : ((l.drop i).take m).length = m := by rw [List.length_take, List.length_drop]; omega
  refine .inr ⟨_, cap, by rw [hlen], fun j u hu => ?_⟩
  rw [add_none]
  have hjl : j < m * sz := by
    have h1 := (List.getElem?_eq_some_iff.1 hu).1
    rw [flatG_len hc, hlen] at h1
    exact h1
  have hsz : 0 < sz := by
    rcases Nat.eq_zero_or_pos sz with h0 | h0
    · rw [h0] at hjl; simp at hjl
    · exact h0
  have hq : j / sz < m := by rw [Nat.div_lt_iff_lt_mul hsz]; exact hjl
  have hr : j % sz < sz := Nat.mod_lt _ hsz
  have hjj : j = j / sz * sz + j % sz := by rw [Nat.mul_comm]; exact (Nat.div_add_mod j sz).symm
  have hlt : i + j / sz < l.length := by omega
  have hx : ((l.drop i).take m)[j / sz]? = some (l[i + j / sz]'hlt) := by
    rw [List.getElem?_take_of_lt hq, List.getElem?_drop, List.getElem?_eq_getElem hlt]
  have h2 := flatG_at hc _ (j / sz) _ (j % sz) hx hr
  rw [← hjj, hu] at h2
  have h3 := hg (i + j / sz) _ (List.getElem?_eq_getElem hlt) (j % sz) u h2.symm
  have e : i * sz + j = (i + j / sz) * sz + j % sz := by rw [Nat.add_mul, Nat.add_assoc, ← hjj]
  rw [e]
  exact h3
theorem VG.one {α : Type} {sz : Nat} {cs : α → List Value} {w : World} {vb : Nat} {x : α} {T : TypeId} (h : w.heap[vb]? = some (.cells (cs x).toArray T (0, 0))) : VG sz cs w (.slice (some ⟨vb, 0, none⟩) 1 1) [x] := by
  refine .inr ⟨_, 1, rfl, fun j u hu => ?_⟩
  rw [add_none, Nat.zero_add, cell_row h]
  simpa [flatG] using hu
end Go.Proofs.YtgojnijpjfdocaaGreat
