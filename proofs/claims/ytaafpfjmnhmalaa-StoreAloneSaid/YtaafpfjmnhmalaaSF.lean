/- How lists of cells come in. -/
import Derived.Test.YtaafpfjmnhmalaaS13
import Derived.ProofKit
import Derived.OpenShut
import Derived.ShutString
import Derived.Deep.Slices
import Derived.Deep.DeepHandedRow
import Derived.SizedLaws
import Derived.WideKeyArgs
namespace Go.Proofs.Ytaafpfjmnhmalaa
open Go.RowKit Go.ChangeShapes Go.WideShapes Go.ChangeAt
set_option linter.all false
theorem laidOutN : laidOutB Try.prog = true := by kernel_rfl
theorem rowCells : 44 < Try.prog.types.size := of_decide_eq_true (by kernel_rfl)
theorem list2 {α : Type} {l : List α} (h : l.length = 2) : ∃ a b, l = [a, b] := by
  match l, h with
  | [a, b], _ => exact ⟨a, b, rfl⟩
section
variable {H : Type} {enc : TypeId × Value → H} {w : World} {base : Nat} {spare : Nat → Bool} {held : Bool} {r : Reach} {b0 : Nat}
set_option maxRecDepth 100000 in
theorem trod_cl {n : Nat} {cs : List Value} {y : DataW H × List MemPlace} (h : DataW.trod enc Try.prog w base spare held n 32 cs = some y) : ∃ x : Cl, cs = x.cells.toList ∧ (I64 x.r ∧ I64 x.c) := by
  obtain ⟨xs, nf, _, hx, hl, hlen, hf⟩ := DataW.trod_struct Try.underlying32 h
  obtain ⟨c0, c1, rfl⟩ := list2 (hl.trans cellsC)
  obtain ⟨a, b, rfl, rfl, _, wa, wb⟩ := trod_cell h
  exact ⟨⟨a, b⟩, rfl, i64_of wa, i64_of wb⟩
set_option maxRecDepth 100000 in
theorem open_list {α : Type} (c : α → Array Value) (sz : Nat) (x0 : α) (tS tE : TypeId) (hu : Try.prog.underlying tS = some (.slice tE)) (hcs : Try.prog.cellsOf tE = sz) (hsz : 0 < sz) (hcz : ∀ x, (c x).size = sz) (Q : α → Prop)
    (tr : ∀ (n : Nat) (cs : List Value) (y : DataW H × List MemPlace), DataW.trod enc Try.prog w base spare held n tE cs = some y → ∃ x : α, cs = (c x).toList ∧ Q x)
    {v : Value} {d : DataW H} {p : List MemPlace} (hv : Value.okWide Try.prog w r b0 tS v) (h : DataW.Trod enc Try.prog w base spare held tS v d p) :
    ∃ l : List α, CV c sz w v l ∧ (∀ x ∈ l, Q x) := by
  obtain ⟨fp, fn, fc, rfl⟩ := okWide_slice hu hv
  obtain ⟨fuel, hf⟩ := h
  have g : DataW.trod enc Try.prog w base spare held fuel tS [.slice fp fn fc] = some (d, p) := hf
  rcases Go.Deep.open_slice hu g with ⟨h1, _⟩ | ⟨a, len, cap, m, n, D, Pl, h1, hb, hlc, hcm, hm, h2, hel⟩
  · simp only [List.cons.injEq, Value.slice.injEq, and_true] at h1
    obtain ⟨rfl, rfl, rfl⟩ := h1
    exact ⟨[], ⟨none, 0, rfl, Nat.le_refl _, Nat.zero_le _, fun h => absurd h (by simp)⟩, (fun x hx => by cases hx)⟩
  · simp only [List.cons.injEq, Value.slice.injEq, and_true] at h1
    obtain ⟨rfl, rfl, rfl⟩ := h1
    have hlm : fn ≤ m := by rw [hm]; split <;> omega
    have each : ∀ i, i < fn → ∃ x : α, Q x ∧ ∀ j, j < sz → w.cell? ((a.add (i * sz)).add j) = (c x)[j]? := fun i hi => by
      obtain ⟨cs', hc, ht⟩ := hel i (by omega)
      rw [hcs] at hc
      obtain ⟨_, hl4, hcell⟩ := World.cells?_some hc
      obtain ⟨x, rfl, hw⟩ := tr _ _ _ ht
      exact ⟨x, hw, fun j hj => by rw [hcell j hj]; simp [hcz, hj]⟩
    have ha : 0 < fn → a = ⟨a.block, a.off, none⟩ := fun h0 => by
      obtain ⟨x, _, hc⟩ := each 0 h0
      have h3 := hc 0 hsz
      rw [show (a.add (0 * sz)).add 0 = a by simp [Addr.add]] at h3
      rw [Array.getElem?_eq_getElem (by rw [hcz]; exact hsz)] at h3
      have hs := World.cell?_spot h3
      obtain ⟨b, o, s⟩ := a
      simp only at hs
      rw [hs]
    classical
    have hex : ∀ i : Nat, ∃ x : α, i < fn → (Q x ∧ ∀ j, j < sz → w.cell? ((a.add (i * sz)).add j) = (c x)[j]?) := fun i => by
      by_cases hi : i < fn
      · obtain ⟨x, hx⟩ := each i hi
        exact ⟨x, fun _ => hx⟩
      · exact ⟨x0, fun h => absurd h hi⟩
    let f : Nat → α := fun i => Classical.choose (hex i)
    have hf2 : ∀ i, i < fn → (Q (f i) ∧ ∀ j, j < sz → w.cell? ((a.add (i * sz)).add j) = (c (f i))[j]?) := fun i => Classical.choose_spec (hex i)
    have hnl : ((List.range fn).map f).length = fn := by simp
    refine ⟨(List.range fn).map f, ⟨some a, fc, by rw [hnl], by rw [hnl]; exact hlc, by rw [hnl]; unfold maxLen at hcm; omega, fun h0 => ?_⟩, fun x hx => ?_⟩
    · rw [hnl] at h0
      refine ⟨a.block, a.off, congrArg some (ha h0), ?_, fun i x hi j hj => ?_⟩
      · obtain ⟨_, hc⟩ := hf2 0 h0
        have h3 := hc 0 hsz
        rw [Array.getElem?_eq_getElem (by rw [hcz]; exact hsz)] at h3
        have h4 := World.block_lt_of_cell? w _ h3
        simpa [Addr.add] using h4
      · have hil : i < fn := by have := (List.getElem?_eq_some_iff.1 hi).1; rwa [hnl] at this
        have e : x = f i := by
          rw [List.getElem?_map, List.getElem?_range hil] at hi
          simpa using hi.symm
        rw [e, ← (hf2 i hil).2 j hj]
        congr 1
        rw [Go.Deep.add_add, ha h0]
        simp [Addr.add, Nat.add_assoc]
    · obtain ⟨i, hi, rfl⟩ := List.mem_map.1 hx
      exact (hf2 i (by simpa using hi)).1
set_option maxRecDepth 100000 in
theorem open_cells {v : Value} {d : DataW H} {p : List MemPlace} (hv : Value.okWide Try.prog w r b0 44 v) (h : DataW.Trod enc Try.prog w base spare held 44 v d p) : ∃ l : List Cl, CV Cl.cells 2 w v l ∧ (∀ x ∈ l, I64 x.r ∧ I64 x.c) :=
  open_list Cl.cells 2 ⟨0, 0⟩ _ 32 Try.underlying44 cellsC (by omega) (fun _ => rfl) _ (fun _ _ _ h => trod_cl h) hv h
end
end Go.Proofs.Ytaafpfjmnhmalaa
