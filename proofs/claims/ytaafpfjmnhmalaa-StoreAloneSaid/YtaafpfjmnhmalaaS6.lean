/- A store in memory (SW): the block with its chunks and its count, the chunks with their rows, each row in a block of its own; what keeps through calls. No function's text is walked here. -/
import Derived.Test.YtaafpfjmnhmalaaS5
namespace Go.Proofs.Ytaafpfjmnhmalaa
open Go.RowKit
set_option linter.all false
/-- The chunk number i. -/
def ChW (w : World) (D : Nat → Option Nat) (L : List It) (i : Nat) (v : Value) : Prop :=
  (v = .pointer none ∧ ∀ j, j < 64 → rowL L ((i * 64 + j + 1 : Nat) : Int) = []) ∨
  ∃ (b : Nat) (B : Array Value), v = .pointer (some ⟨b, 0, none⟩) ∧ D b = some (1 + i) ∧ Own w b B ∧ B.size = 64 ∧
    ∀ j, j < 64 → ∃ u, B[j]? = some u ∧ RowW w u (rowL L ((i * 64 + j + 1 : Nat) : Int)) ∧ ∀ g, u.ownBlock = some g → D g = some (65 + (i * 64 + j))
/-- A store with these items: D tells of each block of its own what it is. -/
structure SW (w : World) (D : Nat → Option Nat) (S : Nat) (L : List It) : Prop where
  dom : ∀ b t, D b = some t → b < w.heap.size
  at0 : D S = some 0
  own : ∃ A : Array Value, Own w S A ∧ A.size = 65 ∧ A[64]? = some (.int .i64 L.length) ∧ ∀ i, i < 64 → ∃ v, A[i]? = some v ∧ ChW w D L i v
  srt : SrtI L
  ins : InS L
theorem ChW.move {w w' : World} {D D' : Nat → Option Nat} {L L' : List It} {i : Nat} {v : Value} (h : ChW w D L i v)
    (hb : ∀ b t, D b = some t → (t = 1 + i ∨ (65 + i * 64 ≤ t ∧ t < 65 + i * 64 + 64)) → w'.heap[b]? = w.heap[b]?) (hD : ∀ b t, D b = some t → D' b = some t)
    (hL : ∀ j, j < 64 → rowL L' ((i * 64 + j + 1 : Nat) : Int) = rowL L ((i * 64 + j + 1 : Nat) : Int)) : ChW w' D' L' i v := by
  rcases h with ⟨rfl, h⟩ | ⟨b, B, rfl, h1, h2, h3, h4⟩
  · exact .inl ⟨rfl, fun j hj => (hL j hj).trans (h j hj)⟩
  · refine .inr ⟨b, B, rfl, hD _ _ h1, h2.of_block (hb _ _ h1 (.inl rfl)), h3, fun j hj => ?_⟩
    obtain ⟨u, k1, k2, k3⟩ := h4 j hj
    exact ⟨u, k1, by rw [hL j hj]; exact k2.of_block (fun g hg => hb _ _ (k3 g hg) (.inr (by omega))), fun g hg => hD _ _ (k3 g hg)⟩
theorem SW.of_block {w w' : World} {D : Nat → Option Nat} {S : Nat} {L : List It} (h : SW w D S L) (hs : w.heap.size ≤ w'.heap.size) (hb : ∀ b t, D b = some t → w'.heap[b]? = w.heap[b]?) : SW w' D S L := by
  obtain ⟨A, a1, a2, a3, a4⟩ := h.own
  refine ⟨fun b t e => Nat.lt_of_lt_of_le (h.dom b t e) hs, h.at0, ⟨A, a1.of_block (hb _ _ h.at0), a2, a3, fun i hi => ?_⟩, h.srt, h.ins⟩
  obtain ⟨v, v1, v2⟩ := a4 i hi
  exact ⟨v, v1, v2.move (fun b t e _ => hb b t e) (fun _ _ e => e) (fun _ _ => rfl)⟩
theorem SW.keep {w w' : World} {D : Nat → Option Nat} {S : Nat} {L : List It} (h : SW w D S L) (hb : Below w.heap.size w w') : SW w' D S L :=
  h.of_block hb.size (fun b t e => hb.block b (h.dom b t e))
theorem SW.mut {T : Nat → Prop} {w w' : World} {D : Nat → Option Nat} {S : Nat} {L : List It} (h : SW w D S L) (hm : Mut T w w') (hd : ∀ b t, D b = some t → ¬ T b) : SW w' D S L :=
  h.of_block hm.size (fun b t e => hm.block b (h.dom b t e) (hd b t e))
theorem SW.lt {w : World} {D : Nat → Option Nat} {S : Nat} {L : List It} (h : SW w D S L) : S < w.heap.size := h.dom _ _ h.at0
/-- A new store. -/
theorem SW.new (w : World) (T : TypeId) : SW (w.alloc (.cells zS T)) (fun b => if b = w.heap.size then some 0 else none) w.heap.size [] := by
  refine ⟨fun b t e => ?_, by simp, ⟨zS, Own.new _ _ _, zS_at.1, zS_at.2.1, fun i hi => ⟨_, zS_at.2.2 i hi, .inl ⟨rfl, fun j _ => rfl⟩⟩⟩, List.Pairwise.nil, fun x hx => by cases hx⟩
  by_cases q : b = w.heap.size
  · subst q; simp
  · simp [q] at e
theorem row_in {i j : Nat} (hi : i < 64) (hj : j < 64) : 1 ≤ ((i * 64 + j + 1 : Nat) : Int) ∧ ((i * 64 + j + 1 : Nat) : Int) ≤ 4096 := by omega
theorem row_of {r : Int} (h1 : 1 ≤ r) (h2 : r ≤ 4096) : ∃ i j : Nat, i < 64 ∧ j < 64 ∧ r = ((i * 64 + j + 1 : Nat) : Int) := ⟨((r - 1) / 64).toNat, ((r - 1) % 64).toNat, by omega, by omega, by omega⟩
theorem get_out {L : List It} (h : InS L) {r c : Int} (hm : mayC r c = false) : getL L r c = none := by
  refine get_no ?_
  unfold hasS
  rw [List.any_eq_false]
  intro s hs e
  have := h _ (mem_row.1 hs)
  have e' : s.c = c := by simpa using e
  have : mayC r c = true := mayC_t (by simp at this; omega)
  rw [this] at hm; cases hm
theorem get_nil {L : List It} {r c : Int} (h : rowL L r = []) : getL L r c = none := by unfold getL; rw [h]; rfl
/-- With one more item at a cell that may be, or another in its place. -/
theorem SW.step {w w' : World} {D D' : Nat → Option Nat} {S : Nat} {L L' : List It} (h : SW w D S L) (i0 j0 b : Nat) (A A' B' : Array Value) (hi : i0 < 64) (hj : j0 < 64)
    (hD : ∀ k t, D k = some t → D' k = some t) (hdom : ∀ k t, D' k = some t → k < w'.heap.size)
    (hA : Own w S A) (hA' : Own w' S A') (hsz : A'.size = 65) (hcnt : A'[64]? = some (.int .i64 L'.length)) (hAo : ∀ i, i < 64 → i ≠ i0 → A'[i]? = A[i]?)
    (hbl : ∀ k t, D k = some t → t ≠ 0 → t ≠ 1 + i0 → (t < 65 + i0 * 64 ∨ 65 + i0 * 64 + 64 ≤ t) → w'.heap[k]? = w.heap[k]?)
    (hrow : ∀ i j, i < 64 → j < 64 → i ≠ i0 → rowL L' ((i * 64 + j + 1 : Nat) : Int) = rowL L ((i * 64 + j + 1 : Nat) : Int))
    (hch : ∃ v, A'[i0]? = some v ∧ ChW w' D' L' i0 v) (hs : SrtI L') (hin : InS L') : SW w' D' S L' := by
  obtain ⟨A0, a1, a2, a3, a4⟩ := h.own
  have e : ∀ i, A0[i]? = A[i]? := fun i => (a1.cell i).symm.trans (hA.cell i)
  refine ⟨hdom, hD _ _ h.at0, ⟨A', hA', hsz, hcnt, fun i hi' => ?_⟩, hs, hin⟩
  by_cases q : i = i0
  · subst q; exact hch
  · obtain ⟨v, v1, v2⟩ := a4 i hi'
    refine ⟨v, by rw [hAo i hi' q, ← e i]; exact v1, v2.move (fun k t ek et => hbl k t ek (by omega) (by omega) (by omega)) hD (fun j hj => hrow i j hi' hj q)⟩
end Go.Proofs.Ytaafpfjmnhmalaa
