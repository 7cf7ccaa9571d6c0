/- Lists that came in. -/
import Derived.Test.YtpblkidbaheboaaCS
namespace Go.Proofs.Ytpblkidbaheboaa
open Go.RowKit
set_option linter.all false
/-- A list that came in. -/
def CV {α : Type} (c : α → Array Value) (sz : Nat) (w : World) (v : Value) (l : List α) : Prop :=
  ∃ p cap, v = .slice p l.length cap ∧ l.length ≤ cap ∧ l.length ≤ 9223372036854775807 ∧ (0 < l.length → ∃ b o, p = some ⟨b, o, none⟩ ∧ b < w.heap.size ∧ ∀ i x, l[i]? = some x → ∀ j, j < sz → w.cell? ⟨b, o + i * sz + j, none⟩ = (c x)[j]?)
/-- The same, an element at a time. -/
theorem CV.each {w : World} {p : Option Addr} {l : List Op7} (h : 0 < l.length → ∃ b o, p = some ⟨b, o, none⟩ ∧ b < w.heap.size ∧ ∀ i x, l[i]? = some x → ∀ j, j < 7 → w.cell? ⟨b, o + i * 7 + j, none⟩ = (Op7.cells x)[j]?) : ∀ i, i < l.length → ∃ (ab ao : Nat) (x : Op7), p = some ⟨ab, ao, none⟩ ∧ ab < w.heap.size ∧ l[i]? = some x ∧ ∀ j u, (Op7.cells x)[j]? = some u → w.cell? ⟨ab, ao + i * 7 + j, none⟩ = some u := fun i hi => by
  obtain ⟨ab, ao, e, hab, HA⟩ := h (by omega)
  obtain ⟨x, hx⟩ : ∃ x, l[i]? = some x := ⟨_, List.getElem?_eq_getElem hi⟩
  exact ⟨ab, ao, x, e, hab, hx, fun j u hu => (HA i x hx j (by have := (Array.getElem?_eq_some_iff.1 hu).1; exact this)).trans hu⟩
theorem take_next {α : Type} {l : List α} {i : Nat} {x : α} (h : l[i]? = some x) : l.take (i + 1) = l.take i ++ [x] := by rw [List.take_succ, h]; rfl
theorem drop_next {α : Type} {l : List α} {i : Nat} {x : α} (h : l[i]? = some x) : l.drop i = x :: l.drop (i + 1) := by
  obtain ⟨hi, rfl⟩ := List.getElem?_eq_some_iff.1 h
  exact List.drop_eq_getElem_cons hi
theorem Own.low {w w' : World} {b w0 : Nat} {A : Array Value} (h : Own w b A) (hb : Below w0 w w') (hl : b < w0) : Own w' b A := h.of_block (hb.block b hl)
end Go.Proofs.Ytpblkidbaheboaa
