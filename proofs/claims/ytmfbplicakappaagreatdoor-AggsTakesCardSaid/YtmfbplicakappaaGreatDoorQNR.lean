/- Rows of structs that a call owns, as lists: small laws of no function. -/
import Derived.Test.YtmfbplicakappaaGreatDoorQNT4
import Derived.Deep.AppendLies
import Derived.OwnWalk
namespace Go.Proofs.YtmfbplicakappaaGreatDoor
open Go.RowKit
set_option linter.all false
theorem Own.of_block {w w' : World} {b : Nat} {A : Array Value} (h : Own w b A) (e : w'.heap[b]? = w.heap[b]?) : Own w' b A :=
  ⟨by have h1 := h.lt; rw [Array.getElem?_eq_getElem h1] at e; exact (Array.getElem?_eq_some_iff.1 e).1, fun o => (World.cell?_of_block e).trans (h.cell o), fun o => (World.frozen?_of_block e).trans (h.fro o)⟩
theorem Own.aside {w : World} {b : Nat} {A : Array Value} (h : Own w b A) {a : Addr} (hb : b ≠ a.block) (v : Value) : Own (w.setCell a v) b A := h.of_block (Below.heap_setCell w a v b hb)
section
variable {α : Type} {c : α → Array Value} {sz : Nat} {e : TypeId}
def flatC (c : α → Array Value) (l : List α) : List Value := l.flatMap (fun x => (c x).toList)
theorem flatC_len (hc : ∀ x, (c x).size = sz) : ∀ l : List α, (flatC c l).length = l.length * sz
  | [] => by simp [flatC]
  | x :: r => by
    have ih := flatC_len hc r
    have e : flatC c (x :: r) = (c x).toList ++ flatC c r := rfl
    rw [e, List.length_append, ih, List.length_cons, Array.length_toList, hc, Nat.succ_mul, Nat.add_comm]
theorem flatC_snoc (l : List α) (x : α) : flatC c (l ++ [x]) = flatC c l ++ (c x).toList := by simp [flatC]
theorem flatC_app (l m : List α) : flatC c (l ++ m) = flatC c l ++ flatC c m := by simp [flatC]
theorem flatC_at (hc : ∀ x, (c x).size = sz) : ∀ (l : List α) (i j : Nat) (x : α), l[i]? = some x → j < sz → (flatC c l)[i * sz + j]? = (c x)[j]?
  | [], i, j, x, h, _ => by simp at h
  | u :: r, 0, j, x, h, hj => by
    simp at h; subst h
    have e : flatC c (u :: r) = (c u).toList ++ flatC c r := rfl
    rw [e, Nat.zero_mul, Nat.zero_add, List.getElem?_append_left (by rw [Array.length_toList, hc]; exact hj)]
    simp
  | u :: r, i + 1, j, x, h, hj => by
    have ih := flatC_at hc r i j x (by simpa using h) hj
    have e : flatC c (u :: r) = (c u).toList ++ flatC c r := rfl
    rw [e, List.getElem?_append_right (by rw [Array.length_toList, hc, Nat.succ_mul]; omega), Array.length_toList, hc, ← ih]
    congr 1
    rw [Nat.succ_mul]; omega
theorem flatC_take (hc : ∀ x, (c x).size = sz) (l : List α) (k : Nat) : flatC c (l.take k) = (flatC c l).take (k * sz) := by
  by_cases h : k ≤ l.length
  · have e : flatC c l = flatC c (l.take k) ++ flatC c (l.drop k) := by rw [← flatC_app, List.take_append_drop]
    rw [e]
    exact (List.take_left' (by rw [flatC_len hc, List.length_take, Nat.min_eq_left h])).symm
  · rw [List.take_of_length_le (by omega), List.take_of_length_le (by rw [flatC_len hc]; exact Nat.mul_le_mul_right _ (by omega))]
/-- The value is a list of just these things, in a block of its own from base on. -/
def Row (c : α → Array Value) (sz : Nat) (e : TypeId) (w : World) (base : Nat) (v : Value) (l : List α) : Prop := w.ownsRow base e sz v l.length (flatC c l)
theorem Row.nil (w : World) (base : Nat) : Row c sz e w base (.slice none 0 0) [] := ⟨by simp [flatC], .inl ⟨rfl, rfl⟩⟩
theorem Row.of_block {w w' : World} {base : Nat} {v : Value} {l : List α} (h : Row c sz e w base v l) (hb : ∀ g, v.ownBlock = some g → w'.heap[g]? = w.heap[g]?) : Row c sz e w' base v l := by
  obtain ⟨h1, h2⟩ := h
  refine ⟨h1, ?_⟩
  rcases h2 with h2 | ⟨g, cap, cur, e, r1, r2, r3⟩
  · exact .inl h2
  · exact .inr ⟨g, cap, cur, e, r1, (hb g (by rw [e]; rfl)).trans r2, r3⟩
theorem Row.lt {w : World} {base : Nat} {v : Value} {l : List α} (h : Row c sz e w base v l) : ∀ g, v.ownBlock = some g → base ≤ g ∧ g < w.heap.size := World.ownsRow.lt h
theorem Row.keep {w w' : World} {base : Nat} {v : Value} {l : List α} (h : Row c sz e w base v l) (hb : Below w.heap.size w w') : Row c sz e w' base v l :=
  h.of_block fun g hg => hb.block g (h.lt g hg).2
theorem Row.mono {w : World} {base base' : Nat} {v : Value} {l : List α} (h : Row c sz e w base v l) (hb : base' ≤ base) : Row c sz e w base' v l := by
  obtain ⟨h1, h2⟩ := h
  refine ⟨h1, ?_⟩
  rcases h2 with h2 | ⟨g, cap, cur, e, r1, r2⟩
  · exact .inl h2
  · exact .inr ⟨g, cap, cur, e, Nat.le_trans hb r1, r2⟩
theorem Row.slice {w : World} {base : Nat} {v : Value} {l : List α} (h : Row c sz e w base v l) : ∃ p cap, v = .slice p l.length cap ∧ l.length ≤ cap ∧ cap ≤ maxLen := by
  obtain ⟨h1, h2⟩ := h
  rcases h2 with ⟨rfl, e⟩ | ⟨g, cap, cur, rfl, _, _, h3, h4, _⟩
  · exact ⟨none, 0, by rw [e], by omega, Nat.zero_le _⟩
  · exact ⟨_, _, rfl, h3, h4⟩
/-- Nil, or written out. -/
theorem Row.two {w : World} {base : Nat} {v : Value} {l : List α} (hc : ∀ x, (c x).size = sz) (h : Row c sz e w base v l) : (v = .slice none 0 0 ∧ l = []) ∨
    ∃ g cap, v = .slice (some ⟨g, 0, none⟩) l.length cap ∧ base ≤ g ∧ g < w.heap.size ∧ l.length ≤ cap ∧ cap ≤ maxLen ∧ (∀ i x, l[i]? = some x → ∀ j, j < sz → w.cell? ⟨g, i * sz + j, none⟩ = (c x)[j]?) ∧ (∀ o, w.frozen? ⟨g, o, none⟩ = false) := by
  have hh := h
  obtain ⟨h1, h2⟩ := h
  rcases h2 with ⟨h2, h3⟩ | ⟨g, cap, cur, rfl, r1, r2, r3⟩
  · exact .inl ⟨h2, List.length_eq_zero_iff.1 h3⟩
  · refine .inr ⟨g, cap, rfl, r1, (Array.getElem?_eq_some_iff.1 r2).1, r3.1, r3.2.1, fun i x hi j hj => ?_, fun o => World.ownsRow.frozenAt hh o⟩
    have hil := (List.getElem?_eq_some_iff.1 hi).1
    have h5 : i * sz + j < l.length * sz := by
      have := Nat.mul_le_mul_right sz (show i + 1 ≤ l.length by omega)
      rw [Nat.succ_mul] at this
      omega
    rw [World.ownsRow.cellAt hh (i * sz + j) h5, flatC_at hc l i j x hi hj]
/-- The first of them. -/
theorem Row.take {w : World} {base g m cap : Nat} {l : List α} (hc : ∀ x, (c x).size = sz) (h : Row c sz e w base (.slice (some ⟨g, 0, none⟩) m cap) l) {k : Nat} (hk : k ≤ l.length) : Row c sz e w base (.slice (some ⟨g, 0, none⟩) k cap) (l.take k) := by
  obtain ⟨h1, h2⟩ := h
  rcases h2 with ⟨h2, h3⟩ | ⟨g', cap', cur, h2, r1, r2, r3, r4, r5, r6⟩
  · cases h2
  · cases h2
    have e2 : (l.take k).length = k := by rw [List.length_take]; omega
    refine ⟨by rw [flatC_len hc], .inr ⟨g, cap, cur, by rw [e2], r1, r2, by omega, r4, r5, ?_⟩⟩
    rw [e2, flatC_take hc, ← r6, List.take_take, Nat.min_eq_left (Nat.mul_le_mul_right _ hk)]
theorem Row.cells {w : World} {base g m cap : Nat} {l : List α} (hc : ∀ x, (c x).size = sz) (h : Row c sz e w base (.slice (some ⟨g, 0, none⟩) m cap) l) : ∀ i x, l[i]? = some x → ∀ j, j < sz → w.cell? ⟨g, i * sz + j, none⟩ = (c x)[j]? := by
  rcases h.two hc with ⟨h1, _⟩ | ⟨g', cap', h1, _, _, _, _, h2, _⟩
  · cases h1
  · cases h1; exact h2
theorem Row.drew {w : World} {base : Nat} {v : Value} {l : List α} (h : Row c sz e w base v l) : Row c sz e w.drew base v l := h.keep (Below.refl _ _).drew
theorem Row.past {w : World} {base : Nat} {v : Value} {l : List α} (h : Row c sz e w base v l) (o : Obj) : Row c sz e (w.alloc o) base v l := h.keep (bal w o)
theorem own_grown {W w5 : World} {row : Option Nat} {L : Nat} {A : Array Value} (h : Own W L A) (hg : W.grownBy w5 row) (hn : ∀ g', row = some g' → g' ≠ L) : Own w5 L A := h.of_block (hg.block L h.lt (fun e => hn L e.symm rfl))
end
end Go.Proofs.YtmfbplicakappaaGreatDoor
