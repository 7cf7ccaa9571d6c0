/- A slice of ints that holds a list of words; the contracts of the document's cut, below and small. Nothing is written. -/
import Derived.Test.YtfpbcokfianjaaaPwPVal
import Derived.Test.YtfpbcokfianjaaaQuot
import Derived.Laws.OwnMore
import Derived.Laws.MakeOwn
import Derived.Deep.QuietTactic
import Derived.BigQuiet
import Derived.Lib.Walk
import Derived.Lib.Hide
namespace Go.Proofs.Ytfpbcokfianjaaa.Pw
open Go.Shelf Go.RowKit
set_option linter.all false
def ints (l : List Nat) : List Value := l.map fun (n : Nat) => Value.int .i64 (n : Int)
/-- The slice holds these words. -/
def IsW (w : World) (v : Value) (l : List Nat) : Prop := w.ownsRow 0 3 1 v l.length (ints l)
theorem grown_below {w w' : World} (hb : Below w.heap.size w w') : w.grownBy w' none := ⟨hb.os, hb.tape, hb.output, hb.size, fun k hk _ => hb.block k hk⟩
theorem IsW.keep {w w' : World} {v : Value} {l : List Nat} (h : IsW w v l) (hb : Below w.heap.size w w') : IsW w' v l :=
  World.ownsRow.kept h (grown_below hb) (by cases e : v.ownBlock with | none => exact .inl rfl | some k => exact .inr (by simp))
theorem IsW.drewN {w : World} {v : Value} {l : List Nat} (h : IsW w v l) (k : Nat) : IsW (w.drewN k) v l := h.keep ⟨rfl, rfl, rfl, Nat.le_refl _, fun _ _ => rfl⟩
theorem IsW.nil (w : World) : IsW w (.slice none 0 0) [] := World.ownsRow_nil _ _ _ _
theorem ints_at (l : List Nat) (i : Nat) (h : i < l.length) : (ints l)[i]? = some (.int .i64 (l[i] : Nat)) := by
  unfold ints; rw [List.getElem?_map, List.getElem?_eq_getElem h]; rfl
/-- Where the words lie. -/
theorem IsW.lies {w : World} {v : Value} {l : List Nat} (h : IsW w v l) : (v = .slice none 0 0 ∧ l = []) ∨
    ∃ g cap, v = .slice (some ⟨g, 0, none⟩) l.length cap ∧ l.length ≤ cap ∧ cap ≤ maxLen ∧ ∀ i, (hi : i < l.length) → w.cell? ⟨g, i, none⟩ = some (.int .i64 (l[i] : Nat)) := by
  have h' := h
  rcases h.2 with ⟨hv, hn⟩ | ⟨g, cap, cur, hv, _, hg, h1, h2, h3, h4⟩
  · exact .inl ⟨hv, List.length_eq_zero_iff.1 hn⟩
  · refine .inr ⟨g, cap, hv, h1, h2, fun i hi => ?_⟩
    subst hv
    rw [World.ownsRow.cellAt h' i (by omega), ints_at l i hi]
theorem IsW.len {w : World} {v : Value} {l : List Nat} (h : IsW w v l) : l.length ≤ maxLen := by
  rcases h.lies with ⟨_, rfl⟩ | ⟨g, cap, _, h1, h2, _⟩
  · simp
  · omega
/-- The first n words. -/
theorem IsW.pre {w : World} {g cap : Nat} {l : List Nat} (h : IsW w (.slice (some ⟨g, 0, none⟩) l.length cap) l) (n : Nat) (hn : n ≤ l.length) : IsW w (.slice (some ⟨g, 0, none⟩) n cap) (l.take n) := by
  have hl : (l.take n).length = n := by rw [List.length_take]; omega
  rcases h.2 with ⟨hv, _⟩ | ⟨g', cap', cur, hv, hb, hg, h1, h2, h3, h4⟩
  · cases hv
  · cases hv
    refine ⟨by simp [ints], .inr ⟨g, cap, cur, by rw [hl], hb, hg, by omega, h2, h3, ?_⟩⟩
    rw [hl, Nat.mul_one]
    have := congrArg (List.take n) h4
    rw [List.take_take, Nat.mul_one, Nat.min_eq_left hn] at this
    rw [this]; unfold ints; rw [List.map_take]
theorem retB' {x y : Bool} (h : x = y) : Ending.returned (.bool x) = .returned (.bool y) := by rw [h]
theorem IsW.form {w : World} {v : Value} {l : List Nat} (h : IsW w v l) : ∃ (p : Option Addr) (cap : Nat), v = .slice p l.length cap := by
  rcases h.lies with ⟨rfl, rfl⟩ | ⟨g, cap, rfl, _⟩
  · exact ⟨none, 0, rfl⟩
  · exact ⟨_, cap, rfl⟩
theorem IsW.some {w : World} {v : Value} {l : List Nat} (h : IsW w v l) (h0 : l ≠ []) : ∃ g cap, v = .slice (some ⟨g, 0, none⟩) l.length cap ∧ l.length ≤ cap ∧ ∀ i, (hi : i < l.length) → w.cell? ⟨g, i, none⟩ = some (.int .i64 (l[i] : Nat)) := by
  rcases h.lies with ⟨rfl, rfl⟩ | ⟨g, cap, rfl, h1, h2, hc⟩
  · exact absurd rfl h0
  · exact ⟨g, cap, rfl, h1, hc⟩
end Go.Proofs.Ytfpbcokfianjaaa.Pw
