/- Plain facts of a rectangle's entries: as many as it has cells at most; those that are Blank and those that are not are all. No function. -/
import Derived.Test.YtfikaamjnkmbdaaGreatDoorQGVGC3
import Derived.Test.YtfikaamjnkmbdaaGreatDoorQGU3GC0
import Derived.Test.YtfikaamjnkmbdaaGreatDoorQGR2GR3
import Derived.Test.YtfikaamjnkmbdaaGreatDoorQGTwGN
import Derived.Test.YtfikaamjnkmbdaaGreatDoorQGC5GR1
import Derived.Test.YtfikaamjnkmbdaaGreatDoorQTMGO
namespace Go.Proofs.YtfikaamjnkmbdaaGreatDoor
open Go.RowKit
set_option linter.all false
theorem ent_parts {r0 r1 r2 r3 : Int} {es : List En} {j : Nat} {x : En} (h : entA r0 r1 r2 r3 es j x = true) : (r0 ≤ x.r ∧ x.r ≤ r2 ∧ r1 ≤ x.k ∧ x.k ≤ r3) ∧ mayB x.t x.n x.s x.b x.c = true := by
  unfold entA at h
  simp only [Bool.and_eq_true] at h
  exact ⟨by simpa [Ad.inB] using h.1.1, h.1.2⟩
theorem ent_next {r0 r1 r2 r3 : Int} {es : List En} {j : Nat} {p x : En} (h : entA r0 r1 r2 r3 es (j + 1) x = true) (hp : es[j]? = some p) : p.r < x.r ∨ p.r = x.r ∧ p.k < x.k := by
  unfold entA at h
  simp only [Bool.and_eq_true, Nat.add_sub_cancel, hp] at h
  have q := h.2
  simp [Ad.befB] at q
  omega
theorem pos_le {r0 r1 r2 r3 : Int} {es : List En} (h : entsB r0 r1 r2 r3 es = true) : ∀ (j : Nat) (x : En), es[j]? = some x → (j : Int) ≤ (x.r - r0) * (r3 - r1 + 1) + (x.k - r1) := by
  intro j
  induction j with
  | zero =>
    intro x hx
    obtain ⟨⟨a1, _, a3, a4⟩, _⟩ := ent_parts ((ents_all _ _ _ _ _).1 h 0 x hx)
    have : 0 ≤ (x.r - r0) * (r3 - r1 + 1) := Int.mul_nonneg (by omega) (by omega)
    omega
  | succ j ih =>
    intro x hx
    have hj : j < es.length := by have := (List.getElem?_eq_some_iff.1 hx).1; omega
    have hp : es[j]? = some es[j] := List.getElem?_eq_getElem hj
    generalize es[j] = p at hp
    have hi := ih p hp
    obtain ⟨⟨a1, a2, a3, a4⟩, _⟩ := ent_parts ((ents_all _ _ _ _ _).1 h (j + 1) x hx)
    obtain ⟨⟨b1, b2, b3, b4⟩, _⟩ := ent_parts ((ents_all _ _ _ _ _).1 h j p hp)
    rcases ent_next ((ents_all _ _ _ _ _).1 h (j + 1) x hx) hp with g | ⟨g1, g2⟩
    · have e : (x.r - r0) * (r3 - r1 + 1) = (p.r - r0) * (r3 - r1 + 1) + (x.r - p.r) * (r3 - r1 + 1) := by rw [← Int.add_mul]; congr 1; omega
      have e2 : (r3 - r1 + 1) ≤ (x.r - p.r) * (r3 - r1 + 1) := by
        have := Int.mul_le_mul_of_nonneg_right (show (1 : Int) ≤ x.r - p.r by omega) (show 0 ≤ r3 - r1 + 1 by omega)
        rwa [Int.one_mul] at this
      omega
    · rw [← g1]; omega
theorem ents_fit {r0 r1 r2 r3 : Int} {es : List En} (h : entsB r0 r1 r2 r3 es = true) (h1 : r0 ≤ r2) (h2 : r1 ≤ r3) : (es.length : Int) ≤ (r2 - r0 + 1) * (r3 - r1 + 1) := by
  by_cases h0 : es.length = 0
  · rw [h0]; exact Int.mul_nonneg (by omega) (by omega)
  · have hj : es.length - 1 < es.length := by omega
    have hp : es[es.length - 1]? = some es[es.length - 1] := List.getElem?_eq_getElem hj
    generalize es[es.length - 1] = x at hp
    have hi := pos_le h _ x hp
    obtain ⟨⟨a1, a2, a3, a4⟩, _⟩ := ent_parts ((ents_all _ _ _ _ _).1 h _ x hp)
    have e : (x.r - r0) * (r3 - r1 + 1) ≤ (r2 - r0) * (r3 - r1 + 1) := Int.mul_le_mul_of_nonneg_right (by omega) (by omega)
    rw [Int.add_mul, Int.one_mul]
    omega
end Go.Proofs.YtfikaamjnkmbdaaGreatDoor
