/- Set under way: the side of what is referred to while references are taken back and noted. No function's text is walked here. -/
import Derived.Test.YtgojnijpjfdocaaGreatFA
namespace Go.Proofs.YtgojnijpjfdocaaGreat
open Go.RowKit Go.Shelf
set_option linter.all false
/-- The side of what is referred to, in a world behind w; beside it a block of the caller's own. -/
structure Sy (w w' : World) (bc NB : Nat) (B B' : Nat → Option TagD) (G : Int → Int → Rf → Prop) (n m b0 : Nat) (A : Array Value) : Prop where
  to : To w' bc NB B' G n m
  mt : Mut (fun b => isTo (B b)) w w'
  old : ∀ b, b < w.heap.size → B' b = B b
  new : ∀ b, w.heap.size ≤ b → B' b = none ∨ (b < w'.heap.size ∧ isTo (B' b))
  bx : B' b0 = none
  own : Own w' b0 A
theorem Sy.keep {w w' w'' : World} {bc NB : Nat} {B B' : Nat → Option TagD} {G : Int → Int → Rf → Prop} {n m b0 : Nat} {A : Array Value} (h : Sy w w' bc NB B B' G n m b0 A) (hb : Below w'.heap.size w' w'') : Sy w w'' bc NB B B' G n m b0 A :=
  ⟨h.to.keep hb, h.mt.below hb, h.old, fun b q => (h.new b q).imp id (fun q => ⟨Nat.lt_of_lt_of_le q.1 hb.size, q.2⟩), h.bx, h.own.keep hb⟩
theorem Sy.congr {w w' : World} {bc NB : Nat} {B B' : Nat → Option TagD} {G G' : Int → Int → Rf → Prop} {n m b0 : Nat} {A : Array Value} (h : Sy w w' bc NB B B' G n m b0 A) (hG : ∀ r c f, G r c f ↔ G' r c f) : Sy w w' bc NB B B' G' n m b0 A := { h with to := h.to.congr hG }
theorem Sy.step {w W w'' : World} {bc NB : Nat} {B B1 : Nat → Option TagD} {G G' : Int → Int → Rf → Prop} {n m n' m' b0 : Nat} {A : Array Value} (h : Sy w W bc NB B B1 G n m b0 A) (hq : ToOut W bc NB B1 G' n' m' w'') : ∃ B2, Sy w w'' bc NB B B2 G' n' m' b0 A := by
  obtain ⟨B2, h1, h2, h3, h4⟩ := hq
  have hlt := h.own.lt
  refine ⟨B2, h1, h.mt.call h2 (fun b q => ?_), fun b q => ?_, fun b q => ?_, by rw [h3 b0 hlt]; exact h.bx, h.own.mut h2 (fun q => by rw [h.bx] at q; exact q)⟩
  · by_cases hb : b < w.heap.size
    · exact .inl (by rw [← h.old b hb]; exact q)
    · exact .inr (by omega)
  · rw [h3 b (Nat.lt_of_lt_of_le q h.mt.size)]; exact h.old b q
  · by_cases hb : b < W.heap.size
    · rw [h3 b hb]
      exact (h.new b q).imp id (fun q => ⟨Nat.lt_of_lt_of_le q.1 h2.size, q.2⟩)
    · exact h4 b (by omega)
/-- What is none of that side stays. -/
theorem Sy.keepB {w W w'' : World} {bc NB : Nat} {B B1 : Nat → Option TagD} {G G' : Int → Int → Rf → Prop} {n m n' m' b0 : Nat} {A : Array Value} (h : Sy w W bc NB B B1 G n m b0 A) (hq : ToOut W bc NB B1 G' n' m' w'') {b : Nat} {X : Array Value} (ho : Own W b X) (hn : ¬ isTo (B1 b)) : Own w'' b X := by
  obtain ⟨B2, h1, h2, h3, h4⟩ := hq
  exact ho.mut h2 hn
theorem Sy.fresh {w w' : World} {bc NB : Nat} {B B' : Nat → Option TagD} {G : Int → Int → Rf → Prop} {n m b0 : Nat} {A : Array Value} (h : Sy w w' bc NB B B' G n m b0 A) {b : Nat} (hb : w'.heap.size ≤ b) : ¬ isTo (B' b) := by
  rcases h.new b (Nat.le_trans h.mt.size hb) with q | q
  · rw [q]; exact fun q => q
  · omega
def remK (E : Int → Int → List Rf) (r c : Int) (L : List Rf) : Int → Int → Rf → Prop := fun r' c' f => f ∈ E r' c' ∧ ¬ (r' = r ∧ c' = c ∧ f ∈ L)
def addK (E : Int → Int → List Rf) (r c : Int) (L : List Rf) : Int → Int → Rf → Prop := fun r' c' f => (f ∈ E r' c' ∧ ¬ (r' = r ∧ c' = c)) ∨ (r' = r ∧ c' = c ∧ f ∈ L)
def updE (E : Int → Int → List Rf) (r c : Int) (L : List Rf) : Int → Int → List Rf := fun r' c' => if r' = r ∧ c' = c then L else E r' c'
theorem take_mem {L : List Rf} {k : Nat} {f g : Rf} (h : L[k]? = some f) : g ∈ L.take (k + 1) ↔ (g ∈ L.take k ∨ g = f) := by
  rw [List.take_succ, h]; simp
theorem srt_nin {L : List Rf} (hs : L.Pairwise (fun x y => cmpF x y < 0)) {k : Nat} {f : Rf} (h : L[k]? = some f) : f ∉ L.take k := fun q => by
  obtain ⟨j, hj⟩ := List.getElem?_of_mem q
  rw [List.getElem?_take] at hj
  split at hj
  · obtain ⟨h1, h2⟩ := List.getElem?_eq_some_iff.1 h
    obtain ⟨h3, h4⟩ := List.getElem?_eq_some_iff.1 hj
    have := List.pairwise_iff_getElem.1 hs j k h3 h1 ‹_›
    rw [h2, h4] at this
    have e : cmpF f f = 0 := (cmpF_zero f f).2 rfl
    omega
  · cases hj
theorem remK_next {E : Int → Int → List Rf} {r c : Int} {L : List Rf} {k : Nat} {f : Rf} (h : L[k]? = some f) (r' c' : Int) (g : Rf) : remG (remK E r c (L.take k)) r c f r' c' g ↔ remK E r c (L.take (k + 1)) r' c' g := by
  unfold remG remK
  rw [take_mem h]
  constructor
  · rintro ⟨⟨h1, h2⟩, h3⟩
    refine ⟨h1, ?_⟩
    rintro ⟨q1, q2, q3 | q3⟩
    · exact h2 ⟨q1, q2, q3⟩
    · exact h3 ⟨q1, q2, q3⟩
  · rintro ⟨h1, h2⟩
    exact ⟨⟨h1, fun q => h2 ⟨q.1, q.2.1, .inl q.2.2⟩⟩, fun q => h2 ⟨q.1, q.2.1, .inr q.2.2⟩⟩
theorem addK_next {E : Int → Int → List Rf} {r c : Int} {L : List Rf} {k : Nat} {f : Rf} (h : L[k]? = some f) (r' c' : Int) (g : Rf) : addG (addK E r c (L.take k)) r c f r' c' g ↔ addK E r c (L.take (k + 1)) r' c' g := by
  unfold addG addK
  rw [take_mem h]
  constructor
  · rintro ((h1 | ⟨h1, h2, h3⟩) | ⟨h1, h2, h3⟩)
    · exact .inl h1
    · exact .inr ⟨h1, h2, .inl h3⟩
    · exact .inr ⟨h1, h2, .inr h3⟩
  · rintro (h1 | ⟨h1, h2, h3 | h3⟩)
    · exact .inl (.inl h1)
    · exact .inl (.inr ⟨h1, h2, h3⟩)
    · exact .inr ⟨h1, h2, h3⟩
theorem remK_all (E : Int → Int → List Rf) (r c r' c' : Int) (g : Rf) : remK E r c (E r c) r' c' g ↔ addK E r c [] r' c' g := by
  unfold remK addK
  constructor
  · rintro ⟨h1, h2⟩
    refine .inl ⟨h1, ?_⟩
    rintro ⟨rfl, rfl⟩
    exact h2 ⟨rfl, rfl, h1⟩
  · rintro (⟨h1, h2⟩ | ⟨_, _, h⟩)
    · exact ⟨h1, fun q => h2 ⟨q.1, q.2.1⟩⟩
    · cases h
theorem addK_all (E : Int → Int → List Rf) (r c : Int) (L : List Rf) (r' c' : Int) (g : Rf) : addK E r c L r' c' g ↔ inE (updE E r c L) r' c' g := by
  unfold addK inE updE
  by_cases e : r' = r ∧ c' = c
  · rw [if_pos e]
    constructor
    · rintro (⟨_, h⟩ | ⟨_, _, h⟩)
      · exact absurd e h
      · exact h
    · exact fun h => .inr ⟨e.1, e.2, h⟩
  · rw [if_neg e]
    constructor
    · rintro (⟨h, _⟩ | ⟨h1, h2, _⟩)
      · exact h
      · exact absurd ⟨h1, h2⟩ e
    · exact fun h => .inl ⟨h, e⟩
theorem remK_nil (E : Int → Int → List Rf) (r c r' c' : Int) (g : Rf) : inE E r' c' g ↔ remK E r c [] r' c' g := by
  unfold inE remK
  simp
end Go.Proofs.YtgojnijpjfdocaaGreat
