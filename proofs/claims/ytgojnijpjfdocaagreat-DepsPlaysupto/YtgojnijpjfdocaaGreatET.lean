/- What deps keeps by what is referred to: the map of single cells, and the bands. -/
import Derived.Test.YtgojnijpjfdocaaGreatER
import Derived.Test.YtgojnijpjfdocaaGreatBBc
namespace Go.Proofs.YtgojnijpjfdocaaGreat
open Go.RowKit Go.Shelf
set_option linter.all false
abbrev TagD := Nat × Int × Int
/-- The tags of what lies on the side of what is referred to: the map (2), its lists (4), the bands (5). -/
def isTo : Option TagD → Prop
  | some (k, _, _) => k = 2 ∨ k = 4 ∨ k = 5
  | none => False
/-- The map at bc and the bands at NB tell just who has which reference (G); B tells of each block what it is. -/
structure To (w : World) (bc NB : Nat) (B : Nat → Option TagD) (G : Int → Int → Rf → Prop) (n m : Nat) : Prop where
  map : ∃ fc, MapF w bc n fc ∧ ∀ x y, I64 x → I64 y → ∃ L, RowK w (fc x y) L ∧ (L = [] → fc x y = nilS) ∧ L.Pairwise (fun a b => cmpK a b < 0) ∧ (∀ z, z ∈ L ↔ G z.r z.c ⟨false, x, y, x, y⟩) ∧ (∀ g, (fc x y).ownBlock = some g → B g = some (4, x, y)) ∧ L.length ≤ m
  bcT : B bc = some (2, 0, 0)
  bands : ∃ D P, Bd w NB D P m ∧ (∀ b, (D b).isSome = true → B b = some (5, 0, 0)) ∧ (∀ p : Pr, p ∈ P ↔ G p.r p.c ⟨true, p.t, p.l, p.b, p.q⟩)
def ToOut (w : World) (bc NB : Nat) (B : Nat → Option TagD) (G' : Int → Int → Rf → Prop) (n m : Nat) (w' : World) : Prop := ∃ B', To w' bc NB B' G' n m ∧ Mut (fun b => isTo (B b)) w w' ∧ (∀ b, b < w.heap.size → B' b = B b) ∧ (∀ b, w.heap.size ≤ b → B' b = none ∨ (b < w'.heap.size ∧ isTo (B' b)))
theorem To.keep {w w' : World} {bc NB : Nat} {B : Nat → Option TagD} {G : Int → Int → Rf → Prop} {n m : Nat} (h : To w bc NB B G n m) (hb : Below w.heap.size w w') : To w' bc NB B G n m := by
  obtain ⟨⟨fc, h1, h2⟩, h3, D, P, h4, h5⟩ := h
  refine ⟨⟨fc, h1.keep hb, fun x y hx hy => ?_⟩, h3, D, P, h4.keep hb, h5⟩
  obtain ⟨L, k1, k2⟩ := h2 x y hx hy
  exact ⟨L, RowG.keep k1 hb, k2⟩
/-- Blocks that are none of these are turned, no more. -/
theorem To.mut {S : Nat → Prop} {w w' : World} {bc NB : Nat} {B : Nat → Option TagD} {G : Int → Int → Rf → Prop} {n m : Nat} (h : To w bc NB B G n m) (hm : Mut S w w') (hs : ∀ b, isTo (B b) → ¬ S b) : To w' bc NB B G n m := by
  obtain ⟨⟨fc, h1, h2⟩, h3, D, P, h4, h5, h6⟩ := h
  refine ⟨⟨fc, h1.mut hm (hs bc (by rw [h3]; exact .inl rfl)), fun x y hx hy => ?_⟩, h3, D, P, h4.mut hm (fun b q => hs b (by rw [h5 b q]; exact .inr (.inr rfl))), h5, h6⟩
  obtain ⟨L, k1, k2, k3, k4, k5, k6⟩ := h2 x y hx hy
  exact ⟨L, RowG.mut k1 hm (fun g q => hs g (by rw [k5 g q]; exact .inr (.inl rfl))), k2, k3, k4, k5, k6⟩
theorem To.more {w : World} {bc NB : Nat} {B : Nat → Option TagD} {G : Int → Int → Rf → Prop} {n m n' m' : Nat} (h : To w bc NB B G n m) (hn : n ≤ n') (hm : m ≤ m') : To w bc NB B G n' m' := by
  obtain ⟨⟨fc, h1, h2⟩, h3, D, P, h4, h5⟩ := h
  refine ⟨⟨fc, h1.more hn, fun x y hx hy => ?_⟩, h3, D, P, h4.more hm, h5⟩
  obtain ⟨L, k1, k2, k3, k4, k5, k6⟩ := h2 x y hx hy
  exact ⟨L, k1, k2, k3, k4, k5, Nat.le_trans k6 hm⟩
/-- It is of who refers alone what G says. -/
theorem To.congr {w : World} {bc NB : Nat} {B : Nat → Option TagD} {G G' : Int → Int → Rf → Prop} {n m : Nat} (h : To w bc NB B G n m) (hG : ∀ r c f, G r c f ↔ G' r c f) : To w bc NB B G' n m := by
  obtain ⟨⟨fc, h1, h2⟩, h3, D, P, h4, h5, h6⟩ := h
  refine ⟨⟨fc, h1, fun x y hx hy => ?_⟩, h3, D, P, h4, h5, fun p => (h6 p).trans (hG _ _ _)⟩
  obtain ⟨L, k1, k2, k3, k4, k5⟩ := h2 x y hx hy
  exact ⟨L, k1, k2, k3, fun z => (k4 z).trans (hG _ _ _), k5⟩
def addG (G : Int → Int → Rf → Prop) (r c : Int) (f : Rf) : Int → Int → Rf → Prop := fun r' c' f' => G r' c' f' ∨ (r' = r ∧ c' = c ∧ f' = f)
def remG (G : Int → Int → Rf → Prop) (r c : Int) (f : Rf) : Int → Int → Rf → Prop := fun r' c' f' => G r' c' f' ∧ ¬ (r' = r ∧ c' = c ∧ f' = f)
theorem BdOut.back {w W w' : World} {N : Nat} {D : Nat → Option Tag} {P' : List Pr} {m : Nat} (hb : Below w.heap.size w W) (h : BdOut W N D P' m w') : BdOut w N D P' m w' := by
  obtain ⟨D', k1, k2, k3⟩ := h
  exact ⟨D', k1, (Mut.of_below hb).call k2 (fun b q => .inl q), fun b q => (k3 b q).imp id (fun q => Nat.le_trans hb.size q)⟩
/-- The bands alone are turned. -/
theorem to_bands {w w' : World} {bc NB : Nat} {B : Nat → Option TagD} {G G' : Int → Int → Rf → Prop} {n m m' : Nat} (h : To w bc NB B G n m) (hmm : m ≤ m') {D : Nat → Option Tag} {P' : List Pr} (h5 : ∀ b, (D b).isSome = true → B b = some (5, 0, 0))
    (hq : BdOut w NB D P' m' w') (k4 : ∀ p : Pr, p ∈ P' ↔ G' p.r p.c ⟨true, p.t, p.l, p.b, p.q⟩) (hG : ∀ r c x y, G r c ⟨false, x, y, x, y⟩ ↔ G' r c ⟨false, x, y, x, y⟩) : ToOut w bc NB B G' n m' w' := by
  obtain ⟨⟨fc, h1, h2⟩, h3, _⟩ := h
  obtain ⟨D', k1, k2, k3⟩ := hq
  have hlb := h1.lt
  have hm : Mut (fun b => isTo (B b)) w w' := (Mut.refl _ w).call k2 (fun b q => .inl (by show isTo (B b); rw [h5 b q]; exact .inr (.inr rfl)))
  refine ⟨fun b => if b < w.heap.size then B b else if (D' b).isSome = true then some (5, 0, 0) else none, ⟨⟨fc, h1.mut k2 (fun q => by have := h5 bc q; rw [h3] at this; cases this), fun x y hx hy => ?_⟩, by show (if bc < w.heap.size then B bc else _) = _; rw [if_pos hlb]; exact h3, D', P', k1, fun b q => ?_, k4⟩, hm, fun b hb => if_pos hb, fun b hb => ?_⟩
  · obtain ⟨L, g1, g2, g3, g4, g5, g6⟩ := h2 x y hx hy
    refine ⟨L, RowG.mut g1 k2 (fun g q1 q2 => by have := h5 g q2; rw [g5 g q1] at this; cases this), g2, g3, fun z => (g4 z).trans (hG _ _ _ _), fun g q => ?_, Nat.le_trans g6 hmm⟩
    have hl := (RowG.lt g1 g q).2
    show (if g < w.heap.size then B g else _) = _
    rw [if_pos hl]
    exact g5 g q
  · show (if b < w.heap.size then B b else _) = _
    by_cases hb : b < w.heap.size
    · rw [if_pos hb]
      rcases k3 b q with q2 | q2
      · exact h5 b q2
      · omega
    · rw [if_neg hb, if_pos q]
  · show (if b < w.heap.size then B b else _) = none ∨ _
    have hn : ¬ b < w.heap.size := by omega
    simp only [if_neg hn]
    by_cases q : (D' b).isSome = true
    · rw [if_pos q]; exact .inr ⟨k1.dom b q, .inr (.inr rfl)⟩
    · rw [if_neg q]; exact .inl rfl
end Go.Proofs.YtgojnijpjfdocaaGreat
