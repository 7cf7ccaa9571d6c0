/- The law's begin: a store and the document's, both empty, and eight contents. -/
import Derived.Test.YtaafpfjmnhmalaaS23
import Derived.Deep.AppendLies
namespace Go.Proofs.Ytaafpfjmnhmalaa
open Go.RowKit
set_option linter.all false
def ptr (b : Nat) : Value := .pointer (some ⟨b, 0, none⟩)
theorem infoPt : (Try.prog.info? 46).map (fun i => (i.zero, i.size, i.bytes)) = some (some (.pointer none), 1, 8) := by kernel_rfl
def RowP (w : World) (base : Nat) (v : Value) (l : List Nat) : Prop := w.ownsRow base 46 1 v l.length (l.map ptr)
theorem RowP.of_block {w w' : World} {base : Nat} {v : Value} {l : List Nat} (h : RowP w base v l) (hb : ∀ g, v.ownBlock = some g → w'.heap[g]? = w.heap[g]?) : RowP w' base v l := by
  unfold RowP World.ownsRow at *
  refine ⟨h.1, ?_⟩
  rcases h.2 with q | ⟨g, cap, cur, rfl, h1, h2, h3⟩
  · exact .inl q
  · exact .inr ⟨g, cap, cur, rfl, h1, (hb g rfl).trans h2, h3⟩
theorem RowP.lt {w : World} {base : Nat} {v : Value} {l : List Nat} (h : RowP w base v l) : ∀ g, v.ownBlock = some g → base ≤ g ∧ g < w.heap.size := World.ownsRow.lt h
theorem RowP.keep {w w' : World} {base : Nat} {v : Value} {l : List Nat} (h : RowP w base v l) (hb : Below w.heap.size w w') : RowP w' base v l := h.of_block fun g hg => hb.block g (h.lt g hg).2
theorem ptr_one (l : List Nat) : ∀ u ∈ l.map ptr, u.oneCell' = true := by
  intro u hu
  obtain ⟨x, _, rfl⟩ := List.mem_map.1 hu
  rfl
/-- Behind so many contents. -/
structure Bg (w0 : Nat) (w : World) (v : Value) (xs : List Nat) : Prop where
  q : Own w (w0 + 2) #[ptr w0, ptr (w0 + 1), v]
  r : RowP w (w0 + 3) v xs
  nd : xs.Nodup
  x : ∀ x ∈ xs, w0 + 3 ≤ x ∧ v.ownBlock ≠ some x ∧ ∃ cs T, w.heap[x]? = some (.cells cs T (0, 0))
  st : SW w (dNew w0) w0 []
  y : Own w (w0 + 1) #[.slice none 0 0]
  sz : w0 + 3 ≤ w.heap.size
theorem Bg.keep {w0 : Nat} {w w' : World} {v : Value} {xs : List Nat} (h : Bg w0 w v xs) (hb : Below w.heap.size w w') : Bg w0 w' v xs :=
  ⟨h.q.keep hb, h.r.keep hb, h.nd, fun x hx => by
    obtain ⟨h1, h2, cs, T, e⟩ := h.x x hx
    exact ⟨h1, h2, cs, T, (hb.block x (Array.getElem?_eq_some_iff.1 e).1).trans e⟩, h.st.keep hb, h.y.keep hb, Nat.le_trans h.sz hb.size⟩
/-- One more: its block, a row with it, the slice laid back. -/
theorem Bg.more {w0 : Nat} {w w1 w2 : World} {v v' : Value} {xs : List Nat} {T : TypeId} {cs : Array Value} {x : Nat} (h : Bg w0 w v xs) (h1 : Below w.heap.size w w1) (hx : w.heap.size ≤ x) (hc : w1.heap[x]? = some (.cells cs T (0, 0)))
    (hr : RowP w2 (w0 + 3) v' (xs ++ [x])) (hg : w1.grownBy w2 v.ownBlock) (hv : v'.ownBlock = v.ownBlock ∨ v'.ownBlock = some w1.heap.size) : Bg w0 (w2.setCell ⟨w0 + 2, 2, none⟩ v') v' (xs ++ [x]) := by
  have hk := h.keep h1
  have hxl : x < w1.heap.size := (Array.getElem?_eq_some_iff.1 hc).1
  have hvl : ∀ g, v.ownBlock = some g → w0 + 3 ≤ g ∧ g < w.heap.size := h.r.lt
  have hvn : ∀ g, v'.ownBlock = some g → w0 + 3 ≤ g := fun g q => (hr.lt g q).1
  have old : ∀ b, b < w1.heap.size → v.ownBlock ≠ some b → w2.heap[b]? = w1.heap[b]? := fun b hb hn => hg.block b hb (Ne.symm hn)
  have low : ∀ b, b < w0 + 3 → w2.heap[b]? = w1.heap[b]? := fun b hb => old b (by have := hk.sz; omega) (fun q => by have := (hvl b q).1; omega)
  have hs2 : w2.heap.size ≤ (w2.setCell ⟨w0 + 2, 2, none⟩ v').heap.size := by simp [World.setCell]
  have side : ∀ b, b ≠ w0 + 2 → (w2.setCell ⟨w0 + 2, 2, none⟩ v').heap[b]? = w2.heap[b]? := fun b hb => Below.heap_setCell w2 ⟨w0 + 2, 2, none⟩ v' b hb
  refine ⟨own_put (k := 2) (hk.q.of_block (low _ (by omega))) (by simp), hr.of_block (fun g q => side g (by have := hvn g q; omega)), ?_, fun y hy => ?_, hk.st.of_block (Nat.le_trans hg.size hs2) (fun b t e => ?_), hk.y.of_block ((side _ (by omega)).trans (low _ (by omega))), Nat.le_trans hk.sz (Nat.le_trans hg.size hs2)⟩
  · rw [List.nodup_append]
    refine ⟨h.nd, by simp, fun a ha b hb e => ?_⟩
    simp only [List.mem_singleton] at hb
    subst hb
    subst e
    obtain ⟨_, _, cs', T', e⟩ := h.x _ ha
    have := (Array.getElem?_eq_some_iff.1 e).1
    omega
  · rcases List.mem_append.1 hy with q | q
    · obtain ⟨k1, k2, cs', T', e⟩ := hk.x y q
      have hyl := (Array.getElem?_eq_some_iff.1 e).1
      refine ⟨k1, fun q2 => ?_, cs', T', (side y (by omega)).trans ((old y hyl k2).trans e)⟩
      rcases hv with e2 | e2
      · exact k2 (e2 ▸ q2)
      · rw [e2] at q2; injection q2; omega
    · simp only [List.mem_singleton] at q
      subst q
      have hz := h.sz
      refine ⟨by omega, fun q2 => ?_, cs, T, (side y (by omega)).trans ((old y hxl (fun q => by have := (hvl y q).2; omega)).trans hc)⟩
      rcases hv with e2 | e2
      · rw [e2] at q2; have := (hvl y q2).2; omega
      · rw [e2] at q2; injection q2; omega
  · have hb := dNew_some (s := w0) (b := b) (by rw [e]; rfl)
    subst hb
    exact (side b (by omega)).trans (low b (by omega))
theorem Bg.grown {w0 : Nat} {w w1 w2 : World} {v v' : Value} {xs : List Nat} (h : Bg w0 w v xs) (h1 : Below w.heap.size w w1) (hg : w1.grownBy w2 v.ownBlock) (hw : w.heap.size ≤ w1.heap.size) : Below w0 w w2 := by
  refine ⟨hg.os.trans h1.os, hg.tape.trans h1.tape, hg.output.trans h1.output, Nat.le_trans hw hg.size, fun b hb => ?_⟩
  have hb2 : b < w.heap.size := by have := h.sz; omega
  exact (hg.block b (by omega) (fun q => by have := (h.r.lt b q.symm).1; omega)).trans (h1.block b hb2)
/-- Eight of them: both lie, empty. -/
theorem Bg.bw {w0 : Nat} {w : World} {v : Value} {xs : List Nat} (h : Bg w0 w v xs) (hl : xs.length = 8) : ∃ k : Bx, k.q = w0 + 2 ∧ k.s = w0 ∧ BW w (fun b => w0 ≤ b ∧ b < w.heap.size) k [] [] := by
  have hr := h.r
  unfold RowP World.ownsRow at hr
  rcases hr.2 with ⟨_, q⟩ | ⟨g, cap, cur, rfl, h1, h2, h3, h4, h5, h6⟩
  · rw [hl] at q; cases q
  · have hgl := (Array.getElem?_eq_some_iff.1 h2).1
    have hx : ∀ j, j < 8 → xs[j]? = some (xs.getD j 0) := fun j hj => by rw [List.getD_eq_getElem?_getD, List.getElem?_eq_getElem (by omega)]; rfl
    have hm : ∀ j, j < 8 → xs.getD j 0 ∈ xs := fun j hj => List.mem_of_getElem? (hx j hj)
    have hz := h.sz
    have hs0 := h.st.lt
    have hng : ∀ j, j < 8 → xs.getD j 0 ≠ g := fun j hj e => (h.x _ (hm j hj)).2.1 (by rw [e]; rfl)
    have hfix : ∀ b, (b = w0 + 2 ∨ b = g ∨ ∃ j, j < 8 ∧ b = xs.getD j 0) → w0 + 2 ≤ b ∧ b < w.heap.size := fun b hb => by
      rcases hb with rfl | rfl | ⟨j, hj, rfl⟩
      · omega
      · omega
      · obtain ⟨k1, _, cs, T, e⟩ := h.x _ (hm j hj)
        have := (Array.getElem?_eq_some_iff.1 e).1
        omega
    refine ⟨⟨w0 + 2, w0, w0 + 1, g, cap, fun j => xs.getD j 0⟩, rfl, rfl, ⟨by have q := h.q; rw [hl] at q; exact q, ⟨by rw [hl] at h3; exact h3, h4⟩, fun j hj => ?_, fun j hj => (h.x _ (hm j hj)).2.2, fun i j hi hj e => ?_, ⟨dNew w0, .slice none 0 0, h.st, h.y, RowI.nil _ _, fun b hb => ?_, fun g' hg' => by cases hg'⟩, ⟨⟨by show w0 ≤ w0 + 1; omega, by show w0 + 1 < _; omega⟩, fun q => by have := (hfix _ q).1; dsimp only at this; omega⟩, fun b hb => ?_, fun b hb => hb.2, List.Pairwise.nil, by simp⟩⟩
    · rw [cell_row h2]
      have e := congrArg (fun l => l[j]?) h6
      simp only [List.getElem?_take, List.getElem?_map, hl] at e
      rw [if_pos (by omega), hx j hj] at e
      simpa [ptr] using e
    · have e1 := hx i hi
      have e2 := hx j hj
      dsimp only at e
      rw [e, ← e2] at e1
      exact (List.getElem?_inj (by omega) h.nd).1 e1
    · have e := dNew_some hb
      subst e
      exact ⟨⟨Nat.le_refl _, hs0⟩, fun q => by have := (hfix _ q).1; omega, by show b ≠ b + 1; omega⟩
    · have := hfix b hb
      exact ⟨by omega, this.2⟩
end Go.Proofs.Ytaafpfjmnhmalaa
