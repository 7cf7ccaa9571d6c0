/- A Deps behind some deeds, in the form that a law's walk uses: which blocks are none of its own. No function's text is walked here. -/
import Derived.Test.YtgojnijpjfdocaaGreatFQ
import Derived.Test.YtgojnijpjfdocaaGreatFU
import Derived.Test.YtgojnijpjfdocaaGreatFE
namespace Go.Proofs.YtgojnijpjfdocaaGreat
open Go.RowKit Go.Shelf
set_option linter.all false
theorem Fm.aside {S : Nat → Prop} {w w' : World} {bf : Nat} {B : Nat → Option TagD} {E : Int → Int → List Rf} {n : Nat} (h : Fm w bf B E n) (hm : Mut S w w') (hs : ∀ b, S b → B b = none) : Fm w' bf B E n := by
  obtain ⟨⟨ff, h1, h2⟩, h3⟩ := h
  refine ⟨⟨ff, h1.mut hm (fun q => by rw [hs bf q] at h3; cases h3), fun r c hr hc => ?_⟩, h3⟩
  obtain ⟨k1, k2, k3⟩ := h2 r c hr hc
  exact ⟨RowG.mut k1 hm (fun g q s => by have := k3 g q; rw [hs g s] at this; cases this), k2, k3⟩
/-- Blocks that are none of a Deps are turned. -/
theorem Dn.mut {S : Nat → Prop} {w w' : World} {N : Nat} {B : Nat → Option TagD} {D : List Dv} (h : Dn w N B D) (hm : Mut S w w') (hs : ∀ b, S b → B b = none) : Dn w' N B D := by
  obtain ⟨⟨h1, h2, h0, bf, bc, NB, h3, h4, h5⟩, hf⟩ := h
  refine ⟨⟨h1, h2, fun b q => h0 b (Nat.le_trans hm.size q), bf, bc, NB, h3.mut hm (fun q => by rw [hs N q] at h2; cases h2), h4.aside hm hs, h5.mut hm (fun b q s => by have := isTo_some q; rw [hs b s] at this; cases this)⟩, hf⟩
/-- A Deps behind some deeds; the blocks of F are none of its own. -/
def Dw (F : Nat → Prop) (w : World) (N : Nat) (D : List Dv) : Prop := ∃ B, Dn w N B D ∧ ∀ b, F b → B b = none
theorem Dw.keep {F : Nat → Prop} {w w' : World} {N : Nat} {D : List Dv} (h : Dw F w N D) (hb : Below w.heap.size w w') : Dw F w' N D := by
  obtain ⟨B, h1, h2⟩ := h
  exact ⟨B, h1.keep hb, h2⟩
theorem Dw.turn {F S : Nat → Prop} {w w' : World} {N : Nat} {D : List Dv} (h : Dw F w N D) (hm : Mut S w w') (hs : ∀ b, S b → F b) : Dw F w' N D := by
  obtain ⟨B, h1, h2⟩ := h
  exact ⟨B, h1.mut hm (fun b q => h2 b (hs b q)), h2⟩
theorem Dw.fresh {F G : Nat → Prop} {w : World} {N : Nat} {D : List Dv} (h : Dw F w N D) (hS : ∀ b, G b → F b ∨ w.heap.size ≤ b) : Dw G w N D := by
  obtain ⟨B, h1, h2⟩ := h
  exact ⟨B, h1, fun b q => (hS b q).elim (h2 b) (h1.dp.dom b)⟩
theorem Dw.lt {F : Nat → Prop} {w : World} {N : Nat} {D : List Dv} (h : Dw F w N D) : N < w.heap.size := by
  obtain ⟨B, h1, _⟩ := h
  obtain ⟨bf, bc, NB, h3, _⟩ := h1.dp.cells
  exact h3.lt
theorem dset_dw (w : World) (N : Nat) (F : Nat → Prop) (D : List Dv) (d : Dv) (h : Dw F w N D) (hF : ∀ b, F b → b < w.heap.size) (hv : VF w d.v d.l) (hvb : ∀ p n c, d.v = .slice (some p) n c → 0 < n → F p.block) (hs : cst (D ++ [d]) ≤ 1048576) : Calls Tryz.prog 11 #[.pointer (some ⟨N, 0, none⟩), .agg #[.int .i64 d.r, .int .i64 d.c], d.v] w fun e w' => e = .returned (.int .i64 d.err) ∧ Dw F w' N (D ++ [d]) ∧ Mut (fun b => ¬ F b) w w' := by
  obtain ⟨B, h1, h2⟩ := h
  refine (dset_dn w N B D d h1 hv (fun p n c e q => h2 _ (hvb p n c e q)) hs).mono ?_
  rintro e w' ⟨rfl, B', k1, k2, k3⟩
  exact ⟨rfl, ⟨B', k1, fun b q => by rw [k3 b (hF b q)]; exact h2 b q⟩, k2.os, k2.tape, k2.output, k2.size, fun b hb hn => k2.block b hb (fun q => hn (fun q2 => by rw [h2 b q2] at q; cases q))⟩
theorem dnew_dw (w : World) : Calls Tryz.prog 9 #[] w fun e w' => ∃ N, e = .returned (.pointer (some ⟨N, 0, none⟩)) ∧ w.heap.size ≤ N ∧ Dw (fun b => b < w.heap.size) w' N [] ∧ Below w.heap.size w w' := by
  refine (dnew_any w).mono ?_
  rintro e w' ⟨N, B, rfl, k1, k2, k3, k4⟩
  exact ⟨N, rfl, k1, ⟨B, ⟨k2, Few.none⟩, k3⟩, k4⟩
theorem ddir_dw (w : World) (N : Nat) (F : Nat → Prop) (D : List Dv) (x y : Int) (h : Dw F w N D) (hx : I64 x) (hy : I64 y) : Calls Tryz.prog 15 #[.pointer (some ⟨N, 0, none⟩), .agg #[.int .i64 x, .int .i64 y]] w fun e w' => ∃ v, e = .returned v ∧ ∃ l, RowG 33 2 Cl.cs w' w.heap.size v l ∧ IsWho (runE D) x y l ∧ Below w.heap.size w w' := by
  obtain ⟨B, h1, h2⟩ := h
  exact ddir_any w N B _ _ _ x y h1.dp hx hy
theorem dedg_dw (w : World) (N : Nat) (F : Nat → Prop) (D : List Dv) (h : Dw F w N D) (hs : cst D ≤ 1048576) : Calls Tryz.prog 18 #[.pointer (some ⟨N, 0, none⟩)] w fun e w' => ∃ v, e = .returned v ∧ ∃ l, RowD w' w.heap.size v l ∧ IsEdg (runE D) l ∧ Below w.heap.size w w' := by
  obtain ⟨B, h1, h2⟩ := h
  exact dedg_any w N B _ _ _ _ h1.dp h1.few (by omega)
theorem dback_dw (w : World) (N : Nat) (F : Nat → Prop) (D : List Dv) (h : Dw F w N D) (hs : cst D ≤ 1048576) : Calls Tryz.prog 20 #[.pointer (some ⟨N, 0, none⟩)] w fun e w' => ∃ v, e = .returned v ∧ ∃ l, RowD w' w.heap.size v l ∧ IsEdg (runE D) l ∧ Below w.heap.size w w' := by
  obtain ⟨B, h1, h2⟩ := h
  exact dback_any w N B _ _ _ _ h1.dp h1.few (by omega)
end Go.Proofs.YtgojnijpjfdocaaGreat
