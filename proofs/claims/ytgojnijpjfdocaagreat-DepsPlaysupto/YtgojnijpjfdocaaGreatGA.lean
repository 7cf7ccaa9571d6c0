/- Deeds that came in; Set at the next one of them, in the form that a law's walk uses. No function's text is walked here. -/
import Derived.Test.YtgojnijpjfdocaaGreatFL
namespace Go.Proofs.YtgojnijpjfdocaaGreat
open Go.RowKit Go.Shelf
set_option linter.all false
/-- What is known of a deed that came in. -/
def DvW (w : World) (d : Dv) : Prop := I64 d.r ∧ I64 d.c ∧ VF w d.v d.l
/-- Deeds that came in. -/
def DVw (w : World) (v : Value) (l : List Dv) : Prop := ∃ p cap, v = .slice p l.length cap ∧ l.length ≤ cap ∧ cap ≤ 9223372036854775807 ∧ (0 < l.length → ∃ b o, p = some ⟨b, o, none⟩ ∧ b < w.heap.size ∧ ∀ i d, l[i]? = some d → ∀ j u, d.cs[j]? = some u → w.cell? ⟨b, o + i * 3 + j, none⟩ = some u) ∧ ∀ d ∈ l, DvW w d
theorem VF.keep {w w' : World} {v : Value} {l : List Rf} (h : VF w v l) (hb : Below w.heap.size w w') : VF w' v l := by
  obtain ⟨p, n, cap, h1, h2, h3, h4, h5⟩ := h
  refine ⟨p, n, cap, h1, h2, h3, h4, fun h0 => ?_⟩
  obtain ⟨b, o, k1, k2, k3⟩ := h5 h0
  exact ⟨b, o, k1, Nat.lt_of_lt_of_le k2 hb.size, fun i x hi j u hu => (hb.cell (p := ⟨b, o + i * 5 + j, none⟩) k2).trans (k3 i x hi j u hu)⟩
theorem VF.low {w : World} {v : Value} {l : List Rf} (h : VF w v l) {p : Addr} {n c : Nat} (e : v = .slice (some p) n c) (hn : 0 < n) : p.block < w.heap.size := by
  obtain ⟨p', n', cap, h1, h2, h3, h4, h5⟩ := h
  rw [h1] at e
  injection e with e1 e2 e3
  subst e2
  obtain ⟨b, o, k1, k2, k3⟩ := h5 hn
  rw [k1] at e1
  injection e1 with e1
  rw [← e1]
  exact k2
theorem DvW.keep {w w' : World} {d : Dv} (h : DvW w d) (hb : Below w.heap.size w w') : DvW w' d := ⟨h.1, h.2.1, h.2.2.keep hb⟩
theorem cst_app (D : List Dv) (d : Dv) : cst (D ++ [d]) = cst D + d.l.length + 1 := by simp [cst]; omega
theorem take_next {l : List Dv} {i : Nat} {d : Dv} (h : l[i]? = some d) : l.take (i + 1) = l.take i ++ [d] := by rw [List.take_succ, h]; rfl
/-- Set at a deed that came in. -/
theorem dset_next (w W : World) (N : Nat) (F : Nat → Prop) (D : List Dv) (d : Dv) (h : Dw F W N D) (hd : DvW w d) (hF : ∀ b, b < w.heap.size → F b) (hF2 : ∀ b, F b → b < W.heap.size) (hb : Below w.heap.size w W) (hs : cst (D ++ [d]) ≤ 1048576) : Calls Tryz.prog 11 #[.pointer (some ⟨N, 0, none⟩), .agg #[.int .i64 d.r, .int .i64 d.c], .slice d.p d.n d.k] W fun e w' => e = .returned (.int .i64 d.err) ∧ Dw F w' N (D ++ [d]) ∧ Mut (fun b => ¬ F b) W w' :=
  dset_dw W N F D d h hF2 (hd.2.2.keep hb) (fun p n c e q => hF _ (hd.2.2.low e q)) hs
theorem Mut.toB {F : Nat → Prop} {w W : World} {B : Nat} (h : Mut (fun b => ¬ F b) w W) (hB : B ≤ w.heap.size) (hs : ∀ b, b < B → F b) : Below B w W := h.to_below hB (fun k hk => by
  by_cases q : k < B
  · exact absurd (hs k q) hk
  · omega)
/-- The setting of one Deps, alone: those blocks that were there are none of its own. -/
theorem dset_low (w W : World) (N : Nat) (D : List Dv) (d : Dv) (h : Dw (fun b => b < w.heap.size) W N D) (hd : DvW w d) (hb : Below w.heap.size w W) (hs : cst (D ++ [d]) ≤ 1048576) : Calls Tryz.prog 11 #[.pointer (some ⟨N, 0, none⟩), .agg #[.int .i64 d.r, .int .i64 d.c], .slice d.p d.n d.k] W fun e w' => e = .returned (.int .i64 d.err) ∧ Dw (fun b => b < w.heap.size) w' N (D ++ [d]) ∧ Below w.heap.size w w' := by
  refine (dset_next w W N _ D d h hd (fun b q => q) (fun b q => Nat.lt_of_lt_of_le q hb.size) hb hs).mono ?_
  rintro e w' ⟨rfl, k1, k2⟩
  exact ⟨rfl, k1, hb.trans (k2.toB hb.size (fun b q => q))⟩
end Go.Proofs.YtgojnijpjfdocaaGreat
