/- The program's bands and the document's, side by side. -/
import Derived.Test.YtpblkidbaheboaaDAd
import Derived.Test.YtpblkidbaheboaaCE
namespace Go.Proofs.Ytpblkidbaheboaa
open Go.RowKit
set_option linter.all false
/-- The bands at NA tell the pairs P, the document's at NB the list Q; both lie from w0 on, beside X. -/
def Ds (w0 : Nat) (X : Nat → Prop) (W : World) (NA NB : Nat) (P Q : List Pr) (m : Nat) : Prop :=
  ∃ D v, Bd W NA D P m ∧ Own W NB #[v] ∧ RowE W 0 v Q ∧ (∀ b, (D b).isSome = true → w0 ≤ b ∧ ¬ X b ∧ b ≠ NB ∧ v.ownBlock ≠ some b) ∧ (w0 ≤ NB ∧ ¬ X NB) ∧ (∀ g, v.ownBlock = some g → w0 ≤ g ∧ ¬ X g ∧ g ≠ NB) ∧ (∀ b, X b → b < W.heap.size)
theorem Ds.keep {w0 : Nat} {X : Nat → Prop} {W w' : World} {NA NB : Nat} {P Q : List Pr} {m : Nat} (h : Ds w0 X W NA NB P Q m) (hb : Below W.heap.size W w') : Ds w0 X w' NA NB P Q m := by
  obtain ⟨D, v, h1, h2, h3, h4, h5, h6, h7⟩ := h
  exact ⟨D, v, h1.keep hb, h2.keep hb, RowG.keep h3 hb, h4, h5, h6, fun b q => Nat.lt_of_lt_of_le (h7 b q) hb.size⟩
theorem Ds.more {w0 : Nat} {X : Nat → Prop} {W : World} {NA NB : Nat} {P Q : List Pr} {m m' : Nat} (h : Ds w0 X W NA NB P Q m) (hm : m ≤ m') : Ds w0 X W NA NB P Q m' := by
  obtain ⟨D, v, h1, h2⟩ := h
  exact ⟨D, v, h1.more hm, h2⟩
/-- A block more is laid beside. -/
theorem Ds.beside {w0 : Nat} {W w' : World} {NA NB : Nat} {P Q : List Pr} {m : Nat} (h : Ds w0 (fun _ => False) W NA NB P Q m) (hb : Below W.heap.size W w') (x : Nat) (h1 : W.heap.size ≤ x) (h2 : x < w'.heap.size) : Ds w0 (fun b => b = x) w' NA NB P Q m := by
  obtain ⟨D, v, g1, g2, g3, g4, g5, g6, g7⟩ := h
  refine ⟨D, v, g1.keep hb, g2.keep hb, RowG.keep g3 hb, fun b q => ⟨(g4 b q).1, ?_, (g4 b q).2.2⟩, ⟨g5.1, ?_⟩, fun g q => ⟨(g6 g q).1, ?_, (g6 g q).2.2⟩, fun b q => by subst q; exact h2⟩
  · have := g1.dom b q; omega
  · have := g2.lt; omega
  · have := (RowG.lt g3 g q).2; omega
theorem Ds.free {w0 : Nat} {X : Nat → Prop} {W : World} {NA NB : Nat} {P Q : List Pr} {m : Nat} (h : Ds w0 X W NA NB P Q m) : Ds w0 (fun _ => False) W NA NB P Q m := by
  obtain ⟨D, v, g1, g2, g3, g4, g5, g6, g7⟩ := h
  exact ⟨D, v, g1, g2, g3, fun b q => ⟨(g4 b q).1, fun h => h, (g4 b q).2.2⟩, ⟨g5.1, fun h => h⟩, fun g q => ⟨(g6 g q).1, fun h => h, (g6 g q).2.2⟩, fun b q => absurd q (fun h => h)⟩
theorem Ds.srt {w0 : Nat} {X : Nat → Prop} {W : World} {NA NB : Nat} {P Q : List Pr} {m : Nat} (h : Ds w0 X W NA NB P Q m) : SrtP P ∧ P.length ≤ m := by
  obtain ⟨D, v, g1, _⟩ := h
  exact ⟨g1.srt, g1.few⟩
theorem ds_prog {w0 : Nat} {X : Nat → Prop} {W w' : World} {NA NB : Nat} {P P' Q : List Pr} {m m' : Nat} {D : Nat → Option Tag} {v : Value} (g1 : Bd W NA D P m) (g2 : Own W NB #[v]) (g3 : RowE W 0 v Q) (g4 : ∀ b, (D b).isSome = true → w0 ≤ b ∧ ¬ X b ∧ b ≠ NB ∧ v.ownBlock ≠ some b) (g5 : w0 ≤ NB ∧ ¬ X NB) (g6 : ∀ g, v.ownBlock = some g → w0 ≤ g ∧ ¬ X g ∧ g ≠ NB) (g7 : ∀ b, X b → b < W.heap.size) (hq : BdOut W NA D P' m' w') :
    Ds w0 X w' NA NB P' Q m' ∧ Mut (fun b => w0 ≤ b ∧ ¬ X b) W w' := by
  obtain ⟨D', k1, k2, k3⟩ := hq
  have hlt := g2.lt
  refine ⟨⟨D', v, k1, g2.mut k2 (fun q => (g4 NB q).2.2.1 rfl), RowG.mut g3 k2 (fun g q1 q2 => (g4 g q2).2.2.2 q1), fun b q => ?_, g5, g6, fun b q => Nat.lt_of_lt_of_le (g7 b q) k2.size⟩, (Mut.refl _ W).call k2 (fun b q => .inl ⟨(g4 b q).1, (g4 b q).2.1⟩)⟩
  rcases k3 b q with q | q
  · exact g4 b q
  · exact ⟨by omega, fun hx => by have := g7 b hx; omega, by omega, fun hv => by have := (RowG.lt g3 b hv).2; omega⟩
theorem ds_badd (w0 : Nat) (X : Nat → Prop) (W : World) (NA NB : Nat) (P Q : List Pr) (m : Nat) (p : Pr) (h : Ds w0 X W NA NB P Q m) (hm : m + 1 ≤ 4000000000000) : Calls Try.prog 8 #[.pointer (some ⟨NA, 0, none⟩), .agg #[.int .i64 p.t, .int .i64 p.l, .int .i64 p.b, .int .i64 p.q], .agg #[.int .i64 p.r, .int .i64 p.c]] W fun e w' => e = .returned (.bool (addB P p)) ∧ Ds w0 X w' NA NB (addR P p) Q (m + 1) ∧ Mut (fun b => w0 ≤ b ∧ ¬ X b) W w' := by
  obtain ⟨D, v, g1, g2, g3, g4, g5, g6, g7⟩ := h
  refine (badd_any W NA D P m p g1 hm).mono ?_
  rintro e w' ⟨rfl, hq⟩
  exact ⟨rfl, ds_prog g1 g2 g3 g4 g5 g6 g7 hq⟩
theorem ds_brem (w0 : Nat) (X : Nat → Prop) (W : World) (NA NB : Nat) (P Q : List Pr) (m : Nat) (p : Pr) (h : Ds w0 X W NA NB P Q m) (hm : m ≤ 4000000000000) : Calls Try.prog 10 #[.pointer (some ⟨NA, 0, none⟩), .agg #[.int .i64 p.t, .int .i64 p.l, .int .i64 p.b, .int .i64 p.q], .agg #[.int .i64 p.r, .int .i64 p.c]] W fun e w' => e = .returned (.bool (remB P p)) ∧ Ds w0 X w' NA NB (remR P p) Q m ∧ Mut (fun b => w0 ≤ b ∧ ¬ X b) W w' := by
  obtain ⟨D, v, g1, g2, g3, g4, g5, g6, g7⟩ := h
  refine (brem_any W NA D P m p g1 hm).mono ?_
  rintro e w' ⟨rfl, hq⟩
  exact ⟨rfl, ds_prog g1 g2 g3 g4 g5 g6 g7 hq⟩
theorem ds_doc {w0 : Nat} {X : Nat → Prop} {W w' : World} {NA NB : Nat} {P Q Q' : List Pr} {m : Nat} {D : Nat → Option Tag} {v : Value} (g1 : Bd W NA D P m) (g2 : Own W NB #[v]) (g3 : RowE W 0 v Q) (g4 : ∀ b, (D b).isSome = true → w0 ≤ b ∧ ¬ X b ∧ b ≠ NB ∧ v.ownBlock ≠ some b) (g5 : w0 ≤ NB ∧ ¬ X NB) (g6 : ∀ g, v.ownBlock = some g → w0 ≤ g ∧ ¬ X g ∧ g ≠ NB) (g7 : ∀ b, X b → b < W.heap.size) (hq : DOut W NB v Q' w') :
    Ds w0 X w' NA NB P Q' m ∧ Mut (fun b => w0 ≤ b ∧ ¬ X b) W w' := by
  obtain ⟨⟨v', k1, k2, k3⟩, k4⟩ := hq
  have hlt := g2.lt
  refine ⟨⟨D, v', g1.mut k4 (fun b q e => (g4 b q).2.2.1 e), k1, k2, fun b q => ⟨(g4 b q).1, (g4 b q).2.1, (g4 b q).2.2.1, fun hv => ?_⟩, g5, fun g q => ?_, fun b q => Nat.lt_of_lt_of_le (g7 b q) k4.size⟩, (Mut.refl _ W).call k4 (fun b q => .inl (by subst q; exact g5))⟩
  · rcases k3 b hv with q2 | q2
    · exact (g4 b q).2.2.2 q2
    · have := g1.dom b q; omega
  · rcases k3 g q with q2 | q2
    · exact g6 g q2
    · exact ⟨by omega, fun hx => by have := g7 g hx; omega, by omega⟩
theorem ds_dadd (w0 : Nat) (X : Nat → Prop) (W : World) (NA NB : Nat) (P Q : List Pr) (m : Nat) (p : Pr) (h : Ds w0 X W NA NB P Q m) (hs : SrtP Q) (hl : Q.length ≤ 2513169434915) : Calls Try.prog 9 #[.pointer (some ⟨NB, 0, none⟩), .agg #[.int .i64 p.t, .int .i64 p.l, .int .i64 p.b, .int .i64 p.q], .agg #[.int .i64 p.r, .int .i64 p.c]] W fun e w' => e = .returned (.bool (addB Q p)) ∧ Ds w0 X w' NA NB P (addR Q p) m ∧ Mut (fun b => w0 ≤ b ∧ ¬ X b) W w' := by
  obtain ⟨D, v, g1, g2, g3, g4, g5, g6, g7⟩ := h
  refine (dadd_any W NB v Q p g2 g3 hs hl).mono ?_
  rintro e w' ⟨rfl, hq⟩
  exact ⟨rfl, ds_doc g1 g2 g3 g4 g5 g6 g7 hq⟩
theorem ds_drem (w0 : Nat) (X : Nat → Prop) (W : World) (NA NB : Nat) (P Q : List Pr) (m : Nat) (p : Pr) (h : Ds w0 X W NA NB P Q m) (hs : SrtP Q) (hl : Q.length ≤ 2513169434916) : Calls Try.prog 11 #[.pointer (some ⟨NB, 0, none⟩), .agg #[.int .i64 p.t, .int .i64 p.l, .int .i64 p.b, .int .i64 p.q], .agg #[.int .i64 p.r, .int .i64 p.c]] W fun e w' => e = .returned (.bool (remB Q p)) ∧ Ds w0 X w' NA NB P (remR Q p) m ∧ Mut (fun b => w0 ≤ b ∧ ¬ X b) W w' := by
  obtain ⟨D, v, g1, g2, g3, g4, g5, g6, g7⟩ := h
  refine (drem_any W NB v Q p g2 g3 hs hl).mono ?_
  rintro e w' ⟨rfl, hq⟩
  exact ⟨rfl, ds_doc g1 g2 g3 g4 g5 g6 g7 hq⟩
theorem ds_over {w0 : Nat} {X : Nat → Prop} {W0 : World} {NA NB : Nat} {P Q : List Pr} {m : Nat} (h : Ds w0 X W0 NA NB P Q m) (x y : Int) (W : World) (h0 : Below W0.heap.size W0 W) : Calls Try.prog 13 #[.pointer (some ⟨NA, 0, none⟩), .agg #[.int .i64 x, .int .i64 y]] W fun e w' => ∃ q cap, e = .returned (.slice q (overP P x y).length cap) ∧ RowC w' W0.heap.size (.slice q (overP P x y).length cap) (overP P x y) ∧ Below W0.heap.size W0 w' ∧ Below W.heap.size W w' := by
  obtain ⟨D, v, g1, _⟩ := h.keep h0
  refine (bover_any W NA D P m x y g1).mono ?_
  rintro e w' ⟨v, rfl, hr, hb⟩
  obtain ⟨q, cap, rfl, -⟩ := RowG.view (sz := 2) (cs := Cl.cs) (fun _ => rfl) hr
  exact ⟨q, cap, rfl, RowG.mono hr h0.size, bup h0 hb, hb⟩
theorem ds_dover {w0 : Nat} {X : Nat → Prop} {W0 : World} {NA NB : Nat} {P Q : List Pr} {m : Nat} (h : Ds w0 X W0 NA NB P Q m) (hl : Q.length ≤ 2513169434916) (x y : Int) (W : World) (h0 : Below W0.heap.size W0 W) : Calls Try.prog 14 #[.pointer (some ⟨NB, 0, none⟩), .agg #[.int .i64 x, .int .i64 y]] W fun e w' => ∃ q cap, e = .returned (.slice q (overP Q x y).length cap) ∧ RowC w' W.heap.size (.slice q (overP Q x y).length cap) (overP Q x y) ∧ Below W0.heap.size W0 w' ∧ Below W.heap.size W w' := by
  obtain ⟨D, v, g1, g2, g3, _⟩ := h.keep h0
  refine (dover_any W NB v Q x y (g2.cell 0) g2.lt (RowG.view (sz := 7) (cs := Pr.cs) (fun _ => rfl) g3) hl).mono ?_
  rintro e w' ⟨v, rfl, hr, hb⟩
  obtain ⟨q, cap, rfl, -⟩ := RowG.view (sz := 2) (cs := Cl.cs) (fun _ => rfl) hr
  exact ⟨q, cap, rfl, hr, bup h0 hb, hb⟩
theorem ds_all {w0 : Nat} {X : Nat → Prop} {W0 : World} {NA NB : Nat} {P Q : List Pr} {m : Nat} (h : Ds w0 X W0 NA NB P Q m) (hl : P.length ≤ 2513169434916) (W : World) (h0 : Below W0.heap.size W0 W) : Calls Try.prog 16 #[.pointer (some ⟨NA, 0, none⟩)] W fun e w' => ∃ q cap, e = .returned (.slice q P.length cap) ∧ RowE w' W0.heap.size (.slice q P.length cap) P ∧ Below W0.heap.size W0 w' ∧ Below W.heap.size W w' := by
  obtain ⟨D, v, g1, _⟩ := h.keep h0
  refine (ball_any W NA D P m g1 (by omega)).mono ?_
  rintro e w' ⟨v, rfl, hr, hb⟩
  obtain ⟨q, cap, rfl, -⟩ := RowG.view (sz := 7) (cs := Pr.cs) (fun _ => rfl) hr
  exact ⟨q, cap, rfl, RowG.mono hr h0.size, bup h0 hb, hb⟩
/-- The document's list, as it lies there. -/
theorem Ds.lst {w0 : Nat} {X : Nat → Prop} {W0 : World} {NA NB : Nat} {P Q : List Pr} {m : Nat} (h : Ds w0 X W0 NA NB P Q m) : ∃ q n cap, W0.cell? ⟨NB, 0, none⟩ = some (.slice q n cap) ∧ NB < W0.heap.size ∧ ∀ Wb W v, RowE Wb W0.heap.size v Q → Below W0.heap.size W0 Wb → Below Wb.heap.size Wb W → Calls Try.prog 15 #[v, .slice q n cap] W fun e w' => e = .returned (.bool true) ∧ Below W0.heap.size W0 w' := by
  obtain ⟨D, u, g1, g2, g3, _⟩ := h
  obtain ⟨q, cap, e, -⟩ := RowG.view (sz := 7) (cs := Pr.cs) (fun _ => rfl) g3
  subst e
  refine ⟨q, _, cap, g2.cell 0, g2.lt, fun Wb W v hv h1 h2 => ?_⟩
  have h3 : Below W0.heap.size W0 W := bup h1 h2
  have hv' : RowE W W0.heap.size v Q := RowG.keep hv h2
  have hu' : RowE W 0 (.slice q Q.length cap) Q := RowG.keep g3 h3
  refine (edges_eq W W0.heap.size v _ Q hv' (RowG.view (sz := 7) (cs := Pr.cs) (fun _ => rfl) hu') (fun g e1 e2 => ?_)).mono ?_
  · have := (RowG.lt hv' g e1).1
    have := (RowG.lt g3 g e2).2
    omega
  · rintro e w' ⟨rfl, hm⟩
    exact ⟨rfl, h3.trans (hm.to_below h3.size (fun k hk => (RowG.lt hv' k hk).1))⟩
end Go.Proofs.Ytpblkidbaheboaa
