/- One bands by itself; what Over and All tell, an element at a time; plain facts for BandsTurned. -/
import Derived.Test.YtpblkidbaheboaaCE
namespace Go.Proofs.Ytpblkidbaheboaa
open Go.RowKit
set_option linter.all false
def One (w0 : Nat) (W : World) (N : Nat) (P : List Pr) (m : Nat) : Prop := ∃ D, Bd W N D P m ∧ ∀ b, (D b).isSome = true → w0 ≤ b
theorem One.keep {w0 : Nat} {W w' : World} {N : Nat} {P : List Pr} {m : Nat} (h : One w0 W N P m) (hb : Below W.heap.size W w') : One w0 w' N P m := by
  obtain ⟨D, h1, h2⟩ := h
  exact ⟨D, h1.keep hb, h2⟩
theorem One.more {w0 : Nat} {W : World} {N : Nat} {P : List Pr} {m m' : Nat} (h : One w0 W N P m) (hm : m ≤ m') : One w0 W N P m' := by
  obtain ⟨D, h1, h2⟩ := h
  exact ⟨D, h1.more hm, h2⟩
theorem one_add (w0 : Nat) (W : World) (N : Nat) (P : List Pr) (m : Nat) (p : Pr) (h : One w0 W N P m) (hw : w0 ≤ W.heap.size) (hm : m + 1 ≤ 4000000000000) :
    Calls Try.prog 8 #[.pointer (some ⟨N, 0, none⟩), .agg #[.int .i64 p.t, .int .i64 p.l, .int .i64 p.b, .int .i64 p.q], .agg #[.int .i64 p.r, .int .i64 p.c]] W fun e w' => e = .returned (.bool (addB P p)) ∧ One w0 w' N (addR P p) (m + 1) ∧ Below w0 W w' := by
  obtain ⟨D, h1, h4⟩ := h
  refine (badd_any W N D P m p h1 hm).mono ?_
  rintro e w' ⟨rfl, D', q1, q2, q3⟩
  refine ⟨rfl, ⟨D', q1, fun b s => ?_⟩, q2.to_below hw h4⟩
  rcases q3 b s with u | u
  · exact h4 b u
  · omega
theorem one_rem (w0 : Nat) (W : World) (N : Nat) (P : List Pr) (m : Nat) (p : Pr) (h : One w0 W N P m) (hw : w0 ≤ W.heap.size) (hm : m ≤ 4000000000000) :
    Calls Try.prog 10 #[.pointer (some ⟨N, 0, none⟩), .agg #[.int .i64 p.t, .int .i64 p.l, .int .i64 p.b, .int .i64 p.q], .agg #[.int .i64 p.r, .int .i64 p.c]] W fun e w' => e = .returned (.bool (remB P p)) ∧ One w0 w' N (remR P p) m ∧ Below w0 W w' := by
  obtain ⟨D, h1, h4⟩ := h
  refine (brem_any W N D P m p h1 hm).mono ?_
  rintro e w' ⟨rfl, D', q1, q2, q3⟩
  refine ⟨rfl, ⟨D', q1, fun b s => ?_⟩, q2.to_below hw h4⟩
  rcases q3 b s with u | u
  · exact h4 b u
  · omega
theorem l_each {w : World} {base : Nat} {v : Value} {L : List Cl} (h : RowC w base v L) : ∃ q cap, v = .slice q L.length cap ∧ L.length ≤ cap ∧ cap ≤ 9223372036854775807 ∧ ∀ i, i < L.length → ∃ g z, q = some ⟨g, 0, none⟩ ∧ g < w.heap.size ∧ L[i]? = some z ∧ w.cell? ⟨g, i * 2, none⟩ = some (.int .i64 z.r) ∧ w.cell? ⟨g, i * 2 + 1, none⟩ = some (.int .i64 z.c) := by
  obtain ⟨q, cap, rfl, h1, h2, h3⟩ := RowG.view (sz := 2) (cs := Cl.cs) (fun _ => rfl) h
  refine ⟨q, cap, rfl, h1, h2, fun i hi => ?_⟩
  obtain ⟨g, rfl, hg, hc⟩ := h3 (by omega)
  obtain ⟨z, hz⟩ : ∃ z, L[i]? = some z := ⟨_, List.getElem?_eq_getElem hi⟩
  exact ⟨g, z, rfl, hg, hz, hc i z hz 0 _ rfl, hc i z hz 1 _ rfl⟩
theorem p_each {w : World} {base : Nat} {v : Value} {P : List Pr} (h : RowE w base v P) : ∃ q cap, v = .slice q P.length cap ∧ P.length ≤ cap ∧ cap ≤ 9223372036854775807 ∧ ∀ k, k < P.length → ∃ g p, q = some ⟨g, 0, none⟩ ∧ g < w.heap.size ∧ P[k]? = some p ∧ w.cell? ⟨g, k * 7, none⟩ = some (.int .i64 p.r) ∧ w.cell? ⟨g, k * 7 + 1, none⟩ = some (.int .i64 p.c) ∧ w.cell? ⟨g, k * 7 + 2, none⟩ = some (.bool true) ∧ w.cell? ⟨g, k * 7 + 3, none⟩ = some (.int .i64 p.t) ∧ w.cell? ⟨g, k * 7 + 4, none⟩ = some (.int .i64 p.l) ∧ w.cell? ⟨g, k * 7 + 5, none⟩ = some (.int .i64 p.b) ∧ w.cell? ⟨g, k * 7 + 6, none⟩ = some (.int .i64 p.q) := by
  obtain ⟨q, cap, rfl, h1, h2, h3⟩ := RowG.view (sz := 7) (cs := Pr.cs) (fun _ => rfl) h
  refine ⟨q, cap, rfl, h1, h2, fun k hk => ?_⟩
  obtain ⟨g, rfl, hg, hc⟩ := h3 (by omega)
  obtain ⟨p, hp⟩ : ∃ p, P[k]? = some p := ⟨_, List.getElem?_eq_getElem hk⟩
  exact ⟨g, p, rfl, hg, hp, hc k p hp 0 _ rfl, hc k p hp 1 _ rfl, hc k p hp 2 _ rfl, hc k p hp 3 _ rfl, hc k p hp 4 _ rfl, hc k p hp 5 _ rfl, hc k p hp 6 _ rfl⟩
/-- Does a pair tell the cell z, its rectangle holding (x, y)? -/
def tells (x y : Int) (z : Cl) (p : Pr) : Bool := sameC p.r p.c z.r z.c && inB p.t p.l p.b p.q x y
def isCl (p : Pr) (z : Cl) : Bool := sameC z.r z.c p.r p.c
theorem any_snoc {α : Type} {l : List α} {k : Nat} {p : α} (f : α → Bool) (h : l[k]? = some p) : (l.take (k + 1)).any f = ((l.take k).any f || f p) := by rw [take_next h, List.any_append]; simp
theorem over_has {P : List Pr} (hs : SrtP P) {x y : Int} {i : Nat} {z : Cl} (h : (overP P x y)[i]? = some z) : P.any (tells x y z) = true := by
  obtain ⟨p, hp, h1, rfl⟩ := (overP_mem hs x y z).1 (List.mem_of_getElem? h)
  refine List.any_eq_true.2 ⟨p, hp, ?_⟩
  show (sameC p.r p.c p.r p.c && _) = true
  rw [sameC_refl]; exact h1
theorem over_told {P : List Pr} (hs : SrtP P) {x y : Int} {k : Nat} {p : Pr} (h : P[k]? = some p) (hi : inB p.t p.l p.b p.q x y = true) : (overP P x y).any (isCl p) = true :=
  List.any_eq_true.2 ⟨p.cl, (overP_mem hs x y p.cl).2 ⟨p, List.mem_of_getElem? h, hi, rfl⟩, sameC_refl _ _⟩
theorem over_next {P : List Pr} (hs : SrtP P) {x y : Int} {i : Nat} {a z : Cl} (h0 : (overP P x y)[i]? = some a) (h : (overP P x y)[i + 1]? = some z) : befB a.r a.c z.r z.c = true := by
  obtain ⟨h1, rfl⟩ := List.getElem?_eq_some_iff.1 h0
  obtain ⟨h2, rfl⟩ := List.getElem?_eq_some_iff.1 h
  exact befB_t (List.pairwise_iff_getElem.1 (overP_srt hs x y) i (i + 1) h1 h2 (by omega))
end Go.Proofs.Ytpblkidbaheboaa
