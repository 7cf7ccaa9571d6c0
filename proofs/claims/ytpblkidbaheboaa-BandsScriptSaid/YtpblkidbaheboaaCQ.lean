/- Two bands that share no memory (Tb); a step on one of them. -/
import Derived.Test.YtpblkidbaheboaaCP
import Derived.Test.YtpblkidbaheboaaCN
namespace Go.Proofs.Ytpblkidbaheboaa
open Go.RowKit
set_option linter.all false
def Tb (w0 : Nat) (W : World) (NA NB : Nat) (PA PB : List Pr) (ma mb : Nat) : Prop := ∃ DA DB, Bd W NA DA PA ma ∧ Bd W NB DB PB mb ∧ (∀ b, (DA b).isSome = true → ¬ (DB b).isSome = true) ∧ (∀ b, (DA b).isSome = true → w0 ≤ b) ∧ (∀ b, (DB b).isSome = true → w0 ≤ b)
theorem Tb.swap {w0 : Nat} {W : World} {NA NB : Nat} {PA PB : List Pr} {ma mb : Nat} (h : Tb w0 W NA NB PA PB ma mb) : Tb w0 W NB NA PB PA mb ma := by
  obtain ⟨DA, DB, h1, h2, h3, h4, h5⟩ := h
  exact ⟨DB, DA, h2, h1, fun b q r => h3 b r q, h5, h4⟩
theorem Tb.keep {w0 : Nat} {W w' : World} {NA NB : Nat} {PA PB : List Pr} {ma mb : Nat} (h : Tb w0 W NA NB PA PB ma mb) (hb : Below W.heap.size W w') : Tb w0 w' NA NB PA PB ma mb := by
  obtain ⟨DA, DB, h1, h2, h3⟩ := h
  exact ⟨DA, DB, h1.keep hb, h2.keep hb, h3⟩
theorem Tb.ga {w0 : Nat} {W : World} {NA NB : Nat} {PA PB : List Pr} {ma mb : Nat} (h : Tb w0 W NA NB PA PB ma mb) : ∃ D, Bd W NA D PA ma := by
  obtain ⟨DA, DB, h1, h2, h3⟩ := h
  exact ⟨DA, h1⟩
theorem tb_add (w0 : Nat) (W : World) (NA NB : Nat) (PA PB : List Pr) (ma mb : Nat) (p : Pr) (h : Tb w0 W NA NB PA PB ma mb) (hw : w0 ≤ W.heap.size) (hm : ma + 1 ≤ 4000000000000) :
    Calls Try.prog 8 #[.pointer (some ⟨NA, 0, none⟩), .agg #[.int .i64 p.t, .int .i64 p.l, .int .i64 p.b, .int .i64 p.q], .agg #[.int .i64 p.r, .int .i64 p.c]] W fun e w' => e = .returned (.bool (addB PA p)) ∧ Tb w0 w' NA NB (addR PA p) PB (ma + 1) mb ∧ Below w0 W w' := by
  obtain ⟨DA, DB, h1, h2, h3, h4, h5⟩ := h
  refine (badd_any W NA DA PA ma p h1 hm).mono ?_
  rintro e w' ⟨rfl, D', q1, q2, q3⟩
  refine ⟨rfl, ⟨D', DB, q1, h2.mut q2 (fun b s t => h3 b t s), fun b s t => ?_, fun b s => ?_, h5⟩, q2.to_below hw h4⟩
  · rcases q3 b s with u | u
    · exact h3 b u t
    · have := h2.dom b t; omega
  · rcases q3 b s with u | u
    · exact h4 b u
    · omega
theorem tb_rem (w0 : Nat) (W : World) (NA NB : Nat) (PA PB : List Pr) (ma mb : Nat) (p : Pr) (h : Tb w0 W NA NB PA PB ma mb) (hw : w0 ≤ W.heap.size) (hm : ma ≤ 4000000000000) :
    Calls Try.prog 10 #[.pointer (some ⟨NA, 0, none⟩), .agg #[.int .i64 p.t, .int .i64 p.l, .int .i64 p.b, .int .i64 p.q], .agg #[.int .i64 p.r, .int .i64 p.c]] W fun e w' => e = .returned (.bool (remB PA p)) ∧ Tb w0 w' NA NB (remR PA p) PB ma mb ∧ Below w0 W w' := by
  obtain ⟨DA, DB, h1, h2, h3, h4, h5⟩ := h
  refine (brem_any W NA DA PA ma p h1 hm).mono ?_
  rintro e w' ⟨rfl, D', q1, q2, q3⟩
  refine ⟨rfl, ⟨D', DB, q1, h2.mut q2 (fun b s t => h3 b t s), fun b s t => ?_, fun b s => ?_, h5⟩, q2.to_below hw h4⟩
  · rcases q3 b s with u | u
    · exact h3 b u t
    · have := h2.dom b t; omega
  · rcases q3 b s with u | u
    · exact h4 b u
    · omega
/-- An add that is refused turns nothing. -/
theorem badd_nope (W : World) (N : Nat) (D : Nat → Option Tag) (P : List Pr) (m : Nat) (p : Pr) (h : Bd W N D P m) (hm : m + 1 ≤ 4000000000000) (hb : addB P p = false) :
    Calls Try.prog 8 #[.pointer (some ⟨N, 0, none⟩), .agg #[.int .i64 p.t, .int .i64 p.l, .int .i64 p.b, .int .i64 p.q], .agg #[.int .i64 p.r, .int .i64 p.c]] W fun e w' => e = .returned (.bool false) ∧ Below W.heap.size W w' := by
  cases hmr : mayR p.t p.l p.b p.q
  · exact badd_r W N p hmr
  · cases hmc : mayC p.r p.c
    · exact badd_c W N p hmr hmc
    · have hh : hasF (fP p) P = true := by
        unfold addB at hb
        rw [hmr, hmc] at hb
        simpa using hb
      obtain ⟨K, NN, h1, h2, h3, h4⟩ := h.mw
      have he : rectsAt P p.r p.c ≠ [] := fun q => by
        have hr := rects_has P p
        rw [hh, q] at hr
        cases hr
      have hnz : NN 0 p.r p.c ≠ 0 := fun s => by
        rw [h4 0 _ _ (by omega)] at s
        unfold cnt at s
        rw [List.filter_eq_self.2 (show ∀ x ∈ rectsAt P p.r p.c, inBd 0 x = true from fun _ _ => rfl)] at s
        exact he (List.eq_nil_of_length_eq_zero s)
      obtain ⟨k, k1, k2⟩ := h3 _ _ he
      exact badd_is W N D P m p K NN hmr hmc h1 h.srt h.few hm k k1 k2 hnz hh
theorem tb_new (w0 : Nat) (W : World) (NA : Nat) (DA : Nat → Option Tag) (PA : List Pr) (ma : Nat) (h : Bd W NA DA PA ma) (hd : ∀ b, (DA b).isSome = true → w0 ≤ b) (hw : w0 ≤ W.heap.size) :
    Calls Try.prog 6 #[] W fun e w' => e = .returned (.pointer (some ⟨W.heap.size, 0, none⟩)) ∧ Tb w0 w' NA W.heap.size PA [] ma 0 ∧ Below W.heap.size W w' ∧ w'.heap.size = W.heap.size + 1 := by
  refine (bnew_any W).mono ?_
  rintro e w' ⟨rfl, h1, h2, h3⟩
  refine ⟨rfl, ⟨DA, _, h.keep h2, h1, fun b q r => ?_, hd, fun b r => ?_⟩, h2, h3⟩
  · have := h.dom b q
    by_cases e : b = W.heap.size
    · omega
    · simp [e] at r
  · by_cases e : b = W.heap.size
    · omega
    · simp [e] at r
end Go.Proofs.Ytpblkidbaheboaa
