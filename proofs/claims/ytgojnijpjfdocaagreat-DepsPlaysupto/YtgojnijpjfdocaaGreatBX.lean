/- Pairs of a cell and a rectangle, in their order; a cell's rectangles among them. No function's text is walked here. -/
import Derived.Test.YtgojnijpjfdocaaGreatBQ
namespace Go.Proofs.YtgojnijpjfdocaaGreat
open Go.RowKit
set_option linter.all false
structure Pr where
  r : Int
  c : Int
  t : Int
  l : Int
  b : Int
  q : Int
def Pr.rct (p : Pr) : Rct := ⟨p.t, p.l, p.b, p.q⟩
def cmpP (x y : Pr) : Int := if cmpC x.r x.c y.r y.c = 0 then cmpR x.t x.l x.b x.q y.t y.l y.b y.q else cmpC x.r x.c y.r y.c
def fP (p x : Pr) : Int := cmpP x p
def SrtP (P : List Pr) : Prop := P.Pairwise (fun x y => cmpP x y < 0)
theorem cmpP_neg (x y : Pr) : cmpP x y < 0 ↔ ((x.r < y.r ∨ (x.r = y.r ∧ x.c < y.c)) ∨ ((x.r = y.r ∧ x.c = y.c) ∧ cmpR x.t x.l x.b x.q y.t y.l y.b y.q < 0)) := by
  have h1 := cmpC_neg x.r x.c y.r y.c
  have h2 := cmpC_zero x.r x.c y.r y.c
  unfold cmpP
  split <;> omega
theorem cmpP_zero (x y : Pr) : cmpP x y = 0 ↔ x = y := by
  have h2 := cmpC_zero x.r x.c y.r y.c
  have h3 := cmpR_zero x.t x.l x.b x.q y.t y.l y.b y.q
  obtain ⟨a, b, c, d, e, f⟩ := x
  obtain ⟨a', b', c', d', e', f'⟩ := y
  simp only [Pr.mk.injEq]
  unfold cmpP
  dsimp only at h2 h3 ⊢
  split <;> omega
theorem cmpR_tri (t l b r t' l' b' r' : Int) : cmpR t l b r t' l' b' r' < 0 ↔ 0 < cmpR t' l' b' r' t l b r := by
  have h1 := cmpR_neg t l b r t' l' b' r'
  have h2 := cmpR_neg t' l' b' r' t l b r
  have h3 := cmpR_zero t' l' b' r' t l b r
  omega
theorem cmpP_pos (x y : Pr) : 0 < cmpP x y ↔ cmpP y x < 0 := by
  have h1 := cmpP_neg x y
  have h2 := cmpP_neg y x
  have h3 := cmpR_tri y.t y.l y.b y.q x.t x.l x.b x.q
  have h4 := cmpR_tri x.t x.l x.b x.q y.t y.l y.b y.q
  have h5 := cmpC_neg x.r x.c y.r y.c
  have h6 := cmpC_zero x.r x.c y.r y.c
  have h7 : cmpP x y = 0 ↔ ((x.r = y.r ∧ x.c = y.c) ∧ cmpR x.t x.l x.b x.q y.t y.l y.b y.q = 0) := by unfold cmpP; split <;> omega
  omega
theorem cmpR_trans {a b c d a' b' c' d' a2 b2 c2 d2 : Int} (h1 : cmpR a b c d a' b' c' d' < 0) (h2 : cmpR a' b' c' d' a2 b2 c2 d2 < 0) : cmpR a b c d a2 b2 c2 d2 < 0 := by
  rw [cmpR_neg] at h1 h2 ⊢
  omega
theorem cmpP_trans {x y z : Pr} (h1 : cmpP x y < 0) (h2 : cmpP y z < 0) : cmpP x z < 0 := by
  rw [cmpP_neg] at h1 h2 ⊢
  rcases h1 with h1 | ⟨h1, h3⟩
  · exact .inl (by omega)
  · rcases h2 with h2 | ⟨h2, h4⟩
    · exact .inl (by omega)
    · exact .inr ⟨by omega, cmpR_trans h3 h4⟩
theorem SrtP.mono {P : List Pr} (h : SrtP P) (p : Pr) : MonoF (fP p) P := by
  refine List.Pairwise.imp ?_ h
  intro x y hxy hy
  unfold fP at hy ⊢
  by_cases e : cmpP y p = 0
  · rw [(cmpP_zero y p).1 e] at hxy; exact hxy
  · exact cmpP_trans hxy (by omega)
def addP (P : List Pr) (p : Pr) : List Pr := loF (fP p) P ++ p :: hiF (fP p) P
def dropP (P : List Pr) (p : Pr) : List Pr := loF (fP p) P ++ hiF (fP p) P
theorem addP_srt {P : List Pr} (h : SrtP P) (p : Pr) : SrtP (addP P p) := by
  unfold SrtP addP
  rw [List.pairwise_append]
  refine ⟨List.Pairwise.filter _ h, List.pairwise_cons.2 ⟨fun y hy => (cmpP_pos y p).1 (of_decide_eq_true (List.mem_filter.1 hy).2), List.Pairwise.filter _ h⟩, fun x hx y hy => ?_⟩
  have h1 : cmpP x p < 0 := of_decide_eq_true (List.mem_filter.1 hx).2
  rcases List.mem_cons.1 hy with rfl | hy
  · exact h1
  · exact cmpP_trans h1 ((cmpP_pos y p).1 (of_decide_eq_true (List.mem_filter.1 hy).2))
theorem dropP_srt {P : List Pr} (h : SrtP P) (p : Pr) : SrtP (dropP P p) := by
  unfold SrtP dropP
  rw [List.pairwise_append]
  refine ⟨List.Pairwise.filter _ h, List.Pairwise.filter _ h, fun x hx y hy => ?_⟩
  have h1 : cmpP x p < 0 := of_decide_eq_true (List.mem_filter.1 hx).2
  exact cmpP_trans h1 ((cmpP_pos y p).1 (of_decide_eq_true (List.mem_filter.1 hy).2))
def atC (r c : Int) (p : Pr) : Bool := decide (p.r = r ∧ p.c = c)
/-- A cell's rectangles. -/
def rectsAt (P : List Pr) (r c : Int) : List Rct := (P.filter (atC r c)).map Pr.rct
abbrev fX (p : Pr) : Rct → Int := fR p.t p.l p.b p.q
theorem fP_at {p x : Pr} (h : atC p.r p.c x = true) : fP p x = fX p x.rct := by
  have e : x.r = p.r ∧ x.c = p.c := of_decide_eq_true h
  have h0 : cmpC x.r x.c p.r p.c = 0 := (cmpC_zero _ _ _ _).2 e
  unfold fP cmpP
  rw [if_pos h0]
  rfl
theorem rects_flt {P : List Pr} {p : Pr} (f : Int → Bool) : (((P.filter (fun x => f (fP p x))).filter (atC p.r p.c)).map Pr.rct) = (rectsAt P p.r p.c).filter (fun x => f (fX p x)) := by
  unfold rectsAt
  rw [List.filter_map, List.filter_filter, List.filter_filter]
  congr 1
  apply List.filter_congr
  intro x _
  by_cases h : atC p.r p.c x = true
  · simp only [Function.comp, fP_at h]
    rw [Bool.and_comm]
  · simp only [Bool.not_eq_true] at h
    simp [h]
theorem rectsAt_app (A B : List Pr) (r c : Int) : rectsAt (A ++ B) r c = rectsAt A r c ++ rectsAt B r c := by simp [rectsAt]
theorem rectsAt_cons (p : Pr) (B : List Pr) (r c : Int) : rectsAt (p :: B) r c = if p.r = r ∧ p.c = c then p.rct :: rectsAt B r c else rectsAt B r c := by
  unfold rectsAt
  rw [List.filter_cons]
  by_cases h : p.r = r ∧ p.c = c
  · rw [if_pos (show atC r c p = true from decide_eq_true h), if_pos h, List.map_cons]
  · rw [if_neg (by rw [show atC r c p = false from decide_eq_false h]; decide), if_neg h]
theorem rects_lo (P : List Pr) (p : Pr) : rectsAt (loF (fP p) P) p.r p.c = loF (fX p) (rectsAt P p.r p.c) := rects_flt (fun n => decide (n < 0))
theorem rects_hi (P : List Pr) (p : Pr) : rectsAt (hiF (fP p) P) p.r p.c = hiF (fX p) (rectsAt P p.r p.c) := rects_flt (fun n => decide (0 < n))
theorem rects_add (P : List Pr) (p : Pr) : rectsAt (addP P p) p.r p.c = loF (fX p) (rectsAt P p.r p.c) ++ p.rct :: hiF (fX p) (rectsAt P p.r p.c) := by
  unfold addP
  rw [rectsAt_app, rectsAt_cons, if_pos ⟨rfl, rfl⟩, rects_lo, rects_hi]
theorem rects_drop (P : List Pr) (p : Pr) : rectsAt (dropP P p) p.r p.c = loF (fX p) (rectsAt P p.r p.c) ++ hiF (fX p) (rectsAt P p.r p.c) := by
  unfold dropP
  rw [rectsAt_app, rects_lo, rects_hi]
theorem rects_ge {P : List Pr} {p : Pr} {r c : Int} (h : ¬ (r = p.r ∧ c = p.c)) : rectsAt (geF (fP p) P) r c = rectsAt (hiF (fP p) P) r c := by
  unfold rectsAt geF hiF
  congr 1
  rw [List.filter_filter, List.filter_filter]
  apply List.filter_congr
  intro x _
  by_cases e : atC r c x = true
  · have e2 : x.r = r ∧ x.c = c := of_decide_eq_true e
    have hn : ¬ cmpP x p = 0 := fun q => by rw [(cmpP_zero x p).1 q] at e2; omega
    rw [e, Bool.true_and, Bool.true_and, Bool.eq_iff_iff]
    unfold fP
    simp; omega
  · simp only [Bool.not_eq_true] at e
    rw [e]; rfl
theorem rects_drop_o {P : List Pr} (hs : SrtP P) (p : Pr) {r c : Int} (h : ¬ (r = p.r ∧ c = p.c)) : rectsAt (dropP P p) r c = rectsAt P r c := by
  conv => rhs; rw [parts (hs.mono p)]
  unfold dropP
  rw [rectsAt_app, rectsAt_app, rects_ge h]
theorem rects_add_o {P : List Pr} (hs : SrtP P) (p : Pr) {r c : Int} (h : ¬ (r = p.r ∧ c = p.c)) : rectsAt (addP P p) r c = rectsAt P r c := by
  rw [← rects_drop_o hs p h]
  unfold addP dropP
  rw [rectsAt_app, rectsAt_app, rectsAt_cons, if_neg (by omega)]
theorem rects_srt {P : List Pr} (h : SrtP P) (r c : Int) : SrtR (rectsAt P r c) := by
  unfold SrtR rectsAt
  rw [List.pairwise_map]
  refine List.Pairwise.imp_of_mem ?_ (List.Pairwise.filter _ h)
  intro x y hx hy hxy
  have e1 : x.r = r ∧ x.c = c := of_decide_eq_true (List.mem_filter.1 hx).2
  have e2 : y.r = r ∧ y.c = c := of_decide_eq_true (List.mem_filter.1 hy).2
  have := (cmpP_neg x y).1 hxy
  show cmpR _ _ _ _ _ _ _ _ < 0
  rcases this with h | ⟨_, h⟩
  · omega
  · exact h
theorem rects_has (P : List Pr) (p : Pr) : hasF (fX p) (rectsAt P p.r p.c) = hasF (fP p) P := by
  unfold hasF
  rw [Bool.eq_iff_iff, List.any_eq_true, List.any_eq_true]
  constructor
  · rintro ⟨x, hx, h0⟩
    obtain ⟨y, hy, rfl⟩ := List.mem_map.1 hx
    have := List.mem_filter.1 hy
    exact ⟨y, this.1, by rw [fP_at this.2]; exact h0⟩
  · rintro ⟨y, hy, h0⟩
    have e := (cmpP_zero y p).1 (of_decide_eq_true h0)
    subst e
    exact ⟨y.rct, List.mem_map.2 ⟨y, List.mem_filter.2 ⟨hy, decide_eq_true ⟨rfl, rfl⟩⟩, rfl⟩, decide_eq_true ((cmpR_zero _ _ _ _ _ _ _ _).2 ⟨rfl, rfl, rfl, rfl⟩)⟩
theorem rects_len (P : List Pr) (r c : Int) : (rectsAt P r c).length ≤ P.length := by
  unfold rectsAt
  rw [List.length_map]
  exact List.length_filter_le _ _
/-- Whether a rectangle is counted in a crowd. -/
def inBd : Nat → Rct → Bool
  | 0, _ => true
  | i + 1, x => decide ((x.t - 1) / 64 ≤ i ∧ i ≤ (x.b - 1) / 64)
def cnt (j : Nat) (P : List Pr) (r c : Int) : Nat := ((rectsAt P r c).filter (inBd j)).length
theorem cnt_le (j : Nat) (P : List Pr) (r c : Int) : cnt j P r c ≤ P.length := Nat.le_trans (List.length_filter_le _ _) (rects_len P r c)
theorem cnt_split {l : List Rct} (f : Rct → Int) (hS : MonoF f l) (g : Rct → Bool) (h : hasF f l = false) (x : Rct) : ((loF f l ++ x :: hiF f l).filter g).length = (l.filter g).length + (if g x = true then 1 else 0) := by
  conv => rhs; arg 1; rw [parts hS, has_no h]
  simp only [List.filter_append, List.filter_cons, List.length_append]
  split <;> simp <;> omega
theorem cnt_add {P : List Pr} (hs : SrtP P) (p : Pr) (h : hasF (fP p) P = false) (j : Nat) : cnt j (addP P p) p.r p.c = cnt j P p.r p.c + (if inBd j p.rct = true then 1 else 0) := by
  unfold cnt
  rw [rects_add]
  exact cnt_split _ ((rects_srt hs p.r p.c).mono _ _ _ _) _ (by rw [rects_has]; exact h) _
theorem cnt_drop {P : List Pr} (hs : SrtP P) (p : Pr) (h : hasF (fP p) P = true) (j : Nat) : cnt j P p.r p.c = cnt j (dropP P p) p.r p.c + (if inBd j p.rct = true then 1 else 0) := by
  unfold cnt
  have hS := (rects_srt hs p.r p.c).mono p.t p.l p.b p.q
  rw [← rects_has] at h
  obtain ⟨x, hx, h0, hlt⟩ := has_idx hS h
  have hxp : x = p.rct := by
    have := (cmpR_zero x.t x.l x.b x.r p.t p.l p.b p.q).1 h0
    obtain ⟨a, b, c, d⟩ := x
    obtain ⟨e1, e2, e3, e4⟩ := this
    dsimp only at e1 e2 e3 e4
    subst e1 e2 e3 e4
    rfl
  have e : rectsAt P p.r p.c = loF (fX p) (rectsAt P p.r p.c) ++ p.rct :: hiF (fX p) (rectsAt P p.r p.c) := by
    have e1 := drop_has hS h
    rw [take_idx hS] at e1
    have e2 := List.append_cancel_left e1
    conv => lhs; rw [← List.take_append_drop (idxF (fX p) (rectsAt P p.r p.c)) (rectsAt P p.r p.c), take_idx hS]
    congr 1
    obtain ⟨h1, h2⟩ := List.getElem?_eq_some_iff.1 hx
    rw [List.drop_eq_getElem_cons h1, h2, hxp]
    congr 1
  rw [rects_drop]
  conv => lhs; rw [e]
  simp only [List.filter_append, List.filter_cons, List.length_append]
  split <;> simp <;> omega
theorem cnt_add_o {P : List Pr} (hs : SrtP P) (p : Pr) (j : Nat) {r c : Int} (h : ¬ (r = p.r ∧ c = p.c)) : cnt j (addP P p) r c = cnt j P r c := by unfold cnt; rw [rects_add_o hs p h]
theorem cnt_drop_o {P : List Pr} (hs : SrtP P) (p : Pr) (j : Nat) {r c : Int} (h : ¬ (r = p.r ∧ c = p.c)) : cnt j (dropP P p) r c = cnt j P r c := by unfold cnt; rw [rects_drop_o hs p h]
theorem addP_len {P : List Pr} (hs : SrtP P) (p : Pr) (h : hasF (fP p) P = false) : (addP P p).length = P.length + 1 := by
  have e := parts (hs.mono p)
  rw [has_no h] at e
  have := congrArg List.length e
  unfold addP
  simp only [List.length_append, List.length_cons] at this ⊢
  omega
theorem dropP_len {P : List Pr} (p : Pr) : (dropP P p).length ≤ P.length := by
  have h1 : ∀ Q : List Pr, (loF (fP p) Q).length + (hiF (fP p) Q).length ≤ Q.length := by
    intro Q
    induction Q with
    | nil => simp [loF, hiF]
    | cons x t ih =>
      unfold loF hiF at ih ⊢
      rw [List.filter_cons, List.filter_cons]
      split <;> split <;> simp_all <;> omega
  unfold dropP
  rw [List.length_append]
  exact h1 P
theorem mem_addP {P : List Pr} {p x : Pr} (h : x ∈ addP P p) : x = p ∨ x ∈ P := by
  rcases List.mem_append.1 h with h | h
  · exact .inr (List.mem_filter.1 h).1
  · rcases List.mem_cons.1 h with h | h
    · exact .inl h
    · exact .inr (List.mem_filter.1 h).1
theorem mem_dropP {P : List Pr} {p x : Pr} (h : x ∈ dropP P p) : x ∈ P := by
  rcases List.mem_append.1 h with h | h <;> exact (List.mem_filter.1 h).1
end Go.Proofs.YtgojnijpjfdocaaGreat
