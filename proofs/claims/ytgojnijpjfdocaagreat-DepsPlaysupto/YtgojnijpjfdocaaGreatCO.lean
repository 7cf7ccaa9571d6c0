/- Who looks over a place, by the pairs in their order. No function's text is walked here. -/
import Derived.Test.YtgojnijpjfdocaaGreatCB
namespace Go.Proofs.YtgojnijpjfdocaaGreat
open Go.RowKit
set_option linter.all false
def ltCl (a b : Cl) : Prop := a.r < b.r ∨ (a.r = b.r ∧ a.c < b.c)
theorem ltCl_irr (a : Cl) : ¬ ltCl a a := by unfold ltCl; omega
theorem ltCl_asy (a b : Cl) (h : ltCl a b) : ¬ ltCl b a := by unfold ltCl at *; omega
def inP (x y : Int) (p : Pr) : Bool := inB p.t p.l p.b p.q x y
def Pr.cl (p : Pr) : Cl := ⟨p.r, p.c⟩
def lastIs (acc : List Cl) (z : Cl) : Bool := match acc.getLast? with | some u => sameC u.r u.c z.r z.c | none => false
def stepO (x y : Int) (acc : List Cl) (p : Pr) : List Cl := if inP x y p && !lastIs acc p.cl then acc ++ [p.cl] else acc
def overP (P : List Pr) (x y : Int) : List Cl := P.foldl (stepO x y) []
theorem cl_eq {a b : Cl} (h1 : a.r = b.r) (h2 : a.c = b.c) : a = b := by cases a; cases b; simp_all
theorem over_inv (x y : Int) : ∀ (P : List Pr) (acc : List Cl), SrtP P → acc.Pairwise ltCl → (∀ z ∈ acc, ∀ p ∈ P, ltCl z p.cl ∨ z = p.cl) →
    (P.foldl (stepO x y) acc).Pairwise ltCl ∧ ∀ z, z ∈ P.foldl (stepO x y) acc ↔ (z ∈ acc ∨ ∃ p ∈ P, inP x y p = true ∧ z = p.cl)
  | [], acc, _, h2, _ => ⟨h2, fun z => by simp⟩
  | p :: t, acc, h1, h2, h3 => by
    have h1' := List.pairwise_cons.1 h1
    rw [List.foldl_cons]
    have hple : ∀ q ∈ t, ltCl p.cl q.cl ∨ p.cl = q.cl := fun q hq => by
      rcases (cmpP_neg p q).1 (h1'.1 q hq) with e | ⟨e, _⟩
      · exact .inl e
      · exact .inr (cl_eq e.1 e.2)
    by_cases hin : inP x y p = true
    · cases hl : lastIs acc p.cl
      · have e : stepO x y acc p = acc ++ [p.cl] := by unfold stepO; rw [hin, hl]; rfl
        rw [e]
        have hne : ∀ z ∈ acc, ltCl z p.cl := fun z hz => by
          rcases h3 z hz p (by simp) with q | q
          · exact q
          · exfalso
            cases hL : acc.getLast? with
            | none =>
              rw [List.getLast?_eq_none_iff] at hL
              subst hL; cases hz
            | some u =>
              unfold lastIs at hl
              rw [hL] at hl
              obtain ⟨pre, rfl⟩ := List.getLast?_eq_some_iff.1 hL
              rw [List.pairwise_append] at h2
              have hu := h3 u (by simp) p (by simp)
              have hn : ¬ (u.r = p.cl.r ∧ u.c = p.cl.c) := of_decide_eq_false hl
              rcases List.mem_append.1 hz with hz | hz
              · have := h2.2.2 z hz u (by simp)
                subst q
                rcases hu with hu | hu
                · exact ltCl_asy _ _ hu this
                · subst hu; exact ltCl_irr _ this
              · simp only [List.mem_singleton] at hz
                subst hz
                rw [q] at hn
                exact hn ⟨rfl, rfl⟩
        obtain ⟨a1, a2⟩ := over_inv x y t (acc ++ [p.cl]) h1'.2 (by
          rw [List.pairwise_append]
          refine ⟨h2, by simp, fun a ha b hb => ?_⟩
          simp only [List.mem_singleton] at hb
          subst hb
          exact hne a ha) (fun z hz q hq => by
          rcases List.mem_append.1 hz with hz | hz
          · exact h3 z hz q (List.mem_cons_of_mem _ hq)
          · simp only [List.mem_singleton] at hz
            subst hz
            exact hple q hq)
        refine ⟨a1, fun z => (a2 z).trans ?_⟩
        constructor
        · rintro (hz | ⟨q, hq, hq2⟩)
          · rcases List.mem_append.1 hz with hz | hz
            · exact .inl hz
            · simp only [List.mem_singleton] at hz
              exact .inr ⟨p, by simp, hin, hz⟩
          · exact .inr ⟨q, List.mem_cons_of_mem _ hq, hq2⟩
        · rintro (hz | ⟨q, hq, hq2, hq3⟩)
          · exact .inl (List.mem_append_left _ hz)
          · rcases List.mem_cons.1 hq with rfl | hq
            · exact .inl (List.mem_append_right _ (by simp [hq3]))
            · exact .inr ⟨q, hq, hq2, hq3⟩
      · have e : stepO x y acc p = acc := by unfold stepO; rw [hin, hl]; rfl
        rw [e]
        obtain ⟨a1, a2⟩ := over_inv x y t acc h1'.2 h2 (fun z hz q hq => h3 z hz q (List.mem_cons_of_mem _ hq))
        refine ⟨a1, fun z => (a2 z).trans ?_⟩
        constructor
        · rintro (hz | ⟨q, hq, hq2⟩)
          · exact .inl hz
          · exact .inr ⟨q, List.mem_cons_of_mem _ hq, hq2⟩
        · rintro (hz | ⟨q, hq, hq2, hq3⟩)
          · exact .inl hz
          · rcases List.mem_cons.1 hq with rfl | hq
            · refine .inl ?_
              unfold lastIs at hl
              cases hL : acc.getLast? with
              | none => rw [hL] at hl; cases hl
              | some u =>
                rw [hL] at hl
                have hu : u.r = q.cl.r ∧ u.c = q.cl.c := of_decide_eq_true hl
                rw [hq3, ← cl_eq hu.1 hu.2]
                exact List.mem_of_getLast? hL
            · exact .inr ⟨q, hq, hq2, hq3⟩
    · have e : stepO x y acc p = acc := by
        unfold stepO
        simp only [Bool.not_eq_true] at hin
        rw [hin]; rfl
      rw [e]
      obtain ⟨a1, a2⟩ := over_inv x y t acc h1'.2 h2 (fun z hz q hq => h3 z hz q (List.mem_cons_of_mem _ hq))
      refine ⟨a1, fun z => (a2 z).trans ?_⟩
      constructor
      · rintro (hz | ⟨q, hq, hq2⟩)
        · exact .inl hz
        · exact .inr ⟨q, List.mem_cons_of_mem _ hq, hq2⟩
      · rintro (hz | ⟨q, hq, hq2, hq3⟩)
        · exact .inl hz
        · rcases List.mem_cons.1 hq with rfl | hq
          · exact absurd hq2 hin
          · exact .inr ⟨q, hq, hq2, hq3⟩
theorem overP_srt {P : List Pr} (h : SrtP P) (x y : Int) : (overP P x y).Pairwise ltCl := (over_inv x y P [] h List.Pairwise.nil (fun z hz => by cases hz)).1
theorem overP_mem {P : List Pr} (h : SrtP P) (x y : Int) (z : Cl) : z ∈ overP P x y ↔ ∃ p ∈ P, inP x y p = true ∧ z = p.cl := by
  have := (over_inv x y P [] h List.Pairwise.nil (fun z hz => by cases hz)).2 z
  unfold overP
  rw [this]
  simp
def hitS (D : Nat → Option Tag) (P : List Pr) (x y : Int) (s : Seat) : Bool := (rectsAt P (rOf D s.g) (cOf D s.g)).any (fun q => inB q.t q.l q.b q.r x y)
def clS (D : Nat → Option Tag) (s : Seat) : Cl := ⟨rOf D s.g, cOf D s.g⟩
/-- Seat by seat of the band. -/
theorem over_seats {D : Nat → Option Tag} {K : KF} {l : List Seat} {n : Int → Int → Nat} {P : List Pr} (hs : SrtP P) (hm : ∀ p ∈ P, mayC p.r p.c = true ∧ mayR p.t p.l p.b p.q = true) {x y : Int} {bn : Nat} (hx : 1 ≤ x) (hb : (x - 1) / 64 = (bn : Int)) (h : CrowdOK D K l n) (hn : ∀ r c, n r c = cnt (bn + 1) P r c) : (l.filter (hitS D P x y)).map (clS D) = overP P x y := by
  refine uniq ltCl_irr ltCl_asy ?_ (overP_srt hs x y) (fun z => ?_)
  · rw [List.pairwise_map]
    exact List.Pairwise.imp (fun h => h) (List.Pairwise.filter _ h.srt)
  · rw [overP_mem hs x y z, List.mem_map]
    constructor
    · rintro ⟨s, h1, rfl⟩
      have h2 := List.mem_filter.1 h1
      unfold hitS at h2
      rw [List.any_eq_true] at h2
      obtain ⟨q, q1, q2⟩ := h2.2
      exact ⟨_, mem_rects.1 q1, q2, rfl⟩
    · rintro ⟨p, p1, p2, rfl⟩
      have hr : p.rct ∈ rectsAt P p.r p.c := mem_rects.2 p1
      have hi := inB_is p2
      have hmm := mayR_is (hm p p1).2
      have hc : 0 < n p.r p.c := by
        rw [hn]
        unfold cnt
        refine List.length_pos_iff.2 (fun q => ?_)
        rw [List.filter_eq_nil_iff] at q
        refine q _ hr (decide_eq_true ?_)
        show (p.t - 1) / 64 ≤ (bn : Int) ∧ (bn : Int) ≤ (p.b - 1) / 64
        omega
      obtain ⟨s, s1, s2⟩ := h.all _ _ hc
      refine ⟨s, List.mem_filter.2 ⟨s1, ?_⟩, ?_⟩
      · unfold hitS
        rw [(rOf_of s2).1, (rOf_of s2).2, List.any_eq_true]
        exact ⟨_, hr, p2⟩
      · unfold clS
        rw [(rOf_of s2).1, (rOf_of s2).2]
        rfl
theorem over_out {P : List Pr} (hs : SrtP P) (hm : ∀ p ∈ P, mayC p.r p.c = true ∧ mayR p.t p.l p.b p.q = true) {x y : Int} (h : mayC x y = false) : overP P x y = [] := by
  rw [List.eq_nil_iff_forall_not_mem]
  intro z hz
  obtain ⟨p, p1, p2, _⟩ := (overP_mem hs x y z).1 hz
  have hi := inB_is p2
  have hmm := mayR_is (hm p p1).2
  rw [mayC_t (by omega)] at h
  cases h
end Go.Proofs.YtgojnijpjfdocaaGreat
