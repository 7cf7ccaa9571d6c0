/- Two lists in order with the same members are one; who refers to a place, and all edges, as the one list in order. No function's text is walked here. -/
import Derived.Test.YtgojnijpjfdocaaGreatFC
namespace Go.Proofs.YtgojnijpjfdocaaGreat
open Go.RowKit Go.Shelf
set_option linter.all false
theorem srt_uniq {α : Type} {lt : α → α → Prop} (has : ∀ x y, lt x y → ¬ lt y x) : ∀ (l k : List α), l.Pairwise lt → k.Pairwise lt → (∀ z, z ∈ l ↔ z ∈ k) → l = k
  | [], [], _, _, _ => rfl
  | [], y :: s, _, _, h => by have := (h y).2 List.mem_cons_self; cases this
  | x :: t, [], _, _, h => by have := (h x).1 List.mem_cons_self; cases this
  | x :: t, y :: s, h1, h2, h => by
    have k1 := List.pairwise_cons.1 h1
    have k2 := List.pairwise_cons.1 h2
    have e : x = y := by
      rcases List.mem_cons.1 ((h x).1 List.mem_cons_self) with q | q
      · exact q
      · rcases List.mem_cons.1 ((h y).2 List.mem_cons_self) with p | p
        · exact p.symm
        · exact absurd (k1.1 y p) (has _ _ (k2.1 x q))
    subst e
    have hirr : ¬ lt x x := fun q => has _ _ q q
    rw [srt_uniq has t s k1.2 k2.2 (fun z => ⟨fun q => by
      rcases List.mem_cons.1 ((h z).1 (List.mem_cons_of_mem _ q)) with p | p
      · subst p; exact absurd (k1.1 _ q) hirr
      · exact p, fun q => by
      rcases List.mem_cons.1 ((h z).2 (List.mem_cons_of_mem _ q)) with p | p
      · subst p; exact absurd (k2.1 _ q) hirr
      · exact p⟩)]
theorem cmpK_as (x y : Cl) (h : cmpK x y < 0) : ¬ cmpK y x < 0 := by rw [cmpK_neg] at *; omega
theorem cmpD_as (x y : Ed) (h : cmpD x y < 0) : ¬ cmpD y x < 0 := fun q => by
  have h1 : ltOf cmpD x y = true := decide_eq_true h
  have h2 : ltOf cmpD y x = true := decide_eq_true q
  rw [cmpD_lt] at h1 h2
  omega
theorem cmpD_tr {x y z : Ed} (h : cmpD x y < 0) (q : cmpD y z < 0) : cmpD x z < 0 := by
  have h1 : ltOf cmpD x y = true := decide_eq_true h
  have h2 : ltOf cmpD y z = true := decide_eq_true q
  have h3 : ltOf cmpD x z = true := by rw [cmpD_lt] at *; omega
  exact of_decide_eq_true h3
abbrev SrtE (l : List Ed) : Prop := l.Pairwise (fun a b => cmpD a b < 0)
/-- Who refers to a place. -/
def IsWho (E : Int → Int → List Rf) (x y : Int) (l : List Cl) : Prop := SrtK l ∧ ∀ z, z ∈ l ↔ ∃ f, f ∈ E z.r z.c ∧ inB f.t f.l f.b f.q x y = true
/-- All references. -/
def IsEdg (E : Int → Int → List Rf) (l : List Ed) : Prop := SrtE l ∧ ∀ e, e ∈ l ↔ e.f ∈ E e.r e.c
theorem IsWho.uniq {E : Int → Int → List Rf} {x y : Int} {l k : List Cl} (h : IsWho E x y l) (h' : IsWho E x y k) : l = k := srt_uniq cmpK_as l k h.1 h'.1 (fun z => (h.2 z).trans (h'.2 z).symm)
theorem IsEdg.uniq {E : Int → Int → List Rf} {l k : List Ed} (h : IsEdg E l) (h' : IsEdg E k) : l = k := srt_uniq cmpD_as l k h.1 h'.1 (fun z => (h.2 z).trans (h'.2 z).symm)
/-- No more than M references. -/
def Few (E : Int → Int → List Rf) (M : Nat) : Prop := ∀ l : List Ed, l.Nodup → (∀ e ∈ l, e.f ∈ E e.r e.c) → l.length ≤ M
theorem Few.none : Few (fun _ _ => []) 0 := fun l _ h => by
  cases l with
  | nil => exact Nat.le_refl _
  | cons x t => have := h x List.mem_cons_self; cases this
theorem nodup_len {α : Type} : ∀ (l k : List α), l.Nodup → (∀ x ∈ l, x ∈ k) → l.length ≤ k.length
  | [], _, _, _ => Nat.zero_le _
  | x :: t, k, h1, h2 => by
    obtain ⟨s1, s2, rfl⟩ := List.append_of_mem (h2 x List.mem_cons_self)
    have h3 := List.nodup_cons.1 h1
    have := nodup_len t (s1 ++ s2) h3.2 (fun y hy => by
      have := h2 y (List.mem_cons_of_mem _ hy)
      rcases List.mem_append.1 this with q | q
      · exact List.mem_append_left _ q
      · rcases List.mem_cons.1 q with p | p
        · subst p; exact absurd hy h3.1
        · exact List.mem_append_right _ p)
    simp only [List.length_cons, List.length_append] at *
    omega
theorem Few.upd {E : Int → Int → List Rf} {M : Nat} (h : Few E M) (r c : Int) (L : List Rf) : Few (updE E r c L) (M + L.length) := fun l h1 h2 => by
  have hp : l.length = (l.filter (fun e => decide (e.r = r ∧ e.c = c))).length + (l.filter (fun e => !decide (e.r = r ∧ e.c = c))).length := by
    clear h1 h2
    induction l with
    | nil => rfl
    | cons a t ih =>
      by_cases q : (a.r = r ∧ a.c = c)
      · rw [List.filter_cons_of_pos (by simpa using q), List.filter_cons_of_neg (by simpa using q), List.length_cons, List.length_cons, ih]; omega
      · rw [List.filter_cons_of_neg (by rw [decide_eq_true_iff]; exact q), List.filter_cons_of_pos (by rw [decide_eq_false q]; rfl), List.length_cons, List.length_cons, ih]; omega
  have q1 : (l.filter (fun e => decide (e.r = r ∧ e.c = c))).length ≤ (L.map (Ed.mk r c)).length := nodup_len _ _ (h1.filter _) (fun e he => by
    obtain ⟨a1, a2⟩ := List.mem_filter.1 he
    have a3 := of_decide_eq_true a2
    have a4 := h2 e a1
    unfold updE at a4
    rw [if_pos a3] at a4
    refine List.mem_map.2 ⟨e.f, a4, ?_⟩
    obtain ⟨er, ec, ef⟩ := e
    simp only at a3
    rw [a3.1, a3.2])
  have q2 := h (l.filter (fun e => !decide (e.r = r ∧ e.c = c))) (h1.filter _) (fun e he => by
    obtain ⟨a1, a2⟩ := List.mem_filter.1 he
    have a3 : ¬ (e.r = r ∧ e.c = c) := fun q => by rw [decide_eq_true q] at a2; cases a2
    have a4 := h2 e a1
    unfold updE at a4
    rw [if_neg a3] at a4
    exact a4)
  rw [List.length_map] at q1
  omega
theorem Few.more {E : Int → Int → List Rf} {M M' : Nat} (h : Few E M) (hm : M ≤ M') : Few E M' := fun l h1 h2 => Nat.le_trans (h l h1 h2) hm
/-- Cells in order, each of which may be: not many. -/
theorem srtK_few {L : List Cl} (h : SrtK L) (hm : ∀ z ∈ L, mayC z.r z.c = true) : L.length ≤ 1048576 := by
  have hw : ∀ z ∈ L, 1 ≤ z.r ∧ z.r ≤ 4096 ∧ 1 ≤ z.c ∧ z.c ≤ 256 := fun z hz => mayC_is (hm z hz)
  have hp : L.Pairwise (fun x y => (x.r * 256 + x.c) < (y.r * 256 + y.c)) := by
    refine List.Pairwise.imp_of_mem ?_ h
    intro x y hx hy hxy
    have h1 := hw x hx
    have h2 := hw y hy
    rw [cmpK_neg] at hxy
    omega
  have := pw_len (f := fun z : Cl => z.r * 256 + z.c) (M := 4096 * 256 + 256 + 1) L (256 + 1) hp (fun x hx => by have := hw x hx; omega) (by omega)
  omega
/-- The edges of some cells. -/
def edL (E : Int → Int → List Rf) (K : List Cl) : List Ed := K.flatMap (fun k => (E k.r k.c).map (Ed.mk k.r k.c))
theorem edL_mem {E : Int → Int → List Rf} {K : List Cl} {e : Ed} : e ∈ edL E K ↔ ((⟨e.r, e.c⟩ : Cl) ∈ K ∧ e.f ∈ E e.r e.c) := by
  unfold edL
  rw [List.mem_flatMap]
  constructor
  · rintro ⟨k, h1, h2⟩
    obtain ⟨f, h3, rfl⟩ := List.mem_map.1 h2
    exact ⟨h1, h3⟩
  · rintro ⟨h1, h2⟩
    exact ⟨_, h1, List.mem_map.2 ⟨e.f, h2, rfl⟩⟩
theorem srtF_nodup {L : List Rf} (h : L.Pairwise (fun x y => cmpF x y < 0)) : L.Nodup := h.imp (fun {x y} q e => by
  subst e
  have : cmpF x x = 0 := (cmpF_zero x x).2 rfl
  omega)
theorem srtE_nodup {L : List Ed} (h : SrtE L) : L.Nodup := h.imp (fun {x y} q e => by
  subst e
  have : cmpD x x = 0 := (cmpD_zero x x).2 rfl
  omega)
theorem edL_nodup {E : Int → Int → List Rf} (hE : EOk E) : ∀ {K : List Cl}, K.Nodup → (edL E K).Nodup
  | [], _ => List.nodup_nil
  | k :: t, h => by
    have h1 := List.nodup_cons.1 h
    show ((E k.r k.c).map (Ed.mk k.r k.c) ++ edL E t).Nodup
    rw [List.nodup_append]
    refine ⟨?_, edL_nodup hE h1.2, fun x hx y hy e => ?_⟩
    · have := srtF_nodup (hE.srt k.r k.c)
      exact List.Pairwise.map _ (fun a b (q : a ≠ b) e => q (by injection e)) this
    · subst e
      obtain ⟨f, _, rfl⟩ := List.mem_map.1 hx
      exact h1.1 (edL_mem.1 hy).1
theorem edL_app (E : Int → Int → List Rf) (K : List Cl) (k : Cl) : edL E (K ++ [k]) = edL E K ++ (E k.r k.c).map (Ed.mk k.r k.c) := by unfold edL; simp
theorem edL_few {E : Int → Int → List Rf} {M : Nat} (h : Few E M) (hE : EOk E) {K : List Cl} (hK : K.Nodup) : (edL E K).length ≤ M := h _ (edL_nodup hE hK) (fun e he => (edL_mem.1 he).2)
/-- A list of all, each once, put in order. -/
theorem isEdg_srt {E : Int → Int → List Rf} {l : List Ed} (hn : l.Nodup) (hm : ∀ e, e ∈ l ↔ e.f ∈ E e.r e.c) : IsEdg E (srtL cmpD l) := by
  have hp := srtL_perm cmpD l
  have hnd : (srtL cmpD l).Nodup := hp.nodup_iff.2 hn
  refine ⟨List.Pairwise.imp_of_mem ?_ ((srtL_srt cmpD_swo l).and hnd), fun e => (hp.mem_iff).trans (hm e)⟩
  rintro x y _ _ ⟨h1, h2⟩
  by_cases h3 : cmpD x y < 0
  · exact h3
  · exact absurd (cmpD_tot x y (decide_eq_false h3) (decide_eq_false h1)) h2
/-- A list of all, put in order, each once. -/
theorem isWho_srt {E : Int → Int → List Rf} {x y : Int} {l : List Cl} (hm : ∀ z, z ∈ l ↔ ∃ f, f ∈ E z.r z.c ∧ inB f.t f.l f.b f.q x y = true) : IsWho E x y (cpt sCl (srtL cmpK l)) := by
  have h : (srtL cmpK l).Pairwise (fun x y => cmpK x y < 0 ∨ x = y) := (srtL_srt cmpK_swo l).imp (fun {x y} h => by
    by_cases h2 : cmpK x y < 0
    · exact .inl h2
    · exact .inr (cmpK_tot x y (decide_eq_false h2) (decide_eq_false h)))
  refine ⟨cpt_srt (s := sCl) (lt := fun x y => cmpK x y < 0) (fun _ _ => sCl_is) (fun h1 h2 => cmpK_tr h1 h2) h, fun z => ?_⟩
  rw [mem_cpt (fun _ _ => sCl_is), (srtL_perm cmpK l).mem_iff]
  exact hm z
theorem inB_one {t l x y : Int} : inB t l t l x y = true ↔ (t = x ∧ l = y) := by
  unfold inB
  rw [decide_eq_true_iff]
  omega
end Go.Proofs.YtgojnijpjfdocaaGreat
