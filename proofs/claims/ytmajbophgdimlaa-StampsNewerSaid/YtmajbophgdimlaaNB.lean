/- StampsNewer's invariant: by the list's steps and by the clock's stamps the same is newer; what a change, a look and a drop make of it. No function's text is walked here. -/
import Derived.Test.YtmajbophgdimlaaNA
import Derived.Test.YtmajbophgdimlaaLA
namespace Go.Proofs.Ytmajbophgdimlaa
open Go.RowKit
set_option linter.all false
def upI (T : Int → Int → Int) (x y v : Int) : Int → Int → Int := fun a b => if a = x ∧ b = y then v else T a b
theorem upI_same (T : Int → Int → Int) (x y v : Int) : upI T x y v x y = v := if_pos ⟨rfl, rfl⟩
theorem upI_other {T : Int → Int → Int} {x y v a b : Int} (h : ¬ (a = x ∧ b = y)) : upI T x y v a b = T a b := if_neg h
structure Wn (S : St) (T V : Int → Int → Int) (l : List We) (i : Int) : Prop where
  nw : ∀ a b : Cl, sen S b.r b.c < chg S a.r a.c ↔ V b.r b.c < T a.r a.c
  bt : ∀ a b, 0 ≤ T a b ∧ T a b ≤ i
  bv : ∀ a b, 0 ≤ V a b ∧ V a b ≤ i
  tell : ∀ e ∈ l, e.t = T e.r e.c ∧ e.v = V e.r e.c
  off : ∀ a b, (∀ e ∈ l, ¬ (e.r = a ∧ e.c = b)) → T a b = 0 ∧ V a b = 0
  zero : ∀ a b, mayC a b = false → T a b = 0 ∧ V a b = 0
  one : ∀ (p q : Nat) (e f : We), l[p]? = some e → l[q]? = some f → e.r = f.r → e.c = f.c → mayC e.r e.c = true → p = q
  i64 : ∀ e ∈ l, I64 e.r ∧ I64 e.c
theorem Wn.more {S : St} {T V : Int → Int → Int} {l : List We} {i : Int} (h : Wn S T V l i) : Wn S T V l (i + 1) :=
  { h with bt := fun a b => ⟨(h.bt a b).1, by have := (h.bt a b).2; omega⟩, bv := fun a b => ⟨(h.bv a b).1, by have := (h.bv a b).2; omega⟩ }
theorem Wn.begin : Wn (fun _ _ => none) (fun _ _ => 0) (fun _ _ => 0) [] 0 :=
  ⟨fun a b => Iff.rfl, fun a b => ⟨Int.le_refl _, Int.le_refl _⟩, fun a b => ⟨Int.le_refl _, Int.le_refl _⟩, fun e he => (by cases he), fun a b _ => ⟨rfl, rfl⟩, fun a b _ => ⟨rfl, rfl⟩, fun p q e f he => (by simp at he), fun e he => (by cases he)⟩
theorem may0 : mayC 0 0 = false := by decide
/-- A cell that stands nowhere. -/
theorem far (L : List Cl) (l : List We) : ∃ r : Int, (∀ c ∈ L, c.r < r) ∧ (∀ e ∈ l, e.r < r) := by
  have h1 : ∃ r : Int, ∀ c ∈ L, c.r < r := by
    induction L with
    | nil => exact ⟨0, fun c h => (by cases h)⟩
    | cons d L ih =>
      obtain ⟨r, hr⟩ := ih
      refine ⟨max r (d.r + 1), fun c h => ?_⟩
      rcases List.mem_cons.1 h with rfl | h
      · omega
      · have := hr c h; omega
  have h2 : ∃ r : Int, ∀ e ∈ l, e.r < r := by
    clear h1
    induction l with
    | nil => exact ⟨0, fun c h => (by cases h)⟩
    | cons d l ih =>
      obtain ⟨r, hr⟩ := ih
      refine ⟨max r (d.r + 1), fun c h => ?_⟩
      rcases List.mem_cons.1 h with rfl | h
      · omega
      · have := hr c h; omega
  obtain ⟨r, hr⟩ := h1
  obtain ⟨s, hs⟩ := h2
  exact ⟨max r s, fun c h => by have := hr c h; omega, fun c h => by have := hs c h; omega⟩
theorem Wn.pos {S : St} {T V : Int → Int → Int} {l : List We} {i : Int} (h : Wn S T V l i) {L : List Cl} (hd : ∀ a b, S a b ≠ none → (⟨a, b⟩ : Cl) ∈ L) (a : Cl) : 0 < chg S a.r a.c ↔ 0 < T a.r a.c := by
  obtain ⟨r, h1, h2⟩ := far L l
  have h3 : S r 0 = none := by
    by_cases q : S r 0 = none
    · exact q
    · have := h1 _ (hd r 0 q); simp at this
  have h4 := (h.off r 0 (fun e he q => by have := h2 e he; omega)).2
  have h5 := h.nw a ⟨r, 0⟩
  have h6 : sen S r 0 = 0 := by unfold sen; rw [h3]
  simp only [h4, h6] at h5
  exact h5
/-- A cell that isn't in the list yet. -/
theorem Wn.app {S : St} {T V : Int → Int → Int} {l : List We} {i : Int} (h : Wn S T V l i) {x y : Int} (hx : I64 x) (hy : I64 y) (hn : ∀ e ∈ l, ¬ (e.r = x ∧ e.c = y)) : Wn S T V (l ++ [⟨x, y, 0, 0⟩]) i := by
  refine { h with tell := ?_, off := ?_, one := ?_, i64 := ?_ }
  · intro e he
    rcases List.mem_append.1 he with q | q
    · exact h.tell e q
    · simp only [List.mem_cons, List.not_mem_nil, or_false] at q
      subst q
      exact ⟨((h.off x y hn).1).symm, ((h.off x y hn).2).symm⟩
  · exact fun a b q => h.off a b (fun e he => q e (List.mem_append_left _ he))
  · intro p q e f hp hq h1 h2 h3
    by_cases a : p < l.length
    · rw [List.getElem?_append_left a] at hp
      by_cases b : q < l.length
      · rw [List.getElem?_append_left b] at hq
        exact h.one p q e f hp hq h1 h2 h3
      · rw [List.getElem?_append_right (by omega)] at hq
        have hb : q - l.length = 0 := by
          have := (List.getElem?_eq_some_iff.1 hq).1
          simp at this
          omega
        rw [hb] at hq
        simp only [List.getElem?_cons_zero, Option.some.injEq] at hq
        subst hq
        exact absurd ⟨h1, h2⟩ (hn e (List.mem_of_getElem? hp))
    · rw [List.getElem?_append_right (by omega)] at hp
      have ha : p - l.length = 0 := by
        have := (List.getElem?_eq_some_iff.1 hp).1
        simp at this
        omega
      rw [ha] at hp
      simp only [List.getElem?_cons_zero, Option.some.injEq] at hp
      subst hp
      by_cases b : q < l.length
      · rw [List.getElem?_append_left b] at hq
        exact absurd ⟨h1.symm, h2.symm⟩ (hn f (List.mem_of_getElem? hq))
      · have := (List.getElem?_eq_some_iff.1 hq).1
        simp at this
        omega
  · intro e he
    rcases List.mem_append.1 he with q | q
    · exact h.i64 e q
    · simp only [List.mem_cons, List.not_mem_nil, or_false] at q
      subst q
      exact ⟨hx, hy⟩
theorem mem_set {l : List We} {p : Nat} {e' f : We} (h : f ∈ l.set p e') : f = e' ∨ ∃ q, q ≠ p ∧ l[q]? = some f := by
  obtain ⟨q, hq⟩ := List.mem_iff_getElem?.1 h
  rw [List.getElem?_set] at hq
  by_cases hpq : p = q
  · rw [if_pos hpq] at hq
    split at hq
    · exact .inl (Option.some.inj hq).symm
    · cases hq
  · rw [if_neg hpq] at hq
    exact .inr ⟨q, fun e => hpq e.symm, hq⟩
/-- The two ways of writing what stands at a cell that may be: its change, its look. -/
theorem set_one {l : List We} (h1 : ∀ (p q : Nat) (e f : We), l[p]? = some e → l[q]? = some f → e.r = f.r → e.c = f.c → mayC e.r e.c = true → p = q) {p : Nat} {e e' : We} (he : l[p]? = some e) (hr : e'.r = e.r) (hc : e'.c = e.c) : ∀ (a b : Nat) (f g : We), (l.set p e')[a]? = some f → (l.set p e')[b]? = some g → f.r = g.r → f.c = g.c → mayC f.r f.c = true → a = b := by
  have key : ∀ (a : Nat) (f : We), (l.set p e')[a]? = some f → ∃ f', l[a]? = some f' ∧ f'.r = f.r ∧ f'.c = f.c := by
    intro a f hf
    rw [List.getElem?_set] at hf
    by_cases hpa : p = a
    · rw [if_pos hpa] at hf
      split at hf
      · cases hf
        exact ⟨e, by rw [← hpa]; exact he, hr.symm, hc.symm⟩
      · cases hf
    · rw [if_neg hpa] at hf
      exact ⟨f, hf, rfl, rfl⟩
  intro a b f g hf hg q1 q2 q3
  obtain ⟨f', k1, k2, k3⟩ := key a f hf
  obtain ⟨g', k4, k5, k6⟩ := key b g hg
  exact h1 a b f' g' k1 k4 (by rw [k2, k5]; exact q1) (by rw [k3, k6]; exact q2) (by rw [k2, k3]; exact q3)
theorem off_set {l : List We} {p : Nat} {e e' : We} (he : l[p]? = some e) (hr : e'.r = e.r) (hc : e'.c = e.c) {a b : Int} (h : ∀ f ∈ l.set p e', ¬ (f.r = a ∧ f.c = b)) : ∀ f ∈ l, ¬ (f.r = a ∧ f.c = b) := by
  intro f hf q
  obtain ⟨k, hk⟩ := List.mem_iff_getElem?.1 hf
  by_cases hp : p = k
  · subst hp
    rw [he] at hk
    cases hk
    have hlt := (List.getElem?_eq_some_iff.1 he).1
    exact h e' (List.mem_of_getElem? (i := p) (by rw [List.getElem?_set, if_pos rfl, if_pos hlt])) ⟨hr.trans q.1, hc.trans q.2⟩
  · exact h f (List.mem_of_getElem? (i := k) (by rw [List.getElem?_set, if_neg hp]; exact hk)) q
theorem Wn.ch {S S' : St} {T V : Int → Int → Int} {l : List We} {i : Int} (h : Wn S T V l i) {x y : Int} (hn : Nw S S' x y) (hm : mayC x y = true) {p : Nat} {e : We} (he : l[p]? = some e) (hr : e.r = x) (hc : e.c = y) : Wn S' (upI T x y (i + 1)) V (l.set p ⟨e.r, e.c, i + 1, e.v⟩) (i + 1) := by
  refine ⟨?_, ?_, fun a b => ⟨(h.bv a b).1, by have := (h.bv a b).2; omega⟩, ?_, ?_, ?_, set_one h.one he rfl rfl, ?_⟩
  · intro a b
    by_cases t : a.r = x ∧ a.c = y
    · rw [t.1, t.2, upI_same]
      have h1 := hn.new b
      have h2 := (h.bv b.r b.c).2
      constructor
      · intro _; omega
      · intro _; exact h1
    · rw [upI_other t, hn.old a b t]
      exact h.nw a b
  · intro a b
    unfold upI
    have := h.bt a b
    have := h.bt x y
    split <;> omega
  · intro f hf
    rcases mem_set hf with rfl | ⟨q, hq, hf⟩
    · refine ⟨?_, (h.tell e (List.mem_of_getElem? he)).2⟩
      show i + 1 = upI T x y (i + 1) e.r e.c
      rw [hr, hc, upI_same]
    · have k := h.tell f (List.mem_of_getElem? hf)
      refine ⟨?_, k.2⟩
      rw [upI_other (fun t => hq (h.one q p f e hf he (t.1.trans hr.symm) (t.2.trans hc.symm) (by rw [t.1, t.2]; exact hm)))]
      exact k.1
  · intro a b q
    have k := h.off a b (off_set (e' := ⟨e.r, e.c, i + 1, e.v⟩) he rfl rfl q)
    refine ⟨?_, k.2⟩
    rw [upI_other]
    · exact k.1
    · intro t
      exact q ⟨e.r, e.c, i + 1, e.v⟩ (List.mem_of_getElem? (i := p) (by rw [List.getElem?_set, if_pos rfl, if_pos (List.getElem?_eq_some_iff.1 he).1])) ⟨hr.trans t.1.symm, hc.trans t.2.symm⟩
  · intro a b q
    have k := h.zero a b q
    refine ⟨?_, k.2⟩
    rw [upI_other]
    · exact k.1
    · intro t
      rw [t.1, t.2, hm] at q
      cases q
  · intro f hf
    rcases mem_set hf with rfl | ⟨q, hq, hf⟩
    · exact h.i64 e (List.mem_of_getElem? he)
    · exact h.i64 f (List.mem_of_getElem? hf)
theorem sen_see {S : St} {last x y : Int} (hm : mayC x y = true) (a b : Int) : sen (seeS S last x y) a b = if a = x ∧ b = y then last else sen S a b := by
  unfold seeS; rw [if_pos hm, sen_up]
theorem chg_see {S : St} {last x y : Int} (a b : Int) : chg (seeS S last x y) a b = chg S a b := by
  unfold seeS
  split
  · rw [chg_up]
    split
    · rename_i t; rw [t.1, t.2]
    · rfl
  · rfl
theorem Wn.se {S : St} {T V : Int → Int → Int} {l : List We} {i : Int} {most last : Int} (h : Wn S T V l i) (hlo : Low most last S) {x y : Int} (hm : mayC x y = true) {p : Nat} {e : We} (he : l[p]? = some e) (hr : e.r = x) (hc : e.c = y) : Wn (seeS S last x y) T (upI V x y (i + 1)) (l.set p ⟨e.r, e.c, e.t, i + 1⟩) (i + 1) := by
  refine ⟨?_, fun a b => ⟨(h.bt a b).1, by have := (h.bt a b).2; omega⟩, ?_, ?_, ?_, ?_, set_one h.one he rfl rfl, ?_⟩
  · intro a b
    rw [sen_see hm, chg_see]
    by_cases t : b.r = x ∧ b.c = y
    · rw [if_pos t, t.1, t.2, upI_same]
      have h1 := (hlo.bd a.r a.c).2.1
      have h2 := (h.bt a.r a.c).2
      omega
    · rw [if_neg t, upI_other t]
      exact h.nw a b
  · intro a b
    unfold upI
    have := h.bv a b
    have := h.bv x y
    split <;> omega
  · intro f hf
    rcases mem_set hf with rfl | ⟨q, hq, hf⟩
    · refine ⟨(h.tell e (List.mem_of_getElem? he)).1, ?_⟩
      show i + 1 = upI V x y (i + 1) e.r e.c
      rw [hr, hc, upI_same]
    · have k := h.tell f (List.mem_of_getElem? hf)
      refine ⟨k.1, ?_⟩
      rw [upI_other (fun t => hq (h.one q p f e hf he (t.1.trans hr.symm) (t.2.trans hc.symm) (by rw [t.1, t.2]; exact hm)))]
      exact k.2
  · intro a b q
    have k := h.off a b (off_set (e' := ⟨e.r, e.c, e.t, i + 1⟩) he rfl rfl q)
    refine ⟨k.1, ?_⟩
    rw [upI_other]
    · exact k.2
    · intro t
      exact q ⟨e.r, e.c, e.t, i + 1⟩ (List.mem_of_getElem? (i := p) (by rw [List.getElem?_set, if_pos rfl, if_pos (List.getElem?_eq_some_iff.1 he).1])) ⟨hr.trans t.1.symm, hc.trans t.2.symm⟩
  · intro a b q
    have k := h.zero a b q
    refine ⟨k.1, ?_⟩
    rw [upI_other]
    · exact k.2
    · intro t
      rw [t.1, t.2, hm] at q
      cases q
  · intro f hf
    rcases mem_set hf with rfl | ⟨q, hq, hf⟩
    · exact h.i64 e (List.mem_of_getElem? he)
    · exact h.i64 f (List.mem_of_getElem? hf)
theorem see_no {S : St} {last x y : Int} (hm : mayC x y = false) : seeS S last x y = S := by unfold seeS; rw [hm]; rfl
theorem chg_none {S : St} {x y a b : Int} : chg (upS S x y none) a b = if a = x ∧ b = y then 0 else chg S a b := by
  unfold chg upS
  by_cases t : a = x ∧ b = y
  · simp only [if_pos t]
  · simp only [if_neg t]
theorem sen_none {S : St} {x y a b : Int} : sen (upS S x y none) a b = if a = x ∧ b = y then 0 else sen S a b := by
  unfold sen upS
  by_cases t : a = x ∧ b = y
  · simp only [if_pos t]
  · simp only [if_neg t]
theorem Wn.dropNw {S : St} {T V : Int → Int → Int} {l : List We} {i : Int} {most last : Int} (h : Wn S T V l i) (hlo : Low most last S) {L : List Cl} (hd : ∀ a b, S a b ≠ none → (⟨a, b⟩ : Cl) ∈ L) (x y : Int) (a b : Cl) : sen (upS S x y none) b.r b.c < chg (upS S x y none) a.r a.c ↔ upI V x y 0 b.r b.c < upI T x y 0 a.r a.c := by
  rw [chg_none, sen_none]
  unfold upI
  have h1 := (hlo.bd b.r b.c).2.2.1
  have h2 := (h.bv b.r b.c).1
  have h3 := h.pos hd a
  have h4 := h.nw a b
  by_cases t : a.r = x ∧ a.c = y
  · rw [if_pos t, if_pos t]
    by_cases s : b.r = x ∧ b.c = y
    · rw [if_pos s, if_pos s]
    · rw [if_neg s, if_neg s]; omega
  · rw [if_neg t, if_neg t]
    by_cases s : b.r = x ∧ b.c = y
    · rw [if_pos s, if_pos s]; exact h3
    · rw [if_neg s, if_neg s]; exact h4
theorem Wn.dropIn {S : St} {T V : Int → Int → Int} {l : List We} {i : Int} {most last : Int} (h : Wn S T V l i) (hlo : Low most last S) {L : List Cl} (hd : ∀ a b, S a b ≠ none → (⟨a, b⟩ : Cl) ∈ L) {x y : Int} {p : Nat} {e : We} (he : l[p]? = some e) (hr : e.r = x) (hc : e.c = y) : Wn (upS S x y none) (upI T x y 0) (upI V x y 0) (l.set p ⟨0, 0, 0, 0⟩) (i + 1) := by
  have hz : ∀ (U : Int → Int → Int), (∀ a b, mayC a b = false → U a b = 0) → ∀ a b, mayC a b = false → upI U x y 0 a b = 0 := fun U hU a b q => by
    unfold upI
    split
    · rfl
    · exact hU a b q
  refine ⟨h.dropNw hlo hd x y, ?_, ?_, ?_, ?_, ?_, ?_, ?_⟩
  · intro a b
    unfold upI
    have := h.bt a b
    split <;> omega
  · intro a b
    unfold upI
    have := h.bv a b
    split <;> omega
  · intro f hf
    rcases mem_set hf with rfl | ⟨q, hq, hf⟩
    · exact ⟨(hz T (fun a b q => (h.zero a b q).1) 0 0 may0).symm, (hz V (fun a b q => (h.zero a b q).2) 0 0 may0).symm⟩
    · have k := h.tell f (List.mem_of_getElem? hf)
      by_cases t : f.r = x ∧ f.c = y
      · have hm : mayC f.r f.c = false := by
          cases hm : mayC f.r f.c with
          | false => rfl
          | true => exact absurd (h.one q p f e hf he (t.1.trans hr.symm) (t.2.trans hc.symm) hm) hq
        rw [hz T (fun a b q => (h.zero a b q).1) _ _ hm, hz V (fun a b q => (h.zero a b q).2) _ _ hm, k.1, k.2]
        exact h.zero _ _ hm
      · rw [upI_other t, upI_other t]
        exact k
  · intro a b q
    by_cases t : a = x ∧ b = y
    · unfold upI
      rw [if_pos t, if_pos t]
      exact ⟨rfl, rfl⟩
    · rw [upI_other t, upI_other t]
      refine h.off a b (fun f hf s => ?_)
      obtain ⟨k, hk⟩ := List.mem_iff_getElem?.1 hf
      by_cases hp : p = k
      · subst hp
        rw [he] at hk
        cases hk
        exact t ⟨s.1.symm.trans hr, s.2.symm.trans hc⟩
      · exact q f (List.mem_of_getElem? (i := k) (by rw [List.getElem?_set, if_neg hp]; exact hk)) s
  · exact fun a b q => ⟨hz T (fun a b q => (h.zero a b q).1) a b q, hz V (fun a b q => (h.zero a b q).2) a b q⟩
  · intro a b f g hf hg q1 q2 q3
    have key : ∀ (a : Nat) (f : We), (l.set p ⟨0, 0, 0, 0⟩)[a]? = some f → mayC f.r f.c = true → l[a]? = some f := by
      intro a f hf hm
      rw [List.getElem?_set] at hf
      by_cases hpa : p = a
      · rw [if_pos hpa] at hf
        split at hf
        · cases hf
          rw [may0] at hm
          cases hm
        · cases hf
      · rw [if_neg hpa] at hf
        exact hf
    exact h.one a b f g (key a f hf q3) (key b g hg (by rw [← q1, ← q2]; exact q3)) q1 q2 q3
  · intro f hf
    rcases mem_set hf with rfl | ⟨q, hq, hf⟩
    · exact ⟨by show I64 0; constructor <;> omega, by show I64 0; constructor <;> omega⟩
    · exact h.i64 f (List.mem_of_getElem? hf)
theorem Wn.dropOut {S : St} {T V : Int → Int → Int} {l : List We} {i : Int} {most last : Int} (h : Wn S T V l i) (hlo : Low most last S) {L : List Cl} (hd : ∀ a b, S a b ≠ none → (⟨a, b⟩ : Cl) ∈ L) {x y : Int} (hn : ∀ e ∈ l, ¬ (e.r = x ∧ e.c = y)) : Wn (upS S x y none) T V l (i + 1) := by
  have e0 := h.off x y hn
  have eq : ∀ (U : Int → Int → Int), U x y = 0 → upI U x y 0 = U := fun U hU => by
    funext a b
    unfold upI
    split
    · rename_i t; rw [t.1, t.2, hU]
    · rfl
  have k := h.dropNw hlo hd x y
  rw [eq T e0.1, eq V e0.2] at k
  exact { h.more with nw := k }
/-- Where a change is refused, the others are all in the list. -/
theorem Wn.oth {S : St} {T V : Int → Int → Int} {l : List We} {i : Int} (h : Wn S T V l i) {L : List Cl} (hd : ∀ a b, S a b ≠ none → (⟨a, b⟩ : Cl) ∈ L) {x y : Int} {lo : List Cl} (ho : IsOth S x y lo) : lo.length ≤ l.length := by
  have hs : lo ⊆ l.map (fun e => (⟨e.r, e.c⟩ : Cl)) := by
    intro c hc
    have h1 := (h.pos hd c).1 ((ho.1 c).1 hc).2
    by_cases q : ∀ e ∈ l, ¬ (e.r = c.r ∧ e.c = c.c)
    · have := (h.off c.r c.c q).1
      omega
    · obtain ⟨e, q⟩ := Classical.not_forall.1 q
      obtain ⟨he, q⟩ := Classical.not_imp.1 q
      have q := Classical.not_not.1 q
      refine List.mem_map.2 ⟨e, he, ?_⟩
      cases c
      simp only at q
      rw [q.1, q.2]
  have := sub_len lo _ ho.nodup hs
  rwa [List.length_map] at this
theorem Wn.newer {S : St} {T V : Int → Int → Int} {l : List We} {i : Int} (h : Wn S T V l i) {e f : We} (he : e ∈ l) (hf : f ∈ l) : decide (sen S f.r f.c < chg S e.r e.c) = decide (f.v < e.t) := by
  have k := h.nw ⟨e.r, e.c⟩ ⟨f.r, f.c⟩
  rw [(h.tell e he).1, (h.tell f hf).2]
  simp only at k
  exact decide_eq_decide.2 k
end Go.Proofs.Ytmajbophgdimlaa
