/- Plain facts of numbering anew: who is numbered how, which looks are ahead of which changes; the bounds. No function's text is walked here. -/
import Derived.Test.YtmajbophgdimlaaKY
namespace Go.Proofs.Ytmajbophgdimlaa
open Go.RowKit
set_option linter.all false
theorem lowC_bd (S : St) (l : List Cl) (k : Int) : 0 ≤ lowC S l k ∧ lowC S l k ≤ l.length := by
  unfold lowC
  have := List.countP_le_length (p := fun c : Cl => decide (chg S c.r c.c < k)) (l := l)
  omega
/-- How many of an ordered list are not above a number, held against a place. -/
theorem lowC_at {S : St} {l : List Cl} (h : l.Pairwise (fun c d => chg S c.r c.c < chg S d.r d.c)) {k : Nat} {a : Cl} (ha : l[k]? = some a) (m : Int) : lowC S l (m + 1) ≤ k ↔ m < chg S a.r a.c := by
  obtain ⟨hk, he⟩ := List.getElem?_eq_some_iff.1 ha
  have hlt : ∀ i (hi : i < l.length), i < k → chg S l[i].r l[i].c < chg S a.r a.c := fun i hi q => by
    have := List.pairwise_iff_getElem.1 h i k hi hk q
    rwa [he] at this
  have hgt : ∀ i (hi : i < l.length), k < i → chg S a.r a.c < chg S l[i].r l[i].c := fun i hi q => by
    have := List.pairwise_iff_getElem.1 h k i hk hi q
    rwa [he] at this
  unfold lowC
  constructor
  · intro hc
    by_cases hm : m < chg S a.r a.c
    · exact hm
    · exfalso
      have h1 : (l.take (k + 1)).countP (fun c => decide (chg S c.r c.c < m + 1)) = (l.take (k + 1)).length := List.countP_eq_length.2 (fun c hcm => by
        obtain ⟨i, hi⟩ := List.mem_iff_getElem?.1 hcm
        obtain ⟨hi1, hi2⟩ := List.getElem?_eq_some_iff.1 hi
        rw [List.length_take] at hi1
        rw [List.getElem_take] at hi2
        have hi3 : i < l.length := by omega
        simp only [decide_eq_true_eq]
        by_cases hik : i = k
        · subst hik
          rw [he] at hi2
          rw [← hi2]; omega
        · have := hlt i hi3 (by omega)
          rw [hi2] at this
          omega)
      have h2 : (l.take (k + 1)).countP (fun c => decide (chg S c.r c.c < m + 1)) ≤ l.countP (fun c => decide (chg S c.r c.c < m + 1)) := List.Sublist.countP_le (List.take_sublist _ _)
      rw [h1, List.length_take] at h2
      omega
  · intro hm
    have h1 : (l.drop k).countP (fun c => decide (chg S c.r c.c < m + 1)) = 0 := List.countP_eq_zero.2 (fun c hcm => by
      obtain ⟨i, hi⟩ := List.mem_iff_getElem?.1 hcm
      rw [List.getElem?_drop] at hi
      obtain ⟨hi1, hi2⟩ := List.getElem?_eq_some_iff.1 hi
      simp only [decide_eq_true_eq]
      by_cases hik : i = 0
      · subst hik
        have hca : c = a := by rw [← hi2, ← he]; rfl
        rw [hca]; omega
      · have := hgt (k + i) hi1 (by omega)
        rw [hi2] at this
        omega)
    have h2 : l.countP (fun c => decide (chg S c.r c.c < m + 1)) = (l.take k).countP (fun c => decide (chg S c.r c.c < m + 1)) + (l.drop k).countP (fun c => decide (chg S c.r c.c < m + 1)) := by rw [← List.countP_append, List.take_append_drop]
    have h3 := List.countP_le_length (p := fun c : Cl => decide (chg S c.r c.c < m + 1)) (l := l.take k)
    rw [List.length_take] at h3
    omega
/-- All is numbered anew for a change of (x, y). -/
def anewS (S : St) (l : List Cl) : St := numP (seenA S l) l 0
theorem sen_seenA (S : St) (l : List Cl) (a b : Int) : sen (seenA S l) a b = match S a b with | none => 0 | some p => lowC S l (p.2 + 1) := by
  unfold sen seenA
  cases S a b <;> rfl
theorem chg_seenA (S : St) (l : List Cl) (a b : Int) : chg (seenA S l) a b = chg S a b := by
  unfold chg seenA
  cases S a b <;> rfl
theorem anew_in {S : St} {x y : Int} {l : List Cl} (h : IsOth S x y l) {k : Nat} {c : Cl} (hc : l[k]? = some c) : anewS S l c.r c.c = some ((k : Int) + 1, sen (seenA S l) c.r c.c) := by
  unfold anewS
  rw [numP_in l _ 0 h.nodup k c hc, Int.zero_add]
theorem anew_out {S : St} {l : List Cl} {c : Cl} (hc : c ∉ l) : anewS S l c.r c.c = seenA S l c.r c.c := numP_out l _ 0 c hc
theorem sen_of {S : St} {a b : Int} {p : Int × Int} (h : S a b = some p) : sen S a b = p.2 := by unfold sen; rw [h]
theorem sen_anew {S : St} {x y : Int} {l : List Cl} (h : IsOth S x y l) (c : Cl) : sen (anewS S l) c.r c.c = sen (seenA S l) c.r c.c := by
  by_cases hc : c ∈ l
  · obtain ⟨k, hk⟩ := List.mem_iff_getElem?.1 hc
    rw [sen_of (anew_in h hk)]
  · unfold sen
    rw [anew_out hc]
theorem sen_anew_bd {S : St} {x y : Int} {l : List Cl} (h : IsOth S x y l) (c : Cl) : 0 ≤ sen (anewS S l) c.r c.c ∧ sen (anewS S l) c.r c.c ≤ l.length := by
  rw [sen_anew h, sen_seenA]
  cases S c.r c.c with
  | none => exact ⟨by simp, by simp⟩
  | some p => exact lowC_bd S l _
/-- A change is ahead of a look as it was. -/
theorem anew_newer {S : St} {x y : Int} {l : List Cl} (h : IsOth S x y l) {k : Nat} {a : Cl} (ha : l[k]? = some a) (b : Cl) : sen (anewS S l) b.r b.c < (k : Int) + 1 ↔ sen S b.r b.c < chg S a.r a.c := by
  rw [sen_anew h, sen_seenA]
  have hpos := ((h.1 a).1 (List.mem_of_getElem? ha)).2
  unfold sen
  cases e : S b.r b.c with
  | none => simp only; omega
  | some p => simp only; rw [← lowC_at h.2 ha p.2]; omega
theorem Low.anew {most last : Int} {S : St} (h : Low most last S) {x y : Int} {l : List Cl} (hl : IsOth S x y l) (hm : (l.length : Int) + 1 < most) : Low most ((l.length : Int) + 1) (upS (anewS S l) x y (some ((l.length : Int) + 1, sen (anewS S l) x y))) := by
  have hsb := fun c => sen_anew_bd hl c
  have hin : ∀ c : Cl, ¬ (c.r = x ∧ c.c = y) → (chg (anewS S l) c.r c.c = 0 ∧ c ∉ l) ∨ ∃ k : Nat, l[k]? = some c ∧ chg (anewS S l) c.r c.c = (k : Int) + 1 := fun c t => by
    by_cases hc : c ∈ l
    · obtain ⟨k, hk⟩ := List.mem_iff_getElem?.1 hc
      exact .inr ⟨k, hk, by unfold chg; rw [anew_in hl hk]⟩
    · refine .inl ⟨?_, hc⟩
      have : ¬ 0 < chg S c.r c.c := fun q => hc ((hl.1 c).2 ⟨t, q⟩)
      have h2 := (h.bd c.r c.c).1
      have h3 : chg (anewS S l) c.r c.c = chg S c.r c.c := by
        rw [← chg_seenA S l]
        unfold chg
        rw [anew_out hc]
      omega
  have hkl : ∀ (k : Nat) (c : Cl), l[k]? = some c → k < l.length := fun k c q => (List.getElem?_eq_some_iff.1 q).1
  refine ⟨by omega, hm, fun a b p e => ?_, fun c d q1 q2 => ?_⟩
  · by_cases t : a = x ∧ b = y
    · rw [t.1, t.2, upS_same] at e
      injection e with e
      subst e
      have := hsb ⟨x, y⟩
      exact ⟨by simp only; omega, Int.le_refl _, this.1, by simp only at *; omega⟩
    · rw [upS_other t] at e
      have hs := hsb ⟨a, b⟩
      have hsp : sen (anewS S l) a b = p.2 := by unfold sen; rw [e]
      have hcp : chg (anewS S l) a b = p.1 := by unfold chg; rw [e]
      simp only at hs
      rw [hsp] at hs
      rcases hin ⟨a, b⟩ t with ⟨q, _⟩ | ⟨k, hk, q⟩
      · simp only at q
        rw [hcp] at q
        omega
      · have := hkl k _ hk
        simp only at q
        rw [hcp] at q
        omega
  · rw [chg_up] at q1 q2
    rw [chg_up] at q2
    by_cases t : c.r = x ∧ c.c = y
    · by_cases u : d.r = x ∧ d.c = y
      · rw [← Cl.eta c, ← Cl.eta d, t.1, t.2, u.1, u.2]
      · rw [if_pos t, if_neg u] at q2
        rcases hin d u with ⟨q, _⟩ | ⟨k, hk, q⟩
        · simp only at q2; omega
        · have := hkl k _ hk
          simp only at q2; omega
    · rw [if_neg t] at q1 q2
      rcases hin c t with ⟨q, _⟩ | ⟨k, hk, q⟩
      · omega
      · have := hkl k _ hk
        by_cases u : d.r = x ∧ d.c = y
        · rw [if_pos u] at q2
          simp only at q2; omega
        · rw [if_neg u] at q2
          rcases hin d u with ⟨r, _⟩ | ⟨j, hj, r⟩
          · omega
          · have hjk : j = k := by omega
            rw [hjk, hk] at hj
            injection hj
end Go.Proofs.Ytmajbophgdimlaa
