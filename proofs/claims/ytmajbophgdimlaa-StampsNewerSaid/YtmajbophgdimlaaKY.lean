/- Plain facts of numbering anew: there is the list of the others; what is numbered how; the bounds are kept. No function's text is walked here. -/
import Derived.Test.YtmajbophgdimlaaKX
namespace Go.Proofs.Ytmajbophgdimlaa
open Go.RowKit
set_option linter.all false
theorem Cl.eta (c : Cl) : (⟨c.r, c.c⟩ : Cl) = c := rfl
theorem numP_out : ∀ (l : List Cl) (S : St) (i : Int) (c : Cl), c ∉ l → numP S l i c.r c.c = S c.r c.c
  | [], S, i, c, _ => rfl
  | d :: l, S, i, c, h => by
    unfold numP
    rw [numP_out l _ _ c (fun q => h (List.mem_cons_of_mem _ q)), upS_other (fun t => h (by
      have : c = d := by rw [← Cl.eta c, ← Cl.eta d, t.1, t.2]
      rw [this]; exact List.mem_cons_self ..))]
theorem numP_in : ∀ (l : List Cl) (S : St) (i : Int), l.Nodup → ∀ (k : Nat) (c : Cl), l[k]? = some c → numP S l i c.r c.c = some (i + k + 1, sen S c.r c.c)
  | [], S, i, _, k, c, h => by simp at h
  | d :: l, S, i, hn, k, c, h => by
    rw [List.nodup_cons] at hn
    unfold numP
    cases k with
    | zero =>
      have hd : d = c := by simpa using h
      subst hd
      rw [numP_out l _ _ d hn.1, upS_same]
      simp
    | succ j =>
      have hj : l[j]? = some c := by simpa using h
      have hne : ¬ (c.r = d.r ∧ c.c = d.c) := fun t => hn.1 (by
        have : c = d := by rw [← Cl.eta c, ← Cl.eta d, t.1, t.2]
        rw [← this]; exact List.mem_of_getElem? hj)
      rw [numP_in l _ _ hn.2 j c hj]
      have : sen (upS S d.r d.c (some (i + 1, sen S d.r d.c))) c.r c.c = sen S c.r c.c := by unfold sen; rw [upS_other hne]
      rw [this]
      congr 2
      push_cast
      omega
theorem IsOth.nodup {S : St} {x y : Int} {l : List Cl} (h : IsOth S x y l) : l.Nodup := h.2.imp (fun {a b} q e => by rw [e] at q; omega)
theorem chg_some {S : St} {a b : Int} (h : 0 < chg S a b) : ∃ p, S a b = some p := by
  unfold chg at h
  cases e : S a b with
  | none => rw [e] at h; cases h
  | some p => exact ⟨p, rfl⟩
/-- All that have stamps, as a list. -/
theorem dom_list {S : St} {M : Nat} (hf : ∀ K : List Cl, K.Nodup → (∀ k ∈ K, S k.r k.c ≠ none) → K.length ≤ M) : ∃ K : List Cl, K.Nodup ∧ ∀ c : Cl, c ∈ K ↔ S c.r c.c ≠ none := by
  have key : ∀ d (K : List Cl), K.Nodup → (∀ k ∈ K, S k.r k.c ≠ none) → M - K.length ≤ d → ∃ K : List Cl, K.Nodup ∧ ∀ c : Cl, c ∈ K ↔ S c.r c.c ≠ none := by
    intro d
    induction d with
    | zero =>
      intro K h1 h2 h3
      refine ⟨K, h1, fun c => ⟨h2 c, fun hc => ?_⟩⟩
      by_cases hm : c ∈ K
      · exact hm
      · have := hf (c :: K) (List.nodup_cons.2 ⟨hm, h1⟩) (fun k hk => by
          rcases List.mem_cons.1 hk with rfl | q
          · exact hc
          · exact h2 k q)
        rw [List.length_cons] at this
        omega
    | succ d ih =>
      intro K h1 h2 h3
      by_cases hall : ∀ c : Cl, S c.r c.c ≠ none → c ∈ K
      · exact ⟨K, h1, fun c => ⟨h2 c, hall c⟩⟩
      · obtain ⟨c, hc⟩ := Classical.not_forall.1 hall
        obtain ⟨hc1, hc2⟩ := Classical.not_imp.1 hc
        exact ih (c :: K) (List.nodup_cons.2 ⟨hc2, h1⟩) (fun k hk => by
          rcases List.mem_cons.1 hk with rfl | q
          · exact hc1
          · exact h2 k q) (by rw [List.length_cons]; omega)
  exact key M [] List.nodup_nil (fun k hk => by cases hk) (by simp)
theorem isOth_ex {S : St} {M : Nat} (x y : Int) (hf : ∀ K : List Cl, K.Nodup → (∀ k ∈ K, S k.r k.c ≠ none) → K.length ≤ M) (hD : ∀ c d : Cl, 0 < chg S c.r c.c → chg S c.r c.c = chg S d.r d.c → c = d) : ∃ l, IsOth S x y l ∧ l.length ≤ M := by
  obtain ⟨K, h1, h2⟩ := dom_list hf
  refine ⟨(othL S x y K).mergeSort (fun c d => decide (chg S c.r c.c ≤ chg S d.r d.c)), ⟨fun c => ?_, ?_⟩, ?_⟩
  · rw [(List.mergeSort_perm _ _).mem_iff, othL_mem]
    refine ⟨fun q => q.2, fun q => ⟨?_, q⟩⟩
    obtain ⟨p, e⟩ := chg_some q.2
    exact (h2 c).2 (by rw [e]; simp)
  · have hp := List.pairwise_mergeSort (le := fun c d : Cl => decide (chg S c.r c.c ≤ chg S d.r d.c)) (fun a b c q1 q2 => by simp only [decide_eq_true_eq] at *; omega) (fun a b => by simp only [Bool.or_eq_true, decide_eq_true_eq]; omega) (othL S x y K)
    have hn : ((othL S x y K).mergeSort (fun c d => decide (chg S c.r c.c ≤ chg S d.r d.c))).Nodup := (List.mergeSort_perm _ _).nodup_iff.2 (h1.filter _)
    have hm : ∀ c ∈ (othL S x y K).mergeSort (fun c d => decide (chg S c.r c.c ≤ chg S d.r d.c)), 0 < chg S c.r c.c := fun c hc => (othL_mem.1 ((List.mergeSort_perm _ _).mem_iff.1 hc)).2.2
    refine (List.Pairwise.and hp hn).imp_of_mem (fun {a b} ha hb q => ?_)
    have q1 := of_decide_eq_true q.1
    have q2 : chg S a.r a.c ≠ chg S b.r b.c := fun e => q.2 (hD a b (hm a ha) e)
    omega
  · rw [List.length_mergeSort]
    refine Nat.le_trans (List.length_filter_le _ _) (hf K h1 (fun k hk => (h2 k).1 hk))
/-- Every stamp is at most the last number, and no two that changed have one number. -/
structure Low (most last : Int) (S : St) : Prop where
  lo : 0 ≤ last
  hi : last < most
  st : ∀ a b p, S a b = some p → 0 ≤ p.1 ∧ p.1 ≤ last ∧ 0 ≤ p.2 ∧ p.2 ≤ last
  dis : ∀ c d : Cl, 0 < chg S c.r c.c → chg S c.r c.c = chg S d.r d.c → c = d
theorem Low.bd {most last : Int} {S : St} (h : Low most last S) (a b : Int) : 0 ≤ chg S a b ∧ chg S a b ≤ last ∧ 0 ≤ sen S a b ∧ sen S a b ≤ last := by
  unfold chg sen
  cases e : S a b with
  | none => exact ⟨by simp, h.lo, by simp, h.lo⟩
  | some p => exact h.st a b p e
theorem chg_up {S : St} {x y : Int} {p : Int × Int} (a b : Int) : chg (upS S x y (some p)) a b = if a = x ∧ b = y then p.1 else chg S a b := by
  unfold chg
  by_cases t : a = x ∧ b = y
  · rw [if_pos t, t.1, t.2, upS_same]
  · rw [if_neg t, upS_other t]
theorem sen_up {S : St} {x y : Int} {p : Int × Int} (a b : Int) : sen (upS S x y (some p)) a b = if a = x ∧ b = y then p.2 else sen S a b := by
  unfold sen
  by_cases t : a = x ∧ b = y
  · rw [if_pos t, t.1, t.2, upS_same]
  · rw [if_neg t, upS_other t]
theorem Low.see {most last : Int} {S : St} (h : Low most last S) (x y : Int) : Low most last (seeS S last x y) := by
  unfold seeS
  split
  · have hb := h.bd x y
    have hc : ∀ a b, chg (upS S x y (some (chg S x y, last))) a b = chg S a b := fun a b => by
      rw [chg_up]
      split
      · rename_i t; rw [t.1, t.2]
      · rfl
    refine ⟨h.lo, h.hi, fun a b p e => ?_, fun c d q1 q2 => ?_⟩
    · by_cases t : a = x ∧ b = y
      · rw [t.1, t.2, upS_same] at e
        injection e with e
        subst e
        exact ⟨hb.1, hb.2.1, h.lo, Int.le_refl _⟩
      · rw [upS_other t] at e
        exact h.st a b p e
    · rw [hc] at q1
      rw [hc, hc] at q2
      exact h.dis c d q1 q2
  · exact h
theorem Low.drop {most last : Int} {S : St} (h : Low most last S) (x y : Int) : Low most last (upS S x y none) := by
  have hc : ∀ a b, 0 < chg (upS S x y none) a b → chg (upS S x y none) a b = chg S a b := fun a b q => by
    unfold chg at *
    by_cases t : a = x ∧ b = y
    · rw [t.1, t.2, upS_same] at q; cases q
    · rw [upS_other t]
  refine ⟨h.lo, h.hi, fun a b p e => ?_, fun c d q1 q2 => ?_⟩
  · by_cases t : a = x ∧ b = y
    · rw [t.1, t.2, upS_same] at e; cases e
    · rw [upS_other t] at e; exact h.st a b p e
  · have q3 := q1
    rw [q2] at q3
    rw [hc _ _ q1, hc _ _ q3] at q2
    rw [hc _ _ q1] at q1
    exact h.dis c d q1 q2
theorem Low.put {most last : Int} {S : St} (h : Low most last S) (x y : Int) (hl : last + 1 < most) : Low most (last + 1) (upS S x y (some (last + 1, sen S x y))) := by
  have hb := h.bd x y
  refine ⟨by have := h.lo; omega, hl, fun a b p e => ?_, fun c d q1 q2 => ?_⟩
  · by_cases t : a = x ∧ b = y
    · rw [t.1, t.2, upS_same] at e
      injection e with e
      subst e
      have := h.lo
      exact ⟨by omega, Int.le_refl _, hb.2.2.1, by omega⟩
    · rw [upS_other t] at e
      have := h.st a b p e
      exact ⟨this.1, by omega, this.2.2.1, by omega⟩
  · rw [chg_up] at q1 q2
    rw [chg_up] at q2
    by_cases t : c.r = x ∧ c.c = y
    · by_cases u : d.r = x ∧ d.c = y
      · rw [← Cl.eta c, ← Cl.eta d, t.1, t.2, u.1, u.2]
      · rw [if_pos t, if_neg u] at q2
        have := (h.bd d.r d.c).2.1
        simp only at q2
        omega
    · rw [if_neg t] at q1 q2
      by_cases u : d.r = x ∧ d.c = y
      · rw [if_pos u] at q2
        have := (h.bd c.r c.c).2.1
        simp only at q2
        omega
      · rw [if_neg u] at q2
        exact h.dis c d q1 q2
end Go.Proofs.Ytmajbophgdimlaa
