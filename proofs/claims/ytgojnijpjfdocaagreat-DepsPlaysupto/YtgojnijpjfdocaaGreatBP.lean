/- Looking up in a list by how each stands to what is looked for. No function's text is walked here. -/
import Derived.Test.YtgojnijpjfdocaaGreatBE
namespace Go.Proofs.YtgojnijpjfdocaaGreat
open Go.RowKit
set_option linter.all false
section
variable {α : Type} {f : α → Int} {l : List α}
def loF (f : α → Int) (l : List α) : List α := l.filter (fun x => decide (f x < 0))
def hiF (f : α → Int) (l : List α) : List α := l.filter (fun x => decide (0 < f x))
def geF (f : α → Int) (l : List α) : List α := l.filter (fun x => decide (0 ≤ f x))
def idxF (f : α → Int) (l : List α) : Nat := (loF f l).length
def hasF (f : α → Int) (l : List α) : Bool := l.any (fun x => decide (f x = 0))
def MonoF (f : α → Int) (l : List α) : Prop := l.Pairwise (fun x y => f y ≤ 0 → f x < 0)
theorem MonoF.low (h : MonoF f l) {i j : Nat} {x y : α} (hx : l[i]? = some x) (hy : l[j]? = some y) (hij : i < j) (hf : f y ≤ 0) : f x < 0 := by
  obtain ⟨l1, rfl⟩ := List.getElem?_eq_some_iff.1 hx
  obtain ⟨l2, rfl⟩ := List.getElem?_eq_some_iff.1 hy
  exact List.pairwise_iff_getElem.1 h i j l1 l2 hij hf
theorem loF_next (hS : MonoF f l) {h : Nat} {x : α} (hx : l[h]? = some x) (hc : f x < 0) : ∀ t y, t < h + 1 → l[t]? = some y → f y < 0 := by
  intro t y ht hy
  by_cases e : t = h
  · subst e; rw [hx] at hy; injection hy with hy; subst hy; exact hc
  · exact hS.low hy hx (by omega) (by omega)
theorem hiF_next (hS : MonoF f l) {h : Nat} {x : α} (hx : l[h]? = some x) (hc : 0 ≤ f x) : ∀ t y, h ≤ t → l[t]? = some y → 0 ≤ f y := by
  intro t y ht hy
  by_cases e : t = h
  · subst e; rw [hx] at hy; injection hy with hy; subst hy; exact hc
  · have := hS.low hx hy (by omega)
    omega
/-- The list is what is below, then the rest. -/
theorem parts : ∀ {l : List α}, MonoF f l → l = loF f l ++ geF f l
  | [], _ => rfl
  | x :: t, h => by
    have ih := parts (List.pairwise_cons.1 h).2
    have hx := (List.pairwise_cons.1 h).1
    by_cases h1 : f x < 0
    · have e1 : loF f (x :: t) = x :: loF f t := by unfold loF; rw [List.filter_cons, if_pos (by simpa using h1)]
      have e2 : geF f (x :: t) = geF f t := by unfold geF; rw [List.filter_cons, if_neg (by simp; omega)]
      rw [e1, e2, List.cons_append, ← ih]
    · have e1 : loF f (x :: t) = [] := by
        unfold loF
        rw [List.filter_eq_nil_iff]
        intro y hy
        rcases List.mem_cons.1 hy with rfl | hy
        · simpa using h1
        · have := hx y hy; simp; omega
      have e2 : geF f (x :: t) = x :: t := by
        unfold geF
        rw [List.filter_eq_self]
        intro y hy
        rcases List.mem_cons.1 hy with rfl | hy
        · simp; omega
        · have := hx y hy; simp; omega
      rw [e1, e2, List.nil_append]
theorem idxF_le (l : List α) : idxF f l ≤ l.length := List.length_filter_le _ _
theorem take_idx (h : MonoF f l) : l.take (idxF f l) = loF f l := by
  have e := parts h
  unfold idxF
  conv => lhs; arg 2; rw [e]
  exact List.take_left
theorem drop_idx (h : MonoF f l) : l.drop (idxF f l) = geF f l := by
  have e := parts h
  unfold idxF
  conv => lhs; arg 2; rw [e]
  exact List.drop_left
theorem idxF_of (hS : MonoF f l) {i : Nat} (hi : i ≤ l.length) (h1 : ∀ t x, t < i → l[t]? = some x → f x < 0) (h2 : ∀ t x, i ≤ t → l[t]? = some x → 0 ≤ f x) : i = idxF f l := by
  have e1 : loF f l = l.take i := by
    unfold loF
    conv => lhs; rw [← List.take_append_drop i l]
    rw [List.filter_append]
    have a1 : (l.take i).filter (fun x => decide (f x < 0)) = l.take i := by
      rw [List.filter_eq_self]
      intro x hx
      obtain ⟨t, ht⟩ := List.getElem?_of_mem hx
      rw [List.getElem?_take] at ht
      split at ht
      · simpa using h1 t x (by assumption) ht
      · cases ht
    have a2 : (l.drop i).filter (fun x => decide (f x < 0)) = [] := by
      rw [List.filter_eq_nil_iff]
      intro x hx
      obtain ⟨t, ht⟩ := List.getElem?_of_mem hx
      rw [List.getElem?_drop] at ht
      have := h2 (i + t) x (by omega) ht
      simp; omega
    rw [a1, a2, List.append_nil]
  unfold idxF
  rw [e1, List.length_take, Nat.min_eq_left hi]
theorem idx_has (hS : MonoF f l) {x : α} (hx : l[idxF f l]? = some x) : hasF f l = decide (f x = 0) := by
  unfold hasF
  rw [Bool.eq_iff_iff, List.any_eq_true, decide_eq_true_iff]
  constructor
  · rintro ⟨y, hy, h0⟩
    have h0 := of_decide_eq_true h0
    obtain ⟨j, hj⟩ := List.getElem?_of_mem hy
    have hlt : ¬ j < idxF f l := fun q => by
      have e : y ∈ loF f l := by rw [← take_idx hS]; exact List.mem_of_getElem? (i := j) (by rw [List.getElem?_take, if_pos q]; exact hj)
      have := of_decide_eq_true (List.mem_filter.1 e).2
      omega
    have hge : 0 ≤ f x := by
      have e : x ∈ geF f l := by rw [← drop_idx hS]; exact List.mem_of_getElem? (i := 0) (by rw [List.getElem?_drop, Nat.add_zero]; exact hx)
      exact of_decide_eq_true (List.mem_filter.1 e).2
    by_cases e : j = idxF f l
    · subst e; rw [hx] at hj; injection hj with hj; subst hj; exact h0
    · have := hS.low hx hj (by omega) (by omega); omega
  · intro h0
    exact ⟨x, List.mem_of_getElem? hx, by simpa using h0⟩
theorem idx_end (hS : MonoF f l) (h : ¬ idxF f l < l.length) : hasF f l = false := by
  unfold hasF
  rw [List.any_eq_false]
  intro y hy h0
  have h0 := of_decide_eq_true h0
  have hl := idxF_le (f := f) l
  have e := take_idx hS
  rw [List.take_of_length_le (by omega)] at e
  rw [e] at hy
  have := of_decide_eq_true (List.mem_filter.1 hy).2
  omega
/-- What is there, is at its place. -/
theorem has_idx (hS : MonoF f l) (h : hasF f l = true) : ∃ x, l[idxF f l]? = some x ∧ f x = 0 ∧ idxF f l < l.length := by
  by_cases hlt : idxF f l < l.length
  · have hx : l[idxF f l]? = some l[idxF f l] := List.getElem?_eq_getElem hlt
    have := idx_has hS hx
    rw [h] at this
    exact ⟨_, hx, of_decide_eq_true this.symm, hlt⟩
  · rw [idx_end hS hlt] at h; cases h
/-- Without what is at the place. -/
theorem drop_has (hS : MonoF f l) (h : hasF f l = true) : l.take (idxF f l) ++ l.drop (idxF f l + 1) = loF f l ++ hiF f l := by
  obtain ⟨x, hx, h0, hlt⟩ := has_idx hS h
  rw [take_idx hS]
  congr 1
  have e : geF f l = x :: l.drop (idxF f l + 1) := by
    rw [← drop_idx hS]
    obtain ⟨h1, rfl⟩ := List.getElem?_eq_some_iff.1 hx
    exact List.drop_eq_getElem_cons h1
  have e2 : hiF f l = hiF f (geF f l) := by
    unfold hiF geF
    rw [List.filter_filter]
    apply List.filter_congr
    intro y _
    rw [Bool.eq_iff_iff]; simp; omega
  have hp : MonoF f (geF f l) := List.Pairwise.filter _ hS
  rw [e] at hp
  rw [e2, e]
  unfold hiF
  rw [List.filter_cons, if_neg (by simp; omega)]
  symm
  rw [List.filter_eq_self]
  intro y hy
  have := (List.pairwise_cons.1 hp).1 y hy
  simp; omega
theorem has_no (h : hasF f l = false) : geF f l = hiF f l := by
  unfold geF hiF
  apply List.filter_congr
  intro y hy
  unfold hasF at h
  rw [List.any_eq_false] at h
  have := h y hy
  simp at this
  rw [Bool.eq_iff_iff]; simp; omega
end
end Go.Proofs.YtgojnijpjfdocaaGreat
