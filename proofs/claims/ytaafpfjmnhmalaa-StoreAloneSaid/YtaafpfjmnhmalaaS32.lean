/- Plain facts of puts and drops at one cell, seen from another; pointers compared. -/
import Derived.Test.YtaafpfjmnhmalaaS31
namespace Go.Proofs.Ytaafpfjmnhmalaa
open Go.RowKit
set_option linter.all false
theorem find_filter {α : Type} {p q : α → Bool} (h : ∀ x, q x = true → p x = true) : ∀ l : List α, (l.filter p).find? q = l.find? q
  | [] => rfl
  | x :: t => by
    have ih := find_filter h t
    rw [List.filter_cons]
    split
    · rw [List.find?_cons, List.find?_cons, ih]
    · rw [ih, List.find?_cons]
      cases hq : q x
      · rfl
      · exact absurd (h x hq) (by assumption)
theorem find_app {α : Type} (p : α → Bool) (a b : List α) : (a ++ b).find? p = (a.find? p).or (b.find? p) := List.find?_append
theorem find_out {α : Type} {p q : α → Bool} (h : ∀ x, q x = true → p x = false) (l : List α) : (l.filter p).find? q = none := by
  rw [List.find?_eq_none]
  intro x hx hq
  have h1 := (List.mem_filter.1 hx).2
  rw [h x hq] at h1
  cases h1
theorem gets_put_o (l : List Sp) (c : Int) (v : Option Addr) (c' : Int) (h : c' ≠ c) : (putS l c v).find? (fun s => decide (s.c = c')) = l.find? (fun s => decide (s.c = c')) := by
  unfold putS loS hiS
  rw [find_app, List.find?_cons, show decide ((⟨c, v⟩ : Sp).c = c') = false from decide_eq_false (fun q => h q.symm)]
  rcases Int.lt_or_gt_of_ne h with q | q
  · rw [find_filter (fun x hx => by have := of_decide_eq_true hx; exact decide_eq_true (by omega)), find_out (fun x hx => by have := of_decide_eq_true hx; exact decide_eq_false (by omega))]
    simp
  · rw [find_out (p := fun s : Sp => decide (s.c < c)) (fun x hx => by have := of_decide_eq_true hx; exact decide_eq_false (by omega)), find_filter (fun x hx => by have := of_decide_eq_true hx; exact decide_eq_true (by omega))]
    simp
theorem gets_drop_o (l : List Sp) (c c' : Int) (h : c' ≠ c) : (dropS l c).find? (fun s => decide (s.c = c')) = l.find? (fun s => decide (s.c = c')) := by
  unfold dropS loS hiS
  rw [find_app]
  rcases Int.lt_or_gt_of_ne h with q | q
  · rw [find_filter (fun x hx => by have := of_decide_eq_true hx; exact decide_eq_true (by omega)), find_out (fun x hx => by have := of_decide_eq_true hx; exact decide_eq_false (by omega))]
    simp
  · rw [find_out (p := fun s : Sp => decide (s.c < c)) (fun x hx => by have := of_decide_eq_true hx; exact decide_eq_false (by omega)), find_filter (fun x hx => by have := of_decide_eq_true hx; exact decide_eq_true (by omega))]
    simp
/-- What another cell has is as it was. -/
theorem get_put_o (L : List It) (r c : Int) (v : Option Addr) {r' c' : Int} (h : ¬ (r' = r ∧ c' = c)) : getL (putL L r c v) r' c' = getL L r' c' := by
  unfold getL
  by_cases e : r' = r
  · subst e
    rw [row_put]
    unfold getS
    rw [gets_put_o _ _ _ _ (fun q => h ⟨rfl, q⟩)]
  · rw [row_put_o L c v e]
theorem get_drop_o (L : List It) (r c : Int) {r' c' : Int} (h : ¬ (r' = r ∧ c' = c)) : getL (dropL L r c) r' c' = getL L r' c' := by
  unfold getL
  by_cases e : r' = r
  · subst e
    rw [row_drop]
    unfold getS
    rw [gets_drop_o _ _ _ (fun q => h ⟨rfl, q⟩)]
  · rw [row_drop_o L c e]
theorem get_put_s (L : List It) (r c : Int) (v : Option Addr) : getL (putL L r c v) r c = v := by
  unfold getL
  rw [row_put]
  unfold getS putS loS hiS
  rw [find_app, find_out (fun x hx => by have := of_decide_eq_true hx; exact decide_eq_false (by omega)), List.find?_cons, show decide ((⟨c, v⟩ : Sp).c = c) = true from decide_eq_true rfl]
  rfl
theorem get_drop_s (L : List It) (r c : Int) : getL (dropL L r c) r c = none := by
  unfold getL
  rw [row_drop]
  unfold getS dropS loS hiS
  rw [find_app, find_out (fun x hx => by have := of_decide_eq_true hx; exact decide_eq_false (by omega)), find_out (fun x hx => by have := of_decide_eq_true hx; exact decide_eq_false (by omega))]
  rfl
/-- Whether a cell has one, by what is got. -/
theorem has_get {k : Bx} {R : List Im} (hs : SrtR R) (hr : rngR R) (r c : Int) : hasL (itL k R) r c = (getL (itL k R) r c).isSome := by
  unfold hasL
  cases h : hasS (rowL (itL k R) r) c
  · rw [show getL (itL k R) r c = none from get_no h]; rfl
  · unfold hasS at h
    rw [List.any_eq_true] at h
    obtain ⟨s, hs1, hs2⟩ := h
    have e := of_decide_eq_true hs2
    obtain ⟨m, hm, he⟩ := List.mem_map.1 (mem_row.1 hs1)
    have := get_mem' (it_srt (k := k) hs) (List.mem_map.2 ⟨m, hm, rfl⟩)
    dsimp only at this
    have e1 : m.r = r := congrArg It.r he
    have e2 : m.c = s.c := congrArg It.c he
    rw [e1, e2, e] at this
    rw [this]
    rfl
end Go.Proofs.Ytaafpfjmnhmalaa
