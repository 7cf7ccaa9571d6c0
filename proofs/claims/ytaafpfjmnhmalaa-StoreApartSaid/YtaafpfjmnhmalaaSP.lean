/- Plain facts of spots and items in their order: no function's text is walked here. -/
import Derived.Test.YtaafpfjmnhmalaaAB
namespace Go.Proofs.Ytaafpfjmnhmalaa
open Go.RowKit
set_option linter.all false
/-- A column and what stands there. -/
structure Sp where
  c : Int
  v : Option Addr
/-- A cell and what it has. -/
structure It where
  r : Int
  c : Int
  v : Option Addr
def Srt (l : List Sp) : Prop := l.Pairwise (fun x y => x.c < y.c)
def ltI (x y : It) : Prop := x.r < y.r ∨ (x.r = y.r ∧ x.c < y.c)
def SrtI (L : List It) : Prop := L.Pairwise ltI
def loS (l : List Sp) (c : Int) : List Sp := l.filter (fun s => decide (s.c < c))
def hiS (l : List Sp) (c : Int) : List Sp := l.filter (fun s => decide (c < s.c))
def putS (l : List Sp) (c : Int) (v : Option Addr) : List Sp := loS l c ++ ⟨c, v⟩ :: hiS l c
def dropS (l : List Sp) (c : Int) : List Sp := loS l c ++ hiS l c
def hasS (l : List Sp) (c : Int) : Bool := l.any (fun s => decide (s.c = c))
def idxS (l : List Sp) (c : Int) : Nat := (loS l c).length
def getS (l : List Sp) (c : Int) : Option Addr := match l.find? (fun s => decide (s.c = c)) with | some s => s.v | none => none
theorem lo_nil_of {l : List Sp} {c : Int} (h : ∀ x ∈ l, c ≤ x.c) : loS l c = [] := by
  unfold loS; rw [List.filter_eq_nil_iff]; intro x hx; have := h x hx; simp; omega
theorem hi_all_of {l : List Sp} {c : Int} (h : ∀ x ∈ l, c < x.c) : hiS l c = l := by
  unfold hiS; rw [List.filter_eq_self]; intro x hx; have := h x hx; simp; omega
theorem has_f_of {l : List Sp} {c : Int} (h : ∀ x ∈ l, c < x.c) : hasS l c = false := by
  unfold hasS; rw [List.any_eq_false]; intro x hx; have := h x hx; simp; omega
/-- A row in its order, parted at a column that it has not. -/
theorem part_no {l : List Sp} {c : Int} (hS : Srt l) (h : hasS l c = false) : l = loS l c ++ hiS l c := by
  induction l with
  | nil => rfl
  | cons x r ih =>
    have hx : ∀ y ∈ r, x.c < y.c := (List.pairwise_cons.1 hS).1
    have hr : Srt r := (List.pairwise_cons.1 hS).2
    have h2 : ¬ x.c = c ∧ hasS r c = false := by simpa [hasS] using h
    have ih' := ih hr h2.2
    by_cases q : x.c < c
    · have e1 : loS (x :: r) c = x :: loS r c := by simp [loS, q]
      have e2 : hiS (x :: r) c = hiS r c := by have : ¬ c < x.c := by omega
                                               simp [hiS, this]
      rw [e1, e2, List.cons_append, ← ih']
    · have hlt : c < x.c := by omega
      have e1 : loS (x :: r) c = [] := lo_nil_of (by intro y hy; rcases List.mem_cons.1 hy with rfl | hy; omega; have := hx y hy; omega)
      have e2 : hiS (x :: r) c = x :: r := hi_all_of (by intro y hy; rcases List.mem_cons.1 hy with rfl | hy; omega; have := hx y hy; omega)
      rw [e1, e2]; rfl
/-- A row in its order, parted at a column that it has. -/
theorem part_yes {l : List Sp} {c : Int} (hS : Srt l) (h : hasS l c = true) : ∃ v, l = loS l c ++ ⟨c, v⟩ :: hiS l c ∧ getS l c = v := by
  induction l with
  | nil => simp [hasS] at h
  | cons x r ih =>
    have hx : ∀ y ∈ r, x.c < y.c := (List.pairwise_cons.1 hS).1
    have hr : Srt r := (List.pairwise_cons.1 hS).2
    by_cases q : x.c < c
    · have h2 : hasS r c = true := by have : ¬ x.c = c := by omega
                                      simpa [hasS, this] using h
      obtain ⟨v, ih', ig⟩ := ih hr h2
      have e1 : loS (x :: r) c = x :: loS r c := by simp [loS, q]
      have e2 : hiS (x :: r) c = hiS r c := by have : ¬ c < x.c := by omega
                                               simp [hiS, this]
      refine ⟨v, ?_, ?_⟩
      · rw [e1, e2, List.cons_append, ← ih']
      · have : ¬ x.c = c := by omega
        rw [← ig]; simp [getS, this]
    · by_cases q2 : x.c = c
      · subst q2
        have e1 : loS (x :: r) x.c = [] := lo_nil_of (by intro y hy; rcases List.mem_cons.1 hy with rfl | hy; omega; have := hx y hy; omega)
        have e2 : hiS (x :: r) x.c = r := by
          have : hiS r x.c = r := hi_all_of hx
          rw [← this]; simp [hiS]
        refine ⟨x.v, ?_, ?_⟩
        · rw [e1, e2]; rfl
        · simp [getS]
      · have := has_f_of (l := x :: r) (c := c) (by intro y hy; rcases List.mem_cons.1 hy with rfl | hy; omega; have := hx y hy; omega)
        rw [this] at h; cases h
theorem get_no {l : List Sp} {c : Int} (h : hasS l c = false) : getS l c = none := by
  unfold getS
  have : l.find? (fun s => decide (s.c = c)) = none := by
    rw [List.find?_eq_none]; intro x hx; unfold hasS at h; rw [List.any_eq_false] at h; exact h x hx
  rw [this]
theorem lo_lt {l : List Sp} {c : Int} {x : Sp} (h : x ∈ loS l c) : x.c < c := by unfold loS at h; simpa using (List.mem_filter.1 h).2
theorem hi_gt {l : List Sp} {c : Int} {x : Sp} (h : x ∈ hiS l c) : c < x.c := by unfold hiS at h; simpa using (List.mem_filter.1 h).2
theorem lo_srt {l : List Sp} (h : Srt l) (c : Int) : Srt (loS l c) := List.Pairwise.filter _ h
theorem hi_srt {l : List Sp} (h : Srt l) (c : Int) : Srt (hiS l c) := List.Pairwise.filter _ h
theorem put_srt {l : List Sp} (h : Srt l) (c : Int) (v : Option Addr) : Srt (putS l c v) := by
  unfold Srt putS
  rw [List.pairwise_append]
  refine ⟨lo_srt h c, List.pairwise_cons.2 ⟨fun y hy => hi_gt hy, hi_srt h c⟩, fun x hx y hy => ?_⟩
  have h1 := lo_lt hx
  rcases List.mem_cons.1 hy with rfl | hy
  · exact h1
  · have := hi_gt hy; omega
/-- So many spots at most. -/
theorem srt_len : ∀ (l : List Sp) (k m : Int), Srt l → (∀ x ∈ l, k < x.c ∧ x.c ≤ m) → k ≤ m → (l.length : Int) ≤ m - k
  | [], k, m, _, _, h => by simp; omega
  | x :: r, k, m, hS, hb, h => by
    have h1 := hb x (by simp)
    have := srt_len r x.c m (List.pairwise_cons.1 hS).2 (fun y hy => ⟨(List.pairwise_cons.1 hS).1 y hy, (hb y (by simp [hy])).2⟩) (by omega)
    simp; omega
theorem idx_le (l : List Sp) (c : Int) : idxS l c ≤ l.length := List.length_filter_le _ _
theorem take_idx {l : List Sp} {c : Int} (hS : Srt l) : l.take (idxS l c) = loS l c := by
  cases h : hasS l c
  · have e := part_no hS h
    unfold idxS
    conv => lhs; arg 2; rw [e]
    exact List.take_left' rfl
  · obtain ⟨v, e, _⟩ := part_yes hS h
    unfold idxS
    conv => lhs; arg 2; rw [e]
    exact List.take_left' rfl
theorem drop_idx {l : List Sp} {c : Int} (hS : Srt l) (h : hasS l c = false) : l.drop (idxS l c) = hiS l c := by
  have e := part_no hS h
  unfold idxS
  conv => lhs; arg 2; rw [e]
  exact List.drop_left' rfl
theorem at_idx {l : List Sp} {c : Int} (hS : Srt l) (h : hasS l c = true) : l[idxS l c]? = some ⟨c, getS l c⟩ := by
  obtain ⟨v, e, g⟩ := part_yes hS h
  rw [g]
  unfold idxS
  clear g hS h
  generalize loS l c = A at *
  generalize hiS l c = B at *
  subst e
  rw [List.getElem?_append_right (Nat.le_refl _)]
  simp
theorem put_set {l : List Sp} {c : Int} (v : Option Addr) (hS : Srt l) (h : hasS l c = true) : putS l c v = l.set (idxS l c) ⟨c, v⟩ := by
  obtain ⟨u, e, g⟩ := part_yes hS h
  unfold idxS putS
  clear g hS h
  generalize loS l c = A at *
  generalize hiS l c = B at *
  subst e
  rw [List.set_append_right _ _ (Nat.le_refl _)]
  simp
theorem put_ins {l : List Sp} {c : Int} (v : Option Addr) (hS : Srt l) (h : hasS l c = false) : putS l c v = l.take (idxS l c) ++ ⟨c, v⟩ :: l.drop (idxS l c) := by
  rw [take_idx hS, drop_idx hS h]; rfl
theorem put_len_y {l : List Sp} {c : Int} (v : Option Addr) (hS : Srt l) (h : hasS l c = true) : (putS l c v).length = l.length := by rw [put_set v hS h, List.length_set]
theorem put_len_n {l : List Sp} {c : Int} (v : Option Addr) (hS : Srt l) (h : hasS l c = false) : (putS l c v).length = l.length + 1 := by
  have e := part_no hS h
  conv => rhs; rw [e]
  simp [putS]; omega
theorem drop_len_n {l : List Sp} {c : Int} (hS : Srt l) (h : hasS l c = false) : dropS l c = l := (part_no hS h).symm
theorem drop_at {l : List Sp} {c : Int} (hS : Srt l) (h : hasS l c = true) : l.take (idxS l c) ++ l.drop (idxS l c + 1) = dropS l c := by
  obtain ⟨u, e, g⟩ := part_yes hS h
  rw [take_idx hS]
  unfold idxS dropS
  congr 1
  conv => lhs; arg 2; rw [e]
  rw [List.drop_append]
  simp
theorem idx_lt {l : List Sp} {c : Int} (hS : Srt l) (h : hasS l c = true) : idxS l c < l.length := (List.getElem?_eq_some_iff.1 (at_idx hS h)).1
/-- All ahead of the place are below the column, the others are not. -/
theorem idx_of {l : List Sp} {c : Int} {i : Nat} (hS : Srt l) (hi : i ≤ l.length) (hlo : ∀ t x, t < i → l[t]? = some x → x.c < c) (hhi : ∀ t x, i ≤ t → l[t]? = some x → c ≤ x.c) : i = idxS l c := by
  have e : loS l c = l.take i := by
    have h1 : l = l.take i ++ l.drop i := (List.take_append_drop _ _).symm
    unfold loS
    conv => lhs; rw [h1]
    rw [List.filter_append]
    have a : (l.take i).filter (fun s => decide (s.c < c)) = l.take i := by
      rw [List.filter_eq_self]
      intro x hx
      obtain ⟨t, ht⟩ := List.getElem?_of_mem hx
      rw [List.getElem?_take] at ht
      split at ht
      · simpa using hlo t x ‹_› ht
      · cases ht
    have b : (l.drop i).filter (fun s => decide (s.c < c)) = [] := by
      rw [List.filter_eq_nil_iff]
      intro x hx
      obtain ⟨t, ht⟩ := List.getElem?_of_mem hx
      rw [List.getElem?_drop] at ht
      have := hhi (i + t) x (by omega) ht
      simp; omega
    rw [a, b, List.append_nil]
  unfold idxS
  rw [e, List.length_take]; omega
theorem has_at {l : List Sp} {c : Int} {x : Sp} (hS : Srt l) (h : l[idxS l c]? = some x) : hasS l c = decide (x.c = c) := by
  cases hh : hasS l c
  · have : ¬ x.c = c := by
      intro e
      unfold hasS at hh
      rw [List.any_eq_false] at hh
      exact hh x (List.mem_of_getElem? h) (by simpa using e)
    simp [this]
  · have := at_idx hS hh
    rw [h] at this
    injection this with this
    subst this
    simp
theorem has_end {l : List Sp} {c : Int} (hS : Srt l) (h : l.length ≤ idxS l c) : hasS l c = false := by
  cases hh : hasS l c
  · rfl
  · have := idx_lt hS hh; omega
end Go.Proofs.Ytaafpfjmnhmalaa
