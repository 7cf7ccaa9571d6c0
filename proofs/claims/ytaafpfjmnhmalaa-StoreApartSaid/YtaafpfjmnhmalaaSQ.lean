/- Plain facts of a store's items, row by row: what is put, dropped, found next. No function's text is walked here. -/
import Derived.Test.YtaafpfjmnhmalaaSP
namespace Go.Proofs.Ytaafpfjmnhmalaa
open Go.RowKit
set_option linter.all false
def befI (r c : Int) (x : It) : Bool := decide (x.r < r ∨ (x.r = r ∧ x.c < c))
def aftI (r c : Int) (x : It) : Bool := decide (r < x.r ∨ (r = x.r ∧ c < x.c))
def putL (L : List It) (r c : Int) (v : Option Addr) : List It := L.filter (befI r c) ++ ⟨r, c, v⟩ :: L.filter (aftI r c)
def dropL (L : List It) (r c : Int) : List It := L.filter (befI r c) ++ L.filter (aftI r c)
def rowL (L : List It) (r : Int) : List Sp := (L.filter (fun x => decide (x.r = r))).map (fun x => ⟨x.c, x.v⟩)
def hasL (L : List It) (r c : Int) : Bool := hasS (rowL L r) c
def getL (L : List It) (r c : Int) : Option Addr := getS (rowL L r) c
theorem mem_row {L : List It} {r : Int} {s : Sp} : s ∈ rowL L r ↔ (⟨r, s.c, s.v⟩ : It) ∈ L := by
  unfold rowL
  rw [List.mem_map]
  constructor
  · rintro ⟨x, hx, rfl⟩
    have := List.mem_filter.1 hx
    have e : x.r = r := by simpa using this.2
    rw [← e]
    exact this.1
  · intro h
    exact ⟨_, List.mem_filter.2 ⟨h, by simp⟩, rfl⟩
theorem row_srt {L : List It} (h : SrtI L) (r : Int) : Srt (rowL L r) := by
  unfold Srt rowL
  rw [List.pairwise_map]
  refine List.Pairwise.imp_of_mem ?_ (List.Pairwise.filter _ h)
  intro x y hx hy hl
  have h1 : x.r = r := by simpa using (List.mem_filter.1 hx).2
  have h2 : y.r = r := by simpa using (List.mem_filter.1 hy).2
  rcases hl with hl | hl
  · omega
  · exact hl.2
theorem row_app (A B : List It) (r : Int) : rowL (A ++ B) r = rowL A r ++ rowL B r := by simp [rowL]
theorem row_cons (x : It) (B : List It) (r : Int) : rowL (x :: B) r = if x.r = r then ⟨x.c, x.v⟩ :: rowL B r else rowL B r := by
  by_cases h : x.r = r <;> simp [rowL, h]
theorem row_bef (L : List It) (r c : Int) : rowL (L.filter (befI r c)) r = loS (rowL L r) c := by
  unfold rowL loS
  rw [List.filter_filter, List.filter_map, List.filter_filter]
  congr 1
  apply List.filter_congr
  intro x _
  by_cases h : x.r = r <;> simp [befI, h]
theorem row_aft (L : List It) (r c : Int) : rowL (L.filter (aftI r c)) r = hiS (rowL L r) c := by
  unfold rowL hiS
  rw [List.filter_filter, List.filter_map, List.filter_filter]
  congr 1
  apply List.filter_congr
  intro x _
  by_cases h : x.r = r <;> simp [aftI, h, eq_comm]
theorem row_put (L : List It) (r c : Int) (v : Option Addr) : rowL (putL L r c v) r = putS (rowL L r) c v := by
  unfold putL putS
  rw [row_app, row_cons, if_pos rfl, row_bef, row_aft]
theorem row_drop (L : List It) (r c : Int) : rowL (dropL L r c) r = dropS (rowL L r) c := by
  unfold dropL dropS
  rw [row_app, row_bef, row_aft]
theorem row_bef_o (L : List It) {r r' : Int} (c : Int) (h : r' < r) : rowL (L.filter (befI r c)) r' = rowL L r' ∧ rowL (L.filter (aftI r c)) r' = [] := by
  constructor
  · unfold rowL
    rw [List.filter_filter]
    congr 1
    apply List.filter_congr
    intro x _
    by_cases q : x.r = r'
    · have : x.r < r := by omega
      simp [befI, q, h]
    · simp [q]
  · unfold rowL
    rw [List.filter_filter]
    rw [List.map_eq_nil_iff, List.filter_eq_nil_iff]
    intro x _
    by_cases q : x.r = r'
    · simp [aftI, q]; omega
    · simp [q]
theorem row_aft_o (L : List It) {r r' : Int} (c : Int) (h : r < r') : rowL (L.filter (befI r c)) r' = [] ∧ rowL (L.filter (aftI r c)) r' = rowL L r' := by
  constructor
  · unfold rowL
    rw [List.filter_filter]
    rw [List.map_eq_nil_iff, List.filter_eq_nil_iff]
    intro x _
    by_cases q : x.r = r'
    · simp [befI, q]; omega
    · simp [q]
  · unfold rowL
    rw [List.filter_filter]
    congr 1
    apply List.filter_congr
    intro x _
    by_cases q : x.r = r'
    · simp [aftI, q, h]
    · simp [q]
theorem row_put_o (L : List It) {r r' : Int} (c : Int) (v : Option Addr) (h : r' ≠ r) : rowL (putL L r c v) r' = rowL L r' := by
  unfold putL
  rw [row_app, row_cons, if_neg (by intro e; exact h e.symm)]
  rcases Int.lt_or_gt_of_ne h with q | q
  · rw [(row_bef_o L c q).1, (row_bef_o L c q).2, List.append_nil]
  · rw [(row_aft_o L c q).1, (row_aft_o L c q).2, List.nil_append]
theorem row_drop_o (L : List It) {r r' : Int} (c : Int) (h : r' ≠ r) : rowL (dropL L r c) r' = rowL L r' := by
  unfold dropL
  rw [row_app]
  rcases Int.lt_or_gt_of_ne h with q | q
  · rw [(row_bef_o L c q).1, (row_bef_o L c q).2, List.append_nil]
  · rw [(row_aft_o L c q).1, (row_aft_o L c q).2, List.nil_append]
theorem bef_lt {L : List It} {r c : Int} {x : It} (h : x ∈ L.filter (befI r c)) : x.r < r ∨ (x.r = r ∧ x.c < c) := by simpa [befI] using (List.mem_filter.1 h).2
theorem aft_gt {L : List It} {r c : Int} {x : It} (h : x ∈ L.filter (aftI r c)) : r < x.r ∨ (r = x.r ∧ c < x.c) := by simpa [aftI] using (List.mem_filter.1 h).2
theorem putL_srt {L : List It} (h : SrtI L) (r c : Int) (v : Option Addr) : SrtI (putL L r c v) := by
  unfold SrtI putL
  rw [List.pairwise_append]
  refine ⟨List.Pairwise.filter _ h, List.pairwise_cons.2 ⟨fun y hy => aft_gt hy, List.Pairwise.filter _ h⟩, fun x hx y hy => ?_⟩
  have h1 := bef_lt hx
  rcases List.mem_cons.1 hy with rfl | hy
  · exact h1
  · have h2 := aft_gt hy
    unfold ltI; omega
theorem dropL_srt {L : List It} (h : SrtI L) (r c : Int) : SrtI (dropL L r c) := by
  unfold SrtI dropL
  rw [List.pairwise_append]
  refine ⟨List.Pairwise.filter _ h, List.Pairwise.filter _ h, fun x hx y hy => ?_⟩
  have h1 := bef_lt hx
  have h2 := aft_gt hy
  unfold ltI; omega
theorem mem_put {L : List It} {r c : Int} {v : Option Addr} {x : It} (h : x ∈ putL L r c v) : x = ⟨r, c, v⟩ ∨ x ∈ L := by
  unfold putL at h
  rcases List.mem_append.1 h with h | h
  · exact .inr (List.mem_filter.1 h).1
  · rcases List.mem_cons.1 h with h | h
    · exact .inl h
    · exact .inr (List.mem_filter.1 h).1
theorem mem_drop {L : List It} {r c : Int} {x : It} (h : x ∈ dropL L r c) : x ∈ L := by
  unfold dropL at h
  rcases List.mem_append.1 h with h | h
  · exact (List.mem_filter.1 h).1
  · exact (List.mem_filter.1 h).1
/-- How many there are: those ahead, those at the cell, those behind. -/
theorem len_parts (L : List It) (r c : Int) : L.length = (L.filter (befI r c)).length + (L.filter (fun x => decide (x.r = r ∧ x.c = c))).length + (L.filter (aftI r c)).length := by
  induction L with
  | nil => rfl
  | cons x t ih =>
    by_cases h1 : x.r < r ∨ (x.r = r ∧ x.c < c)
    · have h2 : ¬ (x.r = r ∧ x.c = c) := by omega
      have h3 : ¬ (r < x.r ∨ (r = x.r ∧ c < x.c)) := by omega
      simp only [List.filter_cons, befI, aftI, decide_eq_true_eq, if_pos h1, if_neg h2, if_neg h3, List.length_cons]
      omega
    · by_cases h2 : x.r = r ∧ x.c = c
      · have h3 : ¬ (r < x.r ∨ (r = x.r ∧ c < x.c)) := by omega
        simp only [List.filter_cons, befI, aftI, decide_eq_true_eq, if_neg h1, if_pos h2, if_neg h3, List.length_cons]
        omega
      · have h3 : r < x.r ∨ (r = x.r ∧ c < x.c) := by omega
        simp only [List.filter_cons, befI, aftI, decide_eq_true_eq, if_neg h1, if_neg h2, if_pos h3, List.length_cons]
        omega
theorem len_at_row (L : List It) (r c : Int) : (L.filter (fun x => decide (x.r = r ∧ x.c = c))).length = ((rowL L r).filter (fun s => decide (s.c = c))).length := by
  unfold rowL
  rw [List.filter_map, List.filter_filter, List.length_map]
  congr 1
  apply List.filter_congr
  intro x _
  by_cases h : x.r = r <;> simp [h]
theorem len_at {L : List It} (h : SrtI L) (r c : Int) : (L.filter (fun x => decide (x.r = r ∧ x.c = c))).length = if hasL L r c = true then 1 else 0 := by
  rw [len_at_row]
  have hS := row_srt h r
  unfold hasL
  generalize rowL L r = l at *
  cases hh : hasS l c
  · have : l.filter (fun s => decide (s.c = c)) = [] := by
      rw [List.filter_eq_nil_iff]
      unfold hasS at hh
      rw [List.any_eq_false] at hh
      exact hh
    rw [this]; rfl
  · obtain ⟨v, e, _⟩ := part_yes hS hh
    have a : ∀ t : List Sp, (∀ x ∈ t, ¬ x.c = c) → t.filter (fun s => decide (s.c = c)) = [] := by
      intro t ht
      rw [List.filter_eq_nil_iff]
      intro x hx
      simpa using ht x hx
    rw [e, List.filter_append, List.filter_cons, if_pos (by simp), a _ (fun x hx => by have := lo_lt hx; omega), a _ (fun x hx => by have := hi_gt hx; omega)]
    rfl
theorem putL_len {L : List It} (h : SrtI L) (r c : Int) (v : Option Addr) : (putL L r c v).length = if hasL L r c = true then L.length else L.length + 1 := by
  have h1 := len_parts L r c
  rw [len_at h r c] at h1
  unfold putL
  rw [List.length_append, List.length_cons]
  split <;> rename_i q
  · rw [if_pos q] at h1; omega
  · rw [if_neg q] at h1; omega
theorem dropL_len {L : List It} (h : SrtI L) (r c : Int) : (dropL L r c).length = if hasL L r c = true then L.length - 1 else L.length := by
  have h1 := len_parts L r c
  rw [len_at h r c] at h1
  unfold dropL
  rw [List.length_append]
  split <;> rename_i q
  · rw [if_pos q] at h1; omega
  · rw [if_neg q] at h1; omega
theorem dropL_none {L : List It} (h : SrtI L) {r c : Int} (hh : hasL L r c = false) : dropL L r c = L := by
  have a : ∀ x ∈ L, ¬ (x.r = r ∧ x.c = c) := by
    intro x hx e
    unfold hasL hasS at hh
    rw [List.any_eq_false] at hh
    have := hh ⟨x.c, x.v⟩ (mem_row.2 (by rw [← e.1]; exact hx))
    exact this (by simpa using e.2)
  clear hh
  unfold dropL
  induction L with
  | nil => rfl
  | cons x t ih =>
    have ih' := ih (List.pairwise_cons.1 h).2 (fun y hy => a y (by simp [hy]))
    have hx := (List.pairwise_cons.1 h).1
    by_cases h1 : x.r < r ∨ (x.r = r ∧ x.c < c)
    · have h3 : ¬ (r < x.r ∨ (r = x.r ∧ c < x.c)) := by omega
      have e1 : (x :: t).filter (befI r c) = x :: t.filter (befI r c) := by rw [List.filter_cons, if_pos (by simp only [befI, decide_eq_true_eq]; exact h1)]
      have e2 : (x :: t).filter (aftI r c) = t.filter (aftI r c) := by rw [List.filter_cons, if_neg (by simp only [aftI, decide_eq_true_eq]; exact h3)]
      rw [e1, e2, List.cons_append, ih']
    · have h2 := a x (by simp)
      have h3 : r < x.r ∨ (r = x.r ∧ c < x.c) := by omega
      have e1 : (x :: t).filter (befI r c) = [] := by
        rw [List.filter_eq_nil_iff]
        intro y hy
        simp only [befI, decide_eq_true_eq]
        rcases List.mem_cons.1 hy with rfl | hy
        · omega
        · have := hx y hy; unfold ltI at this; omega
      have e2 : (x :: t).filter (aftI r c) = x :: t := by
        rw [List.filter_eq_self]
        intro y hy
        simp only [aftI, decide_eq_true_eq]
        rcases List.mem_cons.1 hy with rfl | hy
        · omega
        · have := hx y hy; unfold ltI at this; omega
      rw [e1, e2, List.nil_append]
/-- The first that fits: it fits, and no other that fits stands ahead of it. -/
theorem find_is {L : List It} (h : SrtI L) (p : It → Bool) {x : It} (hx : x ∈ L) (hp : p x = true) (hm : ∀ y ∈ L, p y = true → ¬ ltI y x) : L.find? p = some x := by
  induction L with
  | nil => cases hx
  | cons y t ih =>
    by_cases hy : p y = true
    · rcases List.mem_cons.1 hx with rfl | hx
      · simp [List.find?_cons, hy]
      · exact absurd ((List.pairwise_cons.1 h).1 x hx) (hm y (by simp) hy)
    · rcases List.mem_cons.1 hx with rfl | hx
      · exact absurd hp hy
      · rw [List.find?_cons]
        have : p y = false := by simpa using hy
        rw [this]
        exact ih (List.pairwise_cons.1 h).2 hx (fun z hz => hm z (by simp [hz]))
theorem find_no {L : List It} {p : It → Bool} (h : ∀ x ∈ L, ¬ p x = true) : L.find? p = none := List.find?_eq_none.2 h
/-- Cells that may be. -/
def InS (L : List It) : Prop := ∀ x ∈ L, 1 ≤ x.r ∧ x.r ≤ 4096 ∧ 1 ≤ x.c ∧ x.c ≤ 256
theorem InS.put {L : List It} (h : InS L) {r c : Int} {v : Option Addr} (hm : 1 ≤ r ∧ r ≤ 4096 ∧ 1 ≤ c ∧ c ≤ 256) : InS (putL L r c v) := fun x hx => by
  rcases mem_put hx with rfl | hx
  · exact hm
  · exact h x hx
theorem InS.drop {L : List It} (h : InS L) (r c : Int) : InS (dropL L r c) := fun x hx => h x (mem_drop hx)
theorem row_few {L : List It} (h : SrtI L) (hi : InS L) (r : Int) : (rowL L r).length ≤ 256 := by
  have := srt_len (rowL L r) 0 256 (row_srt h r) (fun x hx => by have := hi _ (mem_row.1 hx); simp at this; omega) (by omega)
  omega
theorem all_few {L : List It} (h : SrtI L) (hi : InS L) : L.length ≤ 1048576 := by
  have a : ∀ (n : Nat) (m : List It), SrtI m → (∀ x ∈ m, (n : Int) * 256 < (x.r - 1) * 256 + x.c ∧ 1 ≤ x.c ∧ x.c ≤ 256 ∧ x.r ≤ 4096) → m.length ≤ 1048576 := by
    intro n m hs hb
    have g : ∀ (m : List It) (k : Int), SrtI m → (∀ x ∈ m, k < (x.r - 1) * 256 + x.c ∧ 1 ≤ x.c ∧ x.c ≤ 256 ∧ x.r ≤ 4096) → k ≤ 1048576 → (m.length : Int) ≤ 1048576 - k := by
      intro m
      induction m with
      | nil => intro k _ _ hk; simp; omega
      | cons x t ih =>
        intro k hs hb hk
        have h1 := hb x (by simp)
        have := ih ((x.r - 1) * 256 + x.c) (List.pairwise_cons.1 hs).2 (fun y hy => by
          have q := (List.pairwise_cons.1 hs).1 y hy
          have q2 := hb y (by simp [hy])
          unfold ltI at q
          omega) (by omega)
        simp; omega
    have := g m 0 hs (fun x hx => by have := hb x hx; omega) (by omega)
    omega
  exact a 0 L h (fun x hx => by have := hi x hx; omega)
end Go.Proofs.Ytaafpfjmnhmalaa
