/- What get, join, leave, add, remove make of the bands in memory. -/
import Derived.Test.YtgojnijpjfdocaaGreatBQ
namespace Go.Proofs.YtgojnijpjfdocaaGreat
open Go.RowKit
set_option linter.all false
def upd {α : Type} (n : Int → Int → α) (r c : Int) (x : α) : Int → Int → α := fun r' c' => if r' = r ∧ c' = c then x else n r' c'
theorem upd_s {α : Type} (n : Int → Int → α) (r c : Int) (x : α) : upd n r c x r c = x := by simp [upd]
theorem upd_o {α : Type} (n : Int → Int → α) {r c r' c' : Int} (x : α) (h : ¬ (r' = r ∧ c' = c)) : upd n r c x r' c' = n r' c' := by simp [upd, h]
def updN (NN : Nat → Int → Int → Nat) (j : Nat) (r c : Int) (x : Nat) : Nat → Int → Int → Nat := fun j' => if j' = j then upd (NN j) r c x else NN j'
theorem CrowdOK.ext {D D' : Nat → Option Tag} {K : KF} {l : List Seat} {n : Int → Int → Nat} (h : CrowdOK D K l n) (hD : ∀ b t, D b = some t → D' b = some t) : CrowdOK D' K l n := by
  have hs : ∀ s ∈ l, rOf D' s.g = rOf D s.g ∧ cOf D' s.g = cOf D s.g := fun s hs => by
    obtain ⟨r, c, k, e1, e2, e3, _⟩ := h.who s hs
    rw [(rOf_of e3).1, (rOf_of e3).2, (rOf_of (hD _ _ e3)).1, (rOf_of (hD _ _ e3)).2]
    exact ⟨rfl, rfl⟩
  refine ⟨List.Pairwise.imp_of_mem ?_ h.srt, fun s q => ?_, fun r c q => ?_⟩
  · intro x y hx hy hxy
    unfold ltS at hxy ⊢
    rw [(hs x hx).1, (hs x hx).2, (hs y hy).1, (hs y hy).2]
    exact hxy
  · obtain ⟨r, c, k, e1, e2, e3, e4⟩ := h.who s q
    exact ⟨r, c, k, e1, e2, hD _ _ e3, e4⟩
  · obtain ⟨s, q1, q2⟩ := h.all r c q
    exact ⟨s, q1, hD _ _ q2⟩
theorem CrowdOK.re {D : Nat → Option Tag} {K K' : KF} {l : List Seat} {n : Int → Int → Nat} (h : CrowdOK D K l n) (hK : ∀ r c k, K r c = some k → 0 < n r c → ∃ k', K' r c = some k' ∧ k'.g = k.g) : CrowdOK D K' l n :=
  ⟨h.srt, fun s q => by
    obtain ⟨r, c, k, e1, e2, e3, e4, e5⟩ := h.who s q
    obtain ⟨k', f1, f2⟩ := hK r c k e1 e5
    exact ⟨r, c, k', f1, f2.trans e2, e3, e4, e5⟩, h.all⟩
/-- The seat of a cell. -/
theorem CrowdOK.at {D : Nat → Option Tag} {K : KF} {l : List Seat} {n : Int → Int → Nat} (h : CrowdOK D K l n) {r c : Int} {k : Lo} (hk : K r c = some k) (h0 : 0 < n r c) : ∃ x, l[idxF (fC D r c) l]? = some x ∧ fC D r c x = 0 ∧ x.g = k.g ∧ x.n = n r c := by
  have hh : hasF (fC D r c) l = true := by rw [h.hit]; exact decide_eq_true h0
  obtain ⟨x, hx, hx0, _⟩ := has_idx (srt_mono h.srt r c) hh
  obtain ⟨r', c', k', e1, e2, e3, e4, e5⟩ := h.who x (List.mem_of_getElem? hx)
  have q := (cmpC_zero _ _ _ _).1 hx0
  rw [(rOf_of e3).1, (rOf_of e3).2] at q
  obtain ⟨rfl, rfl⟩ := q
  rw [hk] at e1
  injection e1 with e1
  subst e1
  exact ⟨x, hx, hx0, e2.symm, e4⟩
theorem lo_mem {D : Nat → Option Tag} {r c : Int} {l : List Seat} {s : Seat} (h : s ∈ loF (fC D r c) l) : s ∈ l ∧ (rOf D s.g < r ∨ (rOf D s.g = r ∧ cOf D s.g < c)) :=
  ⟨(List.mem_filter.1 h).1, (cmpC_neg _ _ _ _).1 (of_decide_eq_true (List.mem_filter.1 h).2)⟩
theorem hi_mem {D : Nat → Option Tag} {r c : Int} {l : List Seat} {s : Seat} (h : s ∈ hiF (fC D r c) l) : s ∈ l ∧ (r < rOf D s.g ∨ (rOf D s.g = r ∧ c < cOf D s.g)) := by
  refine ⟨(List.mem_filter.1 h).1, ?_⟩
  have h1 : 0 < cmpC (rOf D s.g) (cOf D s.g) r c := of_decide_eq_true (List.mem_filter.1 h).2
  have h2 := cmpC_neg (rOf D s.g) (cOf D s.g) r c
  have h3 := cmpC_zero (rOf D s.g) (cOf D s.g) r c
  omega
theorem lohi_mem {D : Nat → Option Tag} {r c : Int} {l : List Seat} {s : Seat} (h : s ∈ l) (hn : ¬ (rOf D s.g = r ∧ cOf D s.g = c)) : s ∈ loF (fC D r c) l ∨ s ∈ hiF (fC D r c) l := by
  have h2 := cmpC_neg (rOf D s.g) (cOf D s.g) r c
  have h3 := cmpC_zero (rOf D s.g) (cOf D s.g) r c
  by_cases q : cmpC (rOf D s.g) (cOf D s.g) r c < 0
  · exact .inl (List.mem_filter.2 ⟨h, decide_eq_true q⟩)
  · exact .inr (List.mem_filter.2 ⟨h, decide_eq_true (by unfold fC; omega)⟩)
/-- With a seat of a cell, of a count above 0. -/
theorem CrowdOK.put {D : Nat → Option Tag} {K : KF} {l : List Seat} {n : Int → Int → Nat} (h : CrowdOK D K l n) {r c : Int} {k : Lo} (hk : K r c = some k) (ht : D k.g = some (2, r, c)) (m : Nat) (hm : 0 < m) : CrowdOK D K (loF (fC D r c) l ++ ⟨k.g, (m : Int)⟩ :: hiF (fC D r c) l) (upd n r c m) := by
  have hR := (rOf_of ht).1
  have hC := (rOf_of ht).2
  refine ⟨?_, fun s hs => ?_, fun r' c' q => ?_⟩
  · rw [List.pairwise_append]
    refine ⟨List.Pairwise.filter _ h.srt, List.pairwise_cons.2 ⟨fun y hy => ?_, List.Pairwise.filter _ h.srt⟩, fun x hx y hy => ?_⟩
    · have := (hi_mem hy).2
      unfold ltS; rw [hR, hC]; omega
    · have h1 := (lo_mem hx).2
      rcases List.mem_cons.1 hy with rfl | hy
      · unfold ltS; dsimp only; rw [hR, hC]; omega
      · have h2 := (hi_mem hy).2
        unfold ltS; omega
  · rcases List.mem_append.1 hs with hs | hs
    · have h1 := lo_mem hs
      obtain ⟨r', c', k', e1, e2, e3, e4, e5⟩ := h.who s h1.1
      have h2 := h1.2
      rw [(rOf_of e3).1, (rOf_of e3).2] at h2
      have hne : ¬ (r' = r ∧ c' = c) := by omega
      exact ⟨r', c', k', e1, e2, e3, by rw [upd_o n m hne]; exact e4, by rw [upd_o n m hne]; exact e5⟩
    · rcases List.mem_cons.1 hs with rfl | hs
      · exact ⟨r, c, k, hk, rfl, ht, by rw [upd_s], by rw [upd_s]; exact hm⟩
      · have h1 := hi_mem hs
        obtain ⟨r', c', k', e1, e2, e3, e4, e5⟩ := h.who s h1.1
        have h2 := h1.2
        rw [(rOf_of e3).1, (rOf_of e3).2] at h2
        have hne : ¬ (r' = r ∧ c' = c) := by omega
        exact ⟨r', c', k', e1, e2, e3, by rw [upd_o n m hne]; exact e4, by rw [upd_o n m hne]; exact e5⟩
  · by_cases e : r' = r ∧ c' = c
    · obtain ⟨rfl, rfl⟩ := e
      exact ⟨⟨k.g, m⟩, by simp, ht⟩
    · rw [upd_o n m e] at q
      obtain ⟨s, q1, q2⟩ := h.all r' c' q
      refine ⟨s, ?_, q2⟩
      rcases lohi_mem (r := r) (c := c) q1 (by rw [(rOf_of q2).1, (rOf_of q2).2]; exact e) with t | t
      · exact List.mem_append_left _ t
      · exact List.mem_append_right _ (List.mem_cons_of_mem _ t)
theorem CrowdOK.out {D : Nat → Option Tag} {K : KF} {l : List Seat} {n : Int → Int → Nat} (h : CrowdOK D K l n) (r c : Int) : CrowdOK D K (loF (fC D r c) l ++ hiF (fC D r c) l) (upd n r c 0) := by
  refine ⟨?_, fun s hs => ?_, fun r' c' q => ?_⟩
  · rw [List.pairwise_append]
    refine ⟨List.Pairwise.filter _ h.srt, List.Pairwise.filter _ h.srt, fun x hx y hy => ?_⟩
    have h1 := (lo_mem hx).2
    have h2 := (hi_mem hy).2
    unfold ltS; omega
  · have h1 : s ∈ l ∧ ¬ (rOf D s.g = r ∧ cOf D s.g = c) := by
      rcases List.mem_append.1 hs with hs | hs
      · exact ⟨(lo_mem hs).1, by have := (lo_mem hs).2; omega⟩
      · exact ⟨(hi_mem hs).1, by have := (hi_mem hs).2; omega⟩
    obtain ⟨r', c', k', e1, e2, e3, e4, e5⟩ := h.who s h1.1
    have h2 := h1.2
    rw [(rOf_of e3).1, (rOf_of e3).2] at h2
    exact ⟨r', c', k', e1, e2, e3, by rw [upd_o n 0 h2]; exact e4, by rw [upd_o n 0 h2]; exact e5⟩
  · by_cases e : r' = r ∧ c' = c
    · obtain ⟨rfl, rfl⟩ := e
      rw [upd_s] at q; cases q
    · rw [upd_o n 0 e] at q
      obtain ⟨s, q1, q2⟩ := h.all r' c' q
      refine ⟨s, ?_, q2⟩
      rcases lohi_mem (r := r) (c := c) q1 (by rw [(rOf_of q2).1, (rOf_of q2).2]; exact e) with t | t
      · exact List.mem_append_left _ t
      · exact List.mem_append_right _ t
theorem getG_is {D : Nat → Option Tag} {K : KF} {l : List Seat} {n : Int → Int → Nat} (h : CrowdOK D K l n) (r c : Int) : (n r c = 0 ∧ getG D r c l = none) ∨ ∃ s ∈ l, 0 < n r c ∧ getG D r c l = some ⟨s.g, 0, none⟩ ∧ ∃ k, K r c = some k ∧ k.g = s.g := by
  by_cases h0 : 0 < n r c
  · have hh : hasF (fC D r c) l = true := by rw [h.hit]; exact decide_eq_true h0
    obtain ⟨x, hx, hx0, _⟩ := has_idx (srt_mono h.srt r c) hh
    obtain ⟨r', c', k', e1, e2, e3, e4, e5⟩ := h.who x (List.mem_of_getElem? hx)
    have q := (cmpC_zero _ _ _ _).1 hx0
    rw [(rOf_of e3).1, (rOf_of e3).2] at q
    obtain ⟨rfl, rfl⟩ := q
    exact .inr ⟨x, List.mem_of_getElem? hx, h0, getG_yes (srt_mono h.srt _ _) hx hx0, k', e1, e2⟩
  · exact .inl ⟨by omega, getG_no (by rw [h.hit]; exact decide_eq_false h0)⟩
/-- One more block of a kind. -/
def dAdd (D : Nat → Option Tag) (o : Option Nat) (t : Tag) : Nat → Option Tag := fun b => (D b).or (if o = some b then some t else none)
theorem dAdd_old {D : Nat → Option Tag} {o : Option Nat} {t : Tag} : ∀ b u, D b = some u → dAdd D o t b = some u := fun b u h => by unfold dAdd; rw [h]; rfl
theorem dAdd_is {D : Nat → Option Tag} {o : Option Nat} {t : Tag} {b : Nat} {u : Tag} (h : dAdd D o t b = some u) : D b = some u ∨ (o = some b ∧ u = t) := by
  unfold dAdd at h
  cases hd : D b with
  | some x => rw [hd] at h; exact .inl h
  | none =>
    rw [hd] at h
    simp only [Option.none_or] at h
    split at h
    · injection h with h; exact .inr ⟨by assumption, h.symm⟩
    · cases h
theorem dAdd_new {D : Nat → Option Tag} {o : Option Nat} {t : Tag} {b : Nat} (h : o = some b) (hd : D b = some t ∨ D b = none) : dAdd D o t b = some t := by
  unfold dAdd
  rcases hd with hd | hd
  · rw [hd]; rfl
  · rw [hd, if_pos h]; rfl
/-- What a step leaves: other numbers, blocks of its own and new ones turned. -/
def MOut (w : World) (N : Nat) (D : Nat → Option Tag) (K : KF) (NN : Nat → Int → Int → Nat) (m : Nat) (w' : World) : Prop := ∃ D', MW w' N D' K NN m ∧ Mut (fun b => (D b).isSome = true) w w' ∧ (∀ b, (D' b).isSome = true → (D b).isSome = true ∨ w.heap.size ≤ b) ∧ ∀ b t, D b = some t → D' b = some t
/-- A crowd is laid anew. -/
theorem MW.crowd {w w' : World} {N : Nat} {D : Nat → Option Tag} {K : KF} {NN : Nat → Int → Int → Nat} {m : Nat} (h : MW w N D K NN m) {j : Nat} (hj : j < 65) {A : Array Value} {v : Value} {l' : List Seat} {x : Nat} {r c : Int} (ho : Own w N A) (hv : A[j]? = some v) (ht : ∀ b, v.ownBlock = some b → D b = some (1, (j : Int), 0)) (hp : CrowdP w N j A v l' w') (hc : CrowdOK D K l' (upd (NN j) r c x)) (hx : x ≤ m) : MOut w N D K (updN NN j r c x) m w' := by
  obtain ⟨v', p1, p2, p3, p4⟩ := hp
  have hT : ∀ b, (b = N ∨ v.ownBlock = some b) → (D b).isSome = true := fun b q => by
    rcases q with rfl | q
    · rw [h.at0]; rfl
    · rw [ht b q]; rfl
  have hnew : ∀ b, v'.ownBlock = some b → D b = some (1, (j : Int), 0) ∨ D b = none := fun b q => by
    rcases p3 b q with s | s
    · exact .inl (ht b s)
    · cases hd : D b with
      | none => exact .inr rfl
      | some t => have := h.dom b t hd; omega
  have hold : ∀ b t, D b = some t → b ≠ N → (∀ q, v.ownBlock = some q → q ≠ b) → w'.heap[b]? = w.heap[b]? := fun b t e n1 n2 => p4.block b (h.dom b t e) (fun q => by
    rcases q with q | q
    · exact n1 q
    · exact n2 b q rfl)
  have tagN : ∀ b t, D b = some t → t ≠ (0, 0, 0) → b ≠ N := fun b t e n q => by rw [q, h.at0] at e; injection e with e; exact n e.symm
  have tagV : ∀ b t, D b = some t → t ≠ (1, (j : Int), 0) → ∀ q, v.ownBlock = some q → q ≠ b := fun b t e n q hq s => by rw [s] at hq; rw [ht b hq] at e; injection e with e; exact n e.symm
  refine ⟨dAdd D v'.ownBlock (1, (j : Int), 0), ⟨fun b t e => ?_, dAdd_old _ _ h.at0, fun r' c' k e => ?_, ⟨A.setIfInBounds j v', p1, ?_, fun j' hj' => ?_⟩, fun j' r' c' => ?_⟩, ⟨p4.os, p4.tape, p4.output, p4.size, fun b hb hn => p4.block b hb (fun q => hn (hT b q))⟩, fun b q => ?_, dAdd_old⟩
  · rcases dAdd_is e with e | ⟨e, _⟩
    · exact Nat.lt_of_lt_of_le (h.dom b t e) p4.size
    · exact (p2.lt b e).2
  · exact (h.lo r' c' k e).of_block (fun b t q s => hold b t q (tagN b t q (by rcases s with rfl | rfl <;> simp)) (tagV b t q (by rcases s with rfl | rfl <;> simp))) dAdd_old (Nat.le_refl _)
  · obtain ⟨B, b1, b2, _⟩ := h.own
    have hAB : A.size = B.size := by
      have e : ∀ o, A[o]? = B[o]? := fun o => (ho.cell o).symm.trans (b1.cell o)
      have := Array.ext_getElem? e
      rw [this]
    simp [hAB, b2]
  · by_cases e : j' = j
    · subst e
      refine ⟨v', l', by rw [Array.getElem?_setIfInBounds, if_pos rfl, if_pos (Array.getElem?_eq_some_iff.1 hv).1], p2, fun b q => dAdd_new q (hnew b q), ?_⟩
      have : updN NN j' r c x j' = upd (NN j') r c x := by simp [updN]
      rw [this]
      exact hc.ext dAdd_old
    · obtain ⟨B, b1, b2, b3⟩ := h.own
      obtain ⟨v1, l1, c1, c2, c3, c4⟩ := b3 j' hj'
      have hAB : A[j']? = B[j']? := (ho.cell j').symm.trans (b1.cell j')
      refine ⟨v1, l1, by rw [Array.getElem?_setIfInBounds, if_neg (fun q => e q.symm), hAB]; exact c1, c2.of_block (fun b q => hold b _ (c3 b q) (tagN b _ (c3 b q) (by simp)) (tagV b _ (c3 b q) (by simp; omega))), fun b q => dAdd_old _ _ (c3 b q), ?_⟩
      have : updN NN j r c x j' = NN j' := by simp [updN, e]
      rw [this]
      exact c4.ext dAdd_old
  · unfold updN
    split
    · by_cases q : r' = r ∧ c' = c
      · obtain ⟨rfl, rfl⟩ := q; rw [upd_s]; exact hx
      · rw [upd_o _ _ q]; exact h.few j r' c'
    · exact h.few j' r' c'
  · obtain ⟨t, ht'⟩ := Option.isSome_iff_exists.1 q
    rcases dAdd_is ht' with e | ⟨e, _⟩
    · exact .inl (by rw [e]; rfl)
    · rcases p3 b e with s | s
      · exact .inl (hT b (.inr s))
      · exact .inr s
end Go.Proofs.YtgojnijpjfdocaaGreat
