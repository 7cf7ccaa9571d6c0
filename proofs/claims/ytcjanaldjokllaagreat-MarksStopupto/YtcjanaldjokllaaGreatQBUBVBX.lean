/- What get, join, leave, add, remove make of the bands in memory. · get, join, leave on the bands in memory; a looker's rectangles laid anew, a new looker, a looker forgotten. · Pairs of a cell and a rectangle, in their order; a cell's rectangles among them. No function's text is walked here. -/
import Derived.Test.YtcjanaldjokllaaGreatQBGrBJBQ
namespace Go.Proofs.YtcjanaldjokllaaGreat
open Go.RowKit
set_option linter.all false
def upd {α : Type} (n : Int → Int → α) (r c : Int) (x : α) : Int → Int → α := fun r' c' => if r' = r ∧ c' = c then x else n r' c'
theorem upd_s {α : Type} (n : Int → Int → α) (r c : Int) (x : α) : upd n r c x r c = x := by simp [upd]
theorem upd_o {α : Type} (n : Int → Int → α) {r c r' c' : Int} (x : α) (h : ¬ (r' = r ∧ c' = c)) : upd n r c x r' c' = n r' c' := by simp [upd, h]
def updN (NN : Nat → Int → Int → Nat) (j : Nat) (r c : Int) (x : Nat) : Nat → Int → Int → Nat := fun j' => if j' = j then upd (NN j) r c x else NN j'
theorem CrowdOK.ext {D D' : Nat → Option Tag} {K : KF} {l : List Seat} {n : Int → Int → Nat} (h : CrowdOK D K l n) (hD : ∀ b t, D b = some t → D' b = some t) : CrowdOK D' K l n := by
  have hs : ∀ s ∈ l, rOf D' s.g = rOf D s.g ∧ cOf D' s.g = cOf D s.g := fun s hs => by
    obtain ⟨r, c, k, e1, e2, e3, _⟩ := h.who s hs
    rw [(rOf_of e3).1, (rOf_of e3).2, (rOf_of (hD _ _ e3)).1, (rOf_of (hD _ _ e3)).2]
    exact ⟨rfl, rfl⟩
  refine ⟨List.Pairwise.imp_of_mem ?_ h.srt, fun s q => ?_, fun r c q => ?_⟩
  · intro x y hx hy hxy
    unfold ltS at hxy ⊢
    rw [(hs x hx).1, (hs x hx).2, (hs y hy).1, (hs y hy).2]
    exact hxy
  · obtain ⟨r, c, k, e1, e2, e3, e4⟩ := h.who s q
    exact ⟨r, c, k, e1, e2, hD _ _ e3, e4⟩
  · obtain ⟨s, q1, q2⟩ := h.all r c q
    exact ⟨s, q1, hD _ _ q2⟩
theorem CrowdOK.re {D : Nat → Option Tag} {K K' : KF} {l : List Seat} {n : Int → Int → Nat} (h : CrowdOK D K l n) (hK : ∀ r c k, K r c = some k → 0 < n r c → ∃ k', K' r c = some k' ∧ k'.g = k.g) : CrowdOK D K' l n :=
  ⟨h.srt, fun s q => by
    obtain ⟨r, c, k, e1, e2, e3, e4, e5⟩ := h.who s q
    obtain ⟨k', f1, f2⟩ := hK r c k e1 e5
    exact ⟨r, c, k', f1, f2.trans e2, e3, e4, e5⟩, h.all⟩
/-- The seat of a cell. -/
theorem CrowdOK.at {D : Nat → Option Tag} {K : KF} {l : List Seat} {n : Int → Int → Nat} (h : CrowdOK D K l n) {r c : Int} {k : Lo} (hk : K r c = some k) (h0 : 0 < n r c) : ∃ x, l[idxF (fC D r c) l]? = some x ∧ fC D r c x = 0 ∧ x.g = k.g ∧ x.n = n r c := by
  have hh : hasF (fC D r c) l = true := by rw [h.hit]; exact decide_eq_true h0
  obtain ⟨x, hx, hx0, _⟩ := has_idx (srt_mono h.srt r c) hh
  obtain ⟨r', c', k', e1, e2, e3, e4, e5⟩ := h.who x (List.mem_of_getElem? hx)
  have q := (cmpC_zero _ _ _ _).1 hx0
  rw [(rOf_of e3).1, (rOf_of e3).2] at q
  obtain ⟨rfl, rfl⟩ := q
  rw [hk] at e1
  injection e1 with e1
  subst e1
  exact ⟨x, hx, hx0, e2.symm, e4⟩
theorem lo_mem {D : Nat → Option Tag} {r c : Int} {l : List Seat} {s : Seat} (h : s ∈ loF (fC D r c) l) : s ∈ l ∧ (rOf D s.g < r ∨ (rOf D s.g = r ∧ cOf D s.g < c)) :=
  ⟨(List.mem_filter.1 h).1, (cmpC_neg _ _ _ _).1 (of_decide_eq_true (List.mem_filter.1 h).2)⟩
theorem hi_mem {D : Nat → Option Tag} {r c : Int} {l : List Seat} {s : Seat} (h : s ∈ hiF (fC D r c) l) : s ∈ l ∧ (r < rOf D s.g ∨ (rOf D s.g = r ∧ c < cOf D s.g)) := by
  refine ⟨(List.mem_filter.1 h).1, ?_⟩
  have h1 : 0 < cmpC (rOf D s.g) (cOf D s.g) r c := of_decide_eq_true (List.mem_filter.1 h).2
  have h2 := cmpC_neg (rOf D s.g) (cOf D s.g) r c
  have h3 := cmpC_zero (rOf D s.g) (cOf D s.g) r c
  omega
theorem lohi_mem {D : Nat → Option Tag} {r c : Int} {l : List Seat} {s : Seat} (h : s ∈ l) (hn : ¬ (rOf D s.g = r ∧ cOf D s.g = c)) : s ∈ loF (fC D r c) l ∨ s ∈ hiF (fC D r c) l := by
  have h2 := cmpC_neg (rOf D s.g) (cOf D s.g) r c
  have h3 := cmpC_zero (rOf D s.g) (cOf D s.g) r c
  by_cases q : cmpC (rOf D s.g) (cOf D s.g) r c < 0
  · exact .inl (List.mem_filter.2 ⟨h, decide_eq_true q⟩)
  · exact .inr (List.mem_filter.2 ⟨h, decide_eq_true (by unfold fC; omega)⟩)
/-- With a seat of a cell, of a count above 0. -/
theorem CrowdOK.put {D : Nat → Option Tag} {K : KF} {l : List Seat} {n : Int → Int → Nat} (h : CrowdOK D K l n) {r c : Int} {k : Lo} (hk : K r c = some k) (ht : D k.g = some (2, r, c)) (m : Nat) (hm : 0 < m) : CrowdOK D K (loF (fC D r c) l ++ ⟨k.g, (m : Int)⟩ :: hiF (fC D r c) l) (upd n r c m) := by
  have hR := (rOf_of ht).1
  have hC := (rOf_of ht).2
  refine ⟨?_, fun s hs => ?_, fun r' c' q => ?_⟩
  · rw [List.pairwise_append]
    refine ⟨List.Pairwise.filter _ h.srt, List.pairwise_cons.2 ⟨fun y hy => ?_, List.Pairwise.filter _ h.srt⟩, fun x hx y hy => ?_⟩
    · have := (hi_mem hy).2
      unfold ltS; rw [hR, hC]; omega
    · have h1 := (lo_mem hx).2
      rcases List.mem_cons.1 hy with rfl | hy
      · unfold ltS; dsimp only; rw [hR, hC]; omega
      · have h2 := (hi_mem hy).2
        unfold ltS; omega
  · rcases List.mem_append.1 hs with hs | hs
    · have h1 := lo_mem hs
      obtain ⟨r', c', k', e1, e2, e3, e4, e5⟩ := h.who s h1.1
      have h2 := h1.2
      rw [(rOf_of e3).1, (rOf_of e3).2] at h2
      have hne : ¬ (r' = r ∧ c' = c) := by omega
      exact ⟨r', c', k', e1, e2, e3, by rw [upd_o n m hne]; exact e4, by rw [upd_o n m hne]; exact e5⟩
    · rcases List.mem_cons.1 hs with rfl | hs
      · exact ⟨r, c, k, hk, rfl, ht, by rw [upd_s], by rw [upd_s]; exact hm⟩
      · have h1 := hi_mem hs
        obtain ⟨r', c', k', e1, e2, e3, e4, e5⟩ := h.who s h1.1
        have h2 := h1.2
        rw [(rOf_of e3).1, (rOf_of e3).2] at h2
        have hne : ¬ (r' = r ∧ c' = c) := by omega
        exact ⟨r', c', k', e1, e2, e3, by rw [upd_o n m hne]; exact e4, by rw [upd_o n m hne]; exact e5⟩
  · by_cases e : r' = r ∧ c' = c
    · obtain ⟨rfl, rfl⟩ := e
      exact ⟨⟨k.g, m⟩, by simp, ht⟩
    · rw [upd_o n m e] at q
      obtain ⟨s, q1, q2⟩ := h.all r' c' q
      refine ⟨s, ?_, q2⟩
      rcases lohi_mem (r := r) (c := c) q1 (by rw [(rOf_of q2).1, (rOf_of q2).2]; exact e) with t | t
      · exact List.mem_append_left _ t
      · exact List.mem_append_right _ (List.mem_cons_of_mem _ t)
theorem CrowdOK.out {D : Nat → Option Tag} {K : KF} {l : List Seat} {n : Int → Int → Nat} (h : CrowdOK D K l n) (r c : Int) : CrowdOK D K (loF (fC D r c) l ++ hiF (fC D r c) l) (upd n r c 0) := by
  refine ⟨?_, fun s hs => ?_, fun r' c' q => ?_⟩
  · rw [List.pairwise_append]
    refine ⟨List.Pairwise.filter _ h.srt, List.Pairwise.filter _ h.srt, fun x hx y hy => ?_⟩
    have h1 := (lo_mem hx).2
    have h2 := (hi_mem hy).2
    unfold ltS; omega
  · have h1 : s ∈ l ∧ ¬ (rOf D s.g = r ∧ cOf D s.g = c) := by
      rcases List.mem_append.1 hs with hs | hs
      · exact ⟨(lo_mem hs).1, by have := (lo_mem hs).2; omega⟩
      · exact ⟨(hi_mem hs).1, by have := (hi_mem hs).2; omega⟩
    obtain ⟨r', c', k', e1, e2, e3, e4, e5⟩ := h.who s h1.1
    have h2 := h1.2
    rw [(rOf_of e3).1, (rOf_of e3).2] at h2
    exact ⟨r', c', k', e1, e2, e3, by rw [upd_o n 0 h2]; exact e4, by rw [upd_o n 0 h2]; exact e5⟩
  · by_cases e : r' = r ∧ c' = c
    · obtain ⟨rfl, rfl⟩ := e
      rw [upd_s] at q; cases q
    · rw [upd_o n 0 e] at q
      obtain ⟨s, q1, q2⟩ := h.all r' c' q
      refine ⟨s, ?_, q2⟩
      rcases lohi_mem (r := r) (c := c) q1 (by rw [(rOf_of q2).1, (rOf_of q2).2]; exact e) with t | t
      · exact List.mem_append_left _ t
      · exact List.mem_append_right _ t
theorem getG_is {D : Nat → Option Tag} {K : KF} {l : List Seat} {n : Int → Int → Nat} (h : CrowdOK D K l n) (r c : Int) : (n r c = 0 ∧ getG D r c l = none) ∨ ∃ s ∈ l, 0 < n r c ∧ getG D r c l = some ⟨s.g, 0, none⟩ ∧ ∃ k, K r c = some k ∧ k.g = s.g := by
  by_cases h0 : 0 < n r c
  · have hh : hasF (fC D r c) l = true := by rw [h.hit]; exact decide_eq_true h0
    obtain ⟨x, hx, hx0, _⟩ := has_idx (srt_mono h.srt r c) hh
    obtain ⟨r', c', k', e1, e2, e3, e4, e5⟩ := h.who x (List.mem_of_getElem? hx)
    have q := (cmpC_zero _ _ _ _).1 hx0
    rw [(rOf_of e3).1, (rOf_of e3).2] at q
    obtain ⟨rfl, rfl⟩ := q
    exact .inr ⟨x, List.mem_of_getElem? hx, h0, getG_yes (srt_mono h.srt _ _) hx hx0, k', e1, e2⟩
  · exact .inl ⟨by omega, getG_no (by rw [h.hit]; exact decide_eq_false h0)⟩
/-- One more block of a kind. -/
def dAdd (D : Nat → Option Tag) (o : Option Nat) (t : Tag) : Nat → Option Tag := fun b => (D b).or (if o = some b then some t else none)
theorem dAdd_old {D : Nat → Option Tag} {o : Option Nat} {t : Tag} : ∀ b u, D b = some u → dAdd D o t b = some u := fun b u h => by unfold dAdd; rw [h]; rfl
theorem dAdd_is {D : Nat → Option Tag} {o : Option Nat} {t : Tag} {b : Nat} {u : Tag} (h : dAdd D o t b = some u) : D b = some u ∨ (o = some b ∧ u = t) := by
  unfold dAdd at h
  cases hd : D b with
  | some x => rw [hd] at h; exact .inl h
  | none =>
    rw [hd] at h
    simp only [Option.none_or] at h
    split at h
    · injection h with h; exact .inr ⟨by assumption, h.symm⟩
    · cases h
theorem dAdd_new {D : Nat → Option Tag} {o : Option Nat} {t : Tag} {b : Nat} (h : o = some b) (hd : D b = some t ∨ D b = none) : dAdd D o t b = some t := by
  unfold dAdd
  rcases hd with hd | hd
  · rw [hd]; rfl
  · rw [hd, if_pos h]; rfl
/-- What a step leaves: other numbers, blocks of its own and new ones turned. -/
def MOut (w : World) (N : Nat) (D : Nat → Option Tag) (K : KF) (NN : Nat → Int → Int → Nat) (m : Nat) (w' : World) : Prop := ∃ D', MW w' N D' K NN m ∧ Mut (fun b => (D b).isSome = true) w w' ∧ (∀ b, (D' b).isSome = true → (D b).isSome = true ∨ w.heap.size ≤ b) ∧ ∀ b t, D b = some t → D' b = some t
/-- A crowd is laid anew. -/
theorem MW.crowd {w w' : World} {N : Nat} {D : Nat → Option Tag} {K : KF} {NN : Nat → Int → Int → Nat} {m : Nat} (h : MW w N D K NN m) {j : Nat} (hj : j < 65) {A : Array Value} {v : Value} {l' : List Seat} {x : Nat} {r c : Int} (ho : Own w N A) (hv : A[j]? = some v) (ht : ∀ b, v.ownBlock = some b → D b = some (1, (j : Int), 0)) (hp : CrowdP w N j A v l' w') (hc : CrowdOK D K l' (upd (NN j) r c x)) (hx : x ≤ m) : MOut w N D K (updN NN j r c x) m w' := by
  obtain ⟨v', p1, p2, p3, p4⟩ := hp
  have hT : ∀ b, (b = N ∨ v.ownBlock = some b) → (D b).isSome = true := fun b q => by
    rcases q with rfl | q
    · rw [h.at0]; rfl
    · rw [ht b q]; rfl
  have hnew : ∀ b, v'.ownBlock = some b → D b = some (1, (j : Int), 0) ∨ D b = none := fun b q => by
    rcases p3 b q with s | s
    · exact .inl (ht b s)
    · cases hd : D b with
      | none => exact .inr rfl
      | some t => have := h.dom b t hd; omega
  have hold : ∀ b t, D b = some t → b ≠ N → (∀ q, v.ownBlock = some q → q ≠ b) → w'.heap[b]? = w.heap[b]? := fun b t e n1 n2 => p4.block b (h.dom b t e) (fun q => by
    rcases q with q | q
    · exact n1 q
    · exact n2 b q rfl)
  have tagN : ∀ b t, D b = some t → t ≠ (0, 0, 0) → b ≠ N := fun b t e n q => by rw [q, h.at0] at e; injection e with e; exact n e.symm
  have tagV : ∀ b t, D b = some t → t ≠ (1, (j : Int), 0) → ∀ q, v.ownBlock = some q → q ≠ b := fun b t e n q hq s => by rw [s] at hq; rw [ht b hq] at e; injection e with e; exact n e.symm
  refine ⟨dAdd D v'.ownBlock (1, (j : Int), 0), ⟨fun b t e => ?_, dAdd_old _ _ h.at0, fun r' c' k e => ?_, ⟨A.setIfInBounds j v', p1, ?_, fun j' hj' => ?_⟩, fun j' r' c' => ?_⟩, ⟨p4.os, p4.tape, p4.output, p4.size, fun b hb hn => p4.block b hb (fun q => hn (hT b q))⟩, fun b q => ?_, dAdd_old⟩
  · rcases dAdd_is e with e | ⟨e, _⟩
    · exact Nat.lt_of_lt_of_le (h.dom b t e) p4.size
    · exact (p2.lt b e).2
  · exact (h.lo r' c' k e).of_block (fun b t q s => hold b t q (tagN b t q (by rcases s with rfl | rfl <;> simp)) (tagV b t q (by rcases s with rfl | rfl <;> simp))) dAdd_old (Nat.le_refl _)
  · obtain ⟨B, b1, b2, _⟩ := h.own
    have hAB : A.size = B.size := by
      have e : ∀ o, A[o]? = B[o]? := fun o => (ho.cell o).symm.trans (b1.cell o)
      have := Array.ext_getElem? e
      rw [this]
    simp [hAB, b2]
  · by_cases e : j' = j
    · subst e
      refine ⟨v', l', by rw [Array.getElem?_setIfInBounds, if_pos rfl, if_pos (Array.getElem?_eq_some_iff.1 hv).1], p2, fun b q => dAdd_new q (hnew b q), ?_⟩
      have : updN NN j' r c x j' = upd (NN j') r c x := by simp [updN]
      rw [this]
      exact hc.ext dAdd_old
    · obtain ⟨B, b1, b2, b3⟩ := h.own
      obtain ⟨v1, l1, c1, c2, c3, c4⟩ := b3 j' hj'
      have hAB : A[j']? = B[j']? := (ho.cell j').symm.trans (b1.cell j')
      refine ⟨v1, l1, by rw [Array.getElem?_setIfInBounds, if_neg (fun q => e q.symm), hAB]; exact c1, c2.of_block (fun b q => hold b _ (c3 b q) (tagN b _ (c3 b q) (by simp)) (tagV b _ (c3 b q) (by simp; omega))), fun b q => dAdd_old _ _ (c3 b q), ?_⟩
      have : updN NN j r c x j' = NN j' := by simp [updN, e]
      rw [this]
      exact c4.ext dAdd_old
  · unfold updN
    split
    · by_cases q : r' = r ∧ c' = c
      · obtain ⟨rfl, rfl⟩ := q; rw [upd_s]; exact hx
      · rw [upd_o _ _ q]; exact h.few j r' c'
    · exact h.few j' r' c'
  · obtain ⟨t, ht'⟩ := Option.isSome_iff_exists.1 q
    rcases dAdd_is ht' with e | ⟨e, _⟩
    · exact .inl (by rw [e]; rfl)
    · rcases p3 b e with s | s
      · exact .inl (hT b (.inr s))
      · exact .inr s
end Go.Proofs.YtcjanaldjokllaaGreat
namespace Go.Proofs.YtcjanaldjokllaaGreat
open Go.RowKit
set_option linter.all false
theorem MW.crow {w : World} {N : Nat} {D : Nat → Option Tag} {K : KF} {NN : Nat → Int → Int → Nat} {m : Nat} (h : MW w N D K NN m) {j : Nat} (hj : j < 65) : ∃ A v l, Own w N A ∧ A[j]? = some v ∧ RowS w v l ∧ (∀ b, v.ownBlock = some b → D b = some (1, (j : Int), 0)) ∧ CrowdOK D K l (NN j) ∧ l.length ≤ 4000000000000 ∧ v.ownBlock ≠ some N ∧ SeesW w D l := by
  obtain ⟨A, a1, a2, a3⟩ := h.own
  obtain ⟨v, l, b1, b2, b3, b4⟩ := a3 j hj
  refine ⟨A, v, l, a1, b1, b2, b3, b4, by have := h.seats b4; omega, fun q => ?_, h.sees b4⟩
  have := b3 N q
  rw [h.at0] at this
  injection this with this
  injection this with this _
  cases this
theorem mw_join (w : World) (N : Nat) (D : Nat → Option Tag) (K : KF) (NN : Nat → Int → Int → Nat) (m j : Nat) (r c : Int) (k : Lo) (h : MW w N D K NN m) (hj : j < 65) (hk : K r c = some k) (hb : NN j r c + 1 ≤ m) (hm : m ≤ 4000000000000) :
    Calls Tryz.prog 72 #[.pointer (some ⟨N, j, none⟩), .pointer (some ⟨k.g, 0, none⟩)] w fun e w' => e = .returned (.tuple #[]) ∧ MOut w N D K (updN NN j r c (NN j r c + 1)) m w' := by
  obtain ⟨A, v, l, a1, a2, a3, a4, a5, a6, a7, a8⟩ := h.crow hj
  have hlo := h.lo r c k hk
  have hS := srt_mono a5.srt r c
  by_cases h0 : 0 < NN j r c
  · obtain ⟨x, x1, x2, x3, x4⟩ := a5.at hk h0
    refine (join_yes w D N j A v l k.g r c a1 a2 a3 a7 a6 hS a8 hlo.own.lt (hlo.own.cell 0) (hlo.own.cell 1) x _ rfl x1 x2 (by omega)).mono ?_
    rintro e w' ⟨rfl, hp⟩
    refine ⟨rfl, h.crowd hj a1 a2 a4 hp ?_ hb⟩
    rw [x3, x4]
    exact a5.put hk hlo.tag (NN j r c + 1) (by omega)
  · have hz : NN j r c = 0 := by omega
    refine (join_no w D N j A v l k.g r c a1 a2 a3 a7 a6 hS a8 hlo.own.lt (hlo.own.cell 0) (hlo.own.cell 1) (by rw [a5.hit]; exact decide_eq_false h0)).mono ?_
    rintro e w' ⟨rfl, hp⟩
    refine ⟨rfl, h.crowd hj a1 a2 a4 hp ?_ hb⟩
    rw [hz]
    exact a5.put hk hlo.tag 1 (by omega)
theorem mw_leave (w : World) (N : Nat) (D : Nat → Option Tag) (K : KF) (NN : Nat → Int → Int → Nat) (m j : Nat) (r c : Int) (k : Lo) (h : MW w N D K NN m) (hj : j < 65) (hk : K r c = some k) (h0 : 0 < NN j r c) (hm : m ≤ 4000000000000) :
    Calls Tryz.prog 63 #[.pointer (some ⟨N, j, none⟩), .pointer (some ⟨k.g, 0, none⟩)] w fun e w' => e = .returned (.tuple #[]) ∧ MOut w N D K (updN NN j r c (NN j r c - 1)) m w' := by
  obtain ⟨A, v, l, a1, a2, a3, a4, a5, a6, a7, a8⟩ := h.crow hj
  have hlo := h.lo r c k hk
  have hS := srt_mono a5.srt r c
  have hf := h.few j r c
  obtain ⟨x, x1, x2, x3, x4⟩ := a5.at hk h0
  by_cases h1 : NN j r c = 1
  · refine (leave_last w D N j A v l k.g r c a1 a2 a3 a7 a6 hS a8 hlo.own.lt (hlo.own.cell 0) (hlo.own.cell 1) x _ rfl x1 x2 (by omega)).mono ?_
    rintro e w' ⟨rfl, hp⟩
    refine ⟨rfl, h.crowd hj a1 a2 a4 hp ?_ (by omega)⟩
    rw [h1]
    exact a5.out r c
  · refine (leave_more w D N j A v l k.g r c a1 a2 a3 a7 a6 hS a8 hlo.own.lt (hlo.own.cell 0) (hlo.own.cell 1) x _ rfl x1 x2 (by omega)).mono ?_
    rintro e w' ⟨rfl, hp⟩
    refine ⟨rfl, h.crowd hj a1 a2 a4 hp ?_ (by omega)⟩
    rw [x3, x4, show ((NN j r c : Nat) : Int) - 1 = ((NN j r c - 1 : Nat) : Int) by omega]
    exact a5.put hk hlo.tag (NN j r c - 1) (by omega)
/-- Whose looker stands for all rectangles. -/
def gotK (K : KF) (NN : Nat → Int → Int → Nat) (r c : Int) : Option Addr := if NN 0 r c = 0 then none else (K r c).map (fun k => ⟨k.g, 0, none⟩)
theorem mw_get (w : World) (N : Nat) (D : Nat → Option Tag) (K : KF) (NN : Nat → Int → Int → Nat) (m : Nat) (r c : Int) (h : MW w N D K NN m) :
    ∃ v, w.cell? ⟨N, 0, none⟩ = some v ∧ (∃ q n cp, v = .slice q n cp) ∧ ∀ W, Below w.heap.size w W → Calls Tryz.prog 61 #[v, .agg #[.int .i64 r, .int .i64 c]] W fun e w' => e = .returned (.pointer (gotK K NN r c)) ∧ Below W.heap.size W w' := by
  obtain ⟨A, v, l, a1, a2, a3, a4, a5, a6, a7, a8⟩ := h.crow (j := 0) (by omega)
  refine ⟨v, (a1.cell 0).trans a2, a3.slice', fun W hb => ?_⟩
  have := get_any W D v l r c (a3.keep hb) a6 (srt_mono a5.srt r c) (a8.keep hb)
  have e : getG D r c l = gotK K NN r c := by
    unfold gotK
    rcases getG_is a5 r c with ⟨e1, e2⟩ | ⟨s, _, e1, e2, k, e3, e4⟩
    · rw [e2, if_pos e1]
    · rw [e2, if_neg (by omega), e3, ← e4]; rfl
  rw [e] at this
  exact this
/-- A looker's rectangles laid anew. -/
theorem MW.look {w w' : World} {N : Nat} {D : Nat → Option Tag} {K : KF} {NN : Nat → Int → Int → Nat} {m m' : Nat} (h : MW w N D K NN m) {r c : Int} {k : Lo} {l' : List Rct} {e : Ending} (hk : K r c = some k) (hp : LookP w k.g r c k.v l' e w') (hs : SrtR l') (hl : l'.length ≤ m') (hm : m ≤ m') :
    ∃ v', MOut w N D (upd K r c (some ⟨k.g, v', l'⟩)) NN m' w' := by
  obtain ⟨_, v', p1, p2, p3, p4⟩ := hp
  have hlo := h.lo r c k hk
  have hT : ∀ b, (b = k.g ∨ k.v.ownBlock = some b) → (D b).isSome = true := fun b q => by
    rcases q with rfl | q
    · rw [hlo.tag]; rfl
    · rw [hlo.rt b q]; rfl
  have hnew : ∀ b, v'.ownBlock = some b → D b = some (3, r, c) ∨ D b = none := fun b q => by
    rcases p3 b q with s | s
    · exact .inl (hlo.rt b s)
    · cases hd : D b with
      | none => exact .inr rfl
      | some t => have := h.dom b t hd; omega
  have hold : ∀ b t, D b = some t → t ≠ (2, r, c) → t ≠ (3, r, c) → w'.heap[b]? = w.heap[b]? := fun b t e n1 n2 => p4.block b (h.dom b t e) (fun q => by
    rcases q with rfl | q
    · rw [hlo.tag] at e; injection e with e; exact n1 e.symm
    · rw [hlo.rt b q] at e; injection e with e; exact n2 e.symm)
  refine ⟨v', dAdd D v'.ownBlock (3, r, c), ⟨fun b t e => ?_, dAdd_old _ _ h.at0, fun r' c' k' e => ?_, ?_, fun j r' c' => Nat.le_trans (h.few j r' c') hm⟩, ⟨p4.os, p4.tape, p4.output, p4.size, fun b hb hn => p4.block b hb (fun q => hn (hT b q))⟩, fun b q => ?_, dAdd_old⟩
  · rcases dAdd_is e with e | ⟨e, _⟩
    · exact Nat.lt_of_lt_of_le (h.dom b t e) p4.size
    · exact (p2.lt b e).2
  · by_cases q : r' = r ∧ c' = c
    · obtain ⟨rfl, rfl⟩ := q
      rw [upd_s] at e
      injection e with e
      subst e
      exact ⟨dAdd_old _ _ hlo.tag, p1, p2, fun b q => dAdd_new q (hnew b q), hs, hl, hlo.may⟩
    · rw [upd_o _ _ q] at e
      exact (h.lo r' c' k' e).of_block (fun b t u s => hold b t u (by rcases s with rfl | rfl <;> (simp; try omega)) (by rcases s with rfl | rfl <;> (simp; try omega))) dAdd_old hm
  · obtain ⟨A, a1, a2, a3⟩ := h.own
    refine ⟨A, a1.of_block (hold N _ h.at0 (by simp) (by simp)), a2, fun j hj => ?_⟩
    obtain ⟨v, l, b1, b2, b3, b4⟩ := a3 j hj
    refine ⟨v, l, b1, b2.of_block (fun b q => hold b _ (b3 b q) (by simp) (by simp)), fun b q => dAdd_old _ _ (b3 b q), (b4.re (fun r' c' k' q _ => ?_)).ext dAdd_old⟩
    by_cases s : r' = r ∧ c' = c
    · obtain ⟨rfl, rfl⟩ := s
      rw [hk] at q; injection q with q; subst q
      exact ⟨_, upd_s _ _ _ _, rfl⟩
    · exact ⟨k', by rw [upd_o _ _ s]; exact q, rfl⟩
  · obtain ⟨t, ht'⟩ := Option.isSome_iff_exists.1 q
    rcases dAdd_is ht' with e | ⟨e, _⟩
    · exact .inl (by rw [e]; rfl)
    · rcases p3 b e with s | s
      · exact .inl (hT b (.inr s))
      · exact .inr s
/-- A new looker. -/
theorem MW.newlook {w w' : World} {N : Nat} {D : Nat → Option Tag} {K : KF} {NN : Nat → Int → Int → Nat} {m : Nat} (h : MW w N D K NN m) {r c : Int} {g : Nat} (hk : K r c = none) (hg : w.heap.size ≤ g) (hm : mayC r c = true) (hb : Below w.heap.size w w') (ho : Own w' g #[.int .i64 r, .int .i64 c, .slice none 0 0]) :
    MOut w N D (upd K r c (some ⟨g, .slice none 0 0, []⟩)) NN m w' := by
  have hgn : D g = none := by
    cases hd : D g with
    | none => rfl
    | some t => have := h.dom g t hd; omega
  have hold : ∀ b t, D b = some t → w'.heap[b]? = w.heap[b]? := fun b t e => hb.block b (h.dom b t e)
  refine ⟨dAdd D (some g) (2, r, c), ⟨fun b t e => ?_, dAdd_old _ _ h.at0, fun r' c' k' e => ?_, ?_, h.few⟩, Mut.of_below hb, fun b q => ?_, dAdd_old⟩
  · rcases dAdd_is e with e | ⟨e, _⟩
    · exact Nat.lt_of_lt_of_le (h.dom b t e) hb.size
    · injection e with e; subst e; exact ho.lt
  · by_cases q : r' = r ∧ c' = c
    · obtain ⟨rfl, rfl⟩ := q
      rw [upd_s] at e
      injection e with e
      subst e
      exact ⟨dAdd_new rfl (.inr hgn), ho, RowG.nil _, (fun b q => by cases q), List.Pairwise.nil, Nat.zero_le _, hm⟩
    · rw [upd_o _ _ q] at e
      exact (h.lo r' c' k' e).of_block (fun b t u _ => hold b t u) dAdd_old (Nat.le_refl _)
  · obtain ⟨A, a1, a2, a3⟩ := h.own
    refine ⟨A, a1.of_block (hold N _ h.at0), a2, fun j hj => ?_⟩
    obtain ⟨v, l, b1, b2, b3, b4⟩ := a3 j hj
    refine ⟨v, l, b1, b2.of_block (fun b q => hold b _ (b3 b q)), fun b q => dAdd_old _ _ (b3 b q), (b4.re (fun r' c' k' q _ => ?_)).ext dAdd_old⟩
    by_cases s : r' = r ∧ c' = c
    · obtain ⟨rfl, rfl⟩ := s
      rw [hk] at q; cases q
    · exact ⟨k', by rw [upd_o _ _ s]; exact q, rfl⟩
  · obtain ⟨t, ht'⟩ := Option.isSome_iff_exists.1 q
    rcases dAdd_is ht' with e | ⟨e, _⟩
    · exact .inl (by rw [e]; rfl)
    · injection e with e; subst e; exact .inr hg
/-- A looker that stands nowhere is forgotten. -/
theorem MW.forget {w : World} {N : Nat} {D : Nat → Option Tag} {K : KF} {NN : Nat → Int → Int → Nat} {m : Nat} (h : MW w N D K NN m) (r c : Int) (h0 : ∀ j, j < 65 → NN j r c = 0) : MW w N D (upd K r c none) NN m := by
  refine ⟨h.dom, h.at0, fun r' c' k' e => ?_, ?_, h.few⟩
  · by_cases q : r' = r ∧ c' = c
    · obtain ⟨rfl, rfl⟩ := q; rw [upd_s] at e; cases e
    · rw [upd_o _ _ q] at e; exact h.lo r' c' k' e
  · obtain ⟨A, a1, a2, a3⟩ := h.own
    refine ⟨A, a1, a2, fun j hj => ?_⟩
    obtain ⟨v, l, b1, b2, b3, b4⟩ := a3 j hj
    refine ⟨v, l, b1, b2, b3, b4.re (fun r' c' k' q t => ?_)⟩
    by_cases s : r' = r ∧ c' = c
    · obtain ⟨rfl, rfl⟩ := s; rw [h0 j hj] at t; cases t
    · exact ⟨k', by rw [upd_o _ _ s]; exact q, rfl⟩
end Go.Proofs.YtcjanaldjokllaaGreat
namespace Go.Proofs.YtcjanaldjokllaaGreat
open Go.RowKit
set_option linter.all false
structure Pr where
  r : Int
  c : Int
  t : Int
  l : Int
  b : Int
  q : Int
def Pr.rct (p : Pr) : Rct := ⟨p.t, p.l, p.b, p.q⟩
def cmpP (x y : Pr) : Int := if cmpC x.r x.c y.r y.c = 0 then cmpR x.t x.l x.b x.q y.t y.l y.b y.q else cmpC x.r x.c y.r y.c
def fP (p x : Pr) : Int := cmpP x p
def SrtP (P : List Pr) : Prop := P.Pairwise (fun x y => cmpP x y < 0)
theorem cmpP_neg (x y : Pr) : cmpP x y < 0 ↔ ((x.r < y.r ∨ (x.r = y.r ∧ x.c < y.c)) ∨ ((x.r = y.r ∧ x.c = y.c) ∧ cmpR x.t x.l x.b x.q y.t y.l y.b y.q < 0)) := by
  have h1 := cmpC_neg x.r x.c y.r y.c
  have h2 := cmpC_zero x.r x.c y.r y.c
  unfold cmpP
  split <;> omega
theorem cmpP_zero (x y : Pr) : cmpP x y = 0 ↔ x = y := by
  have h2 := cmpC_zero x.r x.c y.r y.c
  have h3 := cmpR_zero x.t x.l x.b x.q y.t y.l y.b y.q
  obtain ⟨a, b, c, d, e, f⟩ := x
  obtain ⟨a', b', c', d', e', f'⟩ := y
  simp only [Pr.mk.injEq]
  unfold cmpP
  dsimp only at h2 h3 ⊢
  split <;> omega
theorem cmpR_tri (t l b r t' l' b' r' : Int) : cmpR t l b r t' l' b' r' < 0 ↔ 0 < cmpR t' l' b' r' t l b r := by
  have h1 := cmpR_neg t l b r t' l' b' r'
  have h2 := cmpR_neg t' l' b' r' t l b r
  have h3 := cmpR_zero t' l' b' r' t l b r
  omega
theorem cmpP_pos (x y : Pr) : 0 < cmpP x y ↔ cmpP y x < 0 := by
  have h1 := cmpP_neg x y
  have h2 := cmpP_neg y x
  have h3 := cmpR_tri y.t y.l y.b y.q x.t x.l x.b x.q
  have h4 := cmpR_tri x.t x.l x.b x.q y.t y.l y.b y.q
  have h5 := cmpC_neg x.r x.c y.r y.c
  have h6 := cmpC_zero x.r x.c y.r y.c
  have h7 : cmpP x y = 0 ↔ ((x.r = y.r ∧ x.c = y.c) ∧ cmpR x.t x.l x.b x.q y.t y.l y.b y.q = 0) := by unfold cmpP; split <;> omega
  omega
theorem cmpR_trans {a b c d a' b' c' d' a2 b2 c2 d2 : Int} (h1 : cmpR a b c d a' b' c' d' < 0) (h2 : cmpR a' b' c' d' a2 b2 c2 d2 < 0) : cmpR a b c d a2 b2 c2 d2 < 0 := by
  rw [cmpR_neg] at h1 h2 ⊢
  omega
theorem cmpP_trans {x y z : Pr} (h1 : cmpP x y < 0) (h2 : cmpP y z < 0) : cmpP x z < 0 := by
  rw [cmpP_neg] at h1 h2 ⊢
  rcases h1 with h1 | ⟨h1, h3⟩
  · exact .inl (by omega)
  · rcases h2 with h2 | ⟨h2, h4⟩
    · exact .inl (by omega)
    · exact .inr ⟨by omega, cmpR_trans h3 h4⟩
theorem SrtP.mono {P : List Pr} (h : SrtP P) (p : Pr) : MonoF (fP p) P := by
  refine List.Pairwise.imp ?_ h
  intro x y hxy hy
  unfold fP at hy ⊢
  by_cases e : cmpP y p = 0
  · rw [(cmpP_zero y p).1 e] at hxy; exact hxy
  · exact cmpP_trans hxy (by omega)
def addP (P : List Pr) (p : Pr) : List Pr := loF (fP p) P ++ p :: hiF (fP p) P
def dropP (P : List Pr) (p : Pr) : List Pr := loF (fP p) P ++ hiF (fP p) P
theorem addP_srt {P : List Pr} (h : SrtP P) (p : Pr) : SrtP (addP P p) := by
  unfold SrtP addP
  rw [List.pairwise_append]
  refine ⟨List.Pairwise.filter _ h, List.pairwise_cons.2 ⟨fun y hy => (cmpP_pos y p).1 (of_decide_eq_true (List.mem_filter.1 hy).2), List.Pairwise.filter _ h⟩, fun x hx y hy => ?_⟩
  have h1 : cmpP x p < 0 := of_decide_eq_true (List.mem_filter.1 hx).2
  rcases List.mem_cons.1 hy with rfl | hy
  · exact h1
  · exact cmpP_trans h1 ((cmpP_pos y p).1 (of_decide_eq_true (List.mem_filter.1 hy).2))
theorem dropP_srt {P : List Pr} (h : SrtP P) (p : Pr) : SrtP (dropP P p) := by
  unfold SrtP dropP
  rw [List.pairwise_append]
  refine ⟨List.Pairwise.filter _ h, List.Pairwise.filter _ h, fun x hx y hy => ?_⟩
  have h1 : cmpP x p < 0 := of_decide_eq_true (List.mem_filter.1 hx).2
  exact cmpP_trans h1 ((cmpP_pos y p).1 (of_decide_eq_true (List.mem_filter.1 hy).2))
def atC (r c : Int) (p : Pr) : Bool := decide (p.r = r ∧ p.c = c)
/-- A cell's rectangles. -/
def rectsAt (P : List Pr) (r c : Int) : List Rct := (P.filter (atC r c)).map Pr.rct
abbrev fX (p : Pr) : Rct → Int := fR p.t p.l p.b p.q
theorem fP_at {p x : Pr} (h : atC p.r p.c x = true) : fP p x = fX p x.rct := by
  have e : x.r = p.r ∧ x.c = p.c := of_decide_eq_true h
  have h0 : cmpC x.r x.c p.r p.c = 0 := (cmpC_zero _ _ _ _).2 e
  unfold fP cmpP
  rw [if_pos h0]
  rfl
theorem rects_flt {P : List Pr} {p : Pr} (f : Int → Bool) : (((P.filter (fun x => f (fP p x))).filter (atC p.r p.c)).map Pr.rct) = (rectsAt P p.r p.c).filter (fun x => f (fX p x)) := by
  unfold rectsAt
  rw [List.filter_map, List.filter_filter, List.filter_filter]
  congr 1
  apply List.filter_congr
  intro x _
  by_cases h : atC p.r p.c x = true
  · simp only [Function.comp, fP_at h]
    rw [Bool.and_comm]
  · simp only [Bool.not_eq_true] at h
    simp [h]
theorem rectsAt_app (A B : List Pr) (r c : Int) : rectsAt (A ++ B) r c = rectsAt A r c ++ rectsAt B r c := by simp [rectsAt]
theorem rectsAt_cons (p : Pr) (B : List Pr) (r c : Int) : rectsAt (p :: B) r c = if p.r = r ∧ p.c = c then p.rct :: rectsAt B r c else rectsAt B r c := by
  unfold rectsAt
  rw [List.filter_cons]
  by_cases h : p.r = r ∧ p.c = c
  · rw [if_pos (show atC r c p = true from decide_eq_true h), if_pos h, List.map_cons]
  · rw [if_neg (by rw [show atC r c p = false from decide_eq_false h]; decide), if_neg h]
theorem rects_lo (P : List Pr) (p : Pr) : rectsAt (loF (fP p) P) p.r p.c = loF (fX p) (rectsAt P p.r p.c) := rects_flt (fun n => decide (n < 0))
theorem rects_hi (P : List Pr) (p : Pr) : rectsAt (hiF (fP p) P) p.r p.c = hiF (fX p) (rectsAt P p.r p.c) := rects_flt (fun n => decide (0 < n))
theorem rects_add (P : List Pr) (p : Pr) : rectsAt (addP P p) p.r p.c = loF (fX p) (rectsAt P p.r p.c) ++ p.rct :: hiF (fX p) (rectsAt P p.r p.c) := by
  unfold addP
  rw [rectsAt_app, rectsAt_cons, if_pos ⟨rfl, rfl⟩, rects_lo, rects_hi]
theorem rects_drop (P : List Pr) (p : Pr) : rectsAt (dropP P p) p.r p.c = loF (fX p) (rectsAt P p.r p.c) ++ hiF (fX p) (rectsAt P p.r p.c) := by
  unfold dropP
  rw [rectsAt_app, rects_lo, rects_hi]
theorem rects_ge {P : List Pr} {p : Pr} {r c : Int} (h : ¬ (r = p.r ∧ c = p.c)) : rectsAt (geF (fP p) P) r c = rectsAt (hiF (fP p) P) r c := by
  unfold rectsAt geF hiF
  congr 1
  rw [List.filter_filter, List.filter_filter]
  apply List.filter_congr
  intro x _
  by_cases e : atC r c x = true
  · have e2 : x.r = r ∧ x.c = c := of_decide_eq_true e
    have hn : ¬ cmpP x p = 0 := fun q => by rw [(cmpP_zero x p).1 q] at e2; omega
    rw [e, Bool.true_and, Bool.true_and, Bool.eq_iff_iff]
    unfold fP
    simp; omega
  · simp only [Bool.not_eq_true] at e
    rw [e]; rfl
theorem rects_drop_o {P : List Pr} (hs : SrtP P) (p : Pr) {r c : Int} (h : ¬ (r = p.r ∧ c = p.c)) : rectsAt (dropP P p) r c = rectsAt P r c := by
  conv => rhs; rw [parts (hs.mono p)]
  unfold dropP
  rw [rectsAt_app, rectsAt_app, rects_ge h]
theorem rects_add_o {P : List Pr} (hs : SrtP P) (p : Pr) {r c : Int} (h : ¬ (r = p.r ∧ c = p.c)) : rectsAt (addP P p) r c = rectsAt P r c := by
  rw [← rects_drop_o hs p h]
  unfold addP dropP
  rw [rectsAt_app, rectsAt_app, rectsAt_cons, if_neg (by omega)]
theorem rects_srt {P : List Pr} (h : SrtP P) (r c : Int) : SrtR (rectsAt P r c) := by
  unfold SrtR rectsAt
  rw [List.pairwise_map]
  refine List.Pairwise.imp_of_mem ?_ (List.Pairwise.filter _ h)
  intro x y hx hy hxy
  have e1 : x.r = r ∧ x.c = c := of_decide_eq_true (List.mem_filter.1 hx).2
  have e2 : y.r = r ∧ y.c = c := of_decide_eq_true (List.mem_filter.1 hy).2
  have := (cmpP_neg x y).1 hxy
  show cmpR _ _ _ _ _ _ _ _ < 0
  rcases this with h | ⟨_, h⟩
  · omega
  · exact h
theorem rects_has (P : List Pr) (p : Pr) : hasF (fX p) (rectsAt P p.r p.c) = hasF (fP p) P := by
  unfold hasF
  rw [Bool.eq_iff_iff, List.any_eq_true, List.any_eq_true]
  constructor
  · rintro ⟨x, hx, h0⟩
    obtain ⟨y, hy, rfl⟩ := List.mem_map.1 hx
    have := List.mem_filter.1 hy
    exact ⟨y, this.1, by rw [fP_at this.2]; exact h0⟩
  · rintro ⟨y, hy, h0⟩
    have e := (cmpP_zero y p).1 (of_decide_eq_true h0)
    subst e
    exact ⟨y.rct, List.mem_map.2 ⟨y, List.mem_filter.2 ⟨hy, decide_eq_true ⟨rfl, rfl⟩⟩, rfl⟩, decide_eq_true ((cmpR_zero _ _ _ _ _ _ _ _).2 ⟨rfl, rfl, rfl, rfl⟩)⟩
theorem rects_len (P : List Pr) (r c : Int) : (rectsAt P r c).length ≤ P.length := by
  unfold rectsAt
  rw [List.length_map]
  exact List.length_filter_le _ _
/-- Whether a rectangle is counted in a crowd. -/
def inBd : Nat → Rct → Bool
  | 0, _ => true
  | i + 1, x => decide ((x.t - 1) / 64 ≤ i ∧ i ≤ (x.b - 1) / 64)
def cnt (j : Nat) (P : List Pr) (r c : Int) : Nat := ((rectsAt P r c).filter (inBd j)).length
theorem cnt_split {l : List Rct} (f : Rct → Int) (hS : MonoF f l) (g : Rct → Bool) (h : hasF f l = false) (x : Rct) : ((loF f l ++ x :: hiF f l).filter g).length = (l.filter g).length + (if g x = true then 1 else 0) := by
  conv => rhs; arg 1; rw [parts hS, has_no h]
  simp only [List.filter_append, List.filter_cons, List.length_append]
  split <;> simp <;> omega
theorem cnt_add {P : List Pr} (hs : SrtP P) (p : Pr) (h : hasF (fP p) P = false) (j : Nat) : cnt j (addP P p) p.r p.c = cnt j P p.r p.c + (if inBd j p.rct = true then 1 else 0) := by
  unfold cnt
  rw [rects_add]
  exact cnt_split _ ((rects_srt hs p.r p.c).mono _ _ _ _) _ (by rw [rects_has]; exact h) _
theorem cnt_drop {P : List Pr} (hs : SrtP P) (p : Pr) (h : hasF (fP p) P = true) (j : Nat) : cnt j P p.r p.c = cnt j (dropP P p) p.r p.c + (if inBd j p.rct = true then 1 else 0) := by
  unfold cnt
  have hS := (rects_srt hs p.r p.c).mono p.t p.l p.b p.q
  rw [← rects_has] at h
  obtain ⟨x, hx, h0, hlt⟩ := has_idx hS h
  have hxp : x = p.rct := by
    have := (cmpR_zero x.t x.l x.b x.r p.t p.l p.b p.q).1 h0
    obtain ⟨a, b, c, d⟩ := x
    obtain ⟨e1, e2, e3, e4⟩ := this
    dsimp only at e1 e2 e3 e4
    subst e1 e2 e3 e4
    rfl
  have e : rectsAt P p.r p.c = loF (fX p) (rectsAt P p.r p.c) ++ p.rct :: hiF (fX p) (rectsAt P p.r p.c) := by
    have e1 := drop_has hS h
    rw [take_idx hS] at e1
    have e2 := List.append_cancel_left e1
    conv => lhs; rw [← List.take_append_drop (idxF (fX p) (rectsAt P p.r p.c)) (rectsAt P p.r p.c), take_idx hS]
    congr 1
    obtain ⟨h1, h2⟩ := List.getElem?_eq_some_iff.1 hx
    rw [List.drop_eq_getElem_cons h1, h2, hxp]
    congr 1
  rw [rects_drop]
  conv => lhs; rw [e]
  simp only [List.filter_append, List.filter_cons, List.length_append]
  split <;> simp <;> omega
theorem cnt_add_o {P : List Pr} (hs : SrtP P) (p : Pr) (j : Nat) {r c : Int} (h : ¬ (r = p.r ∧ c = p.c)) : cnt j (addP P p) r c = cnt j P r c := by unfold cnt; rw [rects_add_o hs p h]
theorem cnt_drop_o {P : List Pr} (hs : SrtP P) (p : Pr) (j : Nat) {r c : Int} (h : ¬ (r = p.r ∧ c = p.c)) : cnt j (dropP P p) r c = cnt j P r c := by unfold cnt; rw [rects_drop_o hs p h]
theorem addP_len {P : List Pr} (hs : SrtP P) (p : Pr) (h : hasF (fP p) P = false) : (addP P p).length = P.length + 1 := by
  have e := parts (hs.mono p)
  rw [has_no h] at e
  have := congrArg List.length e
  unfold addP
  simp only [List.length_append, List.length_cons] at this ⊢
  omega
theorem dropP_len {P : List Pr} (p : Pr) : (dropP P p).length ≤ P.length := by
  have h1 : ∀ Q : List Pr, (loF (fP p) Q).length + (hiF (fP p) Q).length ≤ Q.length := by
    intro Q
    induction Q with
    | nil => simp [loF, hiF]
    | cons x t ih =>
      unfold loF hiF at ih ⊢
      rw [List.filter_cons, List.filter_cons]
      split <;> split <;> simp_all <;> omega
  unfold dropP
  rw [List.length_append]
  exact h1 P
theorem mem_addP {P : List Pr} {p x : Pr} (h : x ∈ addP P p) : x = p ∨ x ∈ P := by
  rcases List.mem_append.1 h with h | h
  · exact .inr (List.mem_filter.1 h).1
  · rcases List.mem_cons.1 h with h | h
    · exact .inl h
    · exact .inr (List.mem_filter.1 h).1
theorem mem_dropP {P : List Pr} {p x : Pr} (h : x ∈ dropP P p) : x ∈ P := by
  rcases List.mem_append.1 h with h | h <;> exact (List.mem_filter.1 h).1
end Go.Proofs.YtcjanaldjokllaaGreat
