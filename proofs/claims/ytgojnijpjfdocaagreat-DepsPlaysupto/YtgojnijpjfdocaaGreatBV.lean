/- get, join, leave on the bands in memory; a looker's rectangles laid anew, a new looker, a looker forgotten. -/
import Derived.Test.YtgojnijpjfdocaaGreatBU
namespace Go.Proofs.YtgojnijpjfdocaaGreat
open Go.RowKit
set_option linter.all false
theorem MW.crow {w : World} {N : Nat} {D : Nat → Option Tag} {K : KF} {NN : Nat → Int → Int → Nat} {m : Nat} (h : MW w N D K NN m) {j : Nat} (hj : j < 65) : ∃ A v l, Own w N A ∧ A[j]? = some v ∧ RowS w v l ∧ (∀ b, v.ownBlock = some b → D b = some (1, (j : Int), 0)) ∧ CrowdOK D K l (NN j) ∧ l.length ≤ 4000000000000 ∧ v.ownBlock ≠ some N ∧ SeesW w D l := by
  obtain ⟨A, a1, a2, a3⟩ := h.own
  obtain ⟨v, l, b1, b2, b3, b4⟩ := a3 j hj
  refine ⟨A, v, l, a1, b1, b2, b3, b4, by have := h.seats b4; omega, fun q => ?_, h.sees b4⟩
  have := b3 N q
  rw [h.at0] at this
  injection this with this
  injection this with this _
  cases this
theorem mw_join (w : World) (N : Nat) (D : Nat → Option Tag) (K : KF) (NN : Nat → Int → Int → Nat) (m j : Nat) (r c : Int) (k : Lo) (h : MW w N D K NN m) (hj : j < 65) (hk : K r c = some k) (hb : NN j r c + 1 ≤ m) (hm : m ≤ 4000000000000) :
    Calls Tryz.prog 75 #[.pointer (some ⟨N, j, none⟩), .pointer (some ⟨k.g, 0, none⟩)] w fun e w' => e = .returned (.tuple #[]) ∧ MOut w N D K (updN NN j r c (NN j r c + 1)) m w' := by
  obtain ⟨A, v, l, a1, a2, a3, a4, a5, a6, a7, a8⟩ := h.crow hj
  have hlo := h.lo r c k hk
  have hS := srt_mono a5.srt r c
  by_cases h0 : 0 < NN j r c
  · obtain ⟨x, x1, x2, x3, x4⟩ := a5.at hk h0
    refine (join_yes w D N j A v l k.g r c a1 a2 a3 a7 a6 hS a8 hlo.own.lt (hlo.own.cell 0) (hlo.own.cell 1) x _ rfl x1 x2 (by omega)).mono ?_
    rintro e w' ⟨rfl, hp⟩
    refine ⟨rfl, h.crowd hj a1 a2 a4 hp ?_ hb⟩
    rw [x3, x4]
    exact a5.put hk hlo.tag (NN j r c + 1) (by omega)
  · have hz : NN j r c = 0 := by omega
    refine (join_no w D N j A v l k.g r c a1 a2 a3 a7 a6 hS a8 hlo.own.lt (hlo.own.cell 0) (hlo.own.cell 1) (by rw [a5.hit]; exact decide_eq_false h0)).mono ?_
    rintro e w' ⟨rfl, hp⟩
    refine ⟨rfl, h.crowd hj a1 a2 a4 hp ?_ hb⟩
    rw [hz]
    exact a5.put hk hlo.tag 1 (by omega)
theorem mw_leave (w : World) (N : Nat) (D : Nat → Option Tag) (K : KF) (NN : Nat → Int → Int → Nat) (m j : Nat) (r c : Int) (k : Lo) (h : MW w N D K NN m) (hj : j < 65) (hk : K r c = some k) (h0 : 0 < NN j r c) (hm : m ≤ 4000000000000) :
    Calls Tryz.prog 66 #[.pointer (some ⟨N, j, none⟩), .pointer (some ⟨k.g, 0, none⟩)] w fun e w' => e = .returned (.tuple #[]) ∧ MOut w N D K (updN NN j r c (NN j r c - 1)) m w' := by
  obtain ⟨A, v, l, a1, a2, a3, a4, a5, a6, a7, a8⟩ := h.crow hj
  have hlo := h.lo r c k hk
  have hS := srt_mono a5.srt r c
  have hf := h.few j r c
  obtain ⟨x, x1, x2, x3, x4⟩ := a5.at hk h0
  by_cases h1 : NN j r c = 1
  · refine (leave_last w D N j A v l k.g r c a1 a2 a3 a7 a6 hS a8 hlo.own.lt (hlo.own.cell 0) (hlo.own.cell 1) x _ rfl x1 x2 (by omega)).mono ?_
    rintro e w' ⟨rfl, hp⟩
    refine ⟨rfl, h.crowd hj a1 a2 a4 hp ?_ (by omega)⟩
    rw [h1]
    exact a5.out r c
  · refine (leave_more w D N j A v l k.g r c a1 a2 a3 a7 a6 hS a8 hlo.own.lt (hlo.own.cell 0) (hlo.own.cell 1) x _ rfl x1 x2 (by omega)).mono ?_
    rintro e w' ⟨rfl, hp⟩
    refine ⟨rfl, h.crowd hj a1 a2 a4 hp ?_ (by omega)⟩
    rw [x3, x4, show ((NN j r c : Nat) : Int) - 1 = ((NN j r c - 1 : Nat) : Int) by omega]
    exact a5.put hk hlo.tag (NN j r c - 1) (by omega)
/-- Whose looker stands for all rectangles. -/
def gotK (K : KF) (NN : Nat → Int → Int → Nat) (r c : Int) : Option Addr := if NN 0 r c = 0 then none else (K r c).map (fun k => ⟨k.g, 0, none⟩)
theorem mw_get (w : World) (N : Nat) (D : Nat → Option Tag) (K : KF) (NN : Nat → Int → Int → Nat) (m : Nat) (r c : Int) (h : MW w N D K NN m) :
    ∃ v, w.cell? ⟨N, 0, none⟩ = some v ∧ (∃ q n cp, v = .slice q n cp) ∧ ∀ W, Below w.heap.size w W → Calls Tryz.prog 64 #[v, .agg #[.int .i64 r, .int .i64 c]] W fun e w' => e = .returned (.pointer (gotK K NN r c)) ∧ Below W.heap.size W w' := by
  obtain ⟨A, v, l, a1, a2, a3, a4, a5, a6, a7, a8⟩ := h.crow (j := 0) (by omega)
  refine ⟨v, (a1.cell 0).trans a2, a3.slice', fun W hb => ?_⟩
  have := get_any W D v l r c (a3.keep hb) a6 (srt_mono a5.srt r c) (a8.keep hb)
  have e : getG D r c l = gotK K NN r c := by
    unfold gotK
    rcases getG_is a5 r c with ⟨e1, e2⟩ | ⟨s, _, e1, e2, k, e3, e4⟩
    · rw [e2, if_pos e1]
    · rw [e2, if_neg (by omega), e3, ← e4]; rfl
  rw [e] at this
  exact this
/-- A looker's rectangles laid anew. -/
theorem MW.look {w w' : World} {N : Nat} {D : Nat → Option Tag} {K : KF} {NN : Nat → Int → Int → Nat} {m m' : Nat} (h : MW w N D K NN m) {r c : Int} {k : Lo} {l' : List Rct} {e : Ending} (hk : K r c = some k) (hp : LookP w k.g r c k.v l' e w') (hs : SrtR l') (hl : l'.length ≤ m') (hm : m ≤ m') :
    ∃ v', MOut w N D (upd K r c (some ⟨k.g, v', l'⟩)) NN m' w' := by
  obtain ⟨_, v', p1, p2, p3, p4⟩ := hp
  have hlo := h.lo r c k hk
  have hT : ∀ b, (b = k.g ∨ k.v.ownBlock = some b) → (D b).isSome = true := fun b q => by
    rcases q with rfl | q
    · rw [hlo.tag]; rfl
    · rw [hlo.rt b q]; rfl
  have hnew : ∀ b, v'.ownBlock = some b → D b = some (3, r, c) ∨ D b = none := fun b q => by
    rcases p3 b q with s | s
    · exact .inl (hlo.rt b s)
    · cases hd : D b with
      | none => exact .inr rfl
      | some t => have := h.dom b t hd; omega
  have hold : ∀ b t, D b = some t → t ≠ (2, r, c) → t ≠ (3, r, c) → w'.heap[b]? = w.heap[b]? := fun b t e n1 n2 => p4.block b (h.dom b t e) (fun q => by
    rcases q with rfl | q
    · rw [hlo.tag] at e; injection e with e; exact n1 e.symm
    · rw [hlo.rt b q] at e; injection e with e; exact n2 e.symm)
  refine ⟨v', dAdd D v'.ownBlock (3, r, c), ⟨fun b t e => ?_, dAdd_old _ _ h.at0, fun r' c' k' e => ?_, ?_, fun j r' c' => Nat.le_trans (h.few j r' c') hm⟩, ⟨p4.os, p4.tape, p4.output, p4.size, fun b hb hn => p4.block b hb (fun q => hn (hT b q))⟩, fun b q => ?_, dAdd_old⟩
  · rcases dAdd_is e with e | ⟨e, _⟩
    · exact Nat.lt_of_lt_of_le (h.dom b t e) p4.size
    · exact (p2.lt b e).2
  · by_cases q : r' = r ∧ c' = c
    · obtain ⟨rfl, rfl⟩ := q
      rw [upd_s] at e
      injection e with e
      subst e
      exact ⟨dAdd_old _ _ hlo.tag, p1, p2, fun b q => dAdd_new q (hnew b q), hs, hl, hlo.may⟩
    · rw [upd_o _ _ q] at e
      exact (h.lo r' c' k' e).of_block (fun b t u s => hold b t u (by rcases s with rfl | rfl <;> (simp; try omega)) (by rcases s with rfl | rfl <;> (simp; try omega))) dAdd_old hm
  · obtain ⟨A, a1, a2, a3⟩ := h.own
    refine ⟨A, a1.of_block (hold N _ h.at0 (by simp) (by simp)), a2, fun j hj => ?_⟩
    obtain ⟨v, l, b1, b2, b3, b4⟩ := a3 j hj
    refine ⟨v, l, b1, b2.of_block (fun b q => hold b _ (b3 b q) (by simp) (by simp)), fun b q => dAdd_old _ _ (b3 b q), (b4.re (fun r' c' k' q _ => ?_)).ext dAdd_old⟩
    by_cases s : r' = r ∧ c' = c
    · obtain ⟨rfl, rfl⟩ := s
      rw [hk] at q; injection q with q; subst q
      exact ⟨_, upd_s _ _ _ _, rfl⟩
    · exact ⟨k', by rw [upd_o _ _ s]; exact q, rfl⟩
  · obtain ⟨t, ht'⟩ := Option.isSome_iff_exists.1 q
    rcases dAdd_is ht' with e | ⟨e, _⟩
    · exact .inl (by rw [e]; rfl)
    · rcases p3 b e with s | s
      · exact .inl (hT b (.inr s))
      · exact .inr s
/-- A new looker. -/
theorem MW.newlook {w w' : World} {N : Nat} {D : Nat → Option Tag} {K : KF} {NN : Nat → Int → Int → Nat} {m : Nat} (h : MW w N D K NN m) {r c : Int} {g : Nat} (hk : K r c = none) (hg : w.heap.size ≤ g) (hm : mayC r c = true) (hb : Below w.heap.size w w') (ho : Own w' g #[.int .i64 r, .int .i64 c, .slice none 0 0]) :
    MOut w N D (upd K r c (some ⟨g, .slice none 0 0, []⟩)) NN m w' := by
  have hgn : D g = none := by
    cases hd : D g with
    | none => rfl
    | some t => have := h.dom g t hd; omega
  have hold : ∀ b t, D b = some t → w'.heap[b]? = w.heap[b]? := fun b t e => hb.block b (h.dom b t e)
  refine ⟨dAdd D (some g) (2, r, c), ⟨fun b t e => ?_, dAdd_old _ _ h.at0, fun r' c' k' e => ?_, ?_, h.few⟩, Mut.of_below hb, fun b q => ?_, dAdd_old⟩
  · rcases dAdd_is e with e | ⟨e, _⟩
    · exact Nat.lt_of_lt_of_le (h.dom b t e) hb.size
    · injection e with e; subst e; exact ho.lt
  · by_cases q : r' = r ∧ c' = c
    · obtain ⟨rfl, rfl⟩ := q
      rw [upd_s] at e
      injection e with e
      subst e
      exact ⟨dAdd_new rfl (.inr hgn), ho, RowG.nil _, (fun b q => by cases q), List.Pairwise.nil, Nat.zero_le _, hm⟩
    · rw [upd_o _ _ q] at e
      exact (h.lo r' c' k' e).of_block (fun b t u _ => hold b t u) dAdd_old (Nat.le_refl _)
  · obtain ⟨A, a1, a2, a3⟩ := h.own
    refine ⟨A, a1.of_block (hold N _ h.at0), a2, fun j hj => ?_⟩
    obtain ⟨v, l, b1, b2, b3, b4⟩ := a3 j hj
    refine ⟨v, l, b1, b2.of_block (fun b q => hold b _ (b3 b q)), fun b q => dAdd_old _ _ (b3 b q), (b4.re (fun r' c' k' q _ => ?_)).ext dAdd_old⟩
    by_cases s : r' = r ∧ c' = c
    · obtain ⟨rfl, rfl⟩ := s
      rw [hk] at q; cases q
    · exact ⟨k', by rw [upd_o _ _ s]; exact q, rfl⟩
  · obtain ⟨t, ht'⟩ := Option.isSome_iff_exists.1 q
    rcases dAdd_is ht' with e | ⟨e, _⟩
    · exact .inl (by rw [e]; rfl)
    · injection e with e; subst e; exact .inr hg
/-- A looker that stands nowhere is forgotten. -/
theorem MW.forget {w : World} {N : Nat} {D : Nat → Option Tag} {K : KF} {NN : Nat → Int → Int → Nat} {m : Nat} (h : MW w N D K NN m) (r c : Int) (h0 : ∀ j, j < 65 → NN j r c = 0) : MW w N D (upd K r c none) NN m := by
  refine ⟨h.dom, h.at0, fun r' c' k' e => ?_, ?_, h.few⟩
  · by_cases q : r' = r ∧ c' = c
    · obtain ⟨rfl, rfl⟩ := q; rw [upd_s] at e; cases e
    · rw [upd_o _ _ q] at e; exact h.lo r' c' k' e
  · obtain ⟨A, a1, a2, a3⟩ := h.own
    refine ⟨A, a1, a2, fun j hj => ?_⟩
    obtain ⟨v, l, b1, b2, b3, b4⟩ := a3 j hj
    refine ⟨v, l, b1, b2, b3, b4.re (fun r' c' k' q t => ?_)⟩
    by_cases s : r' = r ∧ c' = c
    · obtain ⟨rfl, rfl⟩ := s; rw [h0 j hj] at t; cases t
    · exact ⟨k', by rw [upd_o _ _ s]; exact q, rfl⟩
end Go.Proofs.YtgojnijpjfdocaaGreat
