/- Lists that are answered: one more behind a row; pairs as edges; the pairs, seat by seat. -/
import Derived.Test.YtgojnijpjfdocaaGreatCR
namespace Go.Proofs.YtgojnijpjfdocaaGreat
open Go.RowKit
set_option linter.all false
/-- One more behind a row of one's own. -/
theorem app_one {α : Type} {E T : TypeId} {sz by' : Nat} {cs : α → List Value} {i : TypeInfo} {z : Value} (hT : Tryz.prog.underlying T = some (.slice E)) (hi : Tryz.prog.info? E = some i) (hz : i.zero = some z) (hs : i.size = sz) (hb : i.bytes = by') (hzs : z.cells.size = sz) (hsz : 0 < sz) (hc : ∀ x, (cs x).length = sz) (h1 : ∀ x, ∀ u ∈ cs x, u.oneCell' = true)
    {w : World} {base : Nat} {v : Value} {l : List α} (h : RowG E sz cs w base v l) {vb : Nat} {x : α} {T' : TypeId} (hx : w.heap[vb]? = some (.cells (cs x).toArray T' (0, 0))) (hw : base ≤ w.heap.size) (hl : (l.length + 1) * by' ≤ 140737488355328) (hm : l.length + 1 ≤ 9223372036854775807) (ty : TypeId) :
    ∃ v' w', (Builtin.append_ #[T, T] ty #[v, .slice (some ⟨vb, 0, none⟩) 1 1]).run Tryz.prog w = .ok v' w' ∧ RowG E sz cs w' base v' (l ++ [x]) ∧ Below base w w' ∧ (v'.ownBlock = v.ownBlock ∨ v'.ownBlock = some w.heap.size) ∧ Mut (fun b => v.ownBlock = some b) w w' := by
  obtain ⟨v', w', h2, h3, h4, h5, h6⟩ := run_append_own_at (P := Tryz.prog) w base T ty E i z sz by' hT hi hz hs hb hzs hsz v l.length (flatG cs l) h ⟨vb, 0, none⟩ 1 1 (cs x) (by rw [hc x, Nat.one_mul]) (one_news hx) (h1 x) (by unfold maxLen; omega) hl hw
  refine ⟨v', w', h2, ?_, ⟨h4.os, h4.tape, h4.output, h4.size, fun b hb => h4.block b (by omega) (fun q => ?_)⟩, h6, ⟨h4.os, h4.tape, h4.output, h4.size, fun b hb hs => h4.block b hb (fun q => hs q.symm)⟩⟩
  · unfold RowG
    rw [flatG_app, flatG_sing, List.length_append]
    exact h3
  · have := (h.lt b q.symm).1
    omega
def Pr.cs (p : Pr) : List Value := [.int .i64 p.r, .int .i64 p.c, .bool true, .int .i64 p.t, .int .i64 p.l, .int .i64 p.b, .int .i64 p.q]
theorem Pr.len (x : Pr) : x.cs.length = 7 := rfl
theorem Pr.one (x : Pr) : ∀ u ∈ x.cs, u.oneCell' = true := by
  intro u hu
  simp [Pr.cs] at hu
  rcases hu with rfl | rfl | rfl | rfl | rfl | rfl | rfl <;> rfl
theorem infoEdge : (Tryz.prog.info? 52).map (fun i => (i.zero, i.size, i.bytes)) = some (some (.agg #[.int .i64 0, .int .i64 0, .bool false, .int .i64 0, .int .i64 0, .int .i64 0, .int .i64 0]), 7, 56) := by kernel_rfl
theorem infoCell : (Tryz.prog.info? 33).map (fun i => (i.zero, i.size, i.bytes)) = some (some (.agg #[.int .i64 0, .int .i64 0]), 2, 16) := by kernel_rfl
abbrev RowE (w : World) (base : Nat) (v : Value) (l : List Pr) : Prop := RowG 52 7 Pr.cs w base v l
structure Cl where
  r : Int
  c : Int
def Cl.cs (x : Cl) : List Value := [.int .i64 x.r, .int .i64 x.c]
theorem Cl.len (x : Cl) : x.cs.length = 2 := rfl
theorem Cl.one (x : Cl) : ∀ u ∈ x.cs, u.oneCell' = true := by
  intro u hu
  simp [Cl.cs] at hu
  rcases hu with rfl | rfl <;> rfl
abbrev RowC (w : World) (base : Nat) (v : Value) (l : List Cl) : Prop := RowG 33 2 Cl.cs w base v l
/-- Two lists in one strict order with the same things are one. -/
theorem uniq {α : Type} {lt : α → α → Prop} (irr : ∀ x, ¬ lt x x) (asy : ∀ x y, lt x y → ¬ lt y x) : ∀ {A B : List α}, A.Pairwise lt → B.Pairwise lt → (∀ x, x ∈ A ↔ x ∈ B) → A = B
  | [], [], _, _, _ => rfl
  | [], b :: B, _, _, h => by have := (h b).2 (by simp); cases this
  | a :: A, [], _, _, h => by have := (h a).1 (by simp); cases this
  | a :: A, b :: B, hA, hB, h => by
    have hA' := List.pairwise_cons.1 hA
    have hB' := List.pairwise_cons.1 hB
    have hab : a = b := by
      rcases List.mem_cons.1 ((h a).1 (by simp)) with e | e
      · exact e
      · rcases List.mem_cons.1 ((h b).2 (by simp)) with e2 | e2
        · exact e2.symm
        · exact absurd (hB'.1 a e) (asy _ _ (hA'.1 b e2))
    subst hab
    congr 1
    refine uniq irr asy hA'.2 hB'.2 (fun x => ⟨fun hx => ?_, fun hx => ?_⟩)
    · rcases List.mem_cons.1 ((h x).1 (List.mem_cons_of_mem _ hx)) with e | e
      · subst e; exact absurd (hA'.1 _ hx) (irr _)
      · exact e
    · rcases List.mem_cons.1 ((h x).2 (List.mem_cons_of_mem _ hx)) with e | e
      · subst e; exact absurd (hB'.1 _ hx) (irr _)
      · exact e
theorem cmpP_irr (x : Pr) : ¬ cmpP x x < 0 := by have := (cmpP_zero x x).2 rfl; omega
theorem cmpP_asy (x y : Pr) (h : cmpP x y < 0) : ¬ cmpP y x < 0 := by have := cmpP_pos y x; omega
/-- A pair of a cell and a rectangle. -/
def mkP (r c : Int) (x : Rct) : Pr := ⟨r, c, x.t, x.l, x.b, x.r⟩
theorem mkP_rct (p : Pr) : mkP p.r p.c p.rct = p := rfl
theorem mem_rects {P : List Pr} {r c : Int} {x : Rct} : x ∈ rectsAt P r c ↔ mkP r c x ∈ P := by
  unfold rectsAt
  rw [List.mem_map]
  constructor
  · rintro ⟨p, hp, rfl⟩
    have h1 := List.mem_filter.1 hp
    have h2 : p.r = r ∧ p.c = c := of_decide_eq_true h1.2
    obtain ⟨rfl, rfl⟩ := h2
    exact h1.1
  · intro h
    exact ⟨_, List.mem_filter.2 ⟨h, decide_eq_true ⟨rfl, rfl⟩⟩, rfl⟩
/-- A seat's pairs. -/
def seatP (D : Nat → Option Tag) (P : List Pr) (s : Seat) : List Pr := (rectsAt P (rOf D s.g) (cOf D s.g)).map (mkP (rOf D s.g) (cOf D s.g))
theorem all_pairs {D : Nat → Option Tag} {K : KF} {l : List Seat} {n : Int → Int → Nat} {P : List Pr} (hs : SrtP P) (h : CrowdOK D K l n) (hn : ∀ r c, n r c = cnt 0 P r c) : l.flatMap (seatP D P) = P := by
  have hn0 : ∀ r c, rectsAt P r c ≠ [] → 0 < n r c := fun r c q => by
    rw [hn]
    unfold cnt
    rw [List.filter_eq_self.2 (show ∀ x ∈ rectsAt P r c, inBd 0 x = true from fun _ _ => rfl)]
    exact List.length_pos_iff.2 q
  refine uniq cmpP_irr cmpP_asy ?_ hs (fun x => ?_)
  · rw [List.pairwise_flatMap]
    refine ⟨fun s _ => ?_, List.Pairwise.imp ?_ h.srt⟩
    · unfold seatP
      rw [List.pairwise_map]
      refine List.Pairwise.imp ?_ (rects_srt hs _ _)
      intro a b hab
      exact (cmpP_neg _ _).2 (.inr ⟨⟨rfl, rfl⟩, hab⟩)
    · intro a b hab x hx y hy
      obtain ⟨x', _, rfl⟩ := List.mem_map.1 hx
      obtain ⟨y', _, rfl⟩ := List.mem_map.1 hy
      exact (cmpP_neg _ _).2 (.inl hab)
  · rw [List.mem_flatMap]
    constructor
    · rintro ⟨s, _, hx⟩
      obtain ⟨y, hy, rfl⟩ := List.mem_map.1 hx
      exact mem_rects.1 hy
    · intro hx
      have hr : x.rct ∈ rectsAt P x.r x.c := mem_rects.2 hx
      obtain ⟨s, s1, s2⟩ := h.all x.r x.c (hn0 _ _ (fun q => by rw [q] at hr; cases hr))
      refine ⟨s, s1, ?_⟩
      unfold seatP
      rw [(rOf_of s2).1, (rOf_of s2).2]
      exact List.mem_map.2 ⟨_, hr, rfl⟩
end Go.Proofs.YtgojnijpjfdocaaGreat
