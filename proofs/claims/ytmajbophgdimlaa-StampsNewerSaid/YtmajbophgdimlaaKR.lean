/- What numbering anew makes of the stamps: each look counts the others that are not above it; the others are numbered in their order. No function's text is walked here. -/
import Derived.Test.YtmajbophgdimlaaKQ
namespace Go.Proofs.Ytmajbophgdimlaa
open Go.RowKit
set_option linter.all false
theorem uniq {α : Type} {lt : α → α → Prop} (irr : ∀ x, ¬ lt x x) (asy : ∀ x y, lt x y → ¬ lt y x) : ∀ {A B : List α}, A.Pairwise lt → B.Pairwise lt → (∀ x, x ∈ A ↔ x ∈ B) → A = B
  | [], [], _, _, _ => rfl
  | [], b :: B, _, _, h => by have := (h b).2 (by simp); cases this
  | a :: A, [], _, _, h => by have := (h a).1 (by simp); cases this
  | a :: A, b :: B, hA, hB, h => by
    have hA' := List.pairwise_cons.1 hA
    have hB' := List.pairwise_cons.1 hB
    have hab : a = b := by
      rcases List.mem_cons.1 ((h a).1 (by simp)) with e | e
      · exact e
      · rcases List.mem_cons.1 ((h b).2 (by simp)) with e2 | e2
        · exact e2.symm
        · exact absurd (hB'.1 a e) (asy _ _ (hA'.1 b e2))
    subst hab
    congr 1
    refine uniq irr asy hA'.2 hB'.2 (fun x => ⟨fun hx => ?_, fun hx => ?_⟩)
    · rcases List.mem_cons.1 ((h x).1 (List.mem_cons_of_mem _ hx)) with e | e
      · subst e; exact absurd (hA'.1 _ hx) (irr _)
      · exact e
    · rcases List.mem_cons.1 ((h x).2 (List.mem_cons_of_mem _ hx)) with e | e
      · subst e; exact absurd (hB'.1 _ hx) (irr _)
      · exact e
theorem IsOth.one {S : St} {x y : Int} {l l' : List Cl} (h : IsOth S x y l) (h' : IsOth S x y l') : l' = l :=
  uniq (lt := fun c d : Cl => chg S c.r c.c < chg S d.r d.c) (fun x q => by omega) (fun x y q r => by omega) h'.2 h.2 (fun c => (h'.1 c).trans (h.1 c).symm)
/-- How many of a list have changed below a number. -/
def lowC (S : St) (l : List Cl) (k : Int) : Int := (l.countP fun c => decide (chg S c.r c.c < k) : Nat)
def inK (K : List Cl) (a b : Int) : Bool := K.any fun k => decide (k.r = a ∧ k.c = b)
theorem inK_iff {K : List Cl} {a b : Int} : inK K a b = true ↔ (⟨a, b⟩ : Cl) ∈ K := by
  unfold inK
  rw [List.any_eq_true]
  constructor
  · rintro ⟨⟨c, d⟩, h1, h2⟩
    have := of_decide_eq_true h2
    simp only at this
    rw [← this.1, ← this.2]
    exact h1
  · intro h
    exact ⟨_, h, by simp⟩
def lowP (S : St) (l : List Cl) (p : Int × Int) : Int × Int := (p.1, lowC S l (p.2 + 1))
/-- The looks of some cells are held against the list. -/
def seenP (S : St) (l K : List Cl) : St := fun a b => match S a b with | none => none | some p => some (if inK K a b = true then lowP S l p else p)
def seenA (S : St) (l : List Cl) : St := fun a b => match S a b with | none => none | some p => some (lowP S l p)
theorem seenP_nil (S : St) (l : List Cl) : seenP S l [] = S := by
  funext a b
  unfold seenP inK
  cases h : S a b <;> simp
theorem seenP_at {S : St} {l K : List Cl} {a b : Int} {p : Int × Int} (h : S a b = some p) : seenP S l K a b = some (if inK K a b = true then lowP S l p else p) := by unfold seenP; rw [h]
theorem seenP_dom {S : St} {l K : List Cl} {a b : Int} : seenP S l K a b = none ↔ S a b = none := by
  unfold seenP
  cases h : S a b <;> simp
theorem seenP_out {S : St} {l K : List Cl} {a b : Int} {p : Int × Int} (h : S a b = some p) (hn : (⟨a, b⟩ : Cl) ∉ K) : seenP S l K a b = some p := by
  rw [seenP_at h, if_neg (fun q => hn (inK_iff.1 q))]
theorem seenP_next {S : St} {l K : List Cl} {a b : Int} {p : Int × Int} (h : S a b = some p) : upS (seenP S l K) a b (some (p.1, lowC S l (p.2 + 1))) = seenP S l (K ++ [⟨a, b⟩]) := by
  funext c d
  by_cases t : c = a ∧ d = b
  · obtain ⟨rfl, rfl⟩ := t
    rw [upS_same, seenP_at h, if_pos (inK_iff.2 (by simp))]
    rfl
  · rw [upS_other t]
    unfold seenP
    cases e : S c d with
    | none => rfl
    | some q =>
      have : inK (K ++ [⟨a, b⟩]) c d = inK K c d := by
        rw [Bool.eq_iff_iff, inK_iff, inK_iff, List.mem_append, List.mem_singleton]
        constructor
        · rintro (r | r)
          · exact r
          · injection r with r1 r2; exact absurd ⟨r1, r2⟩ t
        · exact .inl
      rw [this]
theorem seenP_all {S : St} {l K : List Cl} (h : ∀ a b, S a b ≠ none → (⟨a, b⟩ : Cl) ∈ K) : seenP S l K = seenA S l := by
  funext a b
  unfold seenA
  cases e : S a b with
  | none => exact seenP_dom.2 e
  | some p => rw [seenP_at e, if_pos (inK_iff.2 (h a b (by rw [e]; simp)))]
theorem vf_seenP (S : St) (G : Int → Int → Nat) (l K : List Cl) : vf (seenP S l K) G = vf S G := by
  funext a b
  unfold vf seenP
  cases h : S a b <;> rfl
theorem chg_seenP (S : St) (l K : List Cl) (a b : Int) : chg (seenP S l K) a b = chg S a b := by
  unfold chg seenP
  cases h : S a b with
  | none => rfl
  | some p => simp only; split <;> rfl
/-- A list's cells are numbered, one after another. -/
def numP (S : St) : List Cl → Int → St
  | [], _ => S
  | c :: l, i => numP (upS S c.r c.c (some (i + 1, sen S c.r c.c))) l (i + 1)
theorem numP_snoc (c : Cl) : ∀ (l : List Cl) (S : St) (i : Int), numP S (l ++ [c]) i = upS (numP S l i) c.r c.c (some (i + l.length + 1, sen (numP S l i) c.r c.c))
  | [], S, i => by simp [numP]
  | d :: l, S, i => by
    rw [List.cons_append]
    unfold numP
    rw [numP_snoc c l]
    congr 3
    rw [List.length_cons]
    push_cast
    omega
theorem numP_dom : ∀ (l : List Cl) (S : St) (i : Int) (a b : Int), (∀ c ∈ l, S c.r c.c ≠ none) → (numP S l i a b = none ↔ S a b = none)
  | [], S, i, a, b, _ => Iff.rfl
  | d :: l, S, i, a, b, h => by
    unfold numP
    have hd := h d (List.mem_cons_self ..)
    have hq : ∀ a b, upS S d.r d.c (some (i + 1, sen S d.r d.c)) a b = none ↔ S a b = none := fun a b => by
      by_cases t : a = d.r ∧ b = d.c
      · rw [t.1, t.2, upS_same]
        exact ⟨fun q => (by cases q), fun q => absurd q hd⟩
      · rw [upS_other t]
    rw [numP_dom l _ (i + 1) a b (fun c hc q => h c (List.mem_cons_of_mem _ hc) ((hq _ _).1 q)), hq]
theorem Ck.num {F : Nat → Prop} {w : World} {N bm : Nat} {G : Int → Int → Nat} {most last turns : Int} {S : St} {n : Nat} (h : Ck F w N bm G most last turns S n) (v : Int) : Ck F (w.setCell ⟨N, 1, none⟩ (.int .i64 v)) N bm G most v turns S n := by
  have hm : Mut (fun b => b = N) w (w.setCell ⟨N, 1, none⟩ (.int .i64 v)) := Mut.set (S := fun b => b = N) (Mut.refl _ _) (.inl rfl) _
  refine { h with own := ?_, map := h.map.mut hm (fun q => h.nb q.symm), st := fun a b q e => ⟨(h.st a b q e).1, (h.st a b q e).2.mut hm (fun s => (h.ne a b q e).1 s)⟩ }
  have q := own_put' (k := 1) (x := .int .i64 v) h.own (by simp)
  simpa using q
theorem Ck.tick {F : Nat → Prop} {w : World} {N bm : Nat} {G : Int → Int → Nat} {most last turns : Int} {S : St} {n : Nat} (h : Ck F w N bm G most last turns S n) (v : Int) : Ck F (w.setCell ⟨N, 2, none⟩ (.int .i64 v)) N bm G most last v S n := by
  have hm : Mut (fun b => b = N) w (w.setCell ⟨N, 2, none⟩ (.int .i64 v)) := Mut.set (S := fun b => b = N) (Mut.refl _ _) (.inl rfl) _
  refine { h with own := ?_, map := h.map.mut hm (fun q => h.nb q.symm), st := fun a b q e => ⟨(h.st a b q e).1, (h.st a b q e).2.mut hm (fun s => (h.ne a b q e).1 s)⟩ }
  have q := own_put' (k := 2) (x := .int .i64 v) h.own (by simp)
  simpa using q
theorem sk_low (S : St) (G : Int → Int → Nat) (l : List Cl) (k : Int) : ((lowS (l.map fun c => (⟨G c.r c.c, chg S c.r c.c⟩ : Sk)) k : Nat) : Int) = lowC S l k := by
  unfold lowS lowC
  rw [List.countP_map]
  rfl
/-- The list as notAbove reads it. -/
theorem lst_of {S S' : St} {G : Int → Int → Nat} {F : Nat → Prop} {w : World} {N bm base : Nat} {most last turns : Int} {n : Nat} {v : Value} {l : List Cl} (h : Ck F w N bm G most last turns S' n) (hl : RowP G w base v l) (hc : ∀ c ∈ l, ∃ p, S' c.r c.c = some p ∧ p.1 = chg S c.r c.c) : LstK w v (l.map fun c => (⟨G c.r c.c, chg S c.r c.c⟩ : Sk)) := by
  obtain ⟨q, cap, hv, h1, h2, h3⟩ := RowG.view (sz := 1) (fun _ => rfl) hl
  by_cases h0 : l = []
  · subst h0
    rcases hl.two with ⟨e1, _⟩ | ⟨g, cap', cur, e1, e2, e3, e4, e5, e6, e7, e8⟩
    · exact .inl ⟨e1, rfl⟩
    · refine .inr ⟨g, cap', e1, e3, e5, fun i x hx => by simp at hx⟩
  · have hp : 0 < l.length := List.length_pos_iff.2 h0
    obtain ⟨g, rfl, hg, hcl⟩ := h3 hp
    refine .inr ⟨g, cap, by rw [List.length_map]; exact hv, hg, by rw [List.length_map]; exact h1, fun i x hx => ?_⟩
    rw [List.getElem?_map] at hx
    obtain ⟨c, hc1, rfl⟩ := Option.map_eq_some_iff.1 hx
    obtain ⟨p, e1, e2⟩ := hc c (List.mem_of_getElem? hc1)
    have hst := (h.st _ _ _ e1).2
    have := hcl i c hc1 0 _ rfl
    rw [show i * 1 + 0 = i by omega] at this
    exact ⟨this, hst.lt, by rw [← e2]; exact hst.cell 0⟩
end Go.Proofs.Ytmajbophgdimlaa
