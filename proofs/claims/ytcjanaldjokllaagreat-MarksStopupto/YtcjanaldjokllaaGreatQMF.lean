/- The document's marks: its list of states; what a put makes of it. No function's text is walked here. -/
import Derived.Test.YtcjanaldjokllaaGreatQME
namespace Go.Proofs.YtcjanaldjokllaaGreat
open Go.RowKit Go.Shelf
set_option linter.all false
structure Mk where
  r : Int
  c : Int
  s : Int
def Mk.cs (x : Mk) : List Value := [.int .i64 x.r, .int .i64 x.c, .int .i64 x.s]
theorem Mk.len (x : Mk) : x.cs.length = 3 := rfl
theorem Mk.one (x : Mk) : ∀ u ∈ x.cs, u.oneCell' = true := by
  intro u hu
  simp only [Mk.cs, List.mem_cons, List.not_mem_nil, or_false] at hu
  rcases hu with rfl | rfl | rfl <;> rfl
abbrev RowX (w : World) (base : Nat) (v : Value) (l : List Mk) : Prop := RowG 61 3 Mk.cs w base v l
/-- A list of marks, one more. -/
def ApX (b : Nat) : Prop := ∀ W (v : Value) (L : List Mk) vb (x : Mk), RowX W b v L → W.heap[vb]? = some (.cells x.cs.toArray 61 (0, 0)) → b ≤ W.heap.size → L.length ≤ 4000000000000 → ∀ ty, ∃ v' w', (Builtin.append_ #[58, 58] ty #[v, .slice (some ⟨vb, 0, none⟩) 1 1]).run Tryz.prog W = .ok v' w' ∧ RowX w' b v' (L ++ [x]) ∧ Below b W w' ∧ (v'.ownBlock = v.ownBlock ∨ v'.ownBlock = some W.heap.size) ∧ Mut (fun b => v.ownBlock = some b) W w'
theorem apX (b : Nat) : ApX b := by
  obtain ⟨i0, hi0, hz0, hzs, hzb⟩ := info_parts infoMk
  exact fun W v L vb x r1 r2 r3 r4 ty => app_one Tryz.underlying58 hi0 hz0 hzs hzb rfl (by omega) Mk.len Mk.one r1 r2 r3 (by omega) (by omega) ty
/-- The state that the list tells of a cell: the first one. -/
def stL : List Mk → Ms
  | [], _, _ => none
  | e :: l, x, y => if e.r = x ∧ e.c = y then some e.s else stL l x y
theorem stL_cons (e : Mk) (l : List Mk) (x y : Int) : stL (e :: l) x y = if e.r = x ∧ e.c = y then some e.s else stL l x y := rfl
theorem stL_app (l m : List Mk) (x y : Int) : stL (l ++ m) x y = (stL l x y).or (stL m x y) := by
  induction l with
  | nil => rfl
  | cons e l ih =>
    rw [List.cons_append, stL_cons, stL_cons]
    split
    · rfl
    · exact ih
theorem stL_out {l : List Mk} {x y : Int} (h : ∀ e ∈ l, ¬ (e.r = x ∧ e.c = y)) : stL l x y = none := by
  induction l with
  | nil => rfl
  | cons e l ih =>
    unfold stL
    rw [if_neg (h e List.mem_cons_self)]
    exact ih (fun f hf => h f (List.mem_cons_of_mem _ hf))
theorem stL_at {l : List Mk} {x y : Int} {i : Nat} {e : Mk} (he : l[i]? = some e) (hr : e.r = x ∧ e.c = y) (h : ∀ k f, k < i → l[k]? = some f → ¬ (f.r = x ∧ f.c = y)) : stL l x y = some e.s := by
  induction l generalizing i with
  | nil => simp at he
  | cons d l ih =>
    cases i with
    | zero =>
      simp only [List.getElem?_cons_zero, Option.some.injEq] at he
      subst he
      unfold stL
      rw [if_pos hr]
    | succ i =>
      rw [List.getElem?_cons_succ] at he
      unfold stL
      rw [if_neg (h 0 d (by omega) rfl)]
      exact ih he (fun k f hk hf => h (k + 1) f (by omega) (by rw [List.getElem?_cons_succ]; exact hf))
/-- One thing of the old list: the new one ahead of it, if it is its turn; then it, if it is another cell's. -/
def putS (x y s : Int) (b : Mk → Bool) (p : List Mk × Bool) (e : Mk) : List Mk × Bool :=
  ((if (b e && !p.2) = true then p.1 ++ [⟨x, y, s⟩] else p.1) ++ (if e.r = x ∧ e.c = y then [] else [e]), p.2 || b e)
def putL (x y s : Int) (b : Mk → Bool) (l : List Mk) : List Mk × Bool := l.foldl (putS x y s b) ([], decide (s < 0))
theorem putL_next {x y s : Int} {b : Mk → Bool} {l : List Mk} {i : Nat} {e : Mk} (h : l[i]? = some e) : putL x y s b (l.take (i + 1)) = putS x y s b (putL x y s b (l.take i)) e := by
  unfold putL
  rw [List.take_succ, h, List.foldl_append]
  rfl
def putE (x y s : Int) (p : List Mk × Bool) : List Mk := if p.2 = true then p.1 else p.1 ++ [⟨x, y, s⟩]
/-- What stands under way: the others' states as far as one has come; the cell's own once it is in. -/
structure PutOk (x y s : Int) (l : List Mk) (p : List Mk × Bool) : Prop where
  oth : ∀ a c, ¬ (a = x ∧ c = y) → stL p.1 a c = stL l a c
  self : stL p.1 x y = if p.2 = true ∧ 0 ≤ s then some s else none
  neg : s < 0 → p.2 = true
  len : p.1.length ≤ l.length + (if p.2 = true then 1 else 0)
theorem or_none (o : Option Int) : o.or none = o := by cases o <;> rfl
theorem putS_ok {x y s : Int} {b : Mk → Bool} {l : List Mk} {p : List Mk × Bool} (h : PutOk x y s l p) (e : Mk) : PutOk x y s (l ++ [e]) (putS x y s b p e) := by
  have hone : ∀ (a c : Int), stL (if e.r = x ∧ e.c = y then ([] : List Mk) else [e]) a c = if (e.r = a ∧ e.c = c) ∧ ¬ (e.r = x ∧ e.c = y) then some e.s else none := fun a c => by
    by_cases q : e.r = x ∧ e.c = y
    · rw [if_pos q, if_neg (fun t => t.2 q)]; rfl
    · rw [if_neg q]
      unfold stL
      by_cases t : e.r = a ∧ e.c = c
      · rw [if_pos t, if_pos ⟨t, q⟩]
      · rw [if_neg t, if_neg (fun u => t u.1)]; rfl
  have hsing : ∀ a c, stL [e] a c = if e.r = a ∧ e.c = c then some e.s else none := fun a c => rfl
  have hnew : ∀ a c, stL [(⟨x, y, s⟩ : Mk)] a c = if x = a ∧ y = c then some s else none := fun a c => rfl
  refine ⟨fun a c q => ?_, ?_, fun q => ?_, ?_⟩
  · show stL ((if (b e && !p.2) = true then p.1 ++ [⟨x, y, s⟩] else p.1) ++ (if e.r = x ∧ e.c = y then [] else [e])) a c = _
    rw [stL_app, stL_app, hone, hsing]
    have h1 : stL (if (b e && !p.2) = true then p.1 ++ [⟨x, y, s⟩] else p.1) a c = stL l a c := by
      split
      · rw [stL_app, h.oth a c q, hnew, if_neg (fun t => q ⟨t.1.symm, t.2.symm⟩), or_none]
      · exact h.oth a c q
    rw [h1]
    congr 1
    by_cases t : e.r = a ∧ e.c = c
    · rw [if_pos t, if_pos ⟨t, fun u => q ⟨t.1.symm.trans u.1, t.2.symm.trans u.2⟩⟩]
    · rw [if_neg t, if_neg (fun u => t u.1)]
  · show stL ((if (b e && !p.2) = true then p.1 ++ [⟨x, y, s⟩] else p.1) ++ (if e.r = x ∧ e.c = y then [] else [e])) x y = if (p.2 || b e) = true ∧ 0 ≤ s then some s else none
    rw [stL_app, hone, if_neg (show ¬ ((e.r = x ∧ e.c = y) ∧ ¬ (e.r = x ∧ e.c = y)) from fun t => t.2 t.1), or_none]
    have hs := h.self
    cases hb : b e
    · simp only [Bool.false_and, Bool.or_false]
      rw [if_neg (by simp)]
      exact hs
    · cases hp : p.2
      · rw [hp] at hs
        have hs0 : 0 ≤ s := by
          by_cases q : s < 0
          · have := h.neg q; rw [hp] at this; cases this
          · omega
        simp only [Bool.not_false, Bool.and_self, Bool.or_true, if_true]
        rw [stL_app, hs, hnew]
        simp [hs0]
      · rw [hp] at hs
        simp only [Bool.not_true, Bool.and_false, Bool.or_self]
        rw [if_neg (by simp)]
        simpa using hs
  · show (p.2 || b e) = true
    rw [h.neg q]; rfl
  · show ((if (b e && !p.2) = true then p.1 ++ [⟨x, y, s⟩] else p.1) ++ (if e.r = x ∧ e.c = y then [] else [e])).length ≤ (l ++ [e]).length + (if (p.2 || b e) = true then 1 else 0)
    have hl := h.len
    rw [List.length_append, List.length_append, List.length_singleton]
    have h2 : (if e.r = x ∧ e.c = y then ([] : List Mk) else [e]).length ≤ 1 := by split <;> simp
    cases hb : b e
    · simp only [Bool.false_and, Bool.or_false]
      rw [if_neg (by simp)]
      omega
    · cases hp : p.2
      · rw [hp] at hl
        simp at hl ⊢
        omega
      · rw [hp] at hl
        simp at hl ⊢
        omega
theorem putL_ok (x y s : Int) (b : Mk → Bool) : ∀ (l : List Mk), PutOk x y s l (putL x y s b l) := by
  intro l
  have key : ∀ (m k : List Mk) (p : List Mk × Bool), PutOk x y s k p → PutOk x y s (k ++ m) (m.foldl (putS x y s b) p) := by
    intro m
    induction m with
    | nil => intro k p h; rw [List.append_nil]; exact h
    | cons e m ih =>
      intro k p h
      have := ih (k ++ [e]) _ (putS_ok (b := b) h e)
      rw [List.append_assoc] at this
      exact this
  refine key l [] _ ⟨fun a c _ => rfl, ?_, fun q => decide_eq_true q, Nat.zero_le _⟩
  show none = if decide (s < 0) = true ∧ 0 ≤ s then some s else none
  rw [if_neg]
  rintro ⟨h1, h2⟩
  rw [decide_eq_true_eq] at h1
  omega
/-- Behind a put. -/
theorem putE_is (x y s : Int) (b : Mk → Bool) (l : List Mk) : stL (putE x y s (putL x y s b l)) = upM (stL l) x y (if 0 ≤ s then some s else none) ∧ (putE x y s (putL x y s b l)).length ≤ l.length + 1 := by
  have h := putL_ok x y s b l
  constructor
  · funext a c
    unfold putE upM
    by_cases q : a = x ∧ c = y
    · rw [if_pos q, q.1, q.2]
      by_cases t : (putL x y s b l).2 = true
      · rw [if_pos t, h.self]
        by_cases hs : 0 ≤ s
        · rw [if_pos ⟨t, hs⟩, if_pos hs]
        · rw [if_neg (fun u => hs u.2), if_neg hs]
      · rw [if_neg t, stL_app, h.self, if_neg (fun u => t u.1)]
        have hs : 0 ≤ s := by
          by_cases q : s < 0
          · exact absurd (h.neg q) t
          · omega
        rw [if_pos hs]
        simp [stL]
    · rw [if_neg q]
      by_cases t : (putL x y s b l).2 = true
      · rw [if_pos t]; exact h.oth a c q
      · rw [if_neg t, stL_app, h.oth a c q]
        have : stL [(⟨x, y, s⟩ : Mk)] a c = none := by
          unfold stL
          rw [if_neg (fun u => q ⟨u.1.symm, u.2.symm⟩)]
          rfl
        rw [this, or_none]
  · have hl := h.len
    unfold putE
    split
    · rename_i t; rw [if_pos t] at hl; exact hl
    · rename_i t; rw [if_neg t] at hl; rw [List.length_append, List.length_singleton]; omega
end Go.Proofs.YtcjanaldjokllaaGreat
