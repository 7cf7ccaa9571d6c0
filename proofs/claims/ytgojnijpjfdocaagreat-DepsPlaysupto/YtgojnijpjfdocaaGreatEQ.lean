/- Cells and references compared; a list without what stands twice side by side. No function's text is walked here. -/
import Derived.Test.YtgojnijpjfdocaaGreatEC
namespace Go.Proofs.YtgojnijpjfdocaaGreat
open Go.RowKit
set_option linter.all false
def sCl (x y : Cl) : Bool := sameC x.r x.c y.r y.c
theorem sCl_is {x y : Cl} : sCl x y = true ↔ x = y := by
  obtain ⟨a, b⟩ := x
  obtain ⟨c, d⟩ := y
  simp [sCl, sameC]
theorem eqCl (x y : Cl) (w : World) : (binOp .eql 33 (.agg #[.int .i64 x.r, .int .i64 x.c]) (.agg #[.int .i64 y.r, .int .i64 y.c])).run Tryz.prog w = .ok (.bool (sCl x y)) w := eqC x.r x.c y.r y.c w
theorem neCl (x y : Cl) (w : World) : (binOp .neq 33 (.agg #[.int .i64 x.r, .int .i64 x.c]) (.agg #[.int .i64 y.r, .int .i64 y.c])).run Tryz.prog w = .ok (.bool (!sCl x y)) w := neC x.r x.c y.r y.c w
def sRf (x y : Rf) : Bool := decide (x.m = y.m ∧ x.t = y.t ∧ x.l = y.l ∧ x.b = y.b ∧ x.q = y.q)
theorem sRf_is {x y : Rf} : sRf x y = true ↔ x = y := by
  obtain ⟨a, b, c, d, e⟩ := x
  obtain ⟨a', b', c', d', e'⟩ := y
  simp [sRf]
set_option maxHeartbeats 1000000 in
theorem eqInRf (x y : Rf) (w : World) : (Op.equalIn 10000 50 (.agg #[.bool x.m, .int .i64 x.t, .int .i64 x.l, .int .i64 x.b, .int .i64 x.q]) (.agg #[.bool y.m, .int .i64 y.t, .int .i64 y.l, .int .i64 y.b, .int .i64 y.q])).run Tryz.prog w = .ok (sRf x y) w := by
  have hr : ∀ (d : Nat) (xs ys : Array Value) (w : World), (Op.equalIn (d + 1) 48 (.agg xs) (.agg ys)).run Tryz.prog w = (Op.eqFields d xs ys (Tryz.prog.fieldsOf 48).toList).run Tryz.prog w := fun d xs ys w => run_equalIn_agg w d 48 _ _ (by kernel_rfl) (by kernel_rfl)
  rw [run_equalIn_agg w 9999 50 _ _ (by kernel_rfl) (by kernel_rfl)]
  unfold sRf
  go_simp
  by_cases h1 : x.m = y.m
  · by_cases h2 : x.t = y.t
    · by_cases h3 : x.l = y.l
      · by_cases h4 : x.b = y.b
        · by_cases h5 : x.q = y.q
          · simp [h1, h2, h3, h4, h5]
          · simp [h1, h2, h3, h4, h5]
        · simp [h1, h2, h3, h4]
      · simp [h1, h2, h3]
    · simp [h1, h2]
  · simp [h1]
theorem eqRf (x y : Rf) (w : World) : (binOp .eql 50 (.agg #[.bool x.m, .int .i64 x.t, .int .i64 x.l, .int .i64 x.b, .int .i64 x.q]) (.agg #[.bool y.m, .int .i64 y.t, .int .i64 y.l, .int .i64 y.b, .int .i64 y.q])).run Tryz.prog w = .ok (.bool (sRf x y)) w := by
  rw [run_eql_struct, eqInRf]; rfl
theorem neRf (x y : Rf) (w : World) : (binOp .neq 50 (.agg #[.bool x.m, .int .i64 x.t, .int .i64 x.l, .int .i64 x.b, .int .i64 x.q]) (.agg #[.bool y.m, .int .i64 y.t, .int .i64 y.l, .int .i64 y.b, .int .i64 y.q])).run Tryz.prog w = .ok (.bool (!sRf x y)) w := by
  rw [run_neq_struct, eqInRf]; rfl
section
variable {α : Type}
/-- One more, but where it stands there already. -/
def cpS (s : α → α → Bool) (acc : List α) (x : α) : List α := if (match acc.getLast? with | some y => s x y | none => false) = true then acc else acc ++ [x]
/-- Each once, where like ones stand side by side. -/
def cpt (s : α → α → Bool) (l : List α) : List α := l.foldl (cpS s) []
theorem cpS_len (s : α → α → Bool) (acc : List α) (x : α) : (cpS s acc x).length ≤ acc.length + 1 := by
  have h : cpS s acc x = acc ∨ cpS s acc x = acc ++ [x] := by unfold cpS; exact (Classical.em _).elim (fun h => .inl (if_pos h)) (fun h => .inr (if_neg h))
  rcases h with h | h <;> rw [h] <;> simp
theorem cpt_next {s : α → α → Bool} {l : List α} {k : Nat} {x : α} (h : l[k]? = some x) : cpt s (l.take (k + 1)) = cpS s (cpt s (l.take k)) x := by unfold cpt; rw [List.take_succ, h, List.foldl_append]; rfl
theorem cpt_len (s : α → α → Bool) (l : List α) : (cpt s l).length ≤ l.length := by
  have : ∀ (l acc : List α), (l.foldl (cpS s) acc).length ≤ acc.length + l.length := by
    intro l
    induction l with
    | nil => intro acc; simp
    | cons a t ih => intro acc; refine Nat.le_trans (ih _) ?_; have := cpS_len s acc a; simp only [List.length_cons]; omega
  have h := this l []
  simpa [cpt] using h
/-- The last that is kept is the last there was. -/
theorem cpt_last {s : α → α → Bool} (hs : ∀ x y, s x y = true ↔ x = y) {l : List α} {k : Nat} {x : α} (h : l[k]? = some x) : (cpt s (l.take (k + 1))).getLast? = some x := by
  rw [cpt_next h]
  unfold cpS
  cases hl : (cpt s (l.take k)).getLast? with
  | none => simp
  | some y =>
    by_cases e : s x y = true
    · simp only [e, if_true]; rw [hl, (hs x y).1 e]
    · simp only [e, if_false]; simp
theorem cpt_step {s : α → α → Bool} (hs : ∀ x y, s x y = true ↔ x = y) {l : List α} {k : Nat} {x y : α} (h : l[k]? = some x) (h1 : l[k + 1]? = some y) : cpt s (l.take (k + 2)) = if s y x = true then cpt s (l.take (k + 1)) else cpt s (l.take (k + 1)) ++ [y] := by
  rw [cpt_next h1]
  unfold cpS
  rw [cpt_last hs h]
/-- As long as no two stand alike. -/
theorem cpt_plain {s : α → α → Bool} (hs : ∀ x y, s x y = true ↔ x = y) {l : List α} : ∀ {k : Nat}, k < l.length → (∀ (j : Nat) (x y : α), j + 1 ≤ k → l[j]? = some x → l[j + 1]? = some y → s y x = false) → cpt s (l.take (k + 1)) = l.take (k + 1)
  | 0, hk, _ => by
    obtain ⟨x, hx⟩ : ∃ x, l[0]? = some x := ⟨_, List.getElem?_eq_getElem hk⟩
    rw [cpt_next hx]
    simp [cpt, cpS, List.take_succ, hx]
  | k + 1, hk, h => by
    have ih := cpt_plain hs (k := k) (by omega) (fun j x y hj => h j x y (by omega))
    obtain ⟨x, hx⟩ : ∃ x, l[k]? = some x := ⟨_, List.getElem?_eq_getElem (by omega)⟩
    obtain ⟨y, hy⟩ : ∃ y, l[k + 1]? = some y := ⟨_, List.getElem?_eq_getElem hk⟩
    rw [cpt_step hs hx hy, h k x y (by omega) hx hy, ih]
    simp only [Bool.false_eq_true, if_false]
    conv => rhs; rw [List.take_succ, hy]
    rfl
theorem mem_cpS {s : α → α → Bool} (hs : ∀ x y, s x y = true ↔ x = y) {acc : List α} {x z : α} : z ∈ cpS s acc x ↔ (z ∈ acc ∨ z = x) := by
  unfold cpS
  cases hl : acc.getLast? with
  | none => simp
  | some y =>
    by_cases e : s x y = true
    · simp only [e, if_true]
      have hy := List.mem_of_getLast? hl
      have := (hs x y).1 e
      subst this
      constructor
      · exact Or.inl
      · rintro (h | rfl)
        · exact h
        · exact hy
    · simp [e]
theorem mem_cpt {s : α → α → Bool} (hs : ∀ x y, s x y = true ↔ x = y) {l : List α} {z : α} : z ∈ cpt s l ↔ z ∈ l := by
  have : ∀ (l acc : List α), z ∈ l.foldl (cpS s) acc ↔ (z ∈ acc ∨ z ∈ l) := by
    intro l
    induction l with
    | nil => intro acc; simp
    | cons a t ih => intro acc; rw [List.foldl_cons, ih, mem_cpS hs]; simp [or_assoc]
  have h := this l []
  simpa [cpt] using h
/-- Of a list in order just the unlike ones are left, each ahead of the next. -/
theorem cpt_srt {s : α → α → Bool} (hs : ∀ x y, s x y = true ↔ x = y) {lt : α → α → Prop} (htr : ∀ {x y z}, lt x y → lt y z → lt x z) {l : List α} (h : l.Pairwise (fun x y => lt x y ∨ x = y)) : (cpt s l).Pairwise lt := by
  have : ∀ (l acc : List α), acc.Pairwise lt → l.Pairwise (fun x y => lt x y ∨ x = y) → (∀ x ∈ acc, ∀ y ∈ l, lt x y ∨ x = y) → (∀ x ∈ acc, ∀ y, acc.getLast? = some y → lt x y ∨ x = y) → (l.foldl (cpS s) acc).Pairwise lt := by
    intro l
    induction l with
    | nil => intro acc h _ _ _; exact h
    | cons a t ih =>
      intro acc ha hl hb hc
      rw [List.foldl_cons]
      rw [List.pairwise_cons] at hl
      have hb' : ∀ x ∈ acc, ∀ y ∈ t, lt x y ∨ x = y := fun x hx y hy => hb x hx y (List.mem_cons_of_mem _ hy)
      unfold cpS
      cases hlast : acc.getLast? with
      | none =>
        have e : acc = [] := List.getLast?_eq_none_iff.1 hlast
        subst e
        simp only [Bool.false_eq_true, if_false, List.nil_append]
        exact ih [a] (List.pairwise_singleton _ _) hl.2 (fun x hx y hy => by simp at hx; subst hx; exact hl.1 y hy) (fun x hx y hy => by simp at hx hy; subst hx; subst hy; exact .inr rfl)
      | some b =>
        by_cases e : s a b = true
        · simp only [e, if_true]
          exact ih acc ha hl.2 hb' (by rw [hlast] at hc ⊢; exact hc)
        · simp only [e, if_false]
          have hab : ∀ x ∈ acc, lt x a := fun x hx => by
            have hbm := List.mem_of_getLast? hlast
            have hba : lt b a := by
              rcases hb b hbm a (List.mem_cons_self) with q | q
              · exact q
              · exact absurd ((hs a b).2 q.symm) e
            rcases hc x hx b hlast with q | q
            · exact htr q hba
            · subst q; exact hba
          refine ih _ (List.pairwise_append.2 ⟨ha, List.pairwise_singleton _ _, fun x hx y hy => by simp at hy; subst hy; exact hab x hx⟩) hl.2 ?_ ?_
          · intro x hx y hy
            rcases List.mem_append.1 hx with q | q
            · exact hb' x q y hy
            · simp at q; subst q; exact hl.1 y hy
          · intro x hx y hy
            simp at hy
            subst hy
            rcases List.mem_append.1 hx with q | q
            · exact .inl (hab x q)
            · simp at q; exact .inr q
  exact this l [] List.Pairwise.nil h (fun x hx => by cases hx) (fun x hx => by cases hx)
/-- From the cells to the list. -/
theorem flat_of {cs : α → List Value} {sz : Nat} (hc : ∀ x, (cs x).length = sz) {R : List α} {cur : Array Value} (h : ∀ i x j u, R[i]? = some x → (cs x)[j]? = some u → cur[i * sz + j]? = some u) : cur.toList.take (R.length * sz) = flatG cs R := by
  apply List.ext_getElem?
  intro t
  by_cases ht : t < R.length * sz
  · rw [List.getElem?_take_of_lt ht]
    have hsz : 0 < sz := by
      rcases Nat.eq_zero_or_pos sz with h0 | h0
      · rw [h0] at ht; simp at ht
      · exact h0
    have hq : t / sz < R.length := by rw [Nat.div_lt_iff_lt_mul hsz]; exact ht
    have hr : t % sz < sz := Nat.mod_lt _ hsz
    have htt : t = t / sz * sz + t % sz := by rw [Nat.mul_comm]; exact (Nat.div_add_mod t sz).symm
    have hx : R[t / sz]? = some (R[t / sz]'hq) := List.getElem?_eq_getElem hq
    have hj : t % sz < (cs (R[t / sz]'hq)).length := by rw [hc]; exact hr
    have h1 := h _ _ _ _ hx (List.getElem?_eq_getElem hj)
    have h2 := flatG_at hc R _ _ _ hx hr
    rw [← htt] at h1 h2
    rw [h2, List.getElem?_eq_getElem hj]
    simpa using h1
  · rw [List.getElem?_take, if_neg ht, List.getElem?_eq_none]
    rw [flatG_len hc]; omega
end
/-- One cell behind the other is set. -/
def putA (a : Array Value) (o : Nat) : List Value → Array Value
  | [] => a
  | v :: t => putA (a.setIfInBounds o v) (o + 1) t
theorem putA_size : ∀ (vs : List Value) (a : Array Value) (o : Nat), (putA a o vs).size = a.size
  | [], _, _ => rfl
  | v :: t, a, o => by rw [putA, putA_size]; simp
theorem putA_out : ∀ (vs : List Value) (a : Array Value) (o t : Nat), (t < o ∨ o + vs.length ≤ t) → (putA a o vs)[t]? = a[t]?
  | [], _, _, _, _ => rfl
  | v :: r, a, o, t, h => by
    rw [putA, putA_out r _ _ _ (by simp only [List.length_cons] at h; omega), Array.getElem?_setIfInBounds_ne]
    simp only [List.length_cons] at h; omega
theorem putA_in : ∀ (vs : List Value) (a : Array Value) (o j : Nat) (u : Value), o + vs.length ≤ a.size → vs[j]? = some u → (putA a o vs)[o + j]? = some u
  | [], _, _, _, _, _, h => by simp at h
  | v :: r, a, o, 0, u, hs, h => by
    simp only [List.length_cons] at hs
    rw [putA, putA_out r _ _ _ (.inl (by omega))]
    simp at h
    subst h
    rw [Nat.add_zero, Array.getElem?_setIfInBounds_self_of_lt (by omega)]
  | v :: r, a, o, j + 1, u, hs, h => by
    simp only [List.length_cons] at hs
    rw [putA, show o + (j + 1) = (o + 1) + j by omega]
    exact putA_in r _ _ _ _ (by rw [Array.size_setIfInBounds]; omega) (by simpa using h)
def putW (W : World) (g o : Nat) : List Value → World
  | [] => W
  | v :: t => putW (W.setCell ⟨g, o, none⟩ v) g (o + 1) t
theorem putW_heap {E : TypeId} {g : Nat} : ∀ (vs : List Value) (W : World) (a : Array Value) (o : Nat), W.heap[g]? = some (.cells a E (0, 0)) → (putW W g o vs).heap[g]? = some (.cells (putA a o vs) E (0, 0))
  | [], _, _, _, h => h
  | v :: t, W, a, o, h => putW_heap t _ _ _ (heap_setCell_same W g o a E v h)
theorem putW_mut {S : Nat → Prop} {g : Nat} {w : World} (hg : S g) : ∀ (vs : List Value) (W : World) (o : Nat), Mut S w W → Mut S w (putW W g o vs)
  | [], _, _, h => h
  | v :: t, W, o, h => putW_mut hg t _ _ (Mut.set h (.inl hg) v)
end Go.Proofs.YtgojnijpjfdocaaGreat
