/- Rows of structs that a call owns, as lists; what is left of a row of nodes, as a plain function. No function's text is walked here. -/
import Derived.Test.YtekpmdpmcbjkkaaDoorN6
import Derived.Deep.AppendLies
namespace Go.Proofs.YtekpmdpmcbjkkaaDoor
open Go.Shelf Go.RowKit
set_option linter.all false
theorem with_fact {p q : Prop} (h : p) (k : p → q) : q := k h
section
variable {α : Type} {c : α → Array Value} {sz : Nat} {e : TypeId}
def flatC (c : α → Array Value) (l : List α) : List Value := l.flatMap (fun x => (c x).toList)
theorem flatC_len (hc : ∀ x, (c x).size = sz) : ∀ l : List α, (flatC c l).length = l.length * sz
  | [] => by simp [flatC]
  | x :: r => by
    have ih := flatC_len hc r
    have e : flatC c (x :: r) = (c x).toList ++ flatC c r := rfl
    rw [e, List.length_append, ih, List.length_cons, Array.length_toList, hc, Nat.succ_mul, Nat.add_comm]
theorem flatC_snoc (l : List α) (x : α) : flatC c (l ++ [x]) = flatC c l ++ (c x).toList := by simp [flatC]
theorem flatC_app (l m : List α) : flatC c (l ++ m) = flatC c l ++ flatC c m := by simp [flatC]
theorem flatC_at (hc : ∀ x, (c x).size = sz) : ∀ (l : List α) (i j : Nat) (x : α), l[i]? = some x → j < sz → (flatC c l)[i * sz + j]? = (c x)[j]?
  | [], i, j, x, h, _ => by simp at h
  | u :: r, 0, j, x, h, hj => by
    simp at h; subst h
    have e : flatC c (u :: r) = (c u).toList ++ flatC c r := rfl
    rw [e, Nat.zero_mul, Nat.zero_add, List.getElem?_append_left (by rw [Array.length_toList, hc]; exact hj)]
    simp
  | u :: r, i + 1, j, x, h, hj => by
    have ih := flatC_at hc r i j x (by simpa using h) hj
    have e : flatC c (u :: r) = (c u).toList ++ flatC c r := rfl
    rw [e, List.getElem?_append_right (by rw [Array.length_toList, hc, Nat.succ_mul]; omega), Array.length_toList, hc, ← ih]
    congr 1
    rw [Nat.succ_mul]; omega
theorem flatC_take (hc : ∀ x, (c x).size = sz) (l : List α) (k : Nat) : flatC c (l.take k) = (flatC c l).take (k * sz) := by
  by_cases h : k ≤ l.length
  · have e : flatC c l = flatC c (l.take k) ++ flatC c (l.drop k) := by rw [← flatC_app, List.take_append_drop]
    rw [e]
    exact (List.take_left' (by rw [flatC_len hc, List.length_take, Nat.min_eq_left h])).symm
  · rw [List.take_of_length_le (by omega), List.take_of_length_le (by rw [flatC_len hc]; exact Nat.mul_le_mul_right _ (by omega))]
/-- The value is a list of just these things, in a block of its own from base on. -/
def Row (c : α → Array Value) (sz : Nat) (e : TypeId) (w : World) (base : Nat) (v : Value) (l : List α) : Prop := w.ownsRow base e sz v l.length (flatC c l)
theorem Row.nil (w : World) (base : Nat) : Row c sz e w base (.slice none 0 0) [] := ⟨by simp [flatC], .inl ⟨rfl, rfl⟩⟩
theorem Row.of_block {w w' : World} {base : Nat} {v : Value} {l : List α} (h : Row c sz e w base v l) (hb : ∀ g, v.ownBlock = some g → w'.heap[g]? = w.heap[g]?) : Row c sz e w' base v l := by
  obtain ⟨h1, h2⟩ := h
  refine ⟨h1, ?_⟩
  rcases h2 with h2 | ⟨g, cap, cur, e, r1, r2, r3⟩
  · exact .inl h2
  · exact .inr ⟨g, cap, cur, e, r1, (hb g (by rw [e]; rfl)).trans r2, r3⟩
theorem Row.lt {w : World} {base : Nat} {v : Value} {l : List α} (h : Row c sz e w base v l) : ∀ g, v.ownBlock = some g → base ≤ g ∧ g < w.heap.size := World.ownsRow.lt h
theorem Row.keep {w w' : World} {base : Nat} {v : Value} {l : List α} (h : Row c sz e w base v l) (hb : Below w.heap.size w w') : Row c sz e w' base v l :=
  h.of_block fun g hg => hb.block g (h.lt g hg).2
theorem Row.mono {w : World} {base base' : Nat} {v : Value} {l : List α} (h : Row c sz e w base v l) (hb : base' ≤ base) : Row c sz e w base' v l := by
  obtain ⟨h1, h2⟩ := h
  refine ⟨h1, ?_⟩
  rcases h2 with h2 | ⟨g, cap, cur, e, r1, r2⟩
  · exact .inl h2
  · exact .inr ⟨g, cap, cur, e, Nat.le_trans hb r1, r2⟩
theorem Row.slice {w : World} {base : Nat} {v : Value} {l : List α} (h : Row c sz e w base v l) : ∃ p cap, v = .slice p l.length cap ∧ l.length ≤ cap ∧ cap ≤ maxLen := by
  obtain ⟨h1, h2⟩ := h
  rcases h2 with ⟨rfl, e⟩ | ⟨g, cap, cur, rfl, _, _, h3, h4, _⟩
  · exact ⟨none, 0, by rw [e], by omega, Nat.zero_le _⟩
  · exact ⟨_, _, rfl, h3, h4⟩
/-- Nil, or written out. -/
theorem Row.two {w : World} {base : Nat} {v : Value} {l : List α} (hc : ∀ x, (c x).size = sz) (h : Row c sz e w base v l) : (v = .slice none 0 0 ∧ l = []) ∨
    ∃ g cap, v = .slice (some ⟨g, 0, none⟩) l.length cap ∧ base ≤ g ∧ g < w.heap.size ∧ l.length ≤ cap ∧ cap ≤ maxLen ∧ (∀ i x, l[i]? = some x → ∀ j, j < sz → w.cell? ⟨g, i * sz + j, none⟩ = (c x)[j]?) ∧ (∀ o, w.frozen? ⟨g, o, none⟩ = false) := by
  have hh := h
  obtain ⟨h1, h2⟩ := h
  rcases h2 with ⟨h2, h3⟩ | ⟨g, cap, cur, rfl, r1, r2, r3⟩
  · exact .inl ⟨h2, List.length_eq_zero_iff.1 h3⟩
  · refine .inr ⟨g, cap, rfl, r1, (Array.getElem?_eq_some_iff.1 r2).1, r3.1, r3.2.1, fun i x hi j hj => ?_, fun o => World.ownsRow.frozenAt hh o⟩
    have hil := (List.getElem?_eq_some_iff.1 hi).1
    have h5 : i * sz + j < l.length * sz := by
      have := Nat.mul_le_mul_right sz (show i + 1 ≤ l.length by omega)
      rw [Nat.succ_mul] at this
      omega
    rw [World.ownsRow.cellAt hh (i * sz + j) h5, flatC_at hc l i j x hi hj]
/-- The first of them. -/
theorem Row.take {w : World} {base g m cap : Nat} {l : List α} (hc : ∀ x, (c x).size = sz) (h : Row c sz e w base (.slice (some ⟨g, 0, none⟩) m cap) l) {k : Nat} (hk : k ≤ l.length) : Row c sz e w base (.slice (some ⟨g, 0, none⟩) k cap) (l.take k) := by
  obtain ⟨h1, h2⟩ := h
  rcases h2 with ⟨h2, h3⟩ | ⟨g', cap', cur, h2, r1, r2, r3, r4, r5, r6⟩
  · cases h2
  · cases h2
    have e2 : (l.take k).length = k := by rw [List.length_take]; omega
    refine ⟨by rw [flatC_len hc], .inr ⟨g, cap, cur, by rw [e2], r1, r2, by omega, r4, r5, ?_⟩⟩
    rw [e2, flatC_take hc, ← r6, List.take_take, Nat.min_eq_left (Nat.mul_le_mul_right _ hk)]
theorem Row.view {w : World} {base : Nat} {v : Value} {l : List α} (hc : ∀ x, (c x).size = sz) (h : Row c sz e w base v l) : View c sz w v l := by
  rcases h.two hc with ⟨rfl, rfl⟩ | ⟨g, cap, rfl, r1, r2, r3, r4, r5, _⟩
  · exact ⟨none, 0, rfl, Nat.le_refl _, fun h => absurd h (by simp)⟩
  · exact ⟨some ⟨g, 0, none⟩, cap, rfl, r3, fun _ => ⟨g, 0, rfl, r2, fun i x hi j hj => by rw [Nat.zero_add]; exact r5 i x hi j hj⟩⟩
theorem drop_cells {w : World} {g k : Nat} {l : List α} (h : ∀ i x, l[i]? = some x → ∀ j, j < sz → w.cell? ⟨g, i * sz + j, none⟩ = (c x)[j]?) : ∀ i x, (l.drop k)[i]? = some x → ∀ j, j < sz → w.cell? ⟨g, k * sz + i * sz + j, none⟩ = (c x)[j]? := fun i x hi j hj => by
  rw [List.getElem?_drop] at hi
  have := h (k + i) x hi j hj
  rwa [Nat.add_mul] at this
theorem Row.cells {w : World} {base g m cap : Nat} {l : List α} (hc : ∀ x, (c x).size = sz) (h : Row c sz e w base (.slice (some ⟨g, 0, none⟩) m cap) l) : ∀ i x, l[i]? = some x → ∀ j, j < sz → w.cell? ⟨g, i * sz + j, none⟩ = (c x)[j]? := by
  rcases h.two hc with ⟨h1, _⟩ | ⟨g', cap', h1, _, _, _, _, h2, _⟩
  · cases h1
  · cases h1; exact h2
theorem Row.takeR {w : World} {base g m cap : Nat} {l : List α} (hc : ∀ x, (c x).size = sz) (h : Row c sz e w base (.slice (some ⟨g, 0, none⟩) m cap) l) {k : Nat} (hk : k ≤ l.length) : w.ownsRow base e sz (.slice (some ⟨g, 0, none⟩) k cap) k (flatC c (l.take k)) := by
  have := Row.take hc h hk
  unfold Row at this
  rwa [List.length_take, Nat.min_eq_left hk] at this
theorem Row.drew {w : World} {base : Nat} {v : Value} {l : List α} (h : Row c sz e w base v l) : Row c sz e w.drew base v l := h.keep (Below.refl _ _).drew
theorem Row.past {w : World} {base : Nat} {v : Value} {l : List α} (h : Row c sz e w base v l) (o : Obj) : Row c sz e (w.alloc o) base v l := h.keep (bal w o)
theorem ownsRow_drew {w : World} {base n : Nat} {v : Value} {xs : List Value} (h : w.ownsRow base e sz v n xs) : w.drew.ownsRow base e sz v n xs := h
/-- One more behind them. -/
theorem app_row {w W w5 : World} {v : Value} {g cap k : Nat} {l : List α} {t : α} (hB : Below w.heap.size w W) (hlt : ∀ g, v.ownBlock = some g → w.heap.size ≤ g) (hl : l.length = k)
    (ho : w5.ownsRow w.heap.size e sz (.slice (some ⟨g, 0, none⟩) (k + 1) cap) (k + 1) (flatC c l ++ (c t).toList)) (hg : W.grownBy w5 v.ownBlock) :
    Row c sz e w5 w.heap.size (.slice (some ⟨g, 0, none⟩) (k + 1) cap) (l ++ [t]) ∧ Below w.heap.size w w5 := by
  refine ⟨?_, Below.grown hB hg hB.size (fun k hk => hlt k hk)⟩
  unfold Row
  rw [flatC_snoc, List.length_append, hl]
  exact ho
theorem news_two (W : World) (o : Obj) (cs : Array Value) (T : TypeId) : ∀ (j : Nat) (u : Value), cs.toList[j]? = some u → ((W.alloc o).alloc (.cells cs T)).drew.cell? ((⟨W.heap.size + 1, 0, none⟩ : Addr).add j) = some u := fun j u h => by
  have h1 := (Own.new (W.alloc o) cs T).cell j
  rw [World.size_alloc] at h1
  have e : ((⟨W.heap.size + 1, 0, none⟩ : Addr).add j) = ⟨W.heap.size + 1, j, none⟩ := by simp [Addr.add]; omega
  rw [e]
  show ((W.alloc o).alloc (.cells cs T)).cell? _ = _
  rw [h1]
  simpa using h
theorem news_one (W : World) (cs : Array Value) (T : TypeId) : ∀ (j : Nat) (u : Value), cs.toList[j]? = some u → (W.alloc (.cells cs T)).drew.cell? ((⟨W.heap.size, 0, none⟩ : Addr).add j) = some u := fun j u h => by
  have h1 := (Own.new W cs T).cell j
  have e : ((⟨W.heap.size, 0, none⟩ : Addr).add j) = ⟨W.heap.size, j, none⟩ := by simp [Addr.add]; omega
  rw [e]
  show (W.alloc (.cells cs T)).cell? _ = _
  rw [h1]
  simpa using h
theorem own_grown {W w5 : World} {row : Option Nat} {L : Nat} {A : Array Value} (h : Own W L A) (hg : W.grownBy w5 row) (hn : ∀ g', row = some g' → g' ≠ L) : Own w5 L A := h.of_block (hg.block L h.lt (fun e => hn L e.symm rfl))
theorem own_put {W : World} {b k : Nat} {A : Array Value} {x : Value} (h : Own W b A) (hk : k < A.size) : Own (W.setCell ⟨b, k, none⟩ x) b (A.set k x hk) := by
  refine ⟨by simpa [World.setCell] using h.lt, fun o => ?_, fun o => by rw [World.frozen?_setCell]; exact h.fro o⟩
  by_cases ho : o = k
  · subst ho
    rw [World.cell?_setCell_same' _ _ _ (by rw [h.cell, Array.getElem?_eq_getElem hk]; rfl)]
    simp
  · rw [World.cell?_setCell_other _ _ _ _ (by intro hh; exact ho (by simpa using (congrArg Addr.off hh).symm)), h.cell, Array.getElem?_set]
    rw [if_neg (fun e => ho e.symm)]
theorem own_put3 {W : World} {b : Nat} {x y z x' y' z' : Value} (h : Own W b #[x, y, z]) : Own (((W.setCell ⟨b, 0, none⟩ x').setCell ⟨b, 1, none⟩ y').setCell ⟨b, 2, none⟩ z') b #[x', y', z'] :=
  own_put (own_put (own_put h (k := 0) (by simp)) (k := 1) (by simp)) (k := 2) (by simp)
theorem Row.aside {w : World} {base : Nat} {v : Value} {l : List α} (h : Row c sz e w base v l) {a : Addr} (x : Value) (hb : ∀ g, v.ownBlock = some g → g ≠ a.block) : Row c sz e (w.setCell a x) base v l :=
  h.of_block fun g hg => Below.heap_setCell w a x g (hb g hg)
end
theorem Th.one (t : Th) : ∀ u ∈ t.cells.toList, u.oneCell' = true := by
  intro u hu
  simp [Th.cells] at hu
  rcases hu with h | h | h <;> (subst h; rfl)
theorem infoTh : (Tryd.prog.info? 64).map (fun i => (i.zero, i.size, i.bytes)) = some (some (.agg #[.bool false, .int .i64 0, .int .i64 0]), 3, 24) := by kernel_rfl
theorem Th.cells_size (t : Th) : t.cells.size = 3 := rfl
/-- A row of things. -/
abbrev TRow (w : World) (base : Nat) (v : Value) (l : List Th) : Prop := Row Th.cells 3 64 w base v l
def takN (n : Nd) : Nat := (takI n).toNat
/-- What is left behind one node more. -/
def stepN (st : List Th) (n : Nd) : Option (List Th) :=
  if mayN n = true ∧ takI n ≤ (st.length : Int) then (workN n (st.drop (st.length - takN n))).map (fun t => st.take (st.length - takN n) ++ [t]) else none
def putFrom (st : List Th) : List Nd → Option (List Th)
  | [] => some st
  | n :: r => (stepN st n).bind (fun s => putFrom s r)
theorem putFrom_at {st : List Th} {ns : List Nd} {i : Nat} {n : Nd} (h : ns[i]? = some n) : putFrom st (ns.drop i) = (stepN st n).bind (fun s => putFrom s (ns.drop (i + 1))) := by
  have hi := (List.getElem?_eq_some_iff.1 h).1
  have e := (List.getElem?_eq_some_iff.1 h).2
  rw [List.drop_eq_getElem_cons hi, e]; rfl
theorem putFrom_no {st : List Th} {ns : List Nd} {i : Nat} {n : Nd} (h : ns[i]? = some n) (hs : stepN st n = none) : putFrom st (ns.drop i) = none := by rw [putFrom_at h, hs]; rfl
theorem putFrom_yes {st s2 : List Th} {ns : List Nd} {i : Nat} {n : Nd} (h : ns[i]? = some n) (hs : stepN st n = some s2) : putFrom st (ns.drop i) = putFrom s2 (ns.drop (i + 1)) := by rw [putFrom_at h, hs]; rfl
/-- A formula's depth, if nothing else is wrong with it. -/
def measL : List Th → Option Nat
  | [t] => if t.many = true then none else some t.dep
  | _ => none
def measN (ns : List Nd) : Option Nat := if 1024 < ns.length then none else (putFrom [] ns).bind measL
def measOut (r : Option Nat) : Value := .tuple #[.int .i64 (r.getD 0 : Nat), .bool r.isSome]
theorem sameN_args {a b : Nd} (h : sameN a b = true) : a.args = b.args := by rw [sameN_is h]
theorem may_args {n : Nd} (h : mayN n = true) : 0 ≤ takI n ∧ takI n ≤ 16 ∧ (n.kind ≠ 4 → n.kind ≠ 5 → takI n = 0) ∧ (n.kind = 4 → 0 < takI n) := by
  unfold mayN at h
  unfold takI
  by_cases h4 : n.kind = 4
  · rw [if_pos h4]
    unfold cntN
    split <;> omega
  rw [if_neg h4]
  by_cases h1 : n.kind = 1
  · rw [if_pos h1, Bool.and_eq_true] at h; have := sameN_args h.1; simp at this; omega
  by_cases h2 : n.kind = 2
  · rw [if_neg h1, if_pos h2, Bool.and_eq_true] at h; have := sameN_args h.1; simp at this; omega
  by_cases h3 : n.kind = 3
  · rw [if_neg h1, if_neg h2, if_pos h3, Bool.and_eq_true] at h; have := sameN_args h.1; simp at this; omega
  by_cases h5 : n.kind = 5
  · rw [if_neg h1, if_neg h2, if_neg h3, if_neg h4, if_pos h5, Bool.and_eq_true, Bool.and_eq_true] at h
    have := h.2.2
    simp only [decide_eq_true_eq] at this
    omega
  · rw [if_neg h1, if_neg h2, if_neg h3, if_neg h4, if_neg h5] at h; cases h
theorem work_dep {n : Nd} {l : List Th} {t : Th} {k : Nat} (h : workN n l = some t) (hl : ∀ x ∈ l, x.dep ≤ k) : t.dep ≤ k + 1 := by
  unfold workN at h
  split at h
  · cases h
  · cases h
    by_cases h5 : n.kind = 5
    · have e : (n.kind == 4) = false := by simp [h5]
      have h2 : ∀ (l : List Th) (i d : Nat), (∀ x ∈ l, x.dep ≤ k) → d ≤ k → maxD n.op false i l d ≤ k := by
        intro l
        induction l with
        | nil => intro i d _ h; exact h
        | cons x r ih =>
          intro i d hr hd
          refine ih _ _ (fun y hy => hr y (by simp [hy])) ?_
          have := hr x (by simp)
          rw [bump_n]; omega
      rw [e, if_pos h5]
      have := h2 l 0 0 hl (Nat.zero_le _)
      show _ + 1 ≤ k + 1
      omega
    · rw [if_neg h5]
      exact maxD_le n.op _ l 0 0 k hl (Nat.zero_le _)
theorem step_len {st s2 : List Th} {n : Nd} (h : stepN st n = some s2) : s2.length ≤ st.length + 1 := by
  unfold stepN at h
  split at h
  · obtain ⟨t, _, rfl⟩ := Option.map_eq_some_iff.1 h
    simp
  · cases h
theorem step_dep {st s2 : List Th} {n : Nd} {k : Nat} (h : stepN st n = some s2) (hl : ∀ x ∈ st, x.dep ≤ k) : ∀ x ∈ s2, x.dep ≤ k + 1 := by
  unfold stepN at h
  split at h
  · obtain ⟨t, ht, rfl⟩ := Option.map_eq_some_iff.1 h
    intro x hx
    rw [List.mem_append] at hx
    rcases hx with hx | hx
    · have := hl x (List.mem_of_mem_take hx); omega
    · have e : x = t := by simpa using hx
      subst e
      exact work_dep ht (fun y hy => hl y (List.mem_of_mem_drop hy))
  · cases h
theorem step_may {st : List Th} {n : Nd} (h : mayN n = false) : stepN st n = none := by unfold stepN; rw [if_neg (by simp [h])]
theorem step_few {st : List Th} {n : Nd} (h : (st.length : Int) < takI n) : stepN st n = none := by unfold stepN; rw [if_neg (by omega)]
theorem step_none {st : List Th} {n : Nd} (h : workN n (st.drop (st.length - takN n)) = none) : stepN st n = none := by
  by_cases hc : mayN n = true ∧ takI n ≤ (st.length : Int)
  · unfold stepN; rw [if_pos hc, h]; rfl
  · unfold stepN; rw [if_neg hc]
theorem step_some {st : List Th} {n : Nd} {t : Th} (hm : mayN n = true) (hk : takI n ≤ (st.length : Int)) (h : workN n (st.drop (st.length - takN n)) = some t) : stepN st n = some (st.take (st.length - takN n) ++ [t]) := by
  unfold stepN; rw [if_pos ⟨hm, hk⟩, h]; rfl
theorem work_nil (n : Nd) (p : Option Addr) (cap : Nat) (w : World) : Calls Tryd.prog 22 #[.agg n.cells, .slice p 0 cap] w fun e w' => e = .returned (thOut (workN n [])) ∧ Below w.heap.size w w' := by
  obtain ⟨kind, tag, num, str, is, code, row, col, top, left, bot, right, op, name, args⟩ := n
  by_cases h5 : kind = 5
  · subst h5; exact work_5 tag num str is code row col top left bot right op name args p cap w
  by_cases h3 : kind = 3
  · subst h3; exact work_3 tag num str is code row col top left bot right op name args p cap w
  have h5' : (kind == 5) = false := by simpa using h5
  have h3' : (kind == 3) = false := by simpa using h3
  have e : workN ⟨kind, tag, num, str, is, code, row, col, top, left, bot, right, op, name, args⟩ [] = some ⟨false, levI op, 0⟩ := by simp [workN, h5, h3, maxD]
  rw [e]
  exact work_x kind tag num str is code row col top left bot right op name args p cap w h5' h3'
theorem work_nilR {l : List Th} (h : l = []) (n : Nd) (p : Option Addr) (cap : Nat) (w : World) : Calls Tryd.prog 22 #[.agg n.cells, .slice p 0 cap] w fun e w' => e = .returned (thOut (workN n l)) ∧ Below w.heap.size w w' := by
  subst h; exact work_nil n p cap w
theorem work_at (n : Nd) (b o m cap : Nat) (l : List Th) (w : World) (hlb : b < w.heap.size) (HC : ∀ i t, l[i]? = some t → ∀ j, j < 3 → w.cell? ⟨b, o + i * 3 + j, none⟩ = (Th.cells t)[j]?)
    (hn : l.length = m) (hcap : m ≤ cap) (h0 : 0 < m) (hl : m ≤ 1024) (hdp : ∀ t ∈ l, t.dep ≤ 4096) (hk : n.kind = 4 ∨ n.kind = 5) :
    Calls Tryd.prog 22 #[.agg n.cells, .slice (some ⟨b, o, none⟩) m cap] w fun e w' => e = .returned (thOut (workN n l)) ∧ Below w.heap.size w w' := by
  obtain ⟨kind, tag, num, str, is, code, row, col, top, left, bot, right, op, name, args⟩ := n
  rcases hk with h | h
  · replace h : kind = 4 := h
    subst h; exact work4_y tag num str is code row col top left bot right op name args w b o cap m l hlb HC hn hcap h0 hl hdp
  · replace h : kind = 5 := h
    subst h; exact work5_y tag num str is code row col top left bot right op name args w b o cap m l hlb HC hn hcap h0 hl hdp
end Go.Proofs.YtekpmdpmcbjkkaaDoor
