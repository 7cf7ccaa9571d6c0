/- Rows of cells that a call owns; one more behind them. A store beside a row. Plain facts for StoreWalk. No function's text is walked here but that of Put. -/
import Derived.Test.YtioialnndejkiaaSO
import Derived.Maps.AppendAt
namespace Go.Proofs.Ytioialnndejkiaa
open Go.RowKit
set_option linter.all false
def flatK (l : List Cl) : List Value := l.flatMap (fun k => [.int .i64 k.r, .int .i64 k.c])
theorem flatK_len : ∀ l : List Cl, (flatK l).length = l.length * 2
  | [] => rfl
  | x :: r => by have := flatK_len r; simp only [flatK, List.flatMap_cons, List.length_append, List.length_cons, List.length_nil] at this ⊢; omega
theorem flatK_snoc (l : List Cl) (k : Cl) : flatK (l ++ [k]) = flatK l ++ [.int .i64 k.r, .int .i64 k.c] := by simp [flatK]
theorem flatK_at : ∀ (l : List Cl) (i : Nat) (x : Cl), l[i]? = some x → (flatK l)[i * 2]? = some (.int .i64 x.r) ∧ (flatK l)[i * 2 + 1]? = some (.int .i64 x.c)
  | [], i, x, h => by simp at h
  | u :: r, 0, x, h => by simp at h; subst h; exact ⟨rfl, rfl⟩
  | u :: r, i + 1, x, h => by
    have ih := flatK_at r i x (by simpa using h)
    have e : flatK (u :: r) = .int .i64 u.r :: .int .i64 u.c :: flatK r := rfl
    rw [e, show (i + 1) * 2 = i * 2 + 1 + 1 by omega]
    exact ⟨by rw [List.getElem?_cons_succ, List.getElem?_cons_succ]; exact ih.1, by rw [List.getElem?_cons_succ, List.getElem?_cons_succ]; exact ih.2⟩
/-- The value is a row of just these cells, in a block from base on. -/
def RowC (w : World) (base : Nat) (v : Value) (l : List Cl) : Prop := w.ownsRow base 32 2 v l.length (flatK l)
theorem RowC.nil (w : World) (base : Nat) : RowC w base (.slice none 0 0) [] := ⟨by simp [flatK], .inl ⟨rfl, rfl⟩⟩
theorem RowC.of_block {w w' : World} {base : Nat} {v : Value} {l : List Cl} (h : RowC w base v l) (hb : ∀ g, v.ownBlock = some g → w'.heap[g]? = w.heap[g]?) : RowC w' base v l := by
  obtain ⟨h1, h2⟩ := h
  refine ⟨h1, ?_⟩
  rcases h2 with h2 | ⟨g, cap, cur, e, r1, r2, r3⟩
  · exact .inl h2
  · exact .inr ⟨g, cap, cur, e, r1, (hb g (by rw [e]; rfl)).trans r2, r3⟩
theorem RowC.lt {w : World} {base : Nat} {v : Value} {l : List Cl} (h : RowC w base v l) : ∀ g, v.ownBlock = some g → base ≤ g ∧ g < w.heap.size := World.ownsRow.lt h
theorem RowC.keep {w w' : World} {base : Nat} {v : Value} {l : List Cl} (h : RowC w base v l) (hb : Below w.heap.size w w') : RowC w' base v l := h.of_block fun g hg => hb.block g (h.lt g hg).2
theorem RowC.aside {w : World} {base : Nat} {v : Value} {l : List Cl} (h : RowC w base v l) {a : Addr} (x : Value) (hn : ∀ g, v.ownBlock = some g → g ≠ a.block) : RowC (w.setCell a x) base v l := h.of_block fun g hg => Below.heap_setCell w a x g (hn g hg)
theorem RowC.slice {w : World} {base : Nat} {v : Value} {l : List Cl} (h : RowC w base v l) : ∃ p cap, v = .slice p l.length cap ∧ l.length ≤ cap ∧ cap ≤ maxLen := by
  obtain ⟨h1, h2⟩ := h
  rcases h2 with ⟨rfl, e⟩ | ⟨g, cap, cur, rfl, _, _, h3, h4, _⟩
  · exact ⟨none, 0, by rw [e], by omega, Nat.zero_le _⟩
  · exact ⟨_, _, rfl, h3, h4⟩
theorem RowC.cells {w : World} {base : Nat} {v : Value} {l : List Cl} (h : RowC w base v l) (h0 : 0 < l.length) : ∃ g cap, v = .slice (some ⟨g, 0, none⟩) l.length cap ∧ base ≤ g ∧ g < w.heap.size ∧ l.length ≤ cap ∧ cap ≤ maxLen ∧ ∀ i x, l[i]? = some x → w.cell? ⟨g, i * 2, none⟩ = some (.int .i64 x.r) ∧ w.cell? ⟨g, i * 2 + 1, none⟩ = some (.int .i64 x.c) := by
  obtain ⟨h1, h2⟩ := h
  rcases h2 with ⟨rfl, e⟩ | ⟨g, cap, cur, rfl, hb, hg, h3, h4, h5, h6⟩
  · omega
  · refine ⟨g, cap, rfl, hb, (Array.getElem?_eq_some_iff.1 hg).1, h3, h4, fun i x hi => ?_⟩
    have hl := (List.getElem?_eq_some_iff.1 hi).1
    have h7 := flatK_at l i x hi
    rw [← h6, List.getElem?_take_of_lt (by omega), List.getElem?_take_of_lt (by omega)] at h7
    rw [cell_row hg, cell_row hg]
    simpa using h7
theorem infoCl : (Try.prog.info? 32).map (fun i => (i.zero, i.size, i.bytes)) = some (some (.agg #[.int .i64 0, .int .i64 0]), 2, 16) := by kernel_rfl
/-- One more behind them. -/
theorem app_cells (base : Nat) (W : World) (v : Value) (m : List Cl) (k : Cl) (h : RowC W base v m) (hw : base ≤ W.heap.size) (hb : (m.length + 1) * 16 ≤ 140737488355328) (ty : TypeId) :
    ∃ v' w', (Builtin.append_ #[44, 44] ty #[v, .slice (some ⟨W.heap.size, 0, none⟩) 1 1]).run Try.prog (W.alloc (.cells #[.int .i64 k.r, .int .i64 k.c] 32)) = .ok v' w' ∧ RowC w' base v' (m ++ [k]) ∧ (v'.ownBlock = v.ownBlock ∨ v'.ownBlock = some (W.heap.size + 1)) ∧ Mut (fun g => v.ownBlock = some g) W w' ∧ ∃ q cp, v' = .slice q (m.length + 1) cp := by
  obtain ⟨i, hi, hz, hsz, hby⟩ := info_parts infoCl
  obtain ⟨v', w', h1, h2, h3, h4, h5⟩ := run_append_own_at (P := Try.prog) (W.alloc (.cells #[.int .i64 k.r, .int .i64 k.c] 32)) base 44 ty 32 i _ 2 16 Try.underlying44 hi hz hsz hby rfl (by omega) v m.length (flatK m) (World.ownsRow.alloc h _) ⟨W.heap.size, 0, none⟩ 1 1 [.int .i64 k.r, .int .i64 k.c] rfl (by
    intro j u hj
    rw [add_none, Nat.zero_add, (Own.new W _ _).cell j]
    simpa using hj) (by intro u hu; simp at hu; rcases hu with rfl | rfl <;> rfl) (by unfold maxLen; omega) (by omega) (by simp; omega)
  have hR : RowC w' base v' (m ++ [k]) := by
    unfold RowC
    rw [flatK_snoc, List.length_append]
    exact h2
  refine ⟨v', w', h1, hR, ?_, ?_, ?_⟩
  · simpa using h5
  · have m1 : Mut (fun g => v.ownBlock = some g) W (W.alloc (.cells #[.int .i64 k.r, .int .i64 k.c] 32)) := (Mut.refl _ _).alloc _
    exact m1.call (S' := fun g => v.ownBlock = some g) ⟨h3.os, h3.tape, h3.output, h3.size, fun b hb hs => h3.block b hb (fun e => hs e.symm)⟩ (fun b hb => .inl hb)
  · obtain ⟨p, cap, e, _⟩ := hR.slice
    exact ⟨p, cap, by rw [e, List.length_append]; rfl⟩
theorem wpList_appC {w : World} {ops : Array Oper} {rest : List Oper} {o : Oper} {a : Act} {Q : Exit → Act → World → Prop} (hgd : o.guard = none) (s x : Operand)
    (ho : o.op = .call { callee := .builtin .append, args := #[s, x], argTypes := #[44, 44] }) (v xv : Value) (hs : a.eval s = v) (hx : a.eval x = xv) (v' : Value) (w' : World)
    (hr : (Builtin.append_ #[44, 44] o.type #[v, xv]).run Try.prog w = .ok v' w') (h : wpList Try.prog ops Q rest (a.put o.dst v') w') : wpList Try.prog ops Q (o :: rest) a w :=
  wpList_plain hgd fun K hK => by
    unfold Oper.wp execOp
    simp only [ho, resolve, invoke, builtin, Sem.run_bind, Sem.run_pure, Result.andThen_ok, List.map_toArray, List.map_cons, List.map_nil, hs, hx, hr]
    exact hK _ _ h
/-- A store beside a row of cells, both from w0 on. -/
def Sd (w0 : Nat) (w : World) (S : Nat) (L : List It) (v : Value) (m : List Cl) : Prop := ∃ D, SW w D S L ∧ (∀ k, (D k).isSome = true → w0 ≤ k) ∧ RowC w w0 v m ∧ ∀ g, v.ownBlock = some g → D g = none
theorem Sd.keep {w0 : Nat} {w w' : World} {S : Nat} {L : List It} {v : Value} {m : List Cl} (h : Sd w0 w S L v m) (hb : Below w.heap.size w w') : Sd w0 w' S L v m := by
  obtain ⟨D, h1, h2, h3, h4⟩ := h
  exact ⟨D, h1.keep hb, h2, h3.keep hb, h4⟩
theorem sd_put (w0 : Nat) (w : World) (S : Nat) (L : List It) (v : Value) (m : List Cl) (k : Cl) (x : Addr) (h : Sd w0 w S L v m) (hw : w0 ≤ w.heap.size) :
    Calls Try.prog 14 #[.pointer (some ⟨S, 0, none⟩), .agg #[.int .i64 k.r, .int .i64 k.c], .pointer (some x)] w fun e w' => e = .returned (.int .i64 (if mayC k.r k.c = true then 0 else 3)) ∧ Sd w0 w' S (stepL (some x) L k) v m ∧ Below w0 w w' := by
  obtain ⟨D, h1, h2, h3, h4⟩ := h
  refine (put_all w D S L k.r k.c x h1).mono ?_
  rintro e w' ⟨rfl, D', k1, k2, k3⟩
  refine ⟨rfl, ⟨D', k1, fun k hk => ?_, h3.of_block (fun g hg => k2.block g (h3.lt g hg).2 (by rw [h4 g hg]; simp)), fun g hg => ?_⟩, k2.to_below hw h2⟩
  · rcases k3 k hk with q | q
    · exact h2 k q
    · omega
  · refine none_of (fun q => ?_)
    rcases k3 g q with r | r
    · rw [h4 g hg] at r; cases r
    · have := (h3.lt g hg).2; omega
theorem Sd.app {w0 : Nat} {w w' : World} {S : Nat} {L : List It} {v v' : Value} {m m' : List Cl} (h : Sd w0 w S L v m) (hw : w0 ≤ w.heap.size) (hR : RowC w' w0 v' m') (ho : v'.ownBlock = v.ownBlock ∨ v'.ownBlock = some (w.heap.size + 1)) (hm : Mut (fun g => v.ownBlock = some g) w w') : Sd w0 w' S L v' m' ∧ Below w0 w w' := by
  obtain ⟨D, h1, h2, h3, h4⟩ := h
  refine ⟨⟨D, h1.mut hm (fun b t e q => by rw [h4 b q] at e; cases e), h2, hR, fun g hg => ?_⟩, hm.to_below hw (fun k hk => (h3.lt k hk).1)⟩
  rcases ho with ho | ho
  · exact h4 g (ho.symm.trans hg)
  · rw [ho] at hg
    injection hg with hg
    exact none_of (fun q => by obtain ⟨t, ht⟩ := Option.isSome_iff_exists.1 q; have := h1.dom g t ht; omega)
section
variable (t l b rr : Int)
/-- The cells of the rectangle among some, of those that may be. -/
def inL (m : List Cl) : List Cl := m.filter (fun k => mayC k.r k.c && inB t l b rr k.r k.c)
def inI (L : List It) : List It := L.filter (fun x => inB t l b rr x.r x.c)
theorem inI_step (x : Option Addr) (L : List It) (k : Cl) : (inI t l b rr (stepL x L k)).length ≤ (inI t l b rr L).length + (inL t l b rr [k]).length := by
  have parts : ∀ (r c : Int) (M : List It), ((M.filter (befI r c)).filter (fun x => inB t l b rr x.r x.c)).length + ((M.filter (aftI r c)).filter (fun x => inB t l b rr x.r x.c)).length ≤ (M.filter (fun x => inB t l b rr x.r x.c)).length := by
    intro r c M
    induction M with
    | nil => simp
    | cons y M ih =>
      by_cases h1 : y.r < r ∨ (y.r = r ∧ y.c < c)
      · have e1 : befI r c y = true := decide_eq_true h1
        have e2 : aftI r c y = false := decide_eq_false (by omega)
        rw [List.filter_cons (p := befI r c), if_pos e1, List.filter_cons (p := aftI r c), if_neg (by rw [e2]; decide), List.filter_cons, List.filter_cons (x := y) (xs := M)]
        split <;> (try simp only [List.length_cons]) <;> omega
      · have e1 : befI r c y = false := decide_eq_false h1
        rw [List.filter_cons (p := befI r c), if_neg (by rw [e1]; decide), List.filter_cons (p := aftI r c)]
        cases e2 : aftI r c y
        · rw [if_neg (by decide), List.filter_cons (x := y) (xs := M)]
          split <;> (try simp only [List.length_cons]) <;> omega
        · rw [if_pos rfl, List.filter_cons, List.filter_cons (x := y) (xs := M)]
          split <;> (try simp only [List.length_cons]) <;> omega
  unfold stepL
  cases hm : mayC k.r k.c
  · simp
  · rw [if_pos rfl]
    unfold inI putL inL
    have := parts k.r k.c L
    rw [List.filter_append, List.length_append, List.filter_cons]
    cases hi : inB t l b rr k.r k.c
    · rw [if_neg (by decide)]
      omega
    · have e3 : ([k].filter (fun k => mayC k.r k.c && inB t l b rr k.r k.c)).length = 1 := by simp [List.filter_cons, hm, hi]
      rw [if_pos rfl, e3, List.length_cons]
      omega
theorem inI_len (x : Option Addr) (m : List Cl) : ∀ n, (inI t l b rr (putsL x [] (m.take n))).length ≤ (inL t l b rr (m.take n)).length := by
  intro n
  induction n with
  | zero => simp [putsL, inI, inL]
  | succ n ih =>
    by_cases h : n < m.length
    · have hx : m[n]? = some (m[n]'h) := List.getElem?_eq_getElem h
      rw [puts_take x m n _ hx, List.take_succ, hx]
      have := inI_step t l b rr x (putsL x [] (m.take n)) (m[n]'h)
      unfold inL at this ih ⊢
      simp only [Option.toList_some, List.filter_append, List.length_append]
      omega
    · rw [List.take_of_length_le (by omega)]
      rw [List.take_of_length_le (by omega)] at ih
      exact ih
end
/-- An item behind which stands another in a list in its order is not told twice: the items of a rectangle, one after another. -/
theorem next_nth {L : List It} (hs : SrtI L) (t l b rr : Int) : ∀ (n : Nat), (n < (inI t l b rr L).length → ∀ (ar ac : Int), (n = 0 → ar = 0 ∧ ac = 0) → (∀ m, n = m + 1 → ∃ y, (inI t l b rr L)[m]? = some y ∧ y.r = ar ∧ y.c = ac) → InS L → ∃ y, (inI t l b rr L)[n]? = some y ∧ nextV L t l b rr ar ac = .tuple #[.agg #[.int .i64 y.r, .int .i64 y.c], .bool true] ∧ y ∈ L ∧ pN t l b rr ar ac y = true) := by
  intro n hn ar ac h0 h1 hin
  have hy : (inI t l b rr L)[n]? = some ((inI t l b rr L)[n]'hn) := List.getElem?_eq_getElem hn
  have hsr : SrtI (inI t l b rr L) := List.Pairwise.filter _ hs
  have hm := List.mem_of_getElem? hy
  refine ⟨_, hy, ?_⟩
  generalize (inI t l b rr L)[n]'hn = y at *
  have hmm := List.mem_filter.1 hm
  have hyr := hin y hmm.1
  have hb : befB ar ac y.r y.c = true := by
    cases n with
    | zero => obtain ⟨rfl, rfl⟩ := h0 rfl; exact befB_t (.inl (by omega))
    | succ n =>
      obtain ⟨z, hz, rfl, rfl⟩ := h1 n rfl
      obtain ⟨l1, rfl⟩ := List.getElem?_eq_some_iff.1 hz
      obtain ⟨l2, rfl⟩ := List.getElem?_eq_some_iff.1 hy
      exact befB_t (List.pairwise_iff_getElem.1 hsr n (n + 1) l1 l2 (by omega))
  have hp : pN t l b rr ar ac y = true := by unfold pN; rw [hb]; simpa using hmm.2
  have e : L.find? (pN t l b rr ar ac) = some y := by
    refine find_is hs _ hmm.1 hp (fun z hz hpz hlt => ?_)
    have hpz' := (pN_is _ _ _ _ _ _ _).1 hpz
    have hzm : z ∈ inI t l b rr L := List.mem_filter.2 ⟨hz, inB_t hpz'.1⟩
    obtain ⟨i, hi⟩ := List.getElem?_of_mem hzm
    have hil := (List.getElem?_eq_some_iff.1 hi).1
    have lt_of : ∀ (i j : Nat) (u v : It), (inI t l b rr L)[i]? = some u → (inI t l b rr L)[j]? = some v → i < j → ltI u v := fun i j u v hu hv hij => by
      obtain ⟨l1, rfl⟩ := List.getElem?_eq_some_iff.1 hu
      obtain ⟨l2, rfl⟩ := List.getElem?_eq_some_iff.1 hv
      exact List.pairwise_iff_getElem.1 hsr i j l1 l2 hij
    by_cases q : n < i
    · have := lt_of n i y z hy hi q
      unfold ltI at this hlt; omega
    · by_cases q2 : i = n
      · subst q2; rw [hy] at hi; injection hi with hi; subst hi; unfold ltI at hlt; omega
      · cases n with
        | zero => omega
        | succ n =>
          obtain ⟨u, hu, rfl, rfl⟩ := h1 n rfl
          by_cases q3 : i = n
          · subst q3; rw [hu] at hi; injection hi with hi; subst hi; omega
          · have := lt_of i n z u hi hu (by omega)
            unfold ltI at this; omega
  refine ⟨?_, hmm.1, hp⟩
  unfold nextV
  rw [e]
theorem next_last {L : List It} (hs : SrtI L) (t l b rr ar ac : Int) (h0 : (inI t l b rr L).length = 0 → ar = 0 ∧ ac = 0) (h1 : ∀ m, (inI t l b rr L).length = m + 1 → ∃ y, (inI t l b rr L)[m]? = some y ∧ y.r = ar ∧ y.c = ac) : nextV L t l b rr ar ac = .tuple #[.agg #[.int .i64 0, .int .i64 0], .bool false] := by
  have hsr : SrtI (inI t l b rr L) := List.Pairwise.filter _ hs
  have e : L.find? (pN t l b rr ar ac) = none := find_no (fun z hz hpz => by
    have hpz' := (pN_is _ _ _ _ _ _ _).1 hpz
    have hzm : z ∈ inI t l b rr L := List.mem_filter.2 ⟨hz, inB_t hpz'.1⟩
    obtain ⟨i, hi⟩ := List.getElem?_of_mem hzm
    have hil := (List.getElem?_eq_some_iff.1 hi).1
    obtain ⟨m, hm⟩ : ∃ m, (inI t l b rr L).length = m + 1 := ⟨(inI t l b rr L).length - 1, by omega⟩
    obtain ⟨u, hu, rfl, rfl⟩ := h1 m hm
    by_cases q : i = m
    · subst q; rw [hu] at hi; injection hi with hi; subst hi; omega
    · obtain ⟨l1, rfl⟩ := List.getElem?_eq_some_iff.1 hi
      obtain ⟨l2, rfl⟩ := List.getElem?_eq_some_iff.1 hu
      have := List.pairwise_iff_getElem.1 hsr i m l1 l2 (by omega)
      unfold ltI at this
      omega)
  unfold nextV
  rw [e]
end Go.Proofs.Ytioialnndejkiaa
