/- What a call may turn (Mut); a row of spots in a block of its own (RowW); copy and append of things of several cells. No function's text is walked here. -/
import Derived.Test.YtaafpfjmnhmalaaSQ
import Derived.Test.YtaafpfjmnhmalaaA4r
import Derived.Test.YtaafpfjmnhmalaaA5
import Derived.Deep.AppendSrc
import Derived.Lib.AppendZerosOnto
import Derived.Lib.Overlaps
import Derived.Laws.CopyOwn
import Derived.Deep.RegionLaw
namespace Go.Proofs.Ytaafpfjmnhmalaa
open Go.RowKit
set_option linter.all false
/-- Nothing but the blocks of S and new ones is turned. -/
structure Mut (S : Nat → Prop) (w w' : World) : Prop where
  os : w'.os = w.os
  tape : w'.tape = w.tape
  output : w'.output = w.output
  size : w.heap.size ≤ w'.heap.size
  block : ∀ k, k < w.heap.size → ¬ S k → w'.heap[k]? = w.heap[k]?
theorem Mut.refl (S : Nat → Prop) (w : World) : Mut S w w := ⟨rfl, rfl, rfl, Nat.le_refl _, fun _ _ _ => rfl⟩
theorem Mut.below {S : Nat → Prop} {w W W' : World} (h : Mut S w W) (hb : Below W.heap.size W W') : Mut S w W' :=
  ⟨hb.os.trans h.os, hb.tape.trans h.tape, hb.output.trans h.output, Nat.le_trans h.size hb.size, fun k hk hs => (hb.block k (Nat.lt_of_lt_of_le hk h.size)).trans (h.block k hk hs)⟩
theorem Mut.drew {S : Nat → Prop} {w W : World} (h : Mut S w W) : Mut S w W.drew := h.below (Below.refl _ _).drew
theorem Mut.drewN {S : Nat → Prop} {w W : World} (h : Mut S w W) (n : Nat) : Mut S w (W.drewN n) := h.below (bdrewN (Below.refl _ _) n)
theorem Mut.alloc {S : Nat → Prop} {w W : World} (h : Mut S w W) (o : Obj) : Mut S w (W.alloc o) := h.below (bal _ _)
theorem Mut.set {S : Nat → Prop} {w W : World} (h : Mut S w W) {a : Addr} (ha : S a.block ∨ w.heap.size ≤ a.block) (v : Value) : Mut S w (W.setCell a v) :=
  ⟨h.os, h.tape, h.output, by have := h.size; simpa [World.setCell] using this, fun k hk hs => (Below.heap_setCell W a v k (by rintro rfl; rcases ha with h1 | h1; exact hs h1; omega)).trans (h.block k hk hs)⟩
theorem Mut.setRow {S : Nat → Prop} {w W : World} (h : Mut S w W) {g : Nat} (ha : S g ∨ w.heap.size ≤ g) (A : Array Value) : Mut S w (W.setRow g A) :=
  ⟨h.os, h.tape, h.output, by have := h.size; simpa [World.setRow] using this, fun k hk hs => (setRow_other W g k A (by rintro rfl; rcases ha with h1 | h1; exact hs h1; omega)).trans (h.block k hk hs)⟩
theorem Mut.call {S S' : Nat → Prop} {w W W' : World} (h : Mut S w W) (hc : Mut S' W W') (hs : ∀ b, S' b → S b ∨ w.heap.size ≤ b) : Mut S w W' :=
  ⟨hc.os.trans h.os, hc.tape.trans h.tape, hc.output.trans h.output, Nat.le_trans h.size hc.size, fun k hk hn => (hc.block k (Nat.lt_of_lt_of_le hk h.size) (fun e => by rcases hs k e with h1 | h1; exact hn h1; omega)).trans (h.block k hk hn)⟩
theorem Mut.of_below {S : Nat → Prop} {w W : World} (h : Below w.heap.size w W) : Mut S w W := (Mut.refl S w).below h
theorem Mut.to_below {S : Nat → Prop} {w W : World} {B : Nat} (h : Mut S w W) (hB : B ≤ w.heap.size) (hs : ∀ k, S k → B ≤ k) : Below B w W :=
  ⟨h.os, h.tape, h.output, h.size, fun k hk => h.block k (by omega) (fun e => by have := hs k e; omega)⟩
theorem Own.of_block {w w' : World} {b : Nat} {A : Array Value} (h : Own w b A) (e : w'.heap[b]? = w.heap[b]?) : Own w' b A :=
  ⟨by
    have h1 := Array.getElem?_eq_getElem h.lt
    rw [h1] at e
    exact (Array.getElem?_eq_some_iff.1 e).1, fun o => (World.cell?_of_block (a := ⟨b, o, none⟩) e).trans (h.cell o), fun o => (World.frozen?_of_block (a := ⟨b, o, none⟩) e).trans (h.fro o)⟩
theorem Own.mut {S : Nat → Prop} {w W : World} {b : Nat} {A : Array Value} (h : Own w b A) (hm : Mut S w W) (hn : ¬ S b) : Own W b A := h.of_block (hm.block b h.lt hn)
theorem Own.drewN {w : World} {b : Nat} {A : Array Value} (h : Own w b A) (n : Nat) : Own (w.drewN n) b A := h.keep (bdrewN (Below.refl _ _) n)
theorem Own.aside {w : World} {b : Nat} {A : Array Value} (h : Own w b A) {a : Addr} (x : Value) (hn : b ≠ a.block) : Own (w.setCell a x) b A := h.of_block (Below.heap_setCell w a x b hn)
theorem own_put {W : World} {b k : Nat} {A : Array Value} {x : Value} (h : Own W b A) (hk : k < A.size) : Own (W.setCell ⟨b, k, none⟩ x) b (A.set k x hk) := by
  refine ⟨by simpa [World.setCell] using h.lt, fun o => ?_, fun o => by rw [World.frozen?_setCell]; exact h.fro o⟩
  by_cases ho : o = k
  · subst ho
    rw [World.cell?_setCell_same' _ _ _ (by rw [h.cell, Array.getElem?_eq_getElem hk]; rfl)]
    simp
  · rw [World.cell?_setCell_other _ _ _ _ (by intro hh; exact ho (by simpa using (congrArg Addr.off hh).symm)), h.cell, Array.getElem?_set]
    rw [if_neg (fun e => ho e.symm)]
theorem own_put' {W : World} {b k : Nat} {A : Array Value} {x : Value} (h : Own W b A) (hk : k < A.size) : Own (W.setCell ⟨b, k, none⟩ x) b (A.setIfInBounds k x) := by
  have e : A.setIfInBounds k x = A.set k x hk := by simp [Array.setIfInBounds, hk]
  rw [e]; exact own_put h hk
section
variable {P : Program}
/-- copy of n things of sz cells each: as much as the shorter of the two has. -/
theorem run_copy_rowN (w : World) (dT sT ty elem : TypeId) (sz g o dLen dCap : Nat) (a : Addr) (sLen sCap : Nat) (cur : Array Value) (t : TypeId) (cs : List Value)
    (hu : P.underlying dT = some (.slice elem)) (hs : (P.info? elem).map (·.size) = some sz)
    (hg : w.heap[g]? = some (.cells cur t (0, 0))) (hn : cs.length = Nat.min sLen dLen * sz)
    (hsrc : ∀ j v, cs[j]? = some v → w.cell? (a.add j) = some v) (hfit : o + cs.length ≤ cur.size) (h1 : ∀ v ∈ cs, v.oneCell' = true) :
    (Builtin.copy_ #[dT, sT] ty #[.slice (some ⟨g, o, none⟩) dLen dCap, .slice (some a) sLen sCap]).run P w =
      .ok (goInt (Nat.min sLen dLen)) (w.setRow g (splice cur.toList o cs).toArray) := by
  have hl := run_loadCells_list (P := P) w a cs hsrc
  have hst := run_storeCells_at P g o t cs 0 cur w hg (by simpa using hfit) h1
  cases hq : P.info? elem with
  | none => simp [hq] at hs
  | some i =>
    have hi : i.size = sz := by simpa [hq] using hs
    simp only [Nat.add_zero] at hst
    simp [Builtin.copy_, run_underlying hu, Builtin.lenOf, Builtin.firstCells, sizeOf, typeInfo, hq, hi, ← hn, hl, hst, splice]
theorem wpList_copyN (w : World) {ops : Array Oper} {rest : List Oper} {o : Oper} {a : Act} {Q : Exit → Act → World → Prop} (hgd : o.guard = none) (d s : Operand) (t t' : TypeId)
    (ho : o.op = .call { callee := .builtin .copy, args := #[d, s], argTypes := #[t, t'] }) (v u : Value) (hd : a.eval d = v) (hs : a.eval s = u) {v' : Value} {w' : World}
    (hr : (Builtin.copy_ #[t, t'] o.type #[v, u]).run P w = .ok v' w') (h : wpList P ops Q rest (a.put o.dst v') w') : wpList P ops Q (o :: rest) a w := by
  refine wpList_plain hgd fun K hK => ?_
  unfold Oper.wp
  simp [execOp, ho, resolve, invoke, builtin, hd, hs, hr, Result.andThen]
  exact hK _ _ h
theorem step_copyN {ops : Array Oper} {o : Oper} {a : Act} {w : World} {K : Act → World → Prop} {Q : Exit → Act → World → Prop} {E : Prop}
    (hg : o.guard = none) (d x : Operand) (dT sT : TypeId) (hop : o.op = Op.call { callee := Callee.builtin Builtin.copy, args := #[d, x], argTypes := #[dT, sT] })
    (v u : Value) (hd : a.eval d = v) (hx : a.eval x = u) {v' : Value} {w' : World} (hr : (Builtin.copy_ #[dT, sT] o.type #[v, u]).run P w = .ok v' w') (hK : K (a.put o.dst v') w') :
    if Region.wanted o (yielded ops a.tmps) = true then Oper.wp P o a w K Q else E := by
  have hw : Region.wanted o (yielded ops a.tmps) = true := by simp [Region.wanted, hg]
  rw [if_pos hw]
  unfold Oper.wp
  simp [execOp, hop, resolve, invoke, builtin, hd, hx, hr, Result.andThen]
  exact hK
end
/-- The cells of spots. -/
def flat (l : List Sp) : List Value := l.flatMap (fun s => [.int .i64 s.c, .pointer s.v])
theorem flat_len : ∀ l : List Sp, (flat l).length = l.length * 2
  | [] => rfl
  | x :: r => by have := flat_len r; simp only [flat, List.flatMap_cons, List.length_append, List.length_cons, List.length_nil] at this ⊢; omega
theorem flat_app (l m : List Sp) : flat (l ++ m) = flat l ++ flat m := by simp [flat]
theorem flat_cons (x : Sp) (m : List Sp) : flat (x :: m) = [.int .i64 x.c, .pointer x.v] ++ flat m := rfl
theorem flat_one (l : List Sp) : ∀ u ∈ flat l, u.oneCell' = true := by
  intro u hu
  simp only [flat, List.mem_flatMap] at hu
  obtain ⟨x, _, hu⟩ := hu
  simp at hu
  rcases hu with rfl | rfl <;> rfl
theorem flat_at : ∀ (l : List Sp) (i : Nat) (x : Sp), l[i]? = some x → (flat l)[i * 2]? = some (.int .i64 x.c) ∧ (flat l)[i * 2 + 1]? = some (.pointer x.v)
  | [], i, x, h => by simp at h
  | u :: r, 0, x, h => by simp at h; subst h; exact ⟨rfl, rfl⟩
  | u :: r, i + 1, x, h => by
    have ih := flat_at r i x (by simpa using h)
    have e : flat (u :: r) = .int .i64 u.c :: .pointer u.v :: flat r := rfl
    rw [e, show (i + 1) * 2 = i * 2 + 1 + 1 by omega]
    exact ⟨by rw [List.getElem?_cons_succ, List.getElem?_cons_succ]; exact ih.1, by rw [List.getElem?_cons_succ, List.getElem?_cons_succ]; exact ih.2⟩
theorem flat_take (l : List Sp) (k : Nat) : flat (l.take k) = (flat l).take (k * 2) := by
  by_cases h : k ≤ l.length
  · have e : flat l = flat (l.take k) ++ flat (l.drop k) := by rw [← flat_app, List.take_append_drop]
    rw [e]
    exact (List.take_left' (by rw [flat_len, List.length_take, Nat.min_eq_left h])).symm
  · rw [List.take_of_length_le (by omega), List.take_of_length_le (by rw [flat_len]; omega)]
theorem flat_drop (l : List Sp) (k : Nat) : flat (l.drop k) = (flat l).drop (k * 2) := by
  by_cases h : k ≤ l.length
  · have e : flat l = flat (l.take k) ++ flat (l.drop k) := by rw [← flat_app, List.take_append_drop]
    rw [e]
    exact (List.drop_left' (by rw [flat_len, List.length_take, Nat.min_eq_left h])).symm
  · rw [List.drop_of_length_le (by omega), List.drop_of_length_le (by rw [flat_len]; omega)]; rfl
/-- The value is a row of just these spots, in a block of its own. -/
def RowW (w : World) (v : Value) (l : List Sp) : Prop := w.ownsRow 0 97 2 v l.length (flat l)
theorem RowW.nil (w : World) : RowW w (.slice none 0 0) [] := ⟨by simp [flat], .inl ⟨rfl, rfl⟩⟩
theorem RowW.of_block {w w' : World} {v : Value} {l : List Sp} (h : RowW w v l) (hb : ∀ g, v.ownBlock = some g → w'.heap[g]? = w.heap[g]?) : RowW w' v l := by
  obtain ⟨h1, h2⟩ := h
  refine ⟨h1, ?_⟩
  rcases h2 with h2 | ⟨g, cap, cur, e, r1, r2, r3⟩
  · exact .inl h2
  · exact .inr ⟨g, cap, cur, e, r1, (hb g (by rw [e]; rfl)).trans r2, r3⟩
theorem RowW.lt {w : World} {v : Value} {l : List Sp} (h : RowW w v l) : ∀ g, v.ownBlock = some g → g < w.heap.size := fun g hg => (World.ownsRow.lt h g hg).2
theorem RowW.keep {w w' : World} {v : Value} {l : List Sp} (h : RowW w v l) (hb : Below w.heap.size w w') : RowW w' v l := h.of_block fun g hg => hb.block g (h.lt g hg)
theorem RowW.mut {S : Nat → Prop} {w W : World} {v : Value} {l : List Sp} (h : RowW w v l) (hm : Mut S w W) (hn : ∀ g, v.ownBlock = some g → ¬ S g) : RowW W v l :=
  h.of_block (fun g hg => hm.block g (h.lt g hg) (hn g hg))
/-- Nil, or written out. -/
theorem RowW.two {w : World} {v : Value} {l : List Sp} (h : RowW w v l) : (v = .slice none 0 0 ∧ l = []) ∨
    ∃ g cap cur, v = .slice (some ⟨g, 0, none⟩) l.length cap ∧ g < w.heap.size ∧ w.heap[g]? = some (.cells cur 97 (0, 0)) ∧ l.length ≤ cap ∧ cap ≤ maxLen ∧ cur.size = cap * 2 ∧ cur.toList.take (l.length * 2) = flat l := by
  obtain ⟨h1, h2⟩ := h
  rcases h2 with ⟨h2, h3⟩ | ⟨g, cap, cur, rfl, r1, r2, r3⟩
  · exact .inl ⟨h2, List.length_eq_zero_iff.1 h3⟩
  · exact .inr ⟨g, cap, cur, rfl, (Array.getElem?_eq_some_iff.1 r2).1, r2, r3.1, r3.2.1, r3.2.2.1, r3.2.2.2⟩
theorem RowW.mk {w : World} {l : List Sp} {g cap n : Nat} {cur : Array Value} (hn : n = l.length) (h1 : w.heap[g]? = some (.cells cur 97 (0, 0))) (h2 : l.length ≤ cap) (h3 : cap ≤ maxLen) (h4 : cur.size = cap * 2) (h5 : cur.toList.take (l.length * 2) = flat l) : RowW w (.slice (some ⟨g, 0, none⟩) n cap) l := by
  subst hn
  exact ⟨flat_len l, .inr ⟨g, cap, cur, rfl, Nat.zero_le _, h1, h2, h3, h4, h5⟩⟩
theorem cell_row {w : World} {g o : Nat} {cur : Array Value} {T : TypeId} (h : w.heap[g]? = some (.cells cur T (0, 0))) : w.cell? ⟨g, o, none⟩ = cur[o]? := by
  rw [cell_of_row w g o cur T (0, 0) h]
theorem fro_row {w : World} {g o : Nat} {cur : Array Value} {T : TypeId} (h : w.heap[g]? = some (.cells cur T (0, 0))) : w.frozen? ⟨g, o, none⟩ = false := by simp [World.frozen?, h]
theorem own_row {w : World} {g : Nat} {cur : Array Value} {T : TypeId} (h : w.heap[g]? = some (.cells cur T (0, 0))) : Own w g cur := ⟨(Array.getElem?_eq_some_iff.1 h).1, fun o => cell_row h, fun o => fro_row h⟩
/-- The row's cells. -/
theorem row_cells {w : World} {g : Nat} {cur : Array Value} {T : TypeId} {l : List Sp} (h : w.heap[g]? = some (.cells cur T (0, 0))) (ht : cur.toList.take (l.length * 2) = flat l) :
    ∀ i x, l[i]? = some x → w.cell? ⟨g, i * 2, none⟩ = some (.int .i64 x.c) ∧ w.cell? ⟨g, i * 2 + 1, none⟩ = some (.pointer x.v) := by
  intro i x hi
  have hl := (List.getElem?_eq_some_iff.1 hi).1
  have h2 := flat_at l i x hi
  rw [← ht, List.getElem?_take_of_lt (by omega), List.getElem?_take_of_lt (by omega)] at h2
  rw [cell_row h, cell_row h]
  simpa using h2
/-- Two splices side by side. -/
theorem splice_two {α : Type} (cur Y X : List α) (a y x : Nat) (hy : Y.length = y) (hx : X.length = x) (h : a + y + x ≤ cur.length) :
    splice (splice cur (a + y) X) a Y = cur.take a ++ (Y ++ (X ++ cur.drop (a + y + x))) ∧ splice (splice cur a Y) (a + y) X = cur.take a ++ (Y ++ (X ++ cur.drop (a + y + x))) := by
  subst hy hx
  have e0 : (cur.take a).length = a := by rw [List.length_take]; omega
  constructor
  · unfold splice
    have h1 : (cur.take (a + Y.length) ++ (X ++ cur.drop (a + Y.length + X.length))).take a = cur.take a := by
      rw [List.take_append_of_le_length (by rw [List.length_take]; omega), List.take_take, Nat.min_eq_left (by omega)]
    have h2 : (cur.take (a + Y.length) ++ (X ++ cur.drop (a + Y.length + X.length))).drop (a + Y.length) = X ++ cur.drop (a + Y.length + X.length) :=
      List.drop_left' (by rw [List.length_take]; omega)
    rw [h1, h2]
  · unfold splice
    have h1 : (cur.take a ++ (Y ++ cur.drop (a + Y.length))).take (a + Y.length) = cur.take a ++ Y := by
      rw [← List.append_assoc]
      exact List.take_left' (by rw [List.length_append, e0])
    have h2 : (cur.take a ++ (Y ++ cur.drop (a + Y.length))).drop (a + Y.length + X.length) = cur.drop (a + Y.length + X.length) := by
      rw [← List.append_assoc, List.drop_append, List.drop_of_length_le (by rw [List.length_append, e0]; omega), List.length_append, e0, List.drop_drop, List.nil_append]
      congr 1
      omega
    rw [h1, h2, List.append_assoc]
theorem zero_size (z : Array Value) (n : Nat) : (Builtin.zeroCells z n).size = n * z.size := by simp [Builtin.zeroCells]
theorem infoSp : (Try.prog.info? 97).map (fun i => (i.zero, i.size, i.bytes)) = some (some (.agg #[.int .i64 0, .pointer none]), 2, 16) := by kernel_rfl
theorem infoSz : (Try.prog.info? 97).map (·.size) = some 2 := by kernel_rfl
end Go.Proofs.Ytaafpfjmnhmalaa
