/- The contracts of Before (of package addr and of the document's answer): of every two cells whether one stands ahead of the other. New memory alone is made. No condition. · What a call may turn (Mut); a row of things in a block of its own (RowG); copy and append of things of several cells. No function's text is walked here. · Seats and rectangles as rows hold them. -/
import Derived.Test.YtcjanaldjokllaaGreatQABA1A4
import Derived.Test.YtcjanaldjokllaaGreatQA4rA2A3
import Derived.Deep.AppendSrc
import Derived.Lib.AppendZerosOnto
import Derived.Lib.Overlaps
import Derived.Laws.CopyOwn
import Derived.Deep.RegionLaw
import Derived.Maps.AppendAt
namespace Go.Proofs.YtcjanaldjokllaaGreat
open Go.RowKit
set_option linter.all false
/-- One cell stands ahead of another. -/
def befB (a b a' b' : Int) : Bool := decide (a < a' ∨ (a = a' ∧ b < b'))
theorem befB_t {a b a' b' : Int} (h : a < a' ∨ (a = a' ∧ b < b')) : befB a b a' b' = true := by simpa [befB] using h
theorem befB_f {a b a' b' : Int} (h : ¬ (a < a' ∨ (a = a' ∧ b < b'))) : befB a b a' b' = false := by simpa [befB] using h
theorem befB_is (a b a' b' : Int) : (befB a b a' b' = true) = (a < a' ∨ (a = a' ∧ b < b')) := by simp [befB]
theorem rbef_any (a b a' b' : Int) (w : World) : Calls Tryz.prog 77 #[.agg #[.int .i64 a, .int .i64 b], .agg #[.int .i64 a', .int .i64 b']] w fun e w' => e = .returned (.bool (befB a b a' b')) ∧ Below w.heap.size w w' := by
  by_cases h1 : a < a'
  · rw [befB_t (.inl h1)]
    go_enter Tryz.func77, Tryz.ntmps77
    go_wp2
    go_ret
    exact ⟨rfl, (bal _ _).alloc (by simp) _⟩
  · have h1' : decide (a < a') = false := by simpa using h1
    by_cases h2 : (a == a') = true
    · have h2' : a = a' := by simpa using h2
      have e : befB a b a' b' = decide (b < b') := by rw [Bool.eq_iff_iff, befB_is, decide_eq_true_eq]; omega
      rw [e]
      clear h2'
      go_enter Tryz.func77, Tryz.ntmps77
      go_wp2
      all_goals go_ret
      all_goals exact ⟨rfl, (bal _ _).alloc (by simp) _⟩
    · have h2' : (a == a') = false := by simpa using h2
      have h3 : ¬ a = a' := by simpa using h2
      rw [befB_f (by omega)]
      clear h2
      go_enter Tryz.func77, Tryz.ntmps77
      go_wp2
      all_goals go_ret
      all_goals exact ⟨rfl, (bal _ _).alloc (by simp) _⟩
end Go.Proofs.YtcjanaldjokllaaGreat
namespace Go.Proofs.YtcjanaldjokllaaGreat
open Go.RowKit
set_option linter.all false
/-- Nothing but the blocks of S and new ones is turned. -/
structure Mut (S : Nat → Prop) (w w' : World) : Prop where
  os : w'.os = w.os
  tape : w'.tape = w.tape
  output : w'.output = w.output
  size : w.heap.size ≤ w'.heap.size
  block : ∀ k, k < w.heap.size → ¬ S k → w'.heap[k]? = w.heap[k]?
theorem Mut.refl (S : Nat → Prop) (w : World) : Mut S w w := ⟨rfl, rfl, rfl, Nat.le_refl _, fun _ _ _ => rfl⟩
theorem Mut.below {S : Nat → Prop} {w W W' : World} (h : Mut S w W) (hb : Below W.heap.size W W') : Mut S w W' :=
  ⟨hb.os.trans h.os, hb.tape.trans h.tape, hb.output.trans h.output, Nat.le_trans h.size hb.size, fun k hk hs => (hb.block k (Nat.lt_of_lt_of_le hk h.size)).trans (h.block k hk hs)⟩
theorem Mut.drew {S : Nat → Prop} {w W : World} (h : Mut S w W) : Mut S w W.drew := h.below (Below.refl _ _).drew
theorem Mut.drewN {S : Nat → Prop} {w W : World} (h : Mut S w W) (n : Nat) : Mut S w (W.drewN n) := h.below (bdrewN (Below.refl _ _) n)
theorem Mut.alloc {S : Nat → Prop} {w W : World} (h : Mut S w W) (o : Obj) : Mut S w (W.alloc o) := h.below (bal _ _)
theorem Mut.set {S : Nat → Prop} {w W : World} (h : Mut S w W) {a : Addr} (ha : S a.block ∨ w.heap.size ≤ a.block) (v : Value) : Mut S w (W.setCell a v) :=
  ⟨h.os, h.tape, h.output, by have := h.size; simpa [World.setCell] using this, fun k hk hs => (Below.heap_setCell W a v k (by rintro rfl; rcases ha with h1 | h1; exact hs h1; omega)).trans (h.block k hk hs)⟩
theorem Mut.setRow {S : Nat → Prop} {w W : World} (h : Mut S w W) {g : Nat} (ha : S g ∨ w.heap.size ≤ g) (A : Array Value) : Mut S w (W.setRow g A) :=
  ⟨h.os, h.tape, h.output, by have := h.size; simpa [World.setRow] using this, fun k hk hs => (setRow_other W g k A (by rintro rfl; rcases ha with h1 | h1; exact hs h1; omega)).trans (h.block k hk hs)⟩
theorem Mut.call {S S' : Nat → Prop} {w W W' : World} (h : Mut S w W) (hc : Mut S' W W') (hs : ∀ b, S' b → S b ∨ w.heap.size ≤ b) : Mut S w W' :=
  ⟨hc.os.trans h.os, hc.tape.trans h.tape, hc.output.trans h.output, Nat.le_trans h.size hc.size, fun k hk hn => (hc.block k (Nat.lt_of_lt_of_le hk h.size) (fun e => by rcases hs k e with h1 | h1; exact hn h1; omega)).trans (h.block k hk hn)⟩
theorem Mut.of_below {S : Nat → Prop} {w W : World} (h : Below w.heap.size w W) : Mut S w W := (Mut.refl S w).below h
theorem Mut.to_below {S : Nat → Prop} {w W : World} {B : Nat} (h : Mut S w W) (hB : B ≤ w.heap.size) (hs : ∀ k, S k → B ≤ k) : Below B w W :=
  ⟨h.os, h.tape, h.output, h.size, fun k hk => h.block k (by omega) (fun e => by have := hs k e; omega)⟩
theorem Own.of_block {w w' : World} {b : Nat} {A : Array Value} (h : Own w b A) (e : w'.heap[b]? = w.heap[b]?) : Own w' b A :=
  ⟨by
    have h1 := Array.getElem?_eq_getElem h.lt
    rw [h1] at e
    exact (Array.getElem?_eq_some_iff.1 e).1, fun o => (World.cell?_of_block (a := ⟨b, o, none⟩) e).trans (h.cell o), fun o => (World.frozen?_of_block (a := ⟨b, o, none⟩) e).trans (h.fro o)⟩
theorem Own.mut {S : Nat → Prop} {w W : World} {b : Nat} {A : Array Value} (h : Own w b A) (hm : Mut S w W) (hn : ¬ S b) : Own W b A := h.of_block (hm.block b h.lt hn)
theorem Own.drewN {w : World} {b : Nat} {A : Array Value} (h : Own w b A) (n : Nat) : Own (w.drewN n) b A := h.keep (bdrewN (Below.refl _ _) n)
theorem Own.aside {w : World} {b : Nat} {A : Array Value} (h : Own w b A) {a : Addr} (x : Value) (hn : b ≠ a.block) : Own (w.setCell a x) b A := h.of_block (Below.heap_setCell w a x b hn)
theorem own_put {W : World} {b k : Nat} {A : Array Value} {x : Value} (h : Own W b A) (hk : k < A.size) : Own (W.setCell ⟨b, k, none⟩ x) b (A.set k x hk) := by
  refine ⟨by simpa [World.setCell] using h.lt, fun o => ?_, fun o => by rw [World.frozen?_setCell]; exact h.fro o⟩
  by_cases ho : o = k
  · subst ho
    rw [World.cell?_setCell_same' _ _ _ (by rw [h.cell, Array.getElem?_eq_getElem hk]; rfl)]
    simp
  · rw [World.cell?_setCell_other _ _ _ _ (by intro hh; exact ho (by simpa using (congrArg Addr.off hh).symm)), h.cell, Array.getElem?_set]
    rw [if_neg (fun e => ho e.symm)]
theorem own_put' {W : World} {b k : Nat} {A : Array Value} {x : Value} (h : Own W b A) (hk : k < A.size) : Own (W.setCell ⟨b, k, none⟩ x) b (A.setIfInBounds k x) := by
  have e : A.setIfInBounds k x = A.set k x hk := by simp [Array.setIfInBounds, hk]
  rw [e]; exact own_put h hk
section
variable {P : Program}
/-- copy of n things of sz cells each: as much as the shorter of the two has. -/
theorem run_copy_rowN (w : World) (dT sT ty elem : TypeId) (sz g o dLen dCap : Nat) (a : Addr) (sLen sCap : Nat) (cur : Array Value) (t : TypeId) (cs : List Value)
    (hu : P.underlying dT = some (.slice elem)) (hs : (P.info? elem).map (·.size) = some sz)
    (hg : w.heap[g]? = some (.cells cur t (0, 0))) (hn : cs.length = Nat.min sLen dLen * sz)
    (hsrc : ∀ j v, cs[j]? = some v → w.cell? (a.add j) = some v) (hfit : o + cs.length ≤ cur.size) (h1 : ∀ v ∈ cs, v.oneCell' = true) :
    (Builtin.copy_ #[dT, sT] ty #[.slice (some ⟨g, o, none⟩) dLen dCap, .slice (some a) sLen sCap]).run P w =
      .ok (goInt (Nat.min sLen dLen)) (w.setRow g (splice cur.toList o cs).toArray) := by
  have hl := run_loadCells_list (P := P) w a cs hsrc
  have hst := run_storeCells_at P g o t cs 0 cur w hg (by simpa using hfit) h1
  cases hq : P.info? elem with
  | none => simp [hq] at hs
  | some i =>
    have hi : i.size = sz := by simpa [hq] using hs
    simp only [Nat.add_zero] at hst
    simp [Builtin.copy_, run_underlying hu, Builtin.lenOf, Builtin.firstCells, sizeOf, typeInfo, hq, hi, ← hn, hl, hst, splice]
theorem wpList_copyN (w : World) {ops : Array Oper} {rest : List Oper} {o : Oper} {a : Act} {Q : Exit → Act → World → Prop} (hgd : o.guard = none) (d s : Operand) (t t' : TypeId)
    (ho : o.op = .call { callee := .builtin .copy, args := #[d, s], argTypes := #[t, t'] }) (v u : Value) (hd : a.eval d = v) (hs : a.eval s = u) {v' : Value} {w' : World}
    (hr : (Builtin.copy_ #[t, t'] o.type #[v, u]).run P w = .ok v' w') (h : wpList P ops Q rest (a.put o.dst v') w') : wpList P ops Q (o :: rest) a w := by
  refine wpList_plain hgd fun K hK => ?_
  unfold Oper.wp
  simp [execOp, ho, resolve, invoke, builtin, hd, hs, hr, Result.andThen]
  exact hK _ _ h
theorem step_copyN {ops : Array Oper} {o : Oper} {a : Act} {w : World} {K : Act → World → Prop} {Q : Exit → Act → World → Prop} {E : Prop}
    (hg : o.guard = none) (d x : Operand) (dT sT : TypeId) (hop : o.op = Op.call { callee := Callee.builtin Builtin.copy, args := #[d, x], argTypes := #[dT, sT] })
    (v u : Value) (hd : a.eval d = v) (hx : a.eval x = u) {v' : Value} {w' : World} (hr : (Builtin.copy_ #[dT, sT] o.type #[v, u]).run P w = .ok v' w') (hK : K (a.put o.dst v') w') :
    if Region.wanted o (yielded ops a.tmps) = true then Oper.wp P o a w K Q else E := by
  have hw : Region.wanted o (yielded ops a.tmps) = true := by simp [Region.wanted, hg]
  rw [if_pos hw]
  unfold Oper.wp
  simp [execOp, hop, resolve, invoke, builtin, hd, hx, hr, Result.andThen]
  exact hK
end
theorem cell_row {w : World} {g o : Nat} {cur : Array Value} {T : TypeId} (h : w.heap[g]? = some (.cells cur T (0, 0))) : w.cell? ⟨g, o, none⟩ = cur[o]? := by
  rw [cell_of_row w g o cur T (0, 0) h]
theorem fro_row {w : World} {g o : Nat} {cur : Array Value} {T : TypeId} (h : w.heap[g]? = some (.cells cur T (0, 0))) : w.frozen? ⟨g, o, none⟩ = false := by simp [World.frozen?, h]
/-- Two splices side by side. -/
theorem splice_two {α : Type} (cur Y X : List α) (a y x : Nat) (hy : Y.length = y) (hx : X.length = x) (h : a + y + x ≤ cur.length) :
    splice (splice cur (a + y) X) a Y = cur.take a ++ (Y ++ (X ++ cur.drop (a + y + x))) ∧ splice (splice cur a Y) (a + y) X = cur.take a ++ (Y ++ (X ++ cur.drop (a + y + x))) := by
  subst hy hx
  have e0 : (cur.take a).length = a := by rw [List.length_take]; omega
  constructor
  · unfold splice
    have h1 : (cur.take (a + Y.length) ++ (X ++ cur.drop (a + Y.length + X.length))).take a = cur.take a := by
      rw [List.take_append_of_le_length (by rw [List.length_take]; omega), List.take_take, Nat.min_eq_left (by omega)]
    have h2 : (cur.take (a + Y.length) ++ (X ++ cur.drop (a + Y.length + X.length))).drop (a + Y.length) = X ++ cur.drop (a + Y.length + X.length) :=
      List.drop_left' (by rw [List.length_take]; omega)
    rw [h1, h2]
  · unfold splice
    have h1 : (cur.take a ++ (Y ++ cur.drop (a + Y.length))).take (a + Y.length) = cur.take a ++ Y := by
      rw [← List.append_assoc]
      exact List.take_left' (by rw [List.length_append, e0])
    have h2 : (cur.take a ++ (Y ++ cur.drop (a + Y.length))).drop (a + Y.length + X.length) = cur.drop (a + Y.length + X.length) := by
      rw [← List.append_assoc, List.drop_append, List.drop_of_length_le (by rw [List.length_append, e0]; omega), List.length_append, e0, List.drop_drop, List.nil_append]
      congr 1
      omega
    rw [h1, h2, List.append_assoc]
theorem zero_size (z : Array Value) (n : Nat) : (Builtin.zeroCells z n).size = n * z.size := by simp [Builtin.zeroCells]
theorem add_none (b o j : Nat) : (⟨b, o, none⟩ : Addr).add j = ⟨b, o + j, none⟩ := by unfold Addr.add; split <;> simp_all
section
variable {α : Type}
/-- The cells of things. -/
def flatG (cs : α → List Value) (l : List α) : List Value := l.flatMap cs
theorem flatG_len {cs : α → List Value} {sz : Nat} (hc : ∀ x, (cs x).length = sz) : ∀ l : List α, (flatG cs l).length = l.length * sz
  | [] => by simp [flatG]
  | x :: r => by
    have := flatG_len hc r
    simp only [flatG, List.flatMap_cons, List.length_append, List.length_cons] at this ⊢
    rw [this, hc x, Nat.add_mul, Nat.one_mul, Nat.add_comm]
theorem flatG_app (cs : α → List Value) (l m : List α) : flatG cs (l ++ m) = flatG cs l ++ flatG cs m := by simp [flatG]
theorem flatG_cons (cs : α → List Value) (x : α) (m : List α) : flatG cs (x :: m) = cs x ++ flatG cs m := rfl
theorem flatG_sing (cs : α → List Value) (x : α) : flatG cs [x] = cs x := by simp [flatG]
theorem flatG_one {cs : α → List Value} (h1 : ∀ x, ∀ u ∈ cs x, u.oneCell' = true) (l : List α) : ∀ u ∈ flatG cs l, u.oneCell' = true := by
  intro u hu
  simp only [flatG, List.mem_flatMap] at hu
  obtain ⟨x, _, hu⟩ := hu
  exact h1 x u hu
theorem flatG_at {cs : α → List Value} {sz : Nat} (hc : ∀ x, (cs x).length = sz) : ∀ (l : List α) (i : Nat) (x : α) (j : Nat), l[i]? = some x → j < sz → (flatG cs l)[i * sz + j]? = (cs x)[j]?
  | [], i, x, j, h, _ => by simp at h
  | u :: r, 0, x, j, h, hj => by
    simp at h; subst h
    rw [flatG_cons, Nat.zero_mul, Nat.zero_add, List.getElem?_append_left (by rw [hc]; exact hj)]
  | u :: r, i + 1, x, j, h, hj => by
    have ih := flatG_at hc r i x j (by simpa using h) hj
    rw [flatG_cons, List.getElem?_append_right (by rw [hc, Nat.add_mul]; omega), hc, show (i + 1) * sz + j - sz = i * sz + j by rw [Nat.add_mul]; omega]
    exact ih
theorem flatG_take {cs : α → List Value} {sz : Nat} (hc : ∀ x, (cs x).length = sz) (l : List α) (k : Nat) : flatG cs (l.take k) = (flatG cs l).take (k * sz) := by
  by_cases h : k ≤ l.length
  · have e : flatG cs l = flatG cs (l.take k) ++ flatG cs (l.drop k) := by rw [← flatG_app, List.take_append_drop]
    rw [e]
    exact (List.take_left' (by rw [flatG_len hc, List.length_take, Nat.min_eq_left h])).symm
  · rw [List.take_of_length_le (by omega), List.take_of_length_le (by rw [flatG_len hc]; exact Nat.mul_le_mul_right _ (by omega))]
theorem flatG_drop {cs : α → List Value} {sz : Nat} (hc : ∀ x, (cs x).length = sz) (l : List α) (k : Nat) : flatG cs (l.drop k) = (flatG cs l).drop (k * sz) := by
  by_cases h : k ≤ l.length
  · have e : flatG cs l = flatG cs (l.take k) ++ flatG cs (l.drop k) := by rw [← flatG_app, List.take_append_drop]
    rw [e]
    exact (List.drop_left' (by rw [flatG_len hc, List.length_take, Nat.min_eq_left h])).symm
  · rw [List.drop_of_length_le (by omega), List.drop_of_length_le (by rw [flatG_len hc]; exact Nat.mul_le_mul_right _ (by omega))]; rfl
/-- The value is a row of just these things, in a block of its own (not below base). -/
def RowG (E : TypeId) (sz : Nat) (cs : α → List Value) (w : World) (base : Nat) (v : Value) (l : List α) : Prop := w.ownsRow base E sz v l.length (flatG cs l)
variable {E : TypeId} {sz : Nat} {cs : α → List Value} {base : Nat}
theorem RowG.nil (w : World) : RowG E sz cs w base (.slice none 0 0) [] := ⟨by simp [flatG], .inl ⟨rfl, rfl⟩⟩
theorem RowG.of_block {w w' : World} {v : Value} {l : List α} (h : RowG E sz cs w base v l) (hb : ∀ g, v.ownBlock = some g → w'.heap[g]? = w.heap[g]?) : RowG E sz cs w' base v l := by
  obtain ⟨h1, h2⟩ := h
  refine ⟨h1, ?_⟩
  rcases h2 with h2 | ⟨g, cap, cur, e, r1, r2, r3⟩
  · exact .inl h2
  · exact .inr ⟨g, cap, cur, e, r1, (hb g (by rw [e]; rfl)).trans r2, r3⟩
theorem RowG.lt {w : World} {v : Value} {l : List α} (h : RowG E sz cs w base v l) : ∀ g, v.ownBlock = some g → base ≤ g ∧ g < w.heap.size := fun g hg => World.ownsRow.lt h g hg
theorem RowG.keep {w w' : World} {v : Value} {l : List α} (h : RowG E sz cs w base v l) (hb : Below w.heap.size w w') : RowG E sz cs w' base v l := h.of_block fun g hg => hb.block g (h.lt g hg).2
theorem RowG.mut {S : Nat → Prop} {w W : World} {v : Value} {l : List α} (h : RowG E sz cs w base v l) (hm : Mut S w W) (hn : ∀ g, v.ownBlock = some g → ¬ S g) : RowG E sz cs W base v l :=
  h.of_block (fun g hg => hm.block g (h.lt g hg).2 (hn g hg))
theorem RowG.aside {w : World} {v : Value} {l : List α} (h : RowG E sz cs w base v l) {a : Addr} (x : Value) (hn : ∀ g, v.ownBlock = some g → g ≠ a.block) : RowG E sz cs (w.setCell a x) base v l := h.of_block fun g hg => Below.heap_setCell w a x g (hn g hg)
theorem RowG.mono {w : World} {base' : Nat} {v : Value} {l : List α} (h : RowG E sz cs w base v l) (hb : base' ≤ base) : RowG E sz cs w base' v l := by
  obtain ⟨h1, h2⟩ := h
  refine ⟨h1, ?_⟩
  rcases h2 with h2 | ⟨g, cap, cur, e, r1, r2⟩
  · exact .inl h2
  · exact .inr ⟨g, cap, cur, e, Nat.le_trans hb r1, r2⟩
/-- Nil, or written out. -/
theorem RowG.two {w : World} {v : Value} {l : List α} (h : RowG E sz cs w base v l) : (v = .slice none 0 0 ∧ l = []) ∨
    ∃ g cap cur, v = .slice (some ⟨g, 0, none⟩) l.length cap ∧ base ≤ g ∧ g < w.heap.size ∧ w.heap[g]? = some (.cells cur E (0, 0)) ∧ l.length ≤ cap ∧ cap ≤ maxLen ∧ cur.size = cap * sz ∧ cur.toList.take (l.length * sz) = flatG cs l := by
  obtain ⟨h1, h2⟩ := h
  rcases h2 with ⟨h2, h3⟩ | ⟨g, cap, cur, rfl, r1, r2, r3⟩
  · exact .inl ⟨h2, List.length_eq_zero_iff.1 h3⟩
  · exact .inr ⟨g, cap, cur, rfl, r1, (Array.getElem?_eq_some_iff.1 r2).1, r2, r3.1, r3.2.1, r3.2.2.1, r3.2.2.2⟩
theorem RowG.mk {w : World} {l : List α} {g cap n : Nat} {cur : Array Value} (hc : ∀ x, (cs x).length = sz) (hn : n = l.length) (hb : base ≤ g) (h1 : w.heap[g]? = some (.cells cur E (0, 0))) (h2 : l.length ≤ cap) (h3 : cap ≤ maxLen) (h4 : cur.size = cap * sz) (h5 : cur.toList.take (l.length * sz) = flatG cs l) : RowG E sz cs w base (.slice (some ⟨g, 0, none⟩) n cap) l := by
  subst hn
  exact ⟨flatG_len hc l, .inr ⟨g, cap, cur, rfl, hb, h1, h2, h3, h4, h5⟩⟩
/-- The row's cells. -/
theorem row_cellsG (hc : ∀ x, (cs x).length = sz) {w : World} {g : Nat} {cur : Array Value} {T : TypeId} {l : List α} (h : w.heap[g]? = some (.cells cur T (0, 0))) (ht : cur.toList.take (l.length * sz) = flatG cs l) :
    ∀ i x j u, l[i]? = some x → (cs x)[j]? = some u → w.cell? ⟨g, i * sz + j, none⟩ = some u := by
  intro i x j u hi hu
  have hl := (List.getElem?_eq_some_iff.1 hi).1
  have hj : j < sz := by have := (List.getElem?_eq_some_iff.1 hu).1; rwa [hc x] at this
  have h2 := flatG_at hc l i x j hi hj
  have hlt : i * sz + j < l.length * sz := by
    have : (i + 1) * sz ≤ l.length * sz := Nat.mul_le_mul_right _ hl
    rw [Nat.add_mul] at this
    omega
  rw [← ht, List.getElem?_take_of_lt hlt, hu] at h2
  rw [cell_row h]
  simpa using h2
end
end Go.Proofs.YtcjanaldjokllaaGreat
namespace Go.Proofs.YtcjanaldjokllaaGreat
open Go.RowKit
set_option linter.all false
/-- A seat: where its looker lies, and how many of its rectangles there are. -/
structure Seat where
  g : Nat
  n : Int
structure Rct where
  t : Int
  l : Int
  b : Int
  r : Int
def Seat.cs (x : Seat) : List Value := [.pointer (some ⟨x.g, 0, none⟩), .int .i64 x.n]
def Rct.cs (x : Rct) : List Value := [.int .i64 x.t, .int .i64 x.l, .int .i64 x.b, .int .i64 x.r]
theorem Seat.len (x : Seat) : x.cs.length = 2 := rfl
theorem Rct.len (x : Rct) : x.cs.length = 4 := rfl
theorem Seat.one (x : Seat) : ∀ u ∈ x.cs, u.oneCell' = true := by
  intro u hu
  simp [Seat.cs] at hu
  rcases hu with rfl | rfl <;> rfl
theorem Rct.one (x : Rct) : ∀ u ∈ x.cs, u.oneCell' = true := by
  intro u hu
  simp [Rct.cs] at hu
  rcases hu with rfl | rfl | rfl | rfl <;> rfl
theorem infoSeat : (Tryz.prog.info? 147).map (fun i => (i.zero, i.size, i.bytes)) = some (some (.agg #[.pointer none, .int .i64 0]), 2, 16) := by kernel_rfl
theorem infoRct : (Tryz.prog.info? 51).map (fun i => (i.zero, i.size, i.bytes)) = some (some (.agg #[.int .i64 0, .int .i64 0, .int .i64 0, .int .i64 0]), 4, 32) := by kernel_rfl
theorem infoSeatZ : (Tryz.prog.info? 147).map (·.size) = some 2 := by kernel_rfl
theorem infoRctZ : (Tryz.prog.info? 51).map (·.size) = some 4 := by kernel_rfl
abbrev RowS (w : World) (v : Value) (l : List Seat) : Prop := RowG 147 2 Seat.cs w 0 v l
abbrev RowR (w : World) (v : Value) (l : List Rct) : Prop := RowG 51 4 Rct.cs w 0 v l
theorem one_news {α : Type} {cs : α → List Value} {w : World} {vb : Nat} {x : α} {T : TypeId} (h : w.heap[vb]? = some (.cells (cs x).toArray T (0, 0))) : ∀ j u, (cs x)[j]? = some u → w.cell? ((⟨vb, 0, none⟩ : Addr).add j) = some u := by
  intro j u hj
  rw [add_none, Nat.zero_add, cell_row h]
  simpa using hj
theorem wpList_app3 {w : World} {ops : Array Oper} {rest : List Oper} {o : Oper} {a : Act} {Q : Exit → Act → World → Prop} (hgd : o.guard = none) (s x : Operand) (T1 T2 : TypeId)
    (ho : o.op = .call { callee := .builtin .append, args := #[s, x], argTypes := #[T1, T2] }) (v xv : Value) (hs : a.eval s = v) (hx : a.eval x = xv) (v' : Value) (w' : World)
    (hr : (Builtin.append_ #[T1, T2] o.type #[v, xv]).run Tryz.prog w = .ok v' w') (h : wpList Tryz.prog ops Q rest (a.put o.dst v') w') : wpList Tryz.prog ops Q (o :: rest) a w :=
  wpList_plain hgd fun K hK => by
    unfold Oper.wp execOp
    simp only [ho, resolve, invoke, builtin, Sem.run_bind, Sem.run_pure, Result.andThen_ok, List.map_toArray, List.map_cons, List.map_nil, hs, hx, hr]
    exact hK _ _ h
/-- What a row is turned to: it lies where it lay, or in a new block. -/
def InsP {α : Type} (E : TypeId) (sz : Nat) (cs : α → List Value) (w : World) (v : Value) (l' : List α) (e : Ending) (w' : World) : Prop := ∃ v', e = .returned v' ∧ RowG E sz cs w' 0 v' l' ∧ (v'.ownBlock = v.ownBlock ∨ ∃ g, v'.ownBlock = some g ∧ w.heap.size ≤ g) ∧ Mut (fun k => v.ownBlock = some k) w w'
def WoP {α : Type} (E : TypeId) (sz : Nat) (cs : α → List Value) (w : World) (v : Value) (l' : List α) (e : Ending) (w' : World) : Prop := ∃ v', e = .returned v' ∧ RowG E sz cs w' 0 v' l' ∧ (∀ g, v'.ownBlock = some g → v.ownBlock = some g ∨ w.heap.size ≤ g) ∧ Mut (fun k => v.ownBlock = some k) w w'
theorem InsP.wo {α : Type} {E : TypeId} {sz : Nat} {cs : α → List Value} {w : World} {v : Value} {l' : List α} {e : Ending} {w' : World} (h : InsP E sz cs w v l' e w') : WoP E sz cs w v l' e w' := by
  obtain ⟨v', e1, h1, h2, h3⟩ := h
  refine ⟨v', e1, h1, fun g hg => ?_, h3⟩
  rcases h2 with q | ⟨g', q, r⟩
  · exact .inl (q.symm.trans hg)
  · rw [q] at hg; injection hg with hg; subst hg; exact .inr r
end Go.Proofs.YtcjanaldjokllaaGreat
