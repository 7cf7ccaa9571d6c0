/- Rows of structs that a call owns, as lists: small laws of no function. A range over a function whose iterator itself ranges over another, told with footprints: a round may turn the blocks of a set and new ones, the iterator's own steps keep that set and all that lay when it was called. The law of the statement (outermost, and within a round) over an iterator that gives a list. No condition. -/
import Derived.Test.YtcgcnpcimfaecaaGreatDoorQNT4
import Derived.Deep.AppendLies
import Derived.OwnWalk
import Derived.RangeFuncNested
import Derived.RangeFuncBound
import Derived.RangeFuncLeaves
namespace Go.Proofs.YtcgcnpcimfaecaaGreatDoor
open Go.RowKit
set_option linter.all false
theorem Own.of_block {w w' : World} {b : Nat} {A : Array Value} (h : Own w b A) (e : w'.heap[b]? = w.heap[b]?) : Own w' b A :=
  ⟨by have h1 := h.lt; rw [Array.getElem?_eq_getElem h1] at e; exact (Array.getElem?_eq_some_iff.1 e).1, fun o => (World.cell?_of_block e).trans (h.cell o), fun o => (World.frozen?_of_block e).trans (h.fro o)⟩
theorem Own.aside {w : World} {b : Nat} {A : Array Value} (h : Own w b A) {a : Addr} (hb : b ≠ a.block) (v : Value) : Own (w.setCell a v) b A := h.of_block (Below.heap_setCell w a v b hb)
theorem with_fact {p q : Prop} (h : p) (k : p → q) : q := k h
section
variable {α : Type} {c : α → Array Value} {sz : Nat} {e : TypeId}
def flatC (c : α → Array Value) (l : List α) : List Value := l.flatMap (fun x => (c x).toList)
theorem flatC_len (hc : ∀ x, (c x).size = sz) : ∀ l : List α, (flatC c l).length = l.length * sz
  | [] => by simp [flatC]
  | x :: r => by
    have ih := flatC_len hc r
    have e : flatC c (x :: r) = (c x).toList ++ flatC c r := rfl
    rw [e, List.length_append, ih, List.length_cons, Array.length_toList, hc, Nat.succ_mul, Nat.add_comm]
theorem flatC_snoc (l : List α) (x : α) : flatC c (l ++ [x]) = flatC c l ++ (c x).toList := by simp [flatC]
theorem flatC_app (l m : List α) : flatC c (l ++ m) = flatC c l ++ flatC c m := by simp [flatC]
theorem flatC_at (hc : ∀ x, (c x).size = sz) : ∀ (l : List α) (i j : Nat) (x : α), l[i]? = some x → j < sz → (flatC c l)[i * sz + j]? = (c x)[j]?
  | [], i, j, x, h, _ => by simp at h
  | u :: r, 0, j, x, h, hj => by
    simp at h; subst h
    have e : flatC c (u :: r) = (c u).toList ++ flatC c r := rfl
    rw [e, Nat.zero_mul, Nat.zero_add, List.getElem?_append_left (by rw [Array.length_toList, hc]; exact hj)]
    simp
  | u :: r, i + 1, j, x, h, hj => by
    have ih := flatC_at hc r i j x (by simpa using h) hj
    have e : flatC c (u :: r) = (c u).toList ++ flatC c r := rfl
    rw [e, List.getElem?_append_right (by rw [Array.length_toList, hc, Nat.succ_mul]; omega), Array.length_toList, hc, ← ih]
    congr 1
    rw [Nat.succ_mul]; omega
theorem flatC_take (hc : ∀ x, (c x).size = sz) (l : List α) (k : Nat) : flatC c (l.take k) = (flatC c l).take (k * sz) := by
  by_cases h : k ≤ l.length
  · have e : flatC c l = flatC c (l.take k) ++ flatC c (l.drop k) := by rw [← flatC_app, List.take_append_drop]
    rw [e]
    exact (List.take_left' (by rw [flatC_len hc, List.length_take, Nat.min_eq_left h])).symm
  · rw [List.take_of_length_le (by omega), List.take_of_length_le (by rw [flatC_len hc]; exact Nat.mul_le_mul_right _ (by omega))]
/-- The value is a list of just these things, in a block of its own from base on. -/
def Row (c : α → Array Value) (sz : Nat) (e : TypeId) (w : World) (base : Nat) (v : Value) (l : List α) : Prop := w.ownsRow base e sz v l.length (flatC c l)
theorem Row.nil (w : World) (base : Nat) : Row c sz e w base (.slice none 0 0) [] := ⟨by simp [flatC], .inl ⟨rfl, rfl⟩⟩
theorem Row.of_block {w w' : World} {base : Nat} {v : Value} {l : List α} (h : Row c sz e w base v l) (hb : ∀ g, v.ownBlock = some g → w'.heap[g]? = w.heap[g]?) : Row c sz e w' base v l := by
  obtain ⟨h1, h2⟩ := h
  refine ⟨h1, ?_⟩
  rcases h2 with h2 | ⟨g, cap, cur, e, r1, r2, r3⟩
  · exact .inl h2
  · exact .inr ⟨g, cap, cur, e, r1, (hb g (by rw [e]; rfl)).trans r2, r3⟩
theorem Row.lt {w : World} {base : Nat} {v : Value} {l : List α} (h : Row c sz e w base v l) : ∀ g, v.ownBlock = some g → base ≤ g ∧ g < w.heap.size := World.ownsRow.lt h
theorem Row.keep {w w' : World} {base : Nat} {v : Value} {l : List α} (h : Row c sz e w base v l) (hb : Below w.heap.size w w') : Row c sz e w' base v l :=
  h.of_block fun g hg => hb.block g (h.lt g hg).2
theorem Row.mono {w : World} {base base' : Nat} {v : Value} {l : List α} (h : Row c sz e w base v l) (hb : base' ≤ base) : Row c sz e w base' v l := by
  obtain ⟨h1, h2⟩ := h
  refine ⟨h1, ?_⟩
  rcases h2 with h2 | ⟨g, cap, cur, e, r1, r2⟩
  · exact .inl h2
  · exact .inr ⟨g, cap, cur, e, Nat.le_trans hb r1, r2⟩
theorem Row.slice {w : World} {base : Nat} {v : Value} {l : List α} (h : Row c sz e w base v l) : ∃ p cap, v = .slice p l.length cap ∧ l.length ≤ cap ∧ cap ≤ maxLen := by
  obtain ⟨h1, h2⟩ := h
  rcases h2 with ⟨rfl, e⟩ | ⟨g, cap, cur, rfl, _, _, h3, h4, _⟩
  · exact ⟨none, 0, by rw [e], by omega, Nat.zero_le _⟩
  · exact ⟨_, _, rfl, h3, h4⟩
/-- Nil, or written out. -/
theorem Row.two {w : World} {base : Nat} {v : Value} {l : List α} (hc : ∀ x, (c x).size = sz) (h : Row c sz e w base v l) : (v = .slice none 0 0 ∧ l = []) ∨
    ∃ g cap, v = .slice (some ⟨g, 0, none⟩) l.length cap ∧ base ≤ g ∧ g < w.heap.size ∧ l.length ≤ cap ∧ cap ≤ maxLen ∧ (∀ i x, l[i]? = some x → ∀ j, j < sz → w.cell? ⟨g, i * sz + j, none⟩ = (c x)[j]?) ∧ (∀ o, w.frozen? ⟨g, o, none⟩ = false) := by
  have hh := h
  obtain ⟨h1, h2⟩ := h
  rcases h2 with ⟨h2, h3⟩ | ⟨g, cap, cur, rfl, r1, r2, r3⟩
  · exact .inl ⟨h2, List.length_eq_zero_iff.1 h3⟩
  · refine .inr ⟨g, cap, rfl, r1, (Array.getElem?_eq_some_iff.1 r2).1, r3.1, r3.2.1, fun i x hi j hj => ?_, fun o => World.ownsRow.frozenAt hh o⟩
    have hil := (List.getElem?_eq_some_iff.1 hi).1
    have h5 : i * sz + j < l.length * sz := by
      have := Nat.mul_le_mul_right sz (show i + 1 ≤ l.length by omega)
      rw [Nat.succ_mul] at this
      omega
    rw [World.ownsRow.cellAt hh (i * sz + j) h5, flatC_at hc l i j x hi hj]
/-- The first of them. -/
theorem Row.take {w : World} {base g m cap : Nat} {l : List α} (hc : ∀ x, (c x).size = sz) (h : Row c sz e w base (.slice (some ⟨g, 0, none⟩) m cap) l) {k : Nat} (hk : k ≤ l.length) : Row c sz e w base (.slice (some ⟨g, 0, none⟩) k cap) (l.take k) := by
  obtain ⟨h1, h2⟩ := h
  rcases h2 with ⟨h2, h3⟩ | ⟨g', cap', cur, h2, r1, r2, r3, r4, r5, r6⟩
  · cases h2
  · cases h2
    have e2 : (l.take k).length = k := by rw [List.length_take]; omega
    refine ⟨by rw [flatC_len hc], .inr ⟨g, cap, cur, by rw [e2], r1, r2, by omega, r4, r5, ?_⟩⟩
    rw [e2, flatC_take hc, ← r6, List.take_take, Nat.min_eq_left (Nat.mul_le_mul_right _ hk)]
theorem Row.view {w : World} {base : Nat} {v : Value} {l : List α} (hc : ∀ x, (c x).size = sz) (h : Row c sz e w base v l) : View c sz w v l := by
  rcases h.two hc with ⟨rfl, rfl⟩ | ⟨g, cap, rfl, r1, r2, r3, r4, r5, _⟩
  · exact ⟨none, 0, rfl, Nat.le_refl _, fun h => absurd h (by simp)⟩
  · exact ⟨some ⟨g, 0, none⟩, cap, rfl, r3, fun _ => ⟨g, 0, rfl, r2, fun i x hi j hj => by rw [Nat.zero_add]; exact r5 i x hi j hj⟩⟩
theorem drop_cells {w : World} {g k : Nat} {l : List α} (h : ∀ i x, l[i]? = some x → ∀ j, j < sz → w.cell? ⟨g, i * sz + j, none⟩ = (c x)[j]?) : ∀ i x, (l.drop k)[i]? = some x → ∀ j, j < sz → w.cell? ⟨g, k * sz + i * sz + j, none⟩ = (c x)[j]? := fun i x hi j hj => by
  rw [List.getElem?_drop] at hi
  have := h (k + i) x hi j hj
  rwa [Nat.add_mul] at this
theorem Row.cells {w : World} {base g m cap : Nat} {l : List α} (hc : ∀ x, (c x).size = sz) (h : Row c sz e w base (.slice (some ⟨g, 0, none⟩) m cap) l) : ∀ i x, l[i]? = some x → ∀ j, j < sz → w.cell? ⟨g, i * sz + j, none⟩ = (c x)[j]? := by
  rcases h.two hc with ⟨h1, _⟩ | ⟨g', cap', h1, _, _, _, _, h2, _⟩
  · cases h1
  · cases h1; exact h2
theorem Row.takeR {w : World} {base g m cap : Nat} {l : List α} (hc : ∀ x, (c x).size = sz) (h : Row c sz e w base (.slice (some ⟨g, 0, none⟩) m cap) l) {k : Nat} (hk : k ≤ l.length) : w.ownsRow base e sz (.slice (some ⟨g, 0, none⟩) k cap) k (flatC c (l.take k)) := by
  have := Row.take hc h hk
  unfold Row at this
  rwa [List.length_take, Nat.min_eq_left hk] at this
theorem Row.drew {w : World} {base : Nat} {v : Value} {l : List α} (h : Row c sz e w base v l) : Row c sz e w.drew base v l := h.keep (Below.refl _ _).drew
theorem Row.past {w : World} {base : Nat} {v : Value} {l : List α} (h : Row c sz e w base v l) (o : Obj) : Row c sz e (w.alloc o) base v l := h.keep (bal w o)
theorem ownsRow_drew {w : World} {base n : Nat} {v : Value} {xs : List Value} (h : w.ownsRow base e sz v n xs) : w.drew.ownsRow base e sz v n xs := h
/-- One more behind them. -/
theorem app_row {w W w5 : World} {v : Value} {g cap k : Nat} {l : List α} {t : α} (hB : Below w.heap.size w W) (hlt : ∀ g, v.ownBlock = some g → w.heap.size ≤ g) (hl : l.length = k)
    (ho : w5.ownsRow w.heap.size e sz (.slice (some ⟨g, 0, none⟩) (k + 1) cap) (k + 1) (flatC c l ++ (c t).toList)) (hg : W.grownBy w5 v.ownBlock) :
    Row c sz e w5 w.heap.size (.slice (some ⟨g, 0, none⟩) (k + 1) cap) (l ++ [t]) ∧ Below w.heap.size w w5 := by
  refine ⟨?_, Below.grown hB hg hB.size (fun k hk => hlt k hk)⟩
  unfold Row
  rw [flatC_snoc, List.length_append, hl]
  exact ho
theorem news_two (W : World) (o : Obj) (cs : Array Value) (T : TypeId) : ∀ (j : Nat) (u : Value), cs.toList[j]? = some u → ((W.alloc o).alloc (.cells cs T)).drew.cell? ((⟨W.heap.size + 1, 0, none⟩ : Addr).add j) = some u := fun j u h => by
  have h1 := (Own.new (W.alloc o) cs T).cell j
  rw [World.size_alloc] at h1
  have e : ((⟨W.heap.size + 1, 0, none⟩ : Addr).add j) = ⟨W.heap.size + 1, j, none⟩ := by simp [Addr.add]; omega
  rw [e]
  show ((W.alloc o).alloc (.cells cs T)).cell? _ = _
  rw [h1]
  simpa using h
theorem news_one (W : World) (cs : Array Value) (T : TypeId) : ∀ (j : Nat) (u : Value), cs.toList[j]? = some u → (W.alloc (.cells cs T)).drew.cell? ((⟨W.heap.size, 0, none⟩ : Addr).add j) = some u := fun j u h => by
  have h1 := (Own.new W cs T).cell j
  have e : ((⟨W.heap.size, 0, none⟩ : Addr).add j) = ⟨W.heap.size, j, none⟩ := by simp [Addr.add]; omega
  rw [e]
  show (W.alloc (.cells cs T)).cell? _ = _
  rw [h1]
  simpa using h
theorem own_grown {W w5 : World} {row : Option Nat} {L : Nat} {A : Array Value} (h : Own W L A) (hg : W.grownBy w5 row) (hn : ∀ g', row = some g' → g' ≠ L) : Own w5 L A := h.of_block (hg.block L h.lt (fun e => hn L e.symm rfl))
end
end Go.Proofs.YtcgcnpcimfaecaaGreatDoor
namespace Go.Proofs.YtcgcnpcimfaecaaGreatDoor
open Go.RowKit
set_option linter.all false

/-- What an iterator's own steps keep: all that lay below B, and the blocks of Ft. -/
structure Keep (B : Nat) (Ft : Nat → Prop) (W W' : World) : Prop where
  os : W'.os = W.os
  tape : W'.tape = W.tape
  output : W'.output = W.output
  size : W.heap.size ≤ W'.heap.size
  block : ∀ k, k < W.heap.size → (k < B ∨ Ft k) → W'.heap[k]? = W.heap[k]?
/-- What a round may turn: the blocks of Ft and new ones; Ft' is its set behind it. -/
structure Turn (Ft Ft' : Nat → Prop) (W W' : World) : Prop where
  os : W'.os = W.os
  tape : W'.tape = W.tape
  output : W'.output = W.output
  size : W.heap.size ≤ W'.heap.size
  block : ∀ k, k < W.heap.size → ¬ Ft k → W'.heap[k]? = W.heap[k]?
  foot : ∀ k, Ft' k → (Ft k ∨ W.heap.size ≤ k) ∧ k < W'.heap.size
/-- One block alone was put anew. -/
structure Sets (l : Nat) (W W' : World) : Prop where
  os : W'.os = W.os
  tape : W'.tape = W.tape
  output : W'.output = W.output
  size : W'.heap.size = W.heap.size
  block : ∀ k, k ≠ l → W'.heap[k]? = W.heap[k]?
theorem Sets.put (W : World) (l : Nat) (o : Obj) : Sets l W (W.putObj l o) := ⟨rfl, rfl, rfl, World.putObj_size, fun _ h => World.putObj_heap_other h⟩
theorem Keep.refl (B : Nat) (Ft : Nat → Prop) (W : World) : Keep B Ft W W := ⟨rfl, rfl, rfl, Nat.le_refl _, fun _ _ _ => rfl⟩
theorem Keep.trans {B : Nat} {Ft : Nat → Prop} {A W C : World} (h : Keep B Ft A W) (k : Keep B Ft W C) : Keep B Ft A C :=
  ⟨k.os.trans h.os, k.tape.trans h.tape, k.output.trans h.output, Nat.le_trans h.size k.size, fun i hi hk => (k.block i (Nat.lt_of_lt_of_le hi h.size) hk).trans (h.block i hi hk)⟩
theorem Keep.of_below {B N : Nat} {Ft : Nat → Prop} {A W : World} (h : Below N A W) (hN : A.heap.size ≤ N) : Keep B Ft A W :=
  ⟨h.os, h.tape, h.output, h.size, fun k hk _ => h.block k (by omega)⟩
theorem Keep.of_sets {B l : Nat} {Ft : Nat → Prop} {A W : World} (h : Sets l A W) (hB : B ≤ l) (hl : ¬ Ft l) : Keep B Ft A W :=
  ⟨h.os, h.tape, h.output, by rw [h.size]; exact Nat.le_refl _, fun k _ hk => h.block k (by rintro rfl; rcases hk with hk | hk; omega; exact hl hk)⟩
theorem Keep.mono {B B' : Nat} {Ft Ft' : Nat → Prop} {A W : World} (h : Keep B Ft A W) (hB : B' ≤ B) (hF : ∀ b, Ft' b → Ft b) : Keep B' Ft' A W :=
  ⟨h.os, h.tape, h.output, h.size, fun k hk hh => h.block k hk (by rcases hh with hh | hh; left; omega; right; exact hF k hh)⟩
theorem Turn.below {Ft Ft' : Nat → Prop} {A W C : World} {N : Nat} (h : Below N A W) (hN : A.heap.size ≤ N) (k : Turn Ft Ft' W C) (hF : ∀ b, Ft b → b < A.heap.size) : Turn Ft Ft' A C :=
  ⟨k.os.trans h.os, k.tape.trans h.tape, k.output.trans h.output, Nat.le_trans h.size k.size,
   fun i hi hk => (k.block i (Nat.lt_of_lt_of_le hi h.size) hk).trans (h.block i (by omega)),
   fun i hi => ⟨by rcases (k.foot i hi).1 with h1 | h1; exact .inl h1; have := h.size; exact .inr (by omega), (k.foot i hi).2⟩⟩
theorem Turn.then {Ft Ft' Ft2 : Nat → Prop} {A W C : World} (h : Turn Ft Ft' A W) (k : Turn Ft' Ft2 W C) : Turn Ft Ft2 A C :=
  ⟨k.os.trans h.os, k.tape.trans h.tape, k.output.trans h.output, Nat.le_trans h.size k.size,
   fun i hi hk => (k.block i (Nat.lt_of_lt_of_le hi h.size) (fun hf => by rcases (h.foot i hf).1 with h1 | h1; exact hk h1; omega)).trans (h.block i hi hk),
   fun i hi => ⟨by rcases (k.foot i hi).1 with h1 | h1; exact (h.foot i h1).1; have := h.size; exact .inr (by omega), (k.foot i hi).2⟩⟩
/-- Nothing but new blocks: the set stays. -/
theorem Turn.of_below {Ft : Nat → Prop} {A W : World} {N : Nat} (h : Below N A W) (hN : A.heap.size ≤ N) (hF : ∀ b, Ft b → b < A.heap.size) : Turn Ft Ft A W :=
  ⟨h.os, h.tape, h.output, h.size, fun k hk _ => h.block k (by omega), fun k hk => ⟨.inl hk, by have := hF k hk; have := h.size; omega⟩⟩

/-- The iterator value g, lb gives the list xs: at whatever loop l, whatever the caller keeps between two rounds. -/
def Gives {α : Type} (P : Program) (g : Nat) (lb : Array Value) (encs : α → Array Value) (xs : List α) (own : Nat → Prop) (w0 : World) : Prop :=
  ∀ (l : Nat) (J Jx : Nat → (Nat → Prop) → World → Prop) (Ft0 : Nat → Prop) (W : World),
    (∀ k, own k → W.heap[k]? = w0.heap[k]? ∧ ¬ Ft0 k ∧ k < W.heap.size) →
    (∀ b, Ft0 b → b < W.heap.size) →
    (∀ k Ft A A', J k Ft A → Keep W.heap.size Ft A A' → J k Ft A') →
    (∀ k Ft A A', Jx k Ft A → Keep W.heap.size Ft A A' → Jx k Ft A') →
    (∀ k x Ft W1, xs[k]? = some x → J k Ft W1 → W.heap.size ≤ W1.heap.size → (∀ b, Ft b → b < W1.heap.size) → (∀ b, Ft b → Ft0 b ∨ W.heap.size ≤ b) →
      ∀ m, YieldAt Fence.wide m P l (encs x) W1 fun e W' => ∃ Ft', Turn Ft Ft' W1 W' ∧
        ((e = .returned (.bool true) ∧ J (k + 1) Ft' W') ∨ (e = .returned (.bool false) ∧ Jx (k + 1) Ft' W'))) →
    J 0 Ft0 W →
    ∀ m, CallsIn Fence.wide m P g (#[.func (.yield l) #[] #[]] ++ lb) W fun e W' => (∃ v, e = .returned v) ∧ ∃ Ft, W.heap.size ≤ W'.heap.size ∧
      (∀ b, Ft b → b < W'.heap.size) ∧ (∀ b, Ft b → Ft0 b ∨ W.heap.size ≤ b) ∧ (J xs.length Ft W' ∨ ∃ k, k < xs.length ∧ Jx (k + 1) Ft W')

theorem yield_any {m m' : Nat} {P : Program} {l : Nat} {args : Array Value} {W : World} {R : Ending → World → Prop} (h : YieldAt Fence.wide m P l args W R) : YieldAt Fence.wide m' P l args W R := by
  obtain ⟨fn, tmps, assign, body, hy, hR⟩ := h
  exact ⟨fn, tmps, assign, body, hy, hR.1, fun c cs _ => hR.2 c cs (room_wide _)⟩

/-- How a round's body may be left. -/
def bPost (I : Nat → (Nat → Prop) → World → Prop) (Ix : Code → Nat → (Nat → Prop) → World → Prop) (Ft : Nat → Prop) (W : World) (k : Nat) : Exit → Act → World → Prop
  | .normal, _, W' => ∃ Ft', Turn Ft Ft' W W' ∧ I k Ft' W'
  | .ret, _, W' => ∃ Ft', Turn Ft Ft' W W' ∧ Ix .ret k Ft' W'
  | .exit id, _, W' => ∃ Ft', Turn Ft Ft' W W' ∧ Ix (.exit id) k Ft' W'
  | .goto t, _, W' => ∃ Ft', Turn Ft Ft' W W' ∧ Ix (.goto t) k Ft' W'
  | .panic _, _, _ => False
  | .outgrown, _, _ => False

/-- A set and one block more. -/
def andB (Ft : Nat → Prop) (L : Nat) : Nat → Prop := fun b => Ft b ∨ b = L

/-- One round, out of the walks of assignment and body: the record is set busy ahead of the body and ready or done behind it. -/
theorem round_of {P : Program} {F : Fence} {m B L : Nat} {fn : FuncId} (hfn : F.fn fn) {assign body : Code} {rec : LoopState → Option Code → Loop}
    (hst : ∀ st pe, (rec st pe).state = st) (hsb : ∀ st pe st', { rec st pe with state := st' } = rec st' pe) (hsp : ∀ st pe st' pe', { rec st pe with state := st', pending := pe' } = rec st' pe')
    {tm : Array Value} {W : World} {Ft : Nat → Prop} {k : Nat} {I : Nat → (Nat → Prop) → World → Prop} {Ix : Code → Nat → (Nat → Prop) → World → Prop} {R : Ending → World → Prop}
    (hI : ∀ k Ft A A', I k Ft A → Keep B Ft A A' → I k Ft A') (hIx : ∀ c k Ft A A', Ix c k Ft A → Keep B Ft A A' → Ix c k Ft A') (hB : B ≤ L)
    (hl : W.heap[L]? = some (.loop (rec .ready none))) (hFl : ¬ Ft L) (hF : ∀ b, Ft b → b < W.heap.size)
    (hround : assign.wpIn (F.inRound L) m P (Exit.then (fun a1 W1 => Below W.heap.size W W1 ∧ ∀ W2, Sets L W1 W2 → (∃ r, W2.heap[L]? = some (.loop r)) → body.wpIn (F.inRound L) m P (bPost I Ix Ft W2 (k + 1)) a1 W2) (fun _ _ _ => False))
      { tmps := tm, defers := [] } W)
    (hgo : ∀ W3 Ft', Turn (andB Ft L) (andB Ft' L) W W3 → Turn Ft Ft' W W3 → W3.heap[L]? = some (.loop (rec .ready none)) → ¬ Ft' L → I (k + 1) Ft' W3 → R (.returned (.bool true)) W3)
    (hno : ∀ c W3 Ft', Turn (andB Ft L) (andB Ft' L) W W3 → W3.heap[L]? = some (.loop (rec .done (some c))) → ¬ Ft' L → Ix c (k + 1) Ft' W3 → R (.returned (.bool false)) W3) :
    RoundIn F m P L fn tm assign body W R := by
  refine roundIn_of_wpIn hfn (wpIn_mono hround ?_)
  rintro e a1 W1 hq
  cases e with
  | normal =>
    obtain ⟨hb, hbody⟩ := hq
    have hL : L < W.heap.size := (Array.getElem?_eq_some_iff.1 hl).1
    have hl1 : W1.heap[L]? = some (.loop (rec .ready none)) := (hb.block L hL).trans hl
    have hL1 : L < W1.heap.size := (Array.getElem?_eq_some_iff.1 hl1).1
    refine ⟨_, run_beginRound hl1 (hst _ _), ?_⟩
    rw [hsb]
    have hs := Sets.put W1 L (.loop (rec .busy none))
    have hl2 : (W1.putObj L (.loop (rec .busy none))).heap[L]? = some (.loop (rec .busy none)) := World.putObj_heap_same hL1
    revert hs hl2
    generalize W1.putObj L (.loop (rec .busy none)) = W2
    intro hs hl2
    have hL2 : L < W2.heap.size := (Array.getElem?_eq_some_iff.1 hl2).1
    refine wpIn_mono (hbody W2 hs ⟨_, hl2⟩) ?_
    have hsz := hb.size
    have hsz2 := hs.size
    have fin : ∀ (jump : Option Code) (W3 : World) (Ft' : Nat → Prop), Turn Ft Ft' W2 W3 → ∃ W4, (Instr.endRound L jump).run P W3 = .ok (.bool jump.isNone) W4 ∧
        W4.heap[L]? = some (.loop (rec (if jump.isNone then .ready else .done) jump)) ∧ ¬ Ft' L ∧ Sets L W3 W4 ∧ Turn (andB Ft L) (andB Ft' L) W W4 := fun jump W3 Ft' ht => by
      have hl3 : W3.heap[L]? = some (.loop (rec .busy none)) := (ht.block L hL2 hFl).trans hl2
      have hr := run_endRound (P := P) jump hl3
      rw [hsp] at hr
      have hL3 : L < W3.heap.size := (Array.getElem?_eq_some_iff.1 hl3).1
      have hF' : ¬ Ft' L := fun h => by rcases (ht.foot L h).1 with h1 | h1; exact hFl h1; omega
      refine ⟨_, hr, World.putObj_heap_same hL3, hF', Sets.put _ _ _, ?_⟩
      have hs4 := Sets.put W3 L (.loop (rec (if jump.isNone then .ready else .done) jump))
      refine ⟨(hs4.os.trans ht.os).trans (hs.os.trans hb.os), (hs4.tape.trans ht.tape).trans (hs.tape.trans hb.tape), (hs4.output.trans ht.output).trans (hs.output.trans hb.output), by have := ht.size; rw [hs4.size]; omega, ?_, ?_⟩
      · intro b hb' hn
        have hbL : b ≠ L := fun e => hn (.inr e)
        have hbF : ¬ Ft b := fun e => hn (.inl e)
        exact ((hs4.block b hbL).trans (ht.block b (by omega) hbF)).trans ((hs.block b hbL).trans (hb.block b hb'))
      · intro b hb'
        rw [hs4.size]
        have := ht.size
        rcases hb' with h1 | h1
        · obtain ⟨h2, h3⟩ := ht.foot b h1
          exact ⟨by rcases h2 with h2 | h2; exact .inl (.inl h2); exact .inr (by omega), h3⟩
        · exact ⟨.inl (.inr h1), by omega⟩
    rintro e a3 W3 hp
    cases e with
    | normal =>
      obtain ⟨Ft', ht, hi⟩ := hp
      obtain ⟨W4, hr, hl4, hF', hs4, ht4⟩ := fin none W3 Ft' ht
      refine ⟨_, _, hr, hgo _ Ft' ht4 ?_ hl4 hF' (hI _ _ _ _ hi (Keep.of_sets hs4 hB hF'))⟩
      refine ⟨ht4.os, ht4.tape, ht4.output, ht4.size, ?_, ?_⟩
      · intro b hb' hn
        by_cases e : b = L
        · subst e; rw [hl4, hl]; rfl
        · exact ht4.block b hb' (fun h => by rcases h with h | h; exact hn h; exact e h)
      · intro b hb'
        obtain ⟨h2, h3⟩ := ht4.foot b (.inl hb')
        refine ⟨?_, h3⟩
        rcases h2 with (h2 | h2) | h2
        · exact .inl h2
        · subst h2; exact absurd hb' hF'
        · exact .inr h2
    | ret =>
      obtain ⟨Ft', ht, hi⟩ := hp
      obtain ⟨W4, hr, hl4, hF', hs4, ht4⟩ := fin (some .ret) W3 Ft' ht
      exact ⟨_, _, hr, hno .ret _ Ft' ht4 hl4 hF' (hIx _ _ _ _ _ hi (Keep.of_sets hs4 hB hF'))⟩
    | exit id =>
      obtain ⟨Ft', ht, hi⟩ := hp
      obtain ⟨W4, hr, hl4, hF', hs4, ht4⟩ := fin (some (.exit id)) W3 Ft' ht
      exact ⟨_, _, hr, hno (.exit id) _ Ft' ht4 hl4 hF' (hIx _ _ _ _ _ hi (Keep.of_sets hs4 hB hF'))⟩
    | goto t =>
      obtain ⟨Ft', ht, hi⟩ := hp
      obtain ⟨W4, hr, hl4, hF', hs4, ht4⟩ := fin (some (.goto t)) W3 Ft' ht
      exact ⟨_, _, hr, hno (.goto t) _ Ft' ht4 hl4 hF' (hIx _ _ _ _ _ hi (Keep.of_sets hs4 hB hF'))⟩
    | panic ch => exact hp.elim
    | outgrown => exact hp.elim
  | exit id => exact hq.elim
  | goto t => exact hq.elim
  | ret => exact hq.elim
  | panic chain => exact hq.elim
  | outgrown => exact hq.elim

/-- The statement, outermost in its function. -/
theorem range_out {α : Type} {P : Program} {n : Nat} {g : Operand} {ps : Array Tmp} {assign body : Code} {Q : Exit → Act → World → Prop} {a : Act} {w : World}
    {gf : Nat} {lb : Array Value} (hg : a.eval g = .func (.func gf) #[] lb) (eg : ∀ args w, (callFunc gf args).run P w = .ok (.enter gf args) w)
    {encs : α → Array Value} {xs : List α} {own : Nat → Prop} {w0 : World} (hseq : Gives P gf lb encs xs own w0) (hps : ∀ x, (encs x).size = ps.size)
    (Ft0 : Nat → Prop) (hown : ∀ k, own k → w.heap[k]? = w0.heap[k]? ∧ ¬ Ft0 k ∧ k < w.heap.size) (hF0 : ∀ b, Ft0 b → b < w.heap.size)
    (I : Nat → (Nat → Prop) → World → Prop) (Ix : Code → Nat → (Nat → Prop) → World → Prop)
    (hI : ∀ k Ft A A', I k Ft A → Keep w.heap.size Ft A A' → I k Ft A') (hIx : ∀ c k Ft A A', Ix c k Ft A → Keep w.heap.size Ft A A' → Ix c k Ft A') (h0 : I 0 Ft0 w)
    (hround : ∀ L k x Ft W, xs[k]? = some x → I k Ft W → w.heap.size ≤ L → L < W.heap.size → ¬ Ft L → (∀ b, Ft b → b < W.heap.size) → (∀ b, Ft b → Ft0 b ∨ w.heap.size ≤ b) →
      assign.wpIn (Fence.wide.inRound L) 9 P (Exit.then (fun a1 W1 => Below W.heap.size W W1 ∧ ∀ W2, Sets L W1 W2 → (∃ r, W2.heap[L]? = some (.loop r)) → body.wpIn (Fence.wide.inRound L) 9 P (bPost I Ix Ft W2 (k + 1)) a1 W2) (fun _ _ _ => False))
        { tmps := (ps.zip (encs x)).foldl (fun t (p, v) => t.setIfInBounds p v) a.tmps, defers := [] } W)
    (hdone : ∀ D Ft W, w.heap.size ≤ D → D < W.heap.size → I xs.length Ft W → ¬ Ft D → (∀ b, Ft b → b < W.heap.size) → (∀ b, Ft b → Ft0 b ∨ w.heap.size ≤ b) → W.heap[D]? = some (.deferred (some [])) → Q .normal { a with defers := { target := .collected D, args := #[] } :: a.defers } W)
    (hstop : ∀ D c k Ft W, w.heap.size ≤ D → D < W.heap.size → k < xs.length → Ix c (k + 1) Ft W → ¬ Ft D → (∀ b, Ft b → b < W.heap.size) → (∀ b, Ft b → Ft0 b ∨ w.heap.size ≤ b) → W.heap[D]? = some (.deferred (some [])) → c.wpIn Fence.wide n P Q { a with defers := { target := .collected D, args := #[] } :: a.defers } W) :
    (Code.rangeFunc g ps assign body).wpIn Fence.wide n P Q a w := by
  refine wpIn_rangeFunc ?_
  intro fn hfn
  obtain ⟨rec, hrec⟩ : ∃ rec : LoopState → Option Code → Loop, rec = fun st pe => { state := st, pending := pe, fn, tmps := a.tmps, params := ps, assign, body, defers := w.heap.size } := ⟨_, rfl⟩
  obtain ⟨W1, hW1⟩ : ∃ W1, (w.alloc (.deferred (some []))).alloc (.loop (rec .ready none)) = W1 := ⟨_, rfl⟩
  have hz1 : W1.heap.size = w.heap.size + 2 := by rw [← hW1]; simp
  have hL1 : W1.heap[w.heap.size + 1]? = some (.loop (rec .ready none)) := by
    rw [← hW1]; have := World.alloc_heap_new (w.alloc (.deferred (some []))) (.loop (rec .ready none)); rwa [World.size_alloc] at this
  have hK1 : W1.heap[w.heap.size]? = some (.deferred (some [])) := by
    rw [← hW1]; exact (Below.heap_alloc _ _ _ (by simp)).trans (World.alloc_heap_new w _)
  have hb1 : Below w.heap.size w W1 := by
    rw [← hW1]; exact ((Below.refl _ w).alloc (Nat.le_refl _) _).alloc (by simp) _
  have hI1 : I 0 Ft0 W1 := hI _ _ _ _ h0 (Keep.of_below hb1 (Nat.le_refl _))
  refine ⟨w.heap.size + 1, [{ target := .collected w.heap.size, args := #[] }], W1, { target := .fn (.func gf) lb, args := #[.func (.yield (w.heap.size + 1)) #[] #[]] }, W1, gf,
    #[.func (.yield (w.heap.size + 1)) #[] #[]] ++ lb, W1, ?_, ?_, fun _ _ => trivial, ?_, fun h => by simp [Fence.wide] at h, ?_⟩
  · rw [← hW1, hrec]; exact run_enterLoop_outer _ _ _ _ _
  · simp only [resolve, hg]
    simp [go_sem]
  · simp [invoke, go_sem, eg]
  · have hst : ∀ st pe, (rec st pe).state = st := fun _ _ => by rw [hrec]
    have hsb : ∀ st pe st', { rec st pe with state := st' } = rec st' pe := fun _ _ _ => by rw [hrec]
    have hsp : ∀ st pe st' pe', { rec st pe with state := st', pending := pe' } = rec st' pe' := fun _ _ _ _ => by rw [hrec]
    have hnF : ∀ Ft : Nat → Prop, (∀ b, Ft b → Ft0 b ∨ W1.heap.size ≤ b) → ∀ b, w.heap.size ≤ b → b < W1.heap.size → ¬ Ft b := fun Ft h b h1 h2 h3 => by
      rcases h b h3 with h4 | h4; have := hF0 b h4; omega; omega
    refine (hseq (w.heap.size + 1)
      (fun k Ft' W => ∃ Ft, Ft' = andB Ft (w.heap.size + 1) ∧ I k Ft W ∧ W.heap[w.heap.size + 1]? = some (.loop (rec .ready none)) ∧ W.heap[w.heap.size]? = some (.deferred (some [])) ∧ (∀ b, Ft b → Ft0 b ∨ W1.heap.size ≤ b))
      (fun k Ft' W => ∃ c Ft, Ft' = andB Ft (w.heap.size + 1) ∧ Ix c k Ft W ∧ W.heap[w.heap.size + 1]? = some (.loop (rec .done (some c))) ∧ W.heap[w.heap.size]? = some (.deferred (some [])) ∧ (∀ b, Ft b → Ft0 b ∨ W1.heap.size ≤ b))
      (andB Ft0 (w.heap.size + 1)) W1 ?_ ?_ ?_ ?_ ?_ ⟨Ft0, rfl, hI1, hL1, hK1, fun b h => .inl h⟩ _).mono ?_
    · intro b hb
      obtain ⟨h1, h2, h3⟩ := hown b hb
      exact ⟨(hb1.block b h3).trans h1, fun h => by rcases h with h | h; exact h2 h; omega, by omega⟩
    · rintro b (h | h)
      · have := hF0 b h; omega
      · omega
    · rintro k Ft' A A' ⟨Ft, rfl, hi, hl, hk, hf⟩ hkeep
      exact ⟨Ft, rfl, hI _ _ _ _ hi (hkeep.mono (by omega) (fun b h => .inl h)), (hkeep.block _ (Array.getElem?_eq_some_iff.1 hl).1 (.inr (.inr rfl))).trans hl, (hkeep.block _ (Array.getElem?_eq_some_iff.1 hk).1 (.inl (by omega))).trans hk, hf⟩
    · rintro k Ft' A A' ⟨c, Ft, rfl, hi, hl, hk, hf⟩ hkeep
      exact ⟨c, Ft, rfl, hIx _ _ _ _ _ hi (hkeep.mono (by omega) (fun b h => .inl h)), (hkeep.block _ (Array.getElem?_eq_some_iff.1 hl).1 (.inr (.inr rfl))).trans hl, (hkeep.block _ (Array.getElem?_eq_some_iff.1 hk).1 (.inl (by omega))).trans hk, hf⟩
    · rintro k x Ft' W hx ⟨Ft, rfl, hi, hl, hk, hf⟩ hsz hlt hfr m
      have hL : w.heap.size + 1 < W.heap.size := (Array.getElem?_eq_some_iff.1 hl).1
      have hFl : ¬ Ft (w.heap.size + 1) := hnF Ft hf _ (by omega) (by omega)
      have hFd : ¬ Ft w.heap.size := hnF Ft hf _ (by omega) (by omega)
      have hlt' : ∀ b, Ft b → b < W.heap.size := fun b h => hlt b (.inl h)
      have hy := run_yield (P := P) (args := encs x) hl (by rw [hrec]; exact hps x)
      have hrr := hround (w.heap.size + 1) k x Ft W hx hi (by omega) hL hFl hlt' (fun b h => by rcases hf b h with h1 | h1; exact .inl h1; exact .inr (by omega))
      refine yield_any (m := 9) ⟨_, _, _, _, hy, ?_⟩
      have e1 : (rec .ready none).fn = fn := by rw [hrec]
      have e2 : (rec .ready none).assign = assign := by rw [hrec]
      have e3 : (rec .ready none).body = body := by rw [hrec]
      have e4 : (rec .ready none).tmps = a.tmps := by rw [hrec]
      have e5 : (rec .ready none).params = ps := by rw [hrec]
      rw [e1, e2, e3, e4, e5]
      have hfoot : ∀ Ft2 W3, Turn (andB Ft (w.heap.size + 1)) (andB Ft2 (w.heap.size + 1)) W W3 → ¬ Ft2 (w.heap.size + 1) → ∀ b, Ft2 b → Ft0 b ∨ W1.heap.size ≤ b := fun Ft2 W3 ht hn b h => by
        rcases (ht.foot b (.inl h)).1 with (h1 | h1) | h1
        · exact hf b h1
        · subst h1; exact absurd h hn
        · exact .inr (by omega)
      have hD : ∀ Ft2 W3, Turn (andB Ft (w.heap.size + 1)) (andB Ft2 (w.heap.size + 1)) W W3 → W3.heap[w.heap.size]? = some (.deferred (some [])) := fun Ft2 W3 ht =>
        (ht.block _ (by omega) (fun h => by rcases h with h | h; exact hFd h; omega)).trans hk
      refine round_of (B := w.heap.size) hfn hst hsb hsp hI hIx (by omega) hl hFl hlt' hrr ?_ ?_
      · intro W3 Ft2 ht _ hl3 hn hi3
        exact ⟨_, ht, .inl ⟨rfl, Ft2, rfl, hi3, hl3, hD _ _ ht, hfoot _ _ ht hn⟩⟩
      · intro c W3 Ft2 ht hl3 hn hi3
        exact ⟨_, ht, .inr ⟨rfl, c, Ft2, rfl, hi3, hl3, hD _ _ ht, hfoot _ _ ht hn⟩⟩
    · rintro e W2 ⟨⟨v, rfl⟩, Ft', hsz, hlt, hfr, (⟨Ft, rfl, hi, hl, hk, hf⟩ | ⟨k, hk', c, Ft, rfl, hi, hl, hk, hf⟩)⟩
      · have hFl : ¬ Ft (w.heap.size + 1) := hnF Ft hf _ (by omega) (by omega)
        have hFd : ¬ Ft w.heap.size := hnF Ft hf _ (by omega) (by omega)
        have he := run_endLoop (P := P) hl (by rw [hst]; simp)
        have hpe : (rec .ready none).pending = none := by rw [hrec]
        rw [hsb, hpe] at he
        have hs := Sets.put W2 (w.heap.size + 1) (.loop (rec .exhausted none))
        refine ⟨none, _, he, hdone w.heap.size Ft _ (Nat.le_refl _) (by rw [hs.size]; omega) (hI _ _ _ _ hi (Keep.of_sets hs (by omega) hFl)) hFd (fun b h => by rw [hs.size]; exact hlt b (.inl h)) (fun b h => by rcases hf b h with h1 | h1; exact .inl h1; exact .inr (by omega)) ((hs.block _ (by omega)).trans hk)⟩
      · have hFl : ¬ Ft (w.heap.size + 1) := hnF Ft hf _ (by omega) (by omega)
        have hFd : ¬ Ft w.heap.size := hnF Ft hf _ (by omega) (by omega)
        have he := run_endLoop (P := P) hl (by rw [hst]; simp)
        have hpe : (rec .done (some c)).pending = some c := by rw [hrec]
        rw [hsb, hpe] at he
        have hs := Sets.put W2 (w.heap.size + 1) (.loop (rec .exhausted (some c)))
        refine ⟨some c, _, he, hstop w.heap.size c k Ft _ (Nat.le_refl _) (by rw [hs.size]; omega) hk' (hIx _ _ _ _ _ hi (Keep.of_sets hs (by omega) hFl)) hFd (fun b h => by rw [hs.size]; exact hlt b (.inl h)) (fun b h => by rcases hf b h with h1 | h1; exact .inl h1; exact .inr (by omega)) ((hs.block _ (by omega)).trans hk)⟩

/-- The statement within a round of the loop l0. -/
theorem range_in {α : Type} {P : Program} {n l0 : Nat} {g : Operand} {ps : Array Tmp} {assign body : Code} {Q : Exit → Act → World → Prop} {a : Act} {w : World} {r0 : Loop} (hr0 : w.heap[l0]? = some (.loop r0))
    {gf : Nat} {lb : Array Value} (hg : a.eval g = .func (.func gf) #[] lb) (eg : ∀ args w, (callFunc gf args).run P w = .ok (.enter gf args) w)
    {encs : α → Array Value} {xs : List α} {own : Nat → Prop} {w0 : World} (hseq : Gives P gf lb encs xs own w0) (hps : ∀ x, (encs x).size = ps.size)
    (Ft0 : Nat → Prop) (hown : ∀ k, own k → w.heap[k]? = w0.heap[k]? ∧ ¬ Ft0 k ∧ k < w.heap.size) (hF0 : ∀ b, Ft0 b → b < w.heap.size)
    (I : Nat → (Nat → Prop) → World → Prop) (Ix : Code → Nat → (Nat → Prop) → World → Prop)
    (hI : ∀ k Ft A A', I k Ft A → Keep w.heap.size Ft A A' → I k Ft A') (hIx : ∀ c k Ft A A', Ix c k Ft A → Keep w.heap.size Ft A A' → Ix c k Ft A') (h0 : I 0 Ft0 w)
    (hround : ∀ L k x Ft W, xs[k]? = some x → I k Ft W → w.heap.size ≤ L → L < W.heap.size → ¬ Ft L → (∀ b, Ft b → b < W.heap.size) → (∀ b, Ft b → Ft0 b ∨ w.heap.size ≤ b) →
      assign.wpIn (Fence.wide.inRound L) 9 P (Exit.then (fun a1 W1 => Below W.heap.size W W1 ∧ ∀ W2, Sets L W1 W2 → (∃ r, W2.heap[L]? = some (.loop r)) → body.wpIn (Fence.wide.inRound L) 9 P (bPost I Ix Ft W2 (k + 1)) a1 W2) (fun _ _ _ => False))
        { tmps := (ps.zip (encs x)).foldl (fun t (p, v) => t.setIfInBounds p v) a.tmps, defers := [] } W)
    (hdone : ∀ Ft W, w.heap.size ≤ W.heap.size → I xs.length Ft W → (∀ b, Ft b → b < W.heap.size) → (∀ b, Ft b → Ft0 b ∨ w.heap.size ≤ b) → Q .normal a W)
    (hstop : ∀ c k Ft W, w.heap.size ≤ W.heap.size → k < xs.length → Ix c (k + 1) Ft W → (∀ b, Ft b → b < W.heap.size) → (∀ b, Ft b → Ft0 b ∨ w.heap.size ≤ b) → c.wpIn (Fence.wide.inRound l0) n P Q a W) :
    (Code.rangeFunc g ps assign body).wpIn (Fence.wide.inRound l0) n P Q a w := by
  refine wpIn_rangeFunc ?_
  intro fn hfn
  obtain ⟨rec, hrec⟩ : ∃ rec : LoopState → Option Code → Loop, rec = fun st pe => { state := st, pending := pe, fn, tmps := a.tmps, params := ps, assign, body, defers := r0.defers } := ⟨_, rfl⟩
  obtain ⟨W1, hW1⟩ : ∃ W1, w.alloc (.loop (rec .ready none)) = W1 := ⟨_, rfl⟩
  have hz1 : W1.heap.size = w.heap.size + 1 := by rw [← hW1]; simp
  have hL1 : W1.heap[w.heap.size]? = some (.loop (rec .ready none)) := by
    rw [← hW1]; exact World.alloc_heap_new w (.loop (rec .ready none))
  have hb1 : Below w.heap.size w W1 := by
    rw [← hW1]; exact (Below.refl _ w).alloc (Nat.le_refl _) _
  have hI1 : I 0 Ft0 W1 := hI _ _ _ _ h0 (Keep.of_below hb1 (Nat.le_refl _))
  refine ⟨w.heap.size, [], W1, { target := .fn (.func gf) lb, args := #[.func (.yield w.heap.size) #[] #[]] }, W1, gf,
    #[.func (.yield w.heap.size) #[] #[]] ++ lb, W1, ?_, ?_, fun _ _ => trivial, ?_, fun h => by simp [Fence.wide, Fence.inRound] at h, ?_⟩
  · rw [← hW1, hrec]; exact run_enterLoop_inner hr0 _ _ _ _ _
  · simp only [resolve, hg]
    simp [go_sem]
  · simp [invoke, go_sem, eg]
  · have hst : ∀ st pe, (rec st pe).state = st := fun _ _ => by rw [hrec]
    have hsb : ∀ st pe st', { rec st pe with state := st' } = rec st' pe := fun _ _ _ => by rw [hrec]
    have hsp : ∀ st pe st' pe', { rec st pe with state := st', pending := pe' } = rec st' pe' := fun _ _ _ _ => by rw [hrec]
    have hnF : ∀ Ft : Nat → Prop, (∀ b, Ft b → Ft0 b ∨ W1.heap.size ≤ b) → ¬ Ft w.heap.size := fun Ft h h3 => by
      rcases h _ h3 with h4 | h4; have := hF0 _ h4; omega; omega
    refine CallsIn.inRound l0 ((hseq w.heap.size
      (fun k Ft' W => ∃ Ft, Ft' = andB Ft w.heap.size ∧ I k Ft W ∧ W.heap[w.heap.size]? = some (.loop (rec .ready none)) ∧ (∀ b, Ft b → Ft0 b ∨ W1.heap.size ≤ b))
      (fun k Ft' W => ∃ c Ft, Ft' = andB Ft w.heap.size ∧ Ix c k Ft W ∧ W.heap[w.heap.size]? = some (.loop (rec .done (some c))) ∧ (∀ b, Ft b → Ft0 b ∨ W1.heap.size ≤ b))
      (andB Ft0 w.heap.size) W1 ?_ ?_ ?_ ?_ ?_ ⟨Ft0, rfl, hI1, hL1, fun b h => .inl h⟩ _).mono ?_)
    · intro b hb
      obtain ⟨h1, h2, h3⟩ := hown b hb
      exact ⟨(hb1.block b h3).trans h1, fun h => by rcases h with h | h; exact h2 h; omega, by omega⟩
    · rintro b (h | h)
      · have := hF0 b h; omega
      · omega
    · rintro k Ft' A A' ⟨Ft, rfl, hi, hl, hf⟩ hkeep
      exact ⟨Ft, rfl, hI _ _ _ _ hi (hkeep.mono (by omega) (fun b h => .inl h)), (hkeep.block _ (Array.getElem?_eq_some_iff.1 hl).1 (.inr (.inr rfl))).trans hl, hf⟩
    · rintro k Ft' A A' ⟨c, Ft, rfl, hi, hl, hf⟩ hkeep
      exact ⟨c, Ft, rfl, hIx _ _ _ _ _ hi (hkeep.mono (by omega) (fun b h => .inl h)), (hkeep.block _ (Array.getElem?_eq_some_iff.1 hl).1 (.inr (.inr rfl))).trans hl, hf⟩
    · rintro k x Ft' W hx ⟨Ft, rfl, hi, hl, hf⟩ hsz hlt hfr m
      have hL : w.heap.size < W.heap.size := (Array.getElem?_eq_some_iff.1 hl).1
      have hFl : ¬ Ft w.heap.size := hnF Ft hf
      have hlt' : ∀ b, Ft b → b < W.heap.size := fun b h => hlt b (.inl h)
      have hy := run_yield (P := P) (args := encs x) hl (by rw [hrec]; exact hps x)
      have hrr := hround w.heap.size k x Ft W hx hi (by omega) hL hFl hlt' (fun b h => by rcases hf b h with h1 | h1; exact .inl h1; exact .inr (by omega))
      refine yield_any (m := 9) ⟨_, _, _, _, hy, ?_⟩
      have e1 : (rec .ready none).fn = fn := by rw [hrec]
      have e2 : (rec .ready none).assign = assign := by rw [hrec]
      have e3 : (rec .ready none).body = body := by rw [hrec]
      have e4 : (rec .ready none).tmps = a.tmps := by rw [hrec]
      have e5 : (rec .ready none).params = ps := by rw [hrec]
      rw [e1, e2, e3, e4, e5]
      have hfoot : ∀ Ft2 W3, Turn (andB Ft w.heap.size) (andB Ft2 w.heap.size) W W3 → ¬ Ft2 w.heap.size → ∀ b, Ft2 b → Ft0 b ∨ W1.heap.size ≤ b := fun Ft2 W3 ht hn b h => by
        rcases (ht.foot b (.inl h)).1 with (h1 | h1) | h1
        · exact hf b h1
        · subst h1; exact absurd h hn
        · exact .inr (by omega)
      refine round_of (B := w.heap.size) (F := Fence.wide) trivial hst hsb hsp hI hIx (by omega) hl hFl hlt' hrr ?_ ?_
      · intro W3 Ft2 ht _ hl3 hn hi3
        exact ⟨_, ht, .inl ⟨rfl, Ft2, rfl, hi3, hl3, hfoot _ _ ht hn⟩⟩
      · intro c W3 Ft2 ht hl3 hn hi3
        exact ⟨_, ht, .inr ⟨rfl, c, Ft2, rfl, hi3, hl3, hfoot _ _ ht hn⟩⟩
    · rintro e W2 ⟨⟨v, rfl⟩, Ft', hsz, hlt, hfr, (⟨Ft, rfl, hi, hl, hf⟩ | ⟨k, hk', c, Ft, rfl, hi, hl, hf⟩)⟩
      · have hFl : ¬ Ft w.heap.size := hnF Ft hf
        have he := run_endLoop (P := P) hl (by rw [hst]; simp)
        have hpe : (rec .ready none).pending = none := by rw [hrec]
        rw [hsb, hpe] at he
        have hs := Sets.put W2 w.heap.size (.loop (rec .exhausted none))
        refine ⟨none, _, he, hdone Ft _ (by rw [hs.size]; omega) (hI _ _ _ _ hi (Keep.of_sets hs (by omega) hFl)) (fun b h => by rw [hs.size]; exact hlt b (.inl h)) (fun b h => by rcases hf b h with h1 | h1; exact .inl h1; exact .inr (by omega))⟩
      · have hFl : ¬ Ft w.heap.size := hnF Ft hf
        have he := run_endLoop (P := P) hl (by rw [hst]; simp)
        have hpe : (rec .done (some c)).pending = some c := by rw [hrec]
        rw [hsb, hpe] at he
        have hs := Sets.put W2 w.heap.size (.loop (rec .exhausted (some c)))
        refine ⟨some c, _, he, hstop c k Ft _ (by rw [hs.size]; omega) hk' (hIx _ _ _ _ _ hi (Keep.of_sets hs (by omega) hFl)) (fun b h => by rw [hs.size]; exact hlt b (.inl h)) (fun b h => by rcases hf b h with h1 | h1; exact .inl h1; exact .inr (by omega))⟩

end Go.Proofs.YtcgcnpcimfaecaaGreatDoor
