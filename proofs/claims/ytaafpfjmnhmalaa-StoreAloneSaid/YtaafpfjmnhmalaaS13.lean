/- Plain facts for StoreOrder: what is put in any order is one list; how many items stand behind a cell. Two stores side by side. Cells that came in. -/
import Derived.Test.YtaafpfjmnhmalaaS12
import Derived.Deep.Slices
namespace Go.Proofs.Ytaafpfjmnhmalaa
open Go.RowKit
set_option linter.all false
/-- A cell. -/
structure Cl where
  r : Int
  c : Int
def Cl.cells (x : Cl) : Array Value := #[.int .i64 x.r, .int .i64 x.c]
/-- A list that came in: things of sz cells each. -/
def CV {α : Type} (c : α → Array Value) (sz : Nat) (w : World) (v : Value) (l : List α) : Prop :=
  ∃ p cap, v = .slice p l.length cap ∧ l.length ≤ cap ∧ l.length ≤ 9223372036854775807 ∧ (0 < l.length → ∃ b o, p = some ⟨b, o, none⟩ ∧ b < w.heap.size ∧ ∀ i x, l[i]? = some x → ∀ j, j < sz → w.cell? ⟨b, o + i * sz + j, none⟩ = (c x)[j]?)
/-- With one cell put, if it may be. -/
def stepL (x : Option Addr) (L : List It) (k : Cl) : List It := if mayC k.r k.c = true then putL L k.r k.c x else L
def putsL (x : Option Addr) (L : List It) (l : List Cl) : List It := l.foldl (stepL x) L
theorem puts_snoc (x : Option Addr) (L : List It) (l : List Cl) (k : Cl) : putsL x L (l ++ [k]) = stepL x (putsL x L l) k := by simp [putsL]
theorem mem_putL {L : List It} {r c : Int} {v : Option Addr} {y : It} : y ∈ putL L r c v ↔ y = ⟨r, c, v⟩ ∨ (y ∈ L ∧ ¬ (y.r = r ∧ y.c = c)) := by
  unfold putL
  rw [List.mem_append, List.mem_cons, List.mem_filter, List.mem_filter]
  simp only [befI, aftI, decide_eq_true_eq]
  constructor
  · rintro (⟨h1, h2⟩ | h | ⟨h1, h2⟩)
    · exact .inr ⟨h1, by omega⟩
    · exact .inl h
    · exact .inr ⟨h1, by omega⟩
  · rintro (h | ⟨h1, h2⟩)
    · exact .inr (.inl h)
    · by_cases q : y.r < r ∨ y.r = r ∧ y.c < c
      · exact .inl ⟨h1, q⟩
      · exact .inr (.inr ⟨h1, by omega⟩)
def hitB (l : List Cl) (y : It) : Prop := ∃ k ∈ l, mayC k.r k.c = true ∧ k.r = y.r ∧ k.c = y.c
theorem mem_puts (x : Option Addr) : ∀ (l : List Cl) (L : List It) (y : It), y ∈ putsL x L l ↔ (y ∈ L ∧ ¬ hitB l y) ∨ (y.v = x ∧ hitB l y)
  | [], L, y => by simp [putsL, hitB]
  | k :: r, L, y => by
    have e : putsL x L (k :: r) = putsL x (stepL x L k) r := rfl
    rw [e, mem_puts x r (stepL x L k) y]
    have hh : hitB (k :: r) y ↔ (mayC k.r k.c = true ∧ k.r = y.r ∧ k.c = y.c) ∨ hitB r y := by simp [hitB]
    rw [hh]
    unfold stepL
    cases hm : mayC k.r k.c
    · simp
    · rw [if_pos rfl, mem_putL]
      by_cases h1 : hitB r y
      · simp [h1]
      · by_cases h2 : k.r = y.r ∧ k.c = y.c
        · simp only [h1, h2, not_false_eq_true, and_true, or_false, true_and, or_self, not_true_eq_false, and_false, false_or, h2.1, h2.2]
          constructor
          · intro h
            exact congrArg It.v h
          · intro h
            obtain ⟨a, b, c⟩ := y
            simp at h ⊢
            exact h
        · have h3 : ¬ (y.r = k.r ∧ y.c = k.c) := by omega
          have h4 : ¬ y = ⟨k.r, k.c, x⟩ := by rintro rfl; exact h3 ⟨rfl, rfl⟩
          simp [h1, h2, h3, h4]
theorem puts_srt (x : Option Addr) : ∀ (l : List Cl) (L : List It), SrtI L → SrtI (putsL x L l)
  | [], L, h => h
  | k :: r, L, h => puts_srt x r _ (by unfold stepL; split; exact putL_srt h _ _ _; exact h)
theorem srt_ext : ∀ (L M : List It), SrtI L → SrtI M → (∀ x, x ∈ L ↔ x ∈ M) → L = M
  | [], [], _, _, _ => rfl
  | [], y :: M, _, _, h => by have := (h y).2 (by simp); cases this
  | x :: L, [], _, _, h => by have := (h x).1 (by simp); cases this
  | x :: L, y :: M, hL, hM, h => by
    have h1 := List.pairwise_cons.1 hL
    have h2 := List.pairwise_cons.1 hM
    have irr : ∀ z : It, ¬ ltI z z := fun z q => by unfold ltI at q; omega
    have asy : ∀ a b : It, ltI a b → ¬ ltI b a := fun a b p q => by unfold ltI at p q; omega
    have e : x = y := by
      rcases List.mem_cons.1 ((h x).1 (by simp)) with e | e
      · exact e
      · rcases List.mem_cons.1 ((h y).2 (by simp)) with e2 | e2
        · exact e2.symm
        · exact absurd (h2.1 x e) (asy _ _ (h1.1 y e2))
    subst e
    congr 1
    refine srt_ext L M h1.2 h2.2 (fun z => ⟨fun hz => ?_, fun hz => ?_⟩)
    · rcases List.mem_cons.1 ((h z).1 (by simp [hz])) with e | e
      · subst e; exact absurd (h1.1 z hz) (irr z)
      · exact e
    · rcases List.mem_cons.1 ((h z).2 (by simp [hz])) with e | e
      · subst e; exact absurd (h2.1 z hz) (irr z)
      · exact e
/-- The order of puts is not seen. -/
theorem puts_rev (x : Option Addr) (l : List Cl) : putsL x [] l.reverse = putsL x [] l := by
  refine srt_ext _ _ (puts_srt x _ _ List.Pairwise.nil) (puts_srt x _ _ List.Pairwise.nil) (fun y => ?_)
  rw [mem_puts, mem_puts]
  have : hitB l.reverse y ↔ hitB l y := by simp [hitB]
  rw [this]
theorem filter_lt {α : Type} (p q : α → Bool) (h : ∀ y, p y = true → q y = true) : ∀ (L : List α) (x : α), x ∈ L → q x = true → p x = false → (L.filter p).length < (L.filter q).length := by
  have le : ∀ L : List α, (L.filter p).length ≤ (L.filter q).length := by
    intro L
    induction L with
    | nil => simp
    | cons y t ih =>
      rw [List.filter_cons, List.filter_cons]
      by_cases hp : p y = true
      · rw [if_pos hp, if_pos (h y hp)]; simpa using ih
      · rw [if_neg hp]
        split
        · simp; omega
        · exact ih
  intro L
  induction L with
  | nil => intro x hx; cases hx
  | cons y t ih =>
    intro x hx hq hp
    rw [List.filter_cons, List.filter_cons]
    rcases List.mem_cons.1 hx with rfl | hx
    · rw [if_neg (by rw [hp]; decide), if_pos hq]
      have := le t
      simp; omega
    · have := ih x hx hq hp
      by_cases hp2 : p y = true
      · rw [if_pos hp2, if_pos (h y hp2)]; simpa using this
      · rw [if_neg hp2]
        split
        · simp; omega
        · exact this
def ointV : Option Value → Int | some (.int _ q) => q | _ => 0
/-- How many items stand behind the cell that lies in memory. -/
def behV (L : List It) (a b : Option Value) : Nat := (L.filter (fun x => befB (ointV a) (ointV b) x.r x.c)).length
theorem behV_lt {L : List It} {ar ac : Int} {x : It} (hx : x ∈ L) (hb : befB ar ac x.r x.c = true) : behV L (some (.int .i64 x.r)) (some (.int .i64 x.c)) < behV L (some (.int .i64 ar)) (some (.int .i64 ac)) := by
  refine filter_lt _ _ (fun y hy => ?_) L x hx hb ?_
  · have hy' : x.r < y.r ∨ (x.r = y.r ∧ x.c < y.c) := of_decide_eq_true hy
    have hb' : ar < x.r ∨ (ar = x.r ∧ ac < x.c) := of_decide_eq_true hb
    exact decide_eq_true (show ar < y.r ∨ (ar = y.r ∧ ac < y.c) by omega)
  · simp [ointV, befB]
/-- What Next told stands in the list, in the rectangle, behind the cell. -/
theorem next_two (L : List It) (t l b rr ar ac : Int) : (nextV L t l b rr ar ac = .tuple #[.agg #[.int .i64 0, .int .i64 0], .bool false] ∧ ∀ x ∈ L, ¬ pN t l b rr ar ac x = true) ∨ ∃ x ∈ L, pN t l b rr ar ac x = true ∧ nextV L t l b rr ar ac = .tuple #[.agg #[.int .i64 x.r, .int .i64 x.c], .bool true] := by
  unfold nextV
  cases h : L.find? (pN t l b rr ar ac) with
  | none => exact .inl ⟨rfl, List.find?_eq_none.1 h⟩
  | some x => exact .inr ⟨x, List.mem_of_find?_eq_some h, List.find?_some h, rfl⟩
/-- Two stores side by side, in blocks from w0 on. -/
def Two (w0 : Nat) (w : World) (S1 S2 : Nat) (L1 L2 : List It) : Prop :=
  ∃ D1 D2, SW w D1 S1 L1 ∧ SW w D2 S2 L2 ∧ (∀ k, (D1 k).isSome = true → D2 k = none) ∧ (∀ k, (D1 k).isSome = true → w0 ≤ k) ∧ (∀ k, (D2 k).isSome = true → w0 ≤ k)
theorem Two.keep {w0 : Nat} {w w' : World} {S1 S2 : Nat} {L1 L2 : List It} (h : Two w0 w S1 S2 L1 L2) (hb : Below w.heap.size w w') : Two w0 w' S1 S2 L1 L2 := by
  obtain ⟨D1, D2, h1, h2, h3⟩ := h
  exact ⟨D1, D2, h1.keep hb, h2.keep hb, h3⟩
theorem none_of {o : Option Nat} (h : ¬ o.isSome = true) : o = none := by cases o; rfl; exact absurd rfl h
theorem Two.swap {w0 : Nat} {w : World} {S1 S2 : Nat} {L1 L2 : List It} (h : Two w0 w S1 S2 L1 L2) : Two w0 w S2 S1 L2 L1 := by
  obtain ⟨D1, D2, h1, h2, h3, h4, h5⟩ := h
  exact ⟨D2, D1, h2, h1, fun k hk => none_of (fun q => by rw [h3 k q] at hk; cases hk), h5, h4⟩
theorem Two.out1 {w0 : Nat} {w w' : World} {S1 S2 : Nat} {L2 L1' : List It} (hw : w0 ≤ w.heap.size) (D1 D2 : Nat → Option Nat) (h2 : SW w D2 S2 L2) (h3 : ∀ k, (D1 k).isSome = true → D2 k = none) (h4 : ∀ k, (D1 k).isSome = true → w0 ≤ k) (h5 : ∀ k, (D2 k).isSome = true → w0 ≤ k) (h : SOut w D1 S1 L1' w') : Two w0 w' S1 S2 L1' L2 ∧ Below w0 w w' := by
  obtain ⟨D', k1, k2, k3⟩ := h
  refine ⟨⟨D', D2, k1, h2.mut k2 (fun b t e q => by rw [h3 b q] at e; cases e), fun k hk => ?_, fun k hk => ?_, h5⟩, k2.to_below hw h4⟩
  · rcases k3 k hk with q | q
    · exact h3 k q
    · exact none_of (fun r => by obtain ⟨t, ht⟩ := Option.isSome_iff_exists.1 r; have := h2.dom k t ht; omega)
  · rcases k3 k hk with q | q
    · exact h4 k q
    · omega
theorem two_put1 (w0 : Nat) (w : World) (S1 S2 : Nat) (L1 L2 : List It) (k : Cl) (x : Addr) (h : Two w0 w S1 S2 L1 L2) (hw : w0 ≤ w.heap.size) :
    Calls Try.prog 14 #[.pointer (some ⟨S1, 0, none⟩), .agg #[.int .i64 k.r, .int .i64 k.c], .pointer (some x)] w fun e w' => e = .returned (.int .i64 (if mayC k.r k.c = true then 0 else 3)) ∧ Two w0 w' S1 S2 (stepL (some x) L1 k) L2 ∧ Below w0 w w' := by
  obtain ⟨D1, D2, h1, h2, h3, h4, h5⟩ := h
  refine (put_all w D1 S1 L1 k.r k.c x h1).mono ?_
  rintro e w' ⟨rfl, hs⟩
  exact ⟨rfl, Two.out1 hw D1 D2 h2 h3 h4 h5 hs⟩
theorem two_put2 (w0 : Nat) (w : World) (S1 S2 : Nat) (L1 L2 : List It) (k : Cl) (x : Addr) (h : Two w0 w S1 S2 L1 L2) (hw : w0 ≤ w.heap.size) :
    Calls Try.prog 14 #[.pointer (some ⟨S2, 0, none⟩), .agg #[.int .i64 k.r, .int .i64 k.c], .pointer (some x)] w fun e w' => e = .returned (.int .i64 (if mayC k.r k.c = true then 0 else 3)) ∧ Two w0 w' S1 S2 L1 (stepL (some x) L2 k) ∧ Below w0 w w' := by
  refine (two_put1 w0 w S2 S1 L2 L1 k x h.swap hw).mono ?_
  rintro e w' ⟨rfl, h1, h2⟩
  exact ⟨rfl, h1.swap, h2⟩
end Go.Proofs.Ytaafpfjmnhmalaa
