/- Pieces of a row that are appended; pairs compared as edges; where the document's Add puts a pair. No function's text is walked here. -/
import Derived.Test.YtpblkidbaheboaaCX
namespace Go.Proofs.Ytpblkidbaheboaa
open Go.RowKit
set_option linter.all false
/-- A piece: nothing, or so many behind an address. -/
def VG {α : Type} (sz : Nat) (cs : α → List Value) (w : World) (v : Value) (k : List α) : Prop := (v = .slice none 0 0 ∧ k = []) ∨ ∃ a cp, v = .slice (some a) k.length cp ∧ ∀ j u, (flatG cs k)[j]? = some u → w.cell? (a.add j) = some u
theorem VG.keep {α : Type} {sz : Nat} {cs : α → List Value} {w w' : World} {g o n cp : Nat} {k : List α} (h : VG sz cs w (.slice (some ⟨g, o, none⟩) n cp) k) (hb : Below w.heap.size w w') (hg : g < w.heap.size) : VG sz cs w' (.slice (some ⟨g, o, none⟩) n cp) k := by
  rcases h with ⟨h, _⟩ | ⟨a, c2, h, hc⟩
  · cases h
  · injection h with h1 h2 h3
    injection h1 with h1
    subst h1
    refine .inr ⟨_, c2, by rw [h2, h3], fun j u hu => ?_⟩
    rw [add_none]
    refine (hb.cell (p := ⟨g, o + j, none⟩) hg).trans ?_
    have := hc j u hu
    rwa [add_none] at this
theorem app_piece {α : Type} {E T : TypeId} {sz by' : Nat} {cs : α → List Value} {i : TypeInfo} {z : Value} (hT : Try.prog.underlying T = some (.slice E)) (hi : Try.prog.info? E = some i) (hz : i.zero = some z) (hs : i.size = sz) (hb : i.bytes = by') (hzs : z.cells.size = sz) (hsz : 0 < sz) (hc : ∀ x, (cs x).length = sz) (h1 : ∀ x, ∀ u ∈ cs x, u.oneCell' = true)
    {w : World} {base : Nat} {v x : Value} {l k : List α} (h : RowG E sz cs w base v l) (hx : VG sz cs w x k) (hw : base ≤ w.heap.size) (hl : (l.length + k.length) * by' ≤ 140737488355328) (hm : l.length + k.length ≤ 9223372036854775807) (ty : TypeId) :
    ∃ q n c w', (Builtin.append_ #[T, T] ty #[v, x]).run Try.prog w = .ok (.slice q n c) w' ∧ RowG E sz cs w' base (.slice q n c) (l ++ k) ∧ Below base w w' := by
  have hslice : ∀ {w' : World} {v' : Value}, RowG E sz cs w' base v' (l ++ k) → ∃ q n c, v' = .slice q n c := fun h' => by
    rcases RowG.two h' with ⟨rfl, _⟩ | ⟨g, cap, cur, rfl, _⟩ <;> exact ⟨_, _, _, rfl⟩
  rcases hx with ⟨rfl, rfl⟩ | ⟨a, cp, rfl, hcell⟩
  · have hsl : ∃ q cp, v = .slice q l.length cp ∧ l.length ≤ cp := by
      rcases h.two with ⟨rfl, rfl⟩ | ⟨g, cap, cur, rfl, _, _, _, h3, _⟩
      · exact ⟨_, _, rfl, Nat.le_refl _⟩
      · exact ⟨_, _, rfl, h3⟩
    obtain ⟨q, cp, rfl, hle⟩ := hsl
    refine ⟨q, _, cp, w, ?_, by rw [List.append_nil]; exact h, Below.refl _ _⟩
    simp [Builtin.append_, run_underlying hT, sizeOf, typeInfo, hi, Builtin.lenOf, hle, Builtin.firstCells, storeCells]
    cases q <;> rfl
  · obtain ⟨v', w', k1, k2, k3, k4, k5⟩ := run_append_own_at (P := Try.prog) w base T ty E i z sz by' hT hi hz hs hb hzs hsz v l.length (flatG cs l) h a k.length cp (flatG cs k) (flatG_len hc k) hcell (flatG_one h1 k) (by unfold maxLen; omega) hl hw
    have hR : RowG E sz cs w' base v' (l ++ k) := by
      unfold RowG
      rw [flatG_app, List.length_append]
      exact k2
    obtain ⟨q, n, c, rfl⟩ := hslice hR
    refine ⟨q, n, c, w', k1, hR, ⟨k3.os, k3.tape, k3.output, k3.size, fun b hb => k3.block b (by omega) (fun q => ?_)⟩⟩
    have := (h.lt b q.symm).1
    omega
/-- The pieces of a row that lies in memory. -/
theorem VG.cut {α : Type} {sz : Nat} {cs : α → List Value} (hc : ∀ x, (cs x).length = sz) {w : World} {g cap : Nat} {l : List α} (hg : ∀ i x, l[i]? = some x → ∀ j u, (cs x)[j]? = some u → w.cell? ⟨g, i * sz + j, none⟩ = some u) (i m : Nat) (hm : i + m ≤ l.length) : VG sz cs w (.slice (some ⟨g, i * sz, none⟩) m cap) ((l.drop i).take m) := by
  have hlen : ((l.drop i).take m).length = m := by rw [List.length_take, List.length_drop]; omega
  refine .inr ⟨_, cap, by rw [hlen], fun j u hu => ?_⟩
  rw [add_none]
  have hjl : j < m * sz := by
    have h1 := (List.getElem?_eq_some_iff.1 hu).1
    rw [flatG_len hc, hlen] at h1
    exact h1
  have hsz : 0 < sz := by
    rcases Nat.eq_zero_or_pos sz with h0 | h0
    · rw [h0] at hjl; simp at hjl
    · exact h0
  have hq : j / sz < m := by rw [Nat.div_lt_iff_lt_mul hsz]; exact hjl
  have hr : j % sz < sz := Nat.mod_lt _ hsz
  have hjj : j = j / sz * sz + j % sz := by rw [Nat.mul_comm]; exact (Nat.div_add_mod j sz).symm
  have hlt : i + j / sz < l.length := by omega
  have hx : ((l.drop i).take m)[j / sz]? = some (l[i + j / sz]'hlt) := by
    rw [List.getElem?_take_of_lt hq, List.getElem?_drop, List.getElem?_eq_getElem hlt]
  have h2 := flatG_at hc _ (j / sz) _ (j % sz) hx hr
  rw [← hjj, hu] at h2
  have h3 := hg (i + j / sz) _ (List.getElem?_eq_getElem hlt) (j % sz) u h2.symm
  have e : i * sz + j = (i + j / sz) * sz + j % sz := by rw [Nat.add_mul, Nat.add_assoc, ← hjj]
  rw [e]
  exact h3
theorem VG.one {α : Type} {sz : Nat} {cs : α → List Value} {w : World} {vb : Nat} {x : α} {T : TypeId} (h : w.heap[vb]? = some (.cells (cs x).toArray T (0, 0))) : VG sz cs w (.slice (some ⟨vb, 0, none⟩) 1 1) [x] := by
  refine .inr ⟨_, 1, rfl, fun j u hu => ?_⟩
  rw [add_none, Nat.zero_add, cell_row h]
  simpa [flatG] using hu
def sameP (x y : Pr) : Bool := sameC x.r x.c y.r y.c && sameR x.t x.l x.b x.q y.t y.l y.b y.q
theorem sameP_is (x y : Pr) : sameP x y = true ↔ x = y := by
  obtain ⟨r, c, t, l, b, q⟩ := x
  obtain ⟨r', c', t', l', b', q'⟩ := y
  simp [sameP, sameC, sameR]
  constructor
  · rintro ⟨⟨rfl, rfl⟩, rfl, rfl, rfl, rfl⟩; exact ⟨rfl, rfl, rfl, rfl, rfl, rfl⟩
  · rintro ⟨rfl, rfl, rfl, rfl, rfl, rfl⟩; exact ⟨⟨rfl, rfl⟩, rfl, rfl, rfl, rfl⟩
theorem eqP (x y : Pr) (w : World) : (binOp .eql 46 (.agg #[.int .i64 x.r, .int .i64 x.c, .bool true, .int .i64 x.t, .int .i64 x.l, .int .i64 x.b, .int .i64 x.q]) (.agg #[.int .i64 y.r, .int .i64 y.c, .bool true, .int .i64 y.t, .int .i64 y.l, .int .i64 y.b, .int .i64 y.q])).run Try.prog w = .ok (.bool (sameP x y)) w := by
  rw [run_eql_struct, run_equalIn_agg w 9999 46 _ _ (by kernel_rfl) (by kernel_rfl)]
  unfold sameP sameC sameR
  go_simp
  by_cases h1 : x.r = y.r
  · by_cases h2 : x.c = y.c
    · by_cases h3 : x.t = y.t
      · by_cases h4 : x.l = y.l
        · by_cases h5 : x.b = y.b <;> by_cases h6 : x.q = y.q <;> simp [h1, h2, h3, h4, h5, h6]
        · simp [h1, h2, h3, h4]
      · simp [h1, h2, h3]
    · simp [h1, h2]
  · simp [h1]
/-- Where the document's Add stops: all ahead stand ahead, the next one does not. -/
theorem cut_at {P : List Pr} (hs : SrtP P) (p : Pr) {k : Nat} (hk : k ≤ P.length) (hlo : ∀ j y, j < k → P[j]? = some y → cmpP y p < 0) (hhi : ∀ y, P[k]? = some y → ¬ cmpP y p < 0) : k = idxF (fP p) P := by
  refine idxF_of (hs.mono p) hk (fun t x ht hx => hlo t x ht hx) (fun t x ht hx => ?_)
  have hl := (List.getElem?_eq_some_iff.1 hx).1
  have h0 : P[k]? = some (P[k]'(by omega)) := List.getElem?_eq_getElem (by omega)
  have h1 := hhi _ h0
  by_cases e : t = k
  · subst e
    rw [hx] at h0
    injection h0 with h0
    rw [← h0] at h1
    show 0 ≤ cmpP x p
    omega
  · have hm := (hs.mono p).low h0 hx (by omega)
    show 0 ≤ cmpP x p
    rcases Int.lt_or_le (cmpP x p) 0 with h3 | h3
    · exact absurd (hm (by show cmpP x p ≤ 0; omega)) h1
    · exact h3
theorem cut_no {P : List Pr} (hs : SrtP P) (p : Pr) {k : Nat} (hk : k = idxF (fP p) P) (hn : ∀ y, P[k]? = some y → y ≠ p) : P.take k ++ [p] ++ P.drop k = addP P p ∧ hasF (fP p) P = false := by
  have h : hasF (fP p) P = false := by
    cases hh : hasF (fP p) P
    · rfl
    · obtain ⟨x, h1, h2, h3⟩ := has_idx (hs.mono p) hh
      rw [← hk] at h1
      exact absurd ((cmpP_zero x p).1 h2) (hn x h1)
  refine ⟨?_, h⟩
  rw [hk, take_idx (hs.mono p), drop_idx (hs.mono p), has_no h, List.append_assoc]
  rfl
theorem cut_yes {P : List Pr} (hs : SrtP P) (p : Pr) {k : Nat} (hk : P[k]? = some p) : hasF (fP p) P = true ∧ P.take k ++ P.drop (k + 1) = dropP P p := by
  have hm : p ∈ P := List.mem_of_getElem? hk
  have h := has_mem.2 hm
  have hl := (List.getElem?_eq_some_iff.1 hk).1
  have e : k = idxF (fP p) P := by
    refine idxF_of (hs.mono p) (Nat.le_of_lt hl) (fun t x ht hx => ?_) (fun t x ht hx => ?_)
    · exact (hs.mono p).low hx hk ht (by show cmpP p p ≤ 0; rw [(cmpP_zero p p).2 rfl]; exact Int.le_refl _)
    · by_cases et : t = k
      · subst et; rw [hx] at hk; injection hk with hk; subst hk; show 0 ≤ cmpP x x; rw [(cmpP_zero x x).2 rfl]; exact Int.le_refl _
      · rcases Int.lt_or_le (fP p x) 0 with h3 | h3
        · have := (hs.mono p).low hk hx (by omega) (Int.le_of_lt h3)
          have h0 : fP p p = 0 := (cmpP_zero p p).2 rfl
          omega
        · exact h3
  refine ⟨h, ?_⟩
  rw [e]
  exact drop_has (hs.mono p) h
/-- The document's bands behind a change: its list, in memory of its own. -/
def DOut (w : World) (N : Nat) (v : Value) (P' : List Pr) (w' : World) : Prop := (∃ v', Own w' N #[v'] ∧ RowE w' 0 v' P' ∧ ∀ g, v'.ownBlock = some g → v.ownBlock = some g ∨ w.heap.size ≤ g) ∧ Mut (fun k => k = N) w w'
theorem DOut.same {w w' : World} {N : Nat} {v : Value} {P : List Pr} (ho : Own w N #[v]) (hr : RowE w 0 v P) (hb : Below w.heap.size w w') : DOut w N v P w' := ⟨⟨v, ho.keep hb, RowG.keep hr hb, fun g hg => .inl hg⟩, Mut.of_below hb⟩
theorem DOut.put {w W : World} {N : Nat} {v u : Value} {P' : List Pr} (ho : Own w N #[v]) (hb : Below w.heap.size w W) (hr : RowE W w.heap.size u P') : DOut w N v P' (W.setCell ⟨N, 0, none⟩ u) :=
  ⟨⟨u, own_put (k := 0) (ho.keep hb) (by simp), RowG.mono (RowG.aside hr _ (fun g hg => by have := (RowG.lt hr g hg).1; have := ho.lt; simp; omega)) (Nat.zero_le _), fun g hg => .inr (RowG.lt hr g hg).1⟩, Mut.set (S := fun k => k = N) (Mut.of_below hb) (.inl rfl) _⟩
end Go.Proofs.Ytpblkidbaheboaa
