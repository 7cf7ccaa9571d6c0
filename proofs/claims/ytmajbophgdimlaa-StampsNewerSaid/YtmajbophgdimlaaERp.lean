/- Ranging over a map by cells: every cell that is there, each once. No function's text is walked here. -/
import Derived.Test.YtmajbophgdimlaaEKp
import Derived.Maps.RangeWalk
namespace Go.Proofs.Ytmajbophgdimlaa
open Go.RowKit
set_option linter.all false
set_option maxRecDepth 100000 in
theorem klK_inv (d : Nat) {v : Value} {ls : List Lit} (h : Try.prog.keyLits (d + 1) 3 [v] = some ls) : ∃ a, v = .int .i64 a ∧ (Lit.int .i64 a).wf = true := by
  unfold Program.keyLits at h
  rw [Try.underlying3] at h
  cases v <;> simp at h
  obtain ⟨⟨rfl, hw⟩, _⟩ := h
  exact ⟨_, rfl, hw⟩
set_option maxRecDepth 100000 in
theorem key_invC {key : Value} {kl : Lit} (h : keyOf Try.prog 30 key = some kl) : ∃ a b, key = .agg #[.int .i64 a, .int .i64 b] ∧ I64 a ∧ I64 b := by
  unfold keyOf at h
  simp only [Try.underlying30] at h
  by_cases hc : (Try.prog.keyType 30 && key.formed Try.prog 30) = true
  · rw [if_pos hc] at h
    have hf : key.formed Try.prog 30 = true := by simp at hc; exact hc.2
    cases key <;> simp [Value.formed, Try.underlying30] at hf
    rename_i cs
    rw [cellsC] at hf
    obtain ⟨c0, c1, rfl⟩ := array2 hf
    obtain ⟨d, hd⟩ : ∃ d, Try.prog.types.size + 1 = d + 1 + 1 := ⟨_, typesK⟩
    rw [hd] at h
    obtain ⟨ls, hl, _⟩ := Option.map_eq_some_iff.1 h
    rw [Program.keyLits.eq_def] at hl
    simp only [Try.underlying30, cellsC, Value.cells] at hl
    simp [cellsI] at hl
    obtain ⟨l0, h0, hl⟩ := Option.bind_eq_some_iff.1 hl
    have h1 : ∃ l1, Try.prog.keyLits (d + 1) 3 [c1] = some l1 := by
      cases e : Try.prog.keyLits (d + 1) 3 [c1] with
      | none => simp [e] at hl
      | some l1 => exact ⟨l1, rfl⟩
    obtain ⟨l1, h1⟩ := h1
    obtain ⟨a, rfl, ha⟩ := klK_inv d h0
    obtain ⟨b, rfl, hb⟩ := klK_inv d h1
    exact ⟨a, b, rfl, i64_of ha, i64_of hb⟩
  · rw [if_neg hc] at h
    cases h
/-- A range under way: K are the cells that were told. -/
def RangeF (w : World) (b r n : Nat) (f : Int → Int → Value) (K : List Cl) (cnt : Nat) : Prop := ∃ (D : DataW Value) (left : Lit → Bool), w.ranges Try.prog 30 heldR b r n D left cnt ∧ (∀ x y, I64 x → I64 y → D.atKey (keyC x y) (.held nilS) = .held (f x y)) ∧ (∀ x y, I64 x → I64 y → Maps.has D (keyC x y) = true → f x y ≠ nilS) ∧ (∀ x y, I64 x → I64 y → (left (keyC x y) = true ↔ (Maps.has D (keyC x y) = true ∧ (⟨x, y⟩ : Cl) ∉ K))) ∧ K.Nodup ∧ ∀ k ∈ K, f k.r k.c ≠ nilS ∧ I64 k.r ∧ I64 k.c
theorem RangeF.map {w : World} {b r n : Nat} {f : Int → Int → Value} {K : List Cl} {cnt : Nat} (h : RangeF w b r n f K cnt) : MapF w b n f := by
  obtain ⟨D, left, h1, h2, h3, _⟩ := h
  exact ⟨D, h1.owns, h2, h3⟩
theorem RangeF.ne {w : World} {b r n : Nat} {f : Int → Int → Value} {K : List Cl} {cnt : Nat} (h : RangeF w b r n f K cnt) : r ≠ b := by
  obtain ⟨D, left, h1, _⟩ := h
  exact h1.ne
theorem RangeF.lt {w : World} {b r n : Nat} {f : Int → Int → Value} {K : List Cl} {cnt : Nat} (h : RangeF w b r n f K cnt) : r < w.heap.size := by
  obtain ⟨D, left, h1, _⟩ := h
  exact h1.lt
theorem RangeF.mut {S : Nat → Prop} {w w' : World} {b r n : Nat} {f : Int → Int → Value} {K : List Cl} {cnt : Nat} (h : RangeF w b r n f K cnt) (hm : Mut S w w') (hb : ¬ S b) (hr : ¬ S r) : RangeF w' b r n f K cnt := by
  have hlb := h.map.lt
  have hlr := h.lt
  obtain ⟨D, left, ⟨es, clock, since, seen, c0, g1, g2, g3, g4, g5, g6⟩, h2⟩ := h
  exact ⟨D, left, ⟨es, clock, since, seen, c0, (hm.block b hlb hb).trans g1, g2, g3, g4, (hm.block r hlr hr).trans g5, g6⟩, h2⟩
theorem RangeF.keep {w w' : World} {b r n : Nat} {f : Int → Int → Value} {K : List Cl} {cnt : Nat} (h : RangeF w b r n f K cnt) (hb : Below w.heap.size w w') : RangeF w' b r n f K cnt := h.mut (S := fun _ => False) (Mut.of_below hb) (fun h => h) (fun h => h)
theorem below_grown {w w' : World} (h : w.grownBy w' none) : Below w.heap.size w w' := ⟨h.os, h.tape, h.output, h.size, fun k hk => h.block k hk (by simp)⟩
theorem MapF.range {w : World} {b n : Nat} {f : Int → Int → Value} (h : MapF w b n f) {t e : TypeId} (ht : Try.prog.underlying t = some (.map 30 e)) : ∃ w' cnt, (Instr.range t (.map (some b))).run Try.prog w = .ok (.pointer (some ⟨w.heap.size, 0, none⟩)) w' ∧ RangeF w' b w.heap.size n f [] cnt ∧ Below w.heap.size w w' ∧ w'.heap.size = w.heap.size + 1 := by
  obtain ⟨D, h1, h2, h3⟩ := h
  obtain ⟨w', r1, r2, r3, r4⟩ := h1.range lawCell ht
  exact ⟨w', _, r1, ⟨D, _, r2, h2, h3, fun x y _ _ => by simp, List.nodup_nil, fun k hk => by cases hk⟩, below_grown r3, r4⟩
theorem RangeF.next {w : World} {b r n : Nat} {f : Int → Int → Value} {K : List Cl} {cnt : Nat} (h : RangeF w b r n f K cnt) (ty : TypeId) :
    ((∀ x y, I64 x → I64 y → f x y ≠ nilS → (⟨x, y⟩ : Cl) ∈ K) ∧ (Instr.next (.pointer (some ⟨r, 0, none⟩)) false ty).run Try.prog w = .ok (.tuple #[.bool false]) w) ∨
    ∃ x y w' cnt', I64 x ∧ I64 y ∧ (⟨x, y⟩ : Cl) ∉ K ∧ f x y ≠ nilS ∧ (Instr.next (.pointer (some ⟨r, 0, none⟩)) false ty).run Try.prog w = .ok (.tuple #[.bool true, .agg #[.int .i64 x, .int .i64 y], f x y]) w' ∧ RangeF w' b r n f (K ++ [⟨x, y⟩]) cnt' ∧ cnt' < cnt ∧ Mut (fun k => k = r) w w' ∧ w'.heap.size = w.heap.size ∧ (Instr.entry (.pointer (some ⟨r, 0, none⟩))).run Try.prog w' = .ok (.tuple #[.agg #[.int .i64 x, .int .i64 y], f x y]) w' := by
  obtain ⟨D, left, h1, h2, h3, h4, h5, h6⟩ := h
  rcases h1.next lawCell ty with ⟨q0, q1, q2⟩ | ⟨key, v, kl, y0, w', cnt', hkey, hlk, hv, hat, hrun, hrg, hlt, hgr, hsz, hen⟩
  · refine .inl ⟨fun x y hx hy hf => ?_, q2⟩
    by_cases hm : (⟨x, y⟩ : Cl) ∈ K
    · exact hm
    · have hD : Maps.has D (keyC x y) = true := by
        cases e : Maps.has D (keyC x y)
        · have := h2 x y hx hy
          rw [Maps.atKey_of_not_has e] at this
          exact absurd (DataW.held.inj this).symm hf
        · rfl
      have := (h4 x y hx hy).2 ⟨hD, hm⟩
      rw [q1] at this
      cases this
  · obtain ⟨x, y, rfl, hx, hy⟩ := key_invC hkey
    have hkl : kl = keyC x y := by
      have := key_ofC x y hx hy
      rw [hkey] at this
      exact Option.some.inj this
    subst hkl
    have hy0 : y0.1 = .held v := by
      have hv2 := Option.some.inj hv
      rw [← hv2]
    have hfv : f x y = v := by
      have e1 := h2 x y hx hy
      rw [hat, hy0] at e1
      exact (DataW.held.inj e1).symm
    subst hfv
    have hD : Maps.has D (keyC x y) = true := Maps.has_true_of_atKey (y := .held (f x y)) (fun z => by rw [hat, hy0])
    have hnK := ((h4 x y hx hy).1 hlk).2
    have hne := h3 x y hx hy hD
    refine .inr ⟨x, y, w', cnt', hx, hy, hnK, hne, hrun, ⟨D, _, hrg, h2, h3, fun a c ha hc => ?_, ?_, ?_⟩, hlt, mut_grown hgr, hsz, hen⟩
    · simp only [Bool.and_eq_true, Bool.not_eq_true']
      rw [h4 a c ha hc]
      by_cases e : a = x ∧ c = y
      · obtain ⟨rfl, rfl⟩ := e
        simp [WideAt.sameKey_self (isKeyC a c ha hc)]
      · have e2 : (keyC a c).sameKey (keyC x y) = false := Maps.sameKey_ne (fun q => e (keyC_inj ha hc hx hy q))
        have e3 : ¬ ((⟨a, c⟩ : Cl) = ⟨x, y⟩) := by intro q; injection q with q1 q2; exact e ⟨q1, q2⟩
        simp [e2, e3]
    · rw [List.nodup_append]
      exact ⟨h5, by simp, fun p hp q hq => by simp at hq; subst hq; intro e; subst e; exact hnK hp⟩
    · intro k hk
      rcases List.mem_append.1 hk with q | q
      · exact h6 k q
      · simp at q
        subst q
        exact ⟨hne, hx, hy⟩
end Go.Proofs.Ytmajbophgdimlaa
