/- Maps by cells, of slices: what each cell has (nothing, if it is not there); looked up, set, deleted, ranged over. No function's text is walked here. -/
import Derived.Test.YtmajbophgdimlaaKB
import Derived.Maps.OwnSet
import Derived.Maps.OwnOps
import Derived.Maps.Range
import Derived.DeepKeys4
namespace Go.Proofs.Ytmajbophgdimlaa
open Go.RowKit
set_option linter.all false
theorem laidOutK : laidOutB Try.prog = true := by kernel_rfl
theorem wideCell : (match Try.prog.underlying 30 with | some (.array _ _) | some (.struct _) => true | _ => false) = true := by kernel_rfl
theorem rowCellK : 30 < Try.prog.types.size := of_decide_eq_true (by kernel_rfl)
set_option maxRecDepth 100000 in
theorem lawCell : Go.Maps.Keyed Try.prog 30 := Go.Maps.Keyed.of_law (deep_law_laid laidOutK (m := 4) (by omega) rowCellK (by kernel_rfl) wideCell)
def keyC (x y : Int) : Lit := .string (keyBytes [.int .i64 x, .int .i64 y])
theorem typesK : Try.prog.types.size + 1 = (Try.prog.types.size - 1) + 2 := by have := rowCellK; omega
theorem keyTypeCell : Try.prog.keyType 30 = true := by kernel_rfl
theorem wfK {x : Int} (h : I64 x) : (Lit.int .i64 x).wf = true := WalkArith.wf_i64 (by have := h.1; have := h.2; omega)
theorem klK_int (d : Nat) (n : Int) (h : (Lit.int .i64 n).wf = true) : Try.prog.keyLits (d + 1) 3 [.int .i64 n] = some [.int .i64 n] := by
  unfold Program.keyLits
  rw [Try.underlying3]
  simp [h]
theorem klK_cell (d : Nat) (a b : Int) (h1 : (Lit.int .i64 a).wf = true) (h2 : (Lit.int .i64 b).wf = true) : Try.prog.keyLits (d + 1 + 1) 30 [.int .i64 a, .int .i64 b] = some [.int .i64 a, .int .i64 b] := by
  rw [Program.keyLits.eq_def]
  simp only [Try.underlying30, cellsC]
  simp [cellsI, klK_int, h1, h2]
theorem key_ofC (a b : Int) (h1 : I64 a) (h2 : I64 b) : keyOf Try.prog 30 (.agg #[.int .i64 a, .int .i64 b]) = some (keyC a b) := by
  have hf : (Value.agg #[.int .i64 a, .int .i64 b]).formed Try.prog 30 = true := by unfold Value.formed; simp only [Try.underlying30, cellsC]; rfl
  obtain ⟨d, hd⟩ : ∃ d, Try.prog.types.size + 1 = d + 1 + 1 := ⟨_, typesK⟩
  have hk : Try.prog.keyLits (Try.prog.types.size + 1) 30 (Value.agg #[.int .i64 a, .int .i64 b]).cells.toList = some [.int .i64 a, .int .i64 b] := by
    rw [hd]; exact klK_cell d _ _ (wfK h1) (wfK h2)
  unfold keyOf
  rw [hf, keyTypeCell, hk]
  simp only [Try.underlying30, Bool.and_true, if_true]
  rfl
theorem keyC_inj {a b c d : Int} (h1 : I64 a) (h2 : I64 b) (h3 : I64 c) (h4 : I64 d) (h : keyC a b = keyC c d) : a = c ∧ b = d := by
  have k1 := key_ofC a b h1 h2
  rw [h] at k1
  have k2 := lawCell.inj k1 (key_ofC c d h3 h4)
  simpa using k2
def nilS : Value := .pointer none
def heldR (v : Value) : Option (DataW Value × List MemPlace) := some (.held v, [])
/-- What the cells have. -/
def updV (f : Int → Int → Value) (x y : Int) (v : Value) : Int → Int → Value := fun a b => if a = x ∧ b = y then v else f a b
theorem updV_same (f : Int → Int → Value) (x y : Int) (v : Value) : updV f x y v x y = v := if_pos ⟨rfl, rfl⟩
theorem updV_other {f : Int → Int → Value} {x y a b : Int} {v : Value} (h : ¬ (a = x ∧ b = y)) : updV f x y v a b = f a b := if_neg h
/-- Block b is a map of at most n cells; f tells what each has, nil where it is not there. -/
def MapF (w : World) (b n : Nat) (f : Int → Int → Value) : Prop := ∃ D : DataW Value, w.ownsMap Try.prog 30 heldR b n D ∧ (∀ x y, I64 x → I64 y → D.atKey (keyC x y) (.held nilS) = .held (f x y)) ∧ (∀ x y, I64 x → I64 y → Maps.has D (keyC x y) = true → f x y ≠ nilS)
theorem MapF.of_block {w w' : World} {b n : Nat} {f : Int → Int → Value} (h : MapF w b n f) (hb : w'.heap[b]? = w.heap[b]?) : MapF w' b n f := by
  obtain ⟨D, ⟨es, clock, h1, h2⟩, h3⟩ := h
  exact ⟨D, ⟨es, clock, hb.trans h1, h2⟩, h3⟩
theorem MapF.lt {w : World} {b n : Nat} {f : Int → Int → Value} (h : MapF w b n f) : b < w.heap.size := by
  obtain ⟨D, h, _⟩ := h
  exact h.lt
theorem MapF.keep {w w' : World} {b n : Nat} {f : Int → Int → Value} (h : MapF w b n f) (hb : Below w.heap.size w w') : MapF w' b n f := h.of_block (hb.block b h.lt)
theorem MapF.mut {S : Nat → Prop} {w w' : World} {b n : Nat} {f : Int → Int → Value} (h : MapF w b n f) (hm : Mut S w w') (hn : ¬ S b) : MapF w' b n f := h.of_block (hm.block b h.lt hn)
theorem MapF.more {w : World} {b n m : Nat} {f : Int → Int → Value} (h : MapF w b n f) (hm : n ≤ m) : MapF w b m f := by
  obtain ⟨D, h1, h2⟩ := h
  exact ⟨D, h1.mono hm, h2⟩
theorem MapF.made (w : World) : MapF (w.alloc (.map #[] 0)) w.heap.size 0 (fun _ _ => nilS) := ⟨_, World.ownsMap_made _ _ _ _, fun x y _ _ => rfl, fun x y _ _ h => by simp [Maps.has] at h⟩
theorem MapF.look {w : World} {b n : Nat} {f : Int → Int → Value} (h : MapF w b n f) {t e : TypeId} (ht : Try.prog.underlying t = some (.map 30 e)) (hz : (zeroValue e).run Try.prog w = .ok nilS w) (x y : Int) (hx : I64 x) (hy : I64 y) : (Instr.lookup t (.map (some b)) (.agg #[.int .i64 x, .int .i64 y]) false).run Try.prog w = .ok (f x y) w := by
  obtain ⟨D, h1, h2, h3⟩ := h
  obtain ⟨v, ps, r1, r2⟩ := h1.lookup lawCell ht hz (zd := .held nilS) (zp := []) rfl (key_ofC x y hx hy)
  rw [h2 x y hx hy] at r2
  simp only [heldR, Option.some.injEq, Prod.mk.injEq, DataW.held.injEq] at r2
  rw [r1, r2.1]
theorem mut_grown {w w' : World} {b : Nat} (h : w.grownBy w' (some b)) : Mut (fun k => k = b) w w' := ⟨h.os, h.tape, h.output, h.size, fun k hk hs => h.block k hk (fun e => hs (by injection e with e))⟩
theorem isKeyC (x y : Int) (hx : I64 x) (hy : I64 y) : WideAt.IsKeyLit (keyC x y) := lawCell.key (key_ofC x y hx hy)
theorem MapF.put {w : World} {b n : Nat} {f : Int → Int → Value} (h : MapF w b n f) {t e : TypeId} (ht : Try.prog.underlying t = some (.map 30 e)) (hn : n < maxLen) (x y : Int) (hx : I64 x) (hy : I64 y) (v : Value) (hv : v ≠ nilS) : ∃ w', (Instr.mapUpdate t (.map (some b)) (.agg #[.int .i64 x, .int .i64 y]) v).run Try.prog w = .ok () w' ∧ MapF w' b (n + 1) (updV f x y v) ∧ Mut (fun k => k = b) w w' := by
  obtain ⟨D, h1, h2, h3⟩ := h
  obtain ⟨w', r1, r2, r3⟩ := h1.update lawCell ht hn (key_ofC x y hx hy) (val := v) (d := .held v) (ps := []) rfl
  have hI := h1.isMap
  have hK := isKeyC x y hx hy
  refine ⟨w', r1, ⟨_, r2, fun a c ha hc => ?_, fun a c ha hc q => ?_⟩, mut_grown r3⟩
  · by_cases e : a = x ∧ c = y
    · obtain ⟨rfl, rfl⟩ := e
      rw [updV_same, Maps.atKey_put_same hI hK]
    · rw [updV_other e, Maps.atKey_put_other (fun q => e (keyC_inj ha hc hx hy q))]
      exact h2 a c ha hc
  · by_cases e : a = x ∧ c = y
    · obtain ⟨rfl, rfl⟩ := e
      rw [updV_same]; exact hv
    · rw [updV_other e]
      rw [Maps.has_put_other (fun q => e (keyC_inj ha hc hx hy q))] at q
      exact h3 a c ha hc q
theorem MapF.del {w : World} {b n : Nat} {f : Int → Int → Value} (h : MapF w b n f) {t e : TypeId} (ht : Try.prog.underlying t = some (.map 30 e)) (x y : Int) (hx : I64 x) (hy : I64 y) (ty : TypeId) : ∃ w', (Builtin.delete_ #[t, 30] ty #[.map (some b), .agg #[.int .i64 x, .int .i64 y]]).run Try.prog w = .ok (.tuple #[]) w' ∧ MapF w' b n (updV f x y nilS) ∧ Mut (fun k => k = b) w w' := by
  obtain ⟨D, h1, h2, h3⟩ := h
  obtain ⟨w', r1, r2, r3⟩ := h1.drop lawCell ht (key_ofC x y hx hy) ty
  refine ⟨w', r1, ⟨_, r2, fun a c ha hc => ?_, fun a c ha hc q => ?_⟩, mut_grown r3.grown⟩
  · by_cases e : a = x ∧ c = y
    · obtain ⟨rfl, rfl⟩ := e
      rw [updV_same, Maps.atKey_del_same]
    · rw [updV_other e, Maps.atKey_del_other (fun q => e (keyC_inj ha hc hx hy q))]
      exact h2 a c ha hc
  · by_cases e : a = x ∧ c = y
    · obtain ⟨rfl, rfl⟩ := e
      rw [Maps.has_del_same] at q
      cases q
    · rw [updV_other e]
      rw [Maps.has_del_other (fun q => e (keyC_inj ha hc hx hy q))] at q
      exact h3 a c ha hc q
end Go.Proofs.Ytmajbophgdimlaa
