/- What the laws of this seat share: how a list of truths comes in; what the row's list of tables gives to the walks. -/
import Derived.Test.YtcgcnpcimfaecaaGreatDoorQGK2
import Derived.Test.YtcgcnpcimfaecaaGreatDoorQGD1
import Derived.Test.YtcgcnpcimfaecaaGreatDoorCards
import Derived.Test.YtcgcnpcimfaecaaGreatDoorTie
import Derived.ProofKit
import Derived.OpenShut
import Derived.ShutString
import Derived.Lib.LaidTab
import Derived.Lay
import Derived.Stop.LaidErr
import Derived.LaidOnce
import Derived.SevenTiedAt
import Derived.Deep.Grids
import Derived.Deep.Slices
import Derived.Deep.DeepHandedRow
import Derived.SizedLaws
import Derived.WideKeyArgs
namespace Go.Proofs.YtcgcnpcimfaecaaGreatDoor
open Go.Shelf Go.RowKit Go.Joins Go.ChangeShapes Go.WideShapes Go.ChangeAt
set_option linter.all false
/-- The five tables that each row of this seat lists. -/
def tables : List (String × DataW Unit) := [("math/bits.deBruijn32tab", Rows.laid_math_bits_deBruijn32tab), ("math/bits.deBruijn64tab", Rows.laid_math_bits_deBruijn64tab), ("internal/strconv.uint64pow10", Rows.laid_internal_strconv_uint64pow10), ("unicode/utf8.acceptRanges", Rows.laid_unicode_utf8_acceptRanges), ("unicode/utf8.first", Rows.laid_unicode_utf8_first)]
theorem own : ownKnob Tryz.prog.godebug = none := by kernel_rfl
theorem laidOutN : laidOutB Tryz.prog = true := by kernel_rfl
theorem rowBools : 30 < Tryz.prog.types.size := of_decide_eq_true (by kernel_rfl)
theorem cellsB1 : Tryz.prog.cellsOf 4 = 1 := by kernel_rfl
set_option maxRecDepth 100000 in
theorem open_bls {H : Type} {enc : TypeId × Value → H} {w : World} {base : Nat} {held : Bool} {r : Reach} {b0 : Nat} {v : Value} {d : DataW H} {p : List MemPlace} (hv : Value.okWide Tryz.prog w r b0 30 v) (h : DataW.Trod enc Tryz.prog w base (fun _ => true) held 30 v d p) :
    ∃ l : List Bool, BV w v l ∧ l.length ≤ 9223372036854775807 := by
  obtain ⟨fp, fn, fc, rfl⟩ := okWide_slice Tryz.underlying30 hv
  obtain ⟨fuel, hf⟩ := h
  have g : DataW.trod enc Tryz.prog w base (fun _ => true) held fuel 30 [.slice fp fn fc] = some (d, p) := hf
  rcases Go.Deep.open_bools Tryz.underlying30 Tryz.underlying4 cellsB1 g with ⟨h1, _⟩ | ⟨a, len, cap, B, h1, hb, hlc, hcm, h2, hel⟩
  · simp only [List.cons.injEq, Value.slice.injEq, and_true] at h1
    obtain ⟨rfl, rfl, rfl⟩ := h1
    exact ⟨[], ⟨none, 0, rfl, Nat.le_refl _, fun h => absurd h (by simp)⟩, by simp⟩
  · simp only [List.cons.injEq, Value.slice.injEq, and_true] at h1
    obtain ⟨rfl, rfl, rfl⟩ := h1
    refine ⟨(List.range fn).map B, ⟨some a, fc, by rw [List.length_map, List.length_range], by rw [List.length_map, List.length_range]; exact hlc, fun h0 => ?_⟩, by rw [List.length_map, List.length_range]; unfold maxLen at hcm; omega⟩
    rw [List.length_map, List.length_range] at h0
    have h3 := hel 0 (by omega)
    rw [show a.add 0 = a by simp [Addr.add]] at h3
    have hs := World.cell?_spot h3
    obtain ⟨b, off, s⟩ := a
    simp only at hs
    subst hs
    refine ⟨b, off, rfl, by simpa using World.block_lt_of_cell? w _ h3, fun i x hi j hj => ?_⟩
    have hil := (List.getElem?_eq_some_iff.1 hi).1
    rw [List.length_map, List.length_range] at hil
    have h5 := hel i (by omega)
    have hj0 : j = 0 := by omega
    subst hj0
    rw [List.getElem?_map, List.getElem?_range hil] at hi
    simp at hi
    subst hi
    have e : ((⟨b, off, none⟩ : Addr).add i) = ⟨b, off + i, none⟩ := by simp [Addr.add]
    rw [e] at h5
    rw [Nat.mul_one, Nat.add_zero, h5]
    rfl
end Go.Proofs.YtcgcnpcimfaecaaGreatDoor
