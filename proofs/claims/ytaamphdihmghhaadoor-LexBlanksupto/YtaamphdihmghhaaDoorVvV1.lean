/- Contracts of Num, Txt, Truth, Err, May (of package value and of the document's answer): of every argument the same value; new memory alone is made. No condition but that the integers are int64. -/
import Derived.Test.YtaamphdihmghhaaDoorVvSums
import Derived.Laws.StructEq
import Derived.Laws.NewBlocks
import Derived.Deep.RegionWith
namespace Go.Proofs.YtaamphdihmghhaaDoor.Vv
open Go.RowKit
set_option linter.all false
theorem bcell {W w1 : World} (hb : Below W.heap.size W w1) : (∀ b o, b < W.heap.size → w1.cell? ⟨b, o, none⟩ = W.cell? ⟨b, o, none⟩) := fun b o h => hb.cell (p := ⟨b, o, none⟩) h
theorem bal (w : World) (o : Obj) : Below w.heap.size w (w.alloc o) := (Below.refl _ _).alloc (Nat.le_refl _) _
theorem bup {w W w1 : World} (h : Below w.heap.size w W) (hb : Below W.heap.size W w1) : Below w.heap.size w w1 := h.trans (hb.mono h.size)
/-- Whether two values are the same in all fields. -/
def sameB (t n : Int) (s : ByteArray) (b : Bool) (c : Int) (t' n' : Int) (s' : ByteArray) (b' : Bool) (c' : Int) : Bool := decide (t = t' ∧ n = n' ∧ s = s' ∧ b = b' ∧ c = c')
theorem toList_inj {s s' : ByteArray} (h : s.toList = s'.toList) : s = s' := by
  rw [ByteArray.toList_eq, ByteArray.toList_eq] at h
  obtain ⟨⟨x⟩⟩ := s
  obtain ⟨⟨y⟩⟩ := s'
  simp at h
  rw [h]
/-- A value that may be. -/
def mayB (t n : Int) (s : ByteArray) (b : Bool) (c : Int) : Bool := decide ((t ≠ 1 → n = 0) ∧ (t ≠ 2 → s = ⟨#[]⟩) ∧ (t ≠ 3 → b = false) ∧ (t ≠ 4 → c = 0) ∧ 0 ≤ t ∧ t ≤ 4 ∧ (t = 1 → n ≠ (-9223372036854775808)) ∧ (t = 4 → 1 ≤ c ∧ c ≤ 8))
/-- The code of a Fault that is asked for with a code. -/
def errC (c : Int) : Int := if 1 ≤ c ∧ c ≤ 8 then c else 8
theorem errC_ok {c : Int} (h1 : 1 ≤ c) (h2 : c ≤ 8) : errC c = c := if_pos ⟨h1, h2⟩
theorem errC_no {c : Int} (h : c < 1 ∨ 8 < c) : errC c = 8 := if_neg (by omega)
end Go.Proofs.YtaamphdihmghhaaDoor.Vv
