/- Small laws of no function: a cell of a block of one's own is put; what a type tells. -/
import Derived.Test.YtmfbplicakappaaGreatDoorQNT4
import Derived.Laws.OwnMore
import Derived.Laws.MakeOwn
namespace Go.Proofs.YtmfbplicakappaaGreatDoor
open Go.RowKit
set_option linter.all false
theorem own_put {W : World} {b k : Nat} {A : Array Value} {x : Value} (h : Own W b A) (hk : k < A.size) : Own (W.setCell ⟨b, k, none⟩ x) b (A.set k x hk) := by
  refine ⟨by simpa [World.setCell] using h.lt, fun o => ?_, fun o => by rw [World.frozen?_setCell]; exact h.fro o⟩
  by_cases ho : o = k
  · subst ho
    rw [World.cell?_setCell_same' _ _ _ (by rw [h.cell, Array.getElem?_eq_getElem hk]; rfl)]
    simp
  · rw [World.cell?_setCell_other _ _ _ _ (by intro hh; exact ho (by simpa using (congrArg Addr.off hh).symm)), h.cell, Array.getElem?_set]
    rw [if_neg (fun e => ho e.symm)]
theorem infoI64 : (Tryz.prog.info? 2).map (fun i => (i.zero, i.size, i.bytes)) = some (some (.int .i64 0), 1, 8) := by kernel_rfl
end Go.Proofs.YtmfbplicakappaaGreatDoor
