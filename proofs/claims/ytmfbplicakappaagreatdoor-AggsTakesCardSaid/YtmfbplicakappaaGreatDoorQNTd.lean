/- Rows that grow: small laws of no function. -/
import Derived.Test.YtmfbplicakappaaGreatDoorQNR
import Derived.Test.YtmfbplicakappaaGreatDoorQNT5p
import Derived.Maps.AppendAt
namespace Go.Proofs.YtmfbplicakappaaGreatDoor
open Go.RowKit
set_option linter.all false
theorem Ag.csize (a : Ag) : a.cells.size = 11 := rfl
theorem Ag.one (a : Ag) : ∀ u ∈ a.cells.toList, u.oneCell' = true := by
  intro u hu
  simp [Ag.cells] at hu
  rcases hu with h | h | h | h | h | h | h | h | h | h | h <;> subst h <;> rfl
theorem news_pl (W : World) (cs : Array Value) (T : TypeId) : ∀ (j : Nat) (u : Value), cs.toList[j]? = some u → (W.alloc (.cells cs T)).cell? ((⟨W.heap.size, 0, none⟩ : Addr).add j) = some u := fun j u h => by
  have h1 := (Own.new W cs T).cell j
  have e : ((⟨W.heap.size, 0, none⟩ : Addr).add j) = ⟨W.heap.size, j, none⟩ := by simp [Addr.add]; omega
  rw [e, h1]
  simpa using h
theorem app_rowv {α : Type} {c : α → Array Value} {sz : Nat} {e : TypeId} {w W W' w5 : World} {u v' : Value} {l : List α} {t : α} (hB : Below w.heap.size w W') (hr : Row c sz e W w.heap.size u l)
    (ho : w5.ownsRow w.heap.size e sz v' (l.length + 1) (flatC c l ++ (c t).toList)) (hg : W'.grownBy w5 u.ownBlock) : Row c sz e w5 w.heap.size v' (l ++ [t]) ∧ Below w.heap.size w w5 := by
  refine ⟨?_, Below.grown hB hg hB.size (fun k hk => (Row.lt hr k hk).1)⟩
  unfold Row
  rw [flatC_snoc, List.length_append]
  exact ho
end Go.Proofs.YtmfbplicakappaaGreatDoor
