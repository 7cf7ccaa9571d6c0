/- What the rows' list of tables, the reading's bound and the world's form give to the walks of this seat. -/
import Derived.Test.YtaamphdihmghhaaGreatDoorQLK
import Derived.Test.YtaamphdihmghhaaGreatDoorCards
import Derived.Test.YtaamphdihmghhaaGreatDoorTie
import Derived.Test.YtaamphdihmghhaaGreatDoorQShelfM
import Derived.Deep.DeepHandedRow
import Derived.Lib.LaidTab
import Derived.Lay
import Derived.Stop.LaidErr
import Derived.LaidOnce
import Derived.SevenTiedAt
import Derived.ProofKit
import Derived.OpenShut
namespace Go.Proofs.YtaamphdihmghhaaGreatDoor
open Go.Shelf Go.RowKit Go.ChangeShapes Go.WideShapes Go.ChangeAt
set_option linter.all false
/-- The three tables that each row of this seat lists. -/
def tables : List (String × DataW Unit) := [("unicode/utf8.acceptRanges", Rows.laid_unicode_utf8_acceptRanges), ("oriel/value.names", Rows.laid_oriel_value_names), ("unicode/utf8.first", Rows.laid_unicode_utf8_first)]
theorem nam_of_laid {W : World} (h : laidMetH Tryz.prog tables W) : Vv.Nam W := by
  rw [MakeChecks.laidMetH_plain _ _ _ (by kernel_rfl)] at h
  exact Vv.nam_of_head (laidMet.tail h)
theorem mx_of_shaped {W : World} (h : W.ShapedOpen Tryz.prog) : Mx W := Tryz.laysM219.s1_3 W h
theorem bulk_str {H : Type} {x : ByteArray} {l : List (DataW H)} (h : Rows.uptoBulkAll (DataW.lit (.string x.data.toList) :: l) ≤ 1048576) : x.size + 1 ≤ 1048576 := by
  simp only [Rows.uptoBulkAll, Rows.uptoBulk] at h
  rw [size_len]; omega
end Go.Proofs.YtaamphdihmghhaaGreatDoor
