/- The ways of aggs.Call that are refused: a bound that may not be, a name that is none, arguments that are not taken or may not be; and a single argument that is a fault. New memory alone is made. -/
import Derived.Test.YtmfbplicakappaaGreatDoorQGTn
import Derived.Test.YtmfbplicakappaaGreatDoorQGTw
namespace Go.Proofs.YtmfbplicakappaaGreatDoor
open Go.RowKit
set_option linter.all false
theorem rects_n (w : World) (v : Value) (l : List Ag) (n : Nat) (h : AV w v l) (hN : Hid (Nums l)) (h40 : l.length ≤ 1099511627776) (hn : Hid (l.length = n)) : Calls Tryz.prog 24 #[v] w fun e w' => (∃ rp rc, e = .returned (.slice rp n rc) ∧ Hid (BV w' (.slice rp n rc) (l.map (·.many)))) ∧ Below w.heap.size w w' := by
  have e := hn.out
  subst e
  exact rects_any w v l h hN h40
end Go.Proofs.YtmfbplicakappaaGreatDoor
