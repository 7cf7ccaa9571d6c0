/- The contract of strings.Cut at a colon, for every text: what stands ahead of the first col -/
import Derived.Test.YtcmjhjnpcogmgaaGreatDoorUAuto
import Derived.Test.YtcmjhjnpcogmgaaGreatDoorUABA1AMP1P2
import Derived.Test.YtcmjhjnpcogmgaaGreatDoorUShelfX
import Derived.Lib.IndexLaws
import Derived.Laws.Cover1
set_option linter.all false
set_option maxRecDepth 100000
set_option maxHeartbeats 4000000
namespace Go.Proofs.YtcmjhjnpcogmgaaGreatDoor
open Go.Shelf Go.RowKit
def ptAt (d : ByteArray) : Int := Lib.indexByte d.data.toList 58
def cutF (d : ByteArray) : Bool := decide (0 ≤ ptAt d)
def cutA (d : ByteArray) : ByteArray := if 0 ≤ ptAt d then d.extract 0 (ptAt d).toNat else d
def cutB (d : ByteArray) : ByteArray := if 0 ≤ ptAt d then d.extract ((ptAt d).toNat + 1) d.size else ⟨#[]⟩
theorem ptAt_lt (d : ByteArray) (h : 0 ≤ ptAt d) : (ptAt d).toNat < d.size := by
 have e : Lib.indexByte d.data.toList 58 = ((ptAt d).toNat : Nat) := by show ptAt d = _; omega
 have h1 := (Lib.indexByte_some e).1
 have h2 := List.getElem?_eq_some_iff.1 h1
 obtain ⟨h3, _⟩ := h2
 simpa using h3
theorem ptAt_ge (d : ByteArray) : -1 ≤ ptAt d := Lib.indexByte_ge _ _
theorem index_pt (d : ByteArray) (i : Int) (hi : ptAt d = i) (w : World) :
  Calls Tryz.prog 187 #[.string d, .string ⟨#[58]⟩] w fun e w' => e = .returned (.int .i64 i) ∧ w' = w := by
 subst hi; exact Any.stringslite_Index_one Tryz.lays219 d 58 w
theorem lcut_yes (d : ByteArray) (k : Nat) (hk : ptAt d = k) (hlt : k < d.size) (hs : d.size ≤ maxLen) (w : World) :
  Calls Tryz.prog 185 #[.string d, .string ⟨#[58]⟩] w fun e w' => e = .returned (.tuple #[.string (d.extract 0 k), .string (d.extract (k + 1) d.size), .bool true]) ∧ ∃ n, w' = w.drewN n := by
 unfold maxLen at hs
 have hlt' : (k : Int) < d.size := by omega
 go_enter Tryz.func185, Tryz.ntmps185
 go_wp2_with (go_at_call 187; refine (index_pt d k hk _).mono ?_; rintro e w' ⟨rfl, rfl⟩)
 go_quiet (fail)
 go_wp2
 go_ret3
 exact ⟨rfl, nq, rfl⟩
theorem lcut_no (d : ByteArray) (hk : ptAt d = -1) (w : World) :
  Calls Tryz.prog 185 #[.string d, .string ⟨#[58]⟩] w fun e w' => e = .returned (.tuple #[.string d, .string ⟨#[]⟩, .bool false]) ∧ ∃ n, w' = w.drewN n := by
 go_enter Tryz.func185, Tryz.ntmps185
 go_wp2_with (go_at_call 187; refine (index_pt d (-1) hk _).mono ?_; rintro e w' ⟨rfl, rfl⟩)
 go_ret3
 exact ⟨rfl, 0, rfl⟩
theorem lcut_any (d : ByteArray) (hs : d.size ≤ maxLen) (w : World) :
  Calls Tryz.prog 185 #[.string d, .string ⟨#[58]⟩] w fun e w' => e = .returned (.tuple #[.string (cutA d), .string (cutB d), .bool (cutF d)]) ∧ ∃ n, w' = w.drewN n := by
 by_cases h : 0 ≤ ptAt d
 ·have e1 : cutA d = d.extract 0 (ptAt d).toNat := by unfold cutA; rw [if_pos h]
  have e2 : cutB d = d.extract ((ptAt d).toNat + 1) d.size := by unfold cutB; rw [if_pos h]
  have e3 : cutF d = true := by unfold cutF; simp [h]
  rw [e1, e2, e3]
  exact lcut_yes d (ptAt d).toNat zq17 (ptAt_lt d h) hs w
 ·have e1 : cutA d = d := by unfold cutA; rw [if_neg h]
  have e2 : cutB d = ⟨#[]⟩ := by unfold cutB; rw [if_neg h]
  have e3 : cutF d = false := by unfold cutF; simp; omega
  rw [e1, e2, e3]
  exact lcut_no d (by have := ptAt_ge d; omega) w
theorem cut_any (d : ByteArray) (hs : d.size ≤ maxLen) (w : World) :
  Calls Tryz.prog 161 #[.string d, .string ⟨#[58]⟩] w fun e w' => e = .returned (.tuple #[.string (cutA d), .string (cutB d), .bool (cutF d)]) ∧ ∃ n, w' = w.drewN n := by
 go_enter Tryz.func161, Tryz.ntmps161
 go_wp2_with (go_at_call 185; refine (lcut_any d hs _).mono ?_; rintro e w' ⟨rfl, n, rfl⟩)
 go_ret3
 exact ⟨rfl, n, rfl⟩
theorem cut_bel (d : ByteArray) (hs : d.size ≤ maxLen) (w : World) :
  Calls Tryz.prog 161 #[.string d, .string ⟨#[58]⟩] w fun e w' => e = .returned (.tuple #[.string (cutA d), .string (cutB d), .bool (cutF d)]) ∧ Below w.heap.size w w' :=
 (cut_any d hs w).mono fun e w' ⟨he, n, hn⟩ => ⟨he, by subst hn; exact bdrewN (Below.refl _ _) n⟩
end Go.Proofs.YtcmjhjnpcogmgaaGreatDoor
