/- The contract of strings.Cut at a exclamation mark, for every text: what stands ahead of the first exclamation mark, what behind it, whether there is one. Nothing is written (an order is drawn). -/
import Derived.Test.YtaamphdihmghhaaDoorA1
import Derived.Test.YtaamphdihmghhaaDoorShelfX
import Derived.Lib.IndexLaws
import Derived.Laws.Cover1
namespace Go.Proofs.YtaamphdihmghhaaDoor
open Go.Shelf Go.RowKit
set_option linter.all false

/-- Where the first exclamation mark stands; -1: nowhere. -/
def fxAt (d : ByteArray) : Int := Lib.indexByte d.data.toList 33
def fxF (d : ByteArray) : Bool := decide (0 ≤ fxAt d)
def fxA (d : ByteArray) : ByteArray := if 0 ≤ fxAt d then d.extract 0 (fxAt d).toNat else d
def fxB (d : ByteArray) : ByteArray := if 0 ≤ fxAt d then d.extract ((fxAt d).toNat + 1) d.size else ⟨#[]⟩
theorem fxAt_lt (d : ByteArray) (h : 0 ≤ fxAt d) : (fxAt d).toNat < d.size := by
  have e : Lib.indexByte d.data.toList 33 = ((fxAt d).toNat : Nat) := by show fxAt d = _; omega
  have h1 := (Lib.indexByte_some e).1
  have h2 := List.getElem?_eq_some_iff.1 h1
  obtain ⟨h3, _⟩ := h2
  simpa using h3
theorem fxAt_ge (d : ByteArray) : -1 ≤ fxAt d := Lib.indexByte_ge _ _
theorem index_fx (d : ByteArray) (i : Int) (hi : fxAt d = i) (w : World) :
    Calls Tryd.prog 60 #[.string d, .string ⟨#[33]⟩] w fun e w' => e = .returned (.int .i64 i) ∧ w' = w := by
  subst hi; exact Any.stringslite_Index_one Tryd.lays219 d 33 w
theorem lfx_yes (d : ByteArray) (k : Nat) (hk : fxAt d = k) (hlt : k < d.size) (hs : d.size ≤ maxLen) (w : World) :
    Calls Tryd.prog 58 #[.string d, .string ⟨#[33]⟩] w fun e w' => e = .returned (.tuple #[.string (d.extract 0 k), .string (d.extract (k + 1) d.size), .bool true]) ∧ ∃ n, w' = w.drewN n := by
  unfold maxLen at hs
  have hlt' : (k : Int) < d.size := by omega
  go_enter Tryd.func58, Tryd.ntmps58
  go_wp2_with (go_at_call 60; refine (index_fx d k hk _).mono ?_; rintro e w' ⟨rfl, rfl⟩)
  go_quiet (fail)
  go_wp2
  go_ret3
  exact ⟨rfl, nq, rfl⟩
theorem lfx_no (d : ByteArray) (hk : fxAt d = -1) (w : World) :
    Calls Tryd.prog 58 #[.string d, .string ⟨#[33]⟩] w fun e w' => e = .returned (.tuple #[.string d, .string ⟨#[]⟩, .bool false]) ∧ ∃ n, w' = w.drewN n := by
  go_enter Tryd.func58, Tryd.ntmps58
  go_wp2_with (go_at_call 60; refine (index_fx d (-1) hk _).mono ?_; rintro e w' ⟨rfl, rfl⟩)
  go_ret3
  exact ⟨rfl, 0, rfl⟩
theorem lfx_any (d : ByteArray) (hs : d.size ≤ maxLen) (w : World) :
    Calls Tryd.prog 58 #[.string d, .string ⟨#[33]⟩] w fun e w' => e = .returned (.tuple #[.string (fxA d), .string (fxB d), .bool (fxF d)]) ∧ ∃ n, w' = w.drewN n := by
  by_cases h : 0 ≤ fxAt d
  · have e1 : fxA d = d.extract 0 (fxAt d).toNat := by unfold fxA; rw [if_pos h]
    have e2 : fxB d = d.extract ((fxAt d).toNat + 1) d.size := by unfold fxB; rw [if_pos h]
    have e3 : fxF d = true := by unfold fxF; simp [h]
    rw [e1, e2, e3]
    exact lfx_yes d (fxAt d).toNat (by omega) (fxAt_lt d h) hs w
  · have e1 : fxA d = d := by unfold fxA; rw [if_neg h]
    have e2 : fxB d = ⟨#[]⟩ := by unfold fxB; rw [if_neg h]
    have e3 : fxF d = false := by unfold fxF; simp; omega
    rw [e1, e2, e3]
    exact lfx_no d (by have := fxAt_ge d; omega) w
/-- strings.Cut at a exclamation mark. -/
theorem fx_any (d : ByteArray) (hs : d.size ≤ maxLen) (w : World) :
    Calls Tryd.prog 44 #[.string d, .string ⟨#[33]⟩] w fun e w' => e = .returned (.tuple #[.string (fxA d), .string (fxB d), .bool (fxF d)]) ∧ ∃ n, w' = w.drewN n := by
  go_enter Tryd.func44, Tryd.ntmps44
  go_wp2_with (go_at_call 58; refine (lfx_any d hs _).mono ?_; rintro e w' ⟨rfl, n, rfl⟩)
  go_ret3
  exact ⟨rfl, n, rfl⟩
theorem fx_bel (d : ByteArray) (hs : d.size ≤ maxLen) (w : World) :
    Calls Tryd.prog 44 #[.string d, .string ⟨#[33]⟩] w fun e w' => e = .returned (.tuple #[.string (fxA d), .string (fxB d), .bool (fxF d)]) ∧ Below w.heap.size w w' :=
  (fx_any d hs w).mono fun e w' ⟨he, n, hn⟩ => ⟨he, by subst hn; exact bdrewN (Below.refl _ _) n⟩
end Go.Proofs.YtaamphdihmghhaaDoor
