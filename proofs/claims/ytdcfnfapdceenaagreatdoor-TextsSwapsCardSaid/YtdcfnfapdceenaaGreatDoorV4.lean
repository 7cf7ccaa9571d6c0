/- Parts of the contract of value.Compare: of any two values -1, 0 or 1. New memory alone is made. No condition but that the numbers are int64. -/
import Derived.Test.YtdcfnfapdceenaaGreatDoorV3
import Derived.Test.YtdcfnfapdceenaaGreatDoorVO
import Derived.Deep.RegionHeld3
namespace Go.Proofs.YtdcfnfapdceenaaGreatDoor
open Go.RowKit
set_option linter.all false
/-- A tag, or another one in Blank's place. -/
def fillT (t x : Int) : Int := if t = 0 then x else t
theorem may_cases {t n : Int} {s : ByteArray} {b : Bool} {c : Int} (h : mayB t n s b c = true) (h4 : ¬ t = 4) :
    (t = 0 ∧ n = 0 ∧ s = ⟨#[]⟩ ∧ b = false ∧ c = 0) ∨ (t = 1 ∧ s = ⟨#[]⟩ ∧ b = false ∧ c = 0) ∨ (t = 2 ∧ n = 0 ∧ b = false ∧ c = 0) ∨ (t = 3 ∧ n = 0 ∧ s = ⟨#[]⟩ ∧ c = 0) := by
  unfold mayB at h
  obtain ⟨h1, h2, h3, h5, h6, h7, _, _⟩ := of_decide_eq_true h
  have ht : t = 0 ∨ t = 1 ∨ t = 2 ∨ t = 3 := by omega
  rcases ht with rfl | rfl | rfl | rfl
  · exact .inl ⟨rfl, h1 (by decide), h2 (by decide), h3 (by decide), h5 (by decide)⟩
  · exact .inr (.inl ⟨rfl, h2 (by decide), h3 (by decide), h5 (by decide)⟩)
  · exact .inr (.inr (.inl ⟨rfl, h1 (by decide), h3 (by decide), h5 (by decide)⟩))
  · exact .inr (.inr (.inr ⟨rfl, h1 (by decide), h2 (by decide), h5 (by decide)⟩))
theorem may_c {t n : Int} {s : ByteArray} {b : Bool} {c : Int} (h : mayB t n s b c = true) : (t = 4 → ¬ c = 0) ∧ (¬ t = 4 → c = 0) := by
  unfold mayB at h
  obtain ⟨h1, h2, h3, h5, h6, h7, _, h8⟩ := of_decide_eq_true h
  exact ⟨fun h => by have := h8 h; omega, h5⟩
theorem wrong_ne {t n : Int} {s : ByteArray} {b : Bool} {c : Int} (h : ¬ (mayB t n s b c = true ∧ ¬ t = 4)) : (wrongC t n s b c != 0) = true := by
  by_cases hm : mayB t n s b c = true
  · have h4 : t = 4 := Decidable.byContradiction fun k => h ⟨hm, k⟩
    rw [wrong_t hm]; simpa using (may_c hm).1 h4
  · rw [wrong_f (by simpa using hm)]; rfl
theorem wrong_0 {t n : Int} {s : ByteArray} {b : Bool} {c : Int} (hm : mayB t n s b c = true) (h4 : ¬ t = 4) : wrongC t n s b c = 0 := by
  rw [wrong_t hm]; exact (may_c hm).2 h4
theorem toList_iff (s s' : ByteArray) : s = s' ↔ s.toList = s'.toList := ⟨fun h => by rw [h], toList_inj⟩
end Go.Proofs.YtdcfnfapdceenaaGreatDoor
