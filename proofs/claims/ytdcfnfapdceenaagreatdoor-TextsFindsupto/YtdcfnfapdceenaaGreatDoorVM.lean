/- The contracts of Name and Named (of package value and of the document's answer): of every code the same name, of every text the same code and truth; new memory alone is made. The condition: the program's own table of names lies as its initialiser lays it. -/
import Derived.Test.YtdcfnfapdceenaaGreatDoorVN
import Derived.Lib.Walk
import Derived.Lib.ItoaMem
namespace Go.Proofs.YtdcfnfapdceenaaGreatDoor
open Go.RowKit
set_option linter.all false
/-- The code of a name, or 0. -/
def namedC (s : ByteArray) : Int := if nameB 1 = s then 1 else if nameB 2 = s then 2 else if nameB 3 = s then 3 else if nameB 4 = s then 4 else if nameB 5 = s then 5 else if nameB 6 = s then 6 else if nameB 7 = s then 7 else if nameB 8 = s then 8 else 0
def namedOk (s : ByteArray) : Bool := decide (namedC s ≠ 0)
def notUpto (s : ByteArray) (k : Nat) : Prop := ∀ j : Nat, j < k → ¬ nameB ((j : Int) + 1) = s
theorem named_hit (s : ByteArray) (k : Nat) (hk : k < 8) (hn : notUpto s k) (h : nameB ((k : Int) + 1) = s) : namedC s = (k : Int) + 1 := by
  obtain rfl | rfl | rfl | rfl | rfl | rfl | rfl | rfl : k = 0 ∨ k = 1 ∨ k = 2 ∨ k = 3 ∨ k = 4 ∨ k = 5 ∨ k = 6 ∨ k = 7 := by omega
  · unfold namedC; rw [if_pos (show nameB 1 = s from h)]; rfl
  · unfold namedC; rw [if_neg (show ¬ nameB 1 = s from hn 0 (by decide)), if_pos (show nameB 2 = s from h)]; rfl
  · unfold namedC; rw [if_neg (show ¬ nameB 1 = s from hn 0 (by decide)), if_neg (show ¬ nameB 2 = s from hn 1 (by decide)), if_pos (show nameB 3 = s from h)]; rfl
  · unfold namedC; rw [if_neg (show ¬ nameB 1 = s from hn 0 (by decide)), if_neg (show ¬ nameB 2 = s from hn 1 (by decide)), if_neg (show ¬ nameB 3 = s from hn 2 (by decide)), if_pos (show nameB 4 = s from h)]; rfl
  · unfold namedC; rw [if_neg (show ¬ nameB 1 = s from hn 0 (by decide)), if_neg (show ¬ nameB 2 = s from hn 1 (by decide)), if_neg (show ¬ nameB 3 = s from hn 2 (by decide)), if_neg (show ¬ nameB 4 = s from hn 3 (by decide)), if_pos (show nameB 5 = s from h)]; rfl
  · unfold namedC; rw [if_neg (show ¬ nameB 1 = s from hn 0 (by decide)), if_neg (show ¬ nameB 2 = s from hn 1 (by decide)), if_neg (show ¬ nameB 3 = s from hn 2 (by decide)), if_neg (show ¬ nameB 4 = s from hn 3 (by decide)), if_neg (show ¬ nameB 5 = s from hn 4 (by decide)), if_pos (show nameB 6 = s from h)]; rfl
  · unfold namedC; rw [if_neg (show ¬ nameB 1 = s from hn 0 (by decide)), if_neg (show ¬ nameB 2 = s from hn 1 (by decide)), if_neg (show ¬ nameB 3 = s from hn 2 (by decide)), if_neg (show ¬ nameB 4 = s from hn 3 (by decide)), if_neg (show ¬ nameB 5 = s from hn 4 (by decide)), if_neg (show ¬ nameB 6 = s from hn 5 (by decide)), if_pos (show nameB 7 = s from h)]; rfl
  · unfold namedC; rw [if_neg (show ¬ nameB 1 = s from hn 0 (by decide)), if_neg (show ¬ nameB 2 = s from hn 1 (by decide)), if_neg (show ¬ nameB 3 = s from hn 2 (by decide)), if_neg (show ¬ nameB 4 = s from hn 3 (by decide)), if_neg (show ¬ nameB 5 = s from hn 4 (by decide)), if_neg (show ¬ nameB 6 = s from hn 5 (by decide)), if_neg (show ¬ nameB 7 = s from hn 6 (by decide)), if_pos (show nameB 8 = s from h)]; rfl
theorem named_miss (s : ByteArray) (hn : notUpto s 8) : namedC s = 0 := by
  unfold namedC; rw [if_neg (show ¬ nameB 1 = s from hn 0 (by decide)), if_neg (show ¬ nameB 2 = s from hn 1 (by decide)), if_neg (show ¬ nameB 3 = s from hn 2 (by decide)), if_neg (show ¬ nameB 4 = s from hn 3 (by decide)), if_neg (show ¬ nameB 5 = s from hn 4 (by decide)), if_neg (show ¬ nameB 6 = s from hn 5 (by decide)), if_neg (show ¬ nameB 7 = s from hn 6 (by decide)), if_neg (show ¬ nameB 8 = s from hn 7 (by decide))]
theorem named_ok (s : ByteArray) (k : Nat) (h : namedC s = (k : Int) + 1) : namedOk s = true := by unfold namedOk; rw [h]; simp; omega
theorem named_no (s : ByteArray) (h : namedC s = 0) : namedOk s = false := by unfold namedOk; rw [h]; rfl
theorem toL_t {a s : ByteArray} (h : a = s) : (a.toList == s.toList) = true := by rw [h]; simp
theorem toL_inj {s s' : ByteArray} (h : s.toList = s'.toList) : s = s' := by
  rw [ByteArray.toList_eq, ByteArray.toList_eq] at h
  obtain ⟨⟨x⟩⟩ := s
  obtain ⟨⟨y⟩⟩ := s'
  simp at h
  rw [h]
theorem toL_f {a s : ByteArray} (h : ¬ a = s) : (a.toList == s.toList) = false := by simp; exact fun k => h (toL_inj k)
theorem retIB {k : IntKind} {a b : Int} {x y : Bool} (h : a = b) (h' : x = y) : Ending.returned (.tuple #[.int k a, .bool x]) = .returned (.tuple #[.int k b, .bool y]) := by rw [h, h']
/-- The document's list of names. -/
def rn : Array Value := #[.string (nameB 1), .string (nameB 2), .string (nameB 3), .string (nameB 4), .string (nameB 5), .string (nameB 6), .string (nameB 7), .string (nameB 8)]
theorem rn_eq : (#[.string ⟨#[35, 67, 89, 67, 76, 69, 33]⟩, .string ⟨#[35, 78, 85, 77, 33]⟩, .string ⟨#[35, 68, 73, 86, 33]⟩, .string ⟨#[35, 84, 89, 80, 69, 33]⟩, .string ⟨#[35, 82, 65, 78, 71, 69, 33]⟩, .string ⟨#[35, 77, 73, 83, 83, 33]⟩, .string ⟨#[35, 76, 79, 78, 71, 33]⟩, .string ⟨#[35, 65, 82, 71, 33]⟩] : Array Value) = rn := by
  unfold rn nameB; simp
theorem rn_at (k : Nat) (h : k < 8) : rn[k]? = some (.string (nameB ((k : Int) + 1))) := by
  obtain rfl | rfl | rfl | rfl | rfl | rfl | rfl | rfl : k = 0 ∨ k = 1 ∨ k = 2 ∨ k = 3 ∨ k = 4 ∨ k = 5 ∨ k = 6 ∨ k = 7 := by omega
  · rfl
  · rfl
  · rfl
  · rfl
  · rfl
  · rfl
  · rfl
  · rfl
end Go.Proofs.YtdcfnfapdceenaaGreatDoor
