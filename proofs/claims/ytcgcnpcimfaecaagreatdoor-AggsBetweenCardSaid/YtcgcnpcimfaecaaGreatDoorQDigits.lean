/- Contracts of dec.isDigits, dec.count and strings.Cut at a point, for every text: what each returns; nothing is written (Cut draws an order). The condition of count: digits alone, at most 18. The library's contracts of package strings that texts uses, laid at this program: the table of numbers and that the program bears these very bodies. No condition. -/
import Derived.Test.YtcgcnpcimfaecaaGreatDoorQShelfB
import Derived.Test.YtcgcnpcimfaecaaGreatDoorRows
import Derived.WalkKit
import Derived.WalkSpells
import Derived.Outline
import Derived.Deep.QuietTactic
import Derived.BigQuiet
import Derived.Ground.NamesProg
import Derived.Shelf.Strings.OnBuilder
import Derived.Shelf.Strings.Repeat
import Derived.Shelf.Strings.Trim
import Derived.Shelf.Strings.Replace
import Derived.Shelf.Strings.Count
import Derived.Shelf.Strings.Search3
import Derived.Shelf.Strings.Prefix
import Derived.Shelf.Small.Strs
import Derived.Test.YtcgcnpcimfaecaaGreatDoorProg
namespace Go.Proofs.YtcgcnpcimfaecaaGreatDoor
open Go.Shelf Go.RowKit
set_option linter.unusedVariables false

/-- A byte is a digit. -/
def isDig (c : UInt8) : Bool := decide (48 ≤ c.toNat) && decide (c.toNat ≤ 57)
/-- Digits alone. -/
def allDig (s : ByteArray) : Bool := s.data.toList.all isDig
/-- What isDigits tells. -/
def digsB (s : ByteArray) (most : Int) : Bool := decide (1 ≤ s.size) && decide ((s.size : Int) ≤ most) && allDig s
theorem take_snoc (s : ByteArray) (k : Nat) (h : k < s.size) : s.data.toList.take (k + 1) = s.data.toList.take k ++ [s[k]] := by
  rw [List.take_succ_eq_append_getElem (by simpa using h)]; rfl
theorem all_take {s : ByteArray} {k : Nat} (h : k < s.size) : (s.data.toList.take (k + 1)).all isDig = ((s.data.toList.take k).all isDig && isDig s[k]) := by
  rw [take_snoc s k h]; simp

theorem all_false {s : ByteArray} {k : Nat} (h : k < s.size) (hd : isDig s[k] = false) : allDig s = false := by
  unfold allDig
  rw [List.all_eq_false]
  refine ⟨s[k], ?_, by simp [hd]⟩
  have : s[k] = s.data.toList[k]'(by simpa using h) := rfl
  rw [this]; exact List.getElem_mem _
theorem retB {a b : Bool} (h : a = b) : Ending.returned (.bool a) = .returned (.bool b) := by rw [h]
/-- The number that digits tell. -/
def cnt (l : List UInt8) : Nat := l.foldl (fun n c => 10 * n + (c.toNat - 48)) 0
theorem cnt_snoc (l : List UInt8) (c : UInt8) : cnt (l ++ [c]) = 10 * cnt l + (c.toNat - 48) := by simp [cnt]
theorem cnt_lt_go : ∀ (l : List UInt8) (n : Nat), l.all isDig = true → l.foldl (fun n c => 10 * n + (c.toNat - 48)) n < (n + 1) * 10 ^ l.length
  | [], n, _ => by simp
  | c :: l, n, h => by
    simp only [List.all_cons, Bool.and_eq_true] at h
    have hc : c.toNat ≤ 57 := by have := h.1; simp [isDig] at this; omega
    have h1 := cnt_lt_go l (10 * n + (c.toNat - 48)) h.2
    have h2 : (10 * n + (c.toNat - 48) + 1) * 10 ^ l.length ≤ ((n + 1) * 10) * 10 ^ l.length := Nat.mul_le_mul_right _ (by omega)
    rw [List.foldl_cons, List.length_cons, Nat.pow_succ]
    have h3 : (n + 1) * (10 ^ l.length * 10) = ((n + 1) * 10) * 10 ^ l.length := by
      rw [Nat.mul_assoc, Nat.mul_comm (10 ^ l.length) 10]
    omega
theorem cnt_lt (l : List UInt8) (h : l.all isDig = true) : cnt l < 10 ^ l.length := by
  have := cnt_lt_go l 0 h
  simpa [cnt] using this
theorem pow_le18 {n : Nat} (h : n ≤ 18) : 10 ^ n ≤ 1000000000000000000 := by
  have := Nat.pow_le_pow_right (n := 10) (by decide) h
  exact this
end Go.Proofs.YtcgcnpcimfaecaaGreatDoor
namespace Go.Proofs
open Go.Shelf
end Go.Proofs
