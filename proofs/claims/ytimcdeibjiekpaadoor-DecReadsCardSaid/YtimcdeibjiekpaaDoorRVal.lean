/- What the document's Parse adds up: digits of a text as a number; bounds. -/
import Derived.Test.YtimcdeibjiekpaaDoorRDigits
import Derived.Test.YtimcdeibjiekpaaDoorRRound
namespace Go.Proofs.YtimcdeibjiekpaaDoor
open Go.Shelf Go.RowKit
set_option linter.unusedVariables false
/-- What 'digits' answers. -/
def DigIs (s : ByteArray) (at_ n : Nat) : Prop := ∀ w, Calls Tryd.prog 59 #[.string s, .int .i64 at_] w fun e w' => e = .returned (.int .i64 n) ∧ w' = w
def DigAt (s : ByteArray) (x : Int) (n : Nat) : Prop := ∀ w, Calls Tryd.prog 59 #[.string s, .int .i64 x] w fun e w' => e = .returned (.int .i64 n) ∧ w' = w
/-- A digit of a text, as a number. -/
def dgt (s : ByteArray) (i : Nat) : Nat := if h : i < s.size then s[i].toNat - 48 else 0
/-- The first j digits from a place on, as a number. -/
def val (s : ByteArray) (at_ : Nat) : Nat → Nat
  | 0 => 0
  | j + 1 => 10 * val s at_ j + dgt s (at_ + j)
theorem dgt_is {s : ByteArray} {i : Nat} (h : i < s.size) : dgt s i = s[i].toNat - 48 := by unfold dgt; rw [dif_pos h]
theorem val_lt (s : ByteArray) (at_ : Nat) (j : Nat) (h : ∀ k, (hk : at_ + k < s.size) → k < j → isDig s[at_ + k] = true) : val s at_ j < p10 j := by
  induction j with
  | zero => simp [val, p10_zero]
  | succ j ih =>
    have h1 := ih fun k hk hkj => h k hk (by omega)
    have h2 : dgt s (at_ + j) ≤ 9 := by
      unfold dgt; split
      · rename_i hk
        have := h j hk (by omega)
        simp [isDig] at this; omega
      · omega
    rw [p10_succ]; simp only [val]; omega
/-- With i digits more behind the point, r of which are there. -/
def fv (n0 : Nat) (s : ByteArray) (a r : Nat) : Nat → Nat
  | 0 => n0
  | i + 1 => 10 * fv n0 s a r i + (if i < r then dgt s (a + i) else 0)
theorem fv_lt (n0 : Nat) (s : ByteArray) (a r : Nat) (h : ∀ k, (hk : a + k < s.size) → k < r → isDig s[a + k] = true) (h0 : n0 < 1000000000000000) : ∀ i, i ≤ 4 → fv n0 s a r i < 1000000000000000 * p10 i
  | 0, _ => by rw [p10_zero]; simpa [fv] using h0
  | i + 1, hi => by
    have h1 := fv_lt n0 s a r h h0 i (by omega)
    have h2 : (if i < r then dgt s (a + i) else 0) ≤ 9 := by
      split
      · rename_i hir
        unfold dgt; split
        · rename_i hk
          have := h i hk hir
          simp [isDig] at this; omega
        · omega
      · omega
    rw [p10_succ]; simp only [fv]; omega
theorem ret2b {k : IntKind} {a b : Int} {o : Bool} (h : a = b) : Ending.returned (.tuple #[.int k a, .bool o]) = .returned (.tuple #[.int k b, .bool o]) := by rw [h]
end Go.Proofs.YtimcdeibjiekpaaDoor
