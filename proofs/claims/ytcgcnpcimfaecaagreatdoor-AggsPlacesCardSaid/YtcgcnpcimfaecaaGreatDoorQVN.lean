/- The names of the codes: what the row's list of tables gives to the walks; the contracts of Name (of package value and of the document's answer): of every code the same name. The condition: the program's own table of names lies as its initialiser lays it. The contracts of Name and Named (of package value and of the document's answer): of every code the same name, of every text the same code and truth; new memory alone is made. The condition: the program's own table of names lies as its initialiser lays it. -/
import Derived.Test.YtcgcnpcimfaecaaGreatDoorQSums
import Derived.Lib.LaidTab
import Derived.Lib.SmallJoins
import Derived.WalkSmall
import Derived.Lib.Walk
import Derived.Lib.ItoaMem
namespace Go.Proofs.YtcgcnpcimfaecaaGreatDoor
open Go.RowKit
set_option linter.all false
/-- An array of strings that reads as a list of texts holds these texts, cell for cell. -/
theorem cells_of_strs {H : Type} {enc : TypeId × Value → H} {P : Program} {w : World} {base : Nat} {sp : Nat → Bool} {held : Bool} {fuel : Nat} {t e : TypeId} {n : Nat} {cs : List Value} {zs : List (List UInt8)} {p : List MemPlace}
    (ht : P.underlying t = some (.array n e)) (he : P.underlying e = some .string) (hce : P.cellsOf e = 1) (hct : P.cellsOf t = n)
    (h : DataW.trod enc P w base sp held fuel t cs = some (.agg (zs.map fun z => .lit (.string z)), p)) : cs = zs.map fun z => Value.string ⟨z.toArray⟩ := by
  cases fuel with
  | zero => simp [DataW.trod] at h
  | succ fuel =>
    simp only [DataW.trod, ht, hce, hct, Nat.mul_one] at h
    split at h
    · rename_i hl
      obtain ⟨xs, hm, hx⟩ := Option.map_eq_some_iff.1 h
      have hxs : xs.map (·.1) = zs.map fun z => (DataW.lit (.string z) : DataW H) := by
        have := congrArg Prod.fst hx
        simpa using this
      have hxl : xs.length = n := by simpa using Lib.mapM_length hm
      have hzl : zs.length = n := by
        have := congrArg List.length hxs
        simp at this
        omega
      apply List.ext_getElem?
      intro i
      by_cases hi : i < n
      · obtain ⟨y, hy, hf⟩ := Lib.mapM_at hm i i (by simp [hi])
        obtain ⟨z, hc, rfl, _⟩ := DataW.trod_string he hf
        have h1 : cs[i]? = some (.string z) := by
          have := congrArg (·[0]?) hc
          simpa [List.getElem?_take, List.getElem?_drop] using this
        have h2 : (xs.map (·.1))[i]? = some (DataW.lit (.string z.data.toList) : DataW H) := by simp [hy]
        rw [hxs] at h2
        simp only [List.getElem?_map, Option.map_eq_some_iff, DataW.lit.injEq, Lit.string.injEq] at h2
        obtain ⟨z', hz', hz2⟩ := h2
        rw [h1, List.getElem?_map, hz', hz2]
        rfl
      · rw [List.getElem?_eq_none (by omega), List.getElem?_eq_none (by simp; omega)]
    · cases h
def namesL : List (List UInt8) := [[], [35, 67, 89, 67, 76, 69, 33], [35, 78, 85, 77, 33], [35, 68, 73, 86, 33], [35, 84, 89, 80, 69, 33], [35, 82, 65, 78, 71, 69, 33], [35, 77, 73, 83, 83, 33], [35, 76, 79, 78, 71, 33], [35, 65, 82, 71, 33]]
theorem cellsStr : Tryz.prog.cellsOf 9 = 1 := by kernel_rfl
/-- The program's table of names lies as it is laid. -/
abbrev Nam (w : World) : Prop := w.var? Tryz.prog "oriel/value.names" = some (namesL.map fun z => Value.string ⟨z.toArray⟩).toArray
/-- A code's name. -/
def nameB (c : Int) : ByteArray := if c = 1 then ⟨#[35, 67, 89, 67, 76, 69, 33]⟩ else if c = 2 then ⟨#[35, 78, 85, 77, 33]⟩ else if c = 3 then ⟨#[35, 68, 73, 86, 33]⟩ else if c = 4 then ⟨#[35, 84, 89, 80, 69, 33]⟩ else if c = 5 then ⟨#[35, 82, 65, 78, 71, 69, 33]⟩ else if c = 6 then ⟨#[35, 77, 73, 83, 83, 33]⟩ else if c = 7 then ⟨#[35, 76, 79, 78, 71, 33]⟩ else if c = 8 then ⟨#[35, 65, 82, 71, 33]⟩ else ⟨#[]⟩
end Go.Proofs.YtcgcnpcimfaecaaGreatDoor
namespace Go.Proofs.YtcgcnpcimfaecaaGreatDoor
open Go.RowKit
set_option linter.all false
/-- The code of a name, or 0. -/
def namedC (s : ByteArray) : Int := if nameB 1 = s then 1 else if nameB 2 = s then 2 else if nameB 3 = s then 3 else if nameB 4 = s then 4 else if nameB 5 = s then 5 else if nameB 6 = s then 6 else if nameB 7 = s then 7 else if nameB 8 = s then 8 else 0
def namedOk (s : ByteArray) : Bool := decide (namedC s ≠ 0)
def notUpto (s : ByteArray) (k : Nat) : Prop := ∀ j : Nat, j < k → ¬ nameB ((j : Int) + 1) = s
theorem named_hit (s : ByteArray) (k : Nat) (hk : k < 8) (hn : notUpto s k) (h : nameB ((k : Int) + 1) = s) : namedC s = (k : Int) + 1 := by
  obtain rfl | rfl | rfl | rfl | rfl | rfl | rfl | rfl : k = 0 ∨ k = 1 ∨ k = 2 ∨ k = 3 ∨ k = 4 ∨ k = 5 ∨ k = 6 ∨ k = 7 := by omega
  · unfold namedC; rw [if_pos (show nameB 1 = s from h)]; rfl
  · unfold namedC; rw [if_neg (show ¬ nameB 1 = s from hn 0 (by decide)), if_pos (show nameB 2 = s from h)]; rfl
  · unfold namedC; rw [if_neg (show ¬ nameB 1 = s from hn 0 (by decide)), if_neg (show ¬ nameB 2 = s from hn 1 (by decide)), if_pos (show nameB 3 = s from h)]; rfl
  · unfold namedC; rw [if_neg (show ¬ nameB 1 = s from hn 0 (by decide)), if_neg (show ¬ nameB 2 = s from hn 1 (by decide)), if_neg (show ¬ nameB 3 = s from hn 2 (by decide)), if_pos (show nameB 4 = s from h)]; rfl
  · unfold namedC; rw [if_neg (show ¬ nameB 1 = s from hn 0 (by decide)), if_neg (show ¬ nameB 2 = s from hn 1 (by decide)), if_neg (show ¬ nameB 3 = s from hn 2 (by decide)), if_neg (show ¬ nameB 4 = s from hn 3 (by decide)), if_pos (show nameB 5 = s from h)]; rfl
  · unfold namedC; rw [if_neg (show ¬ nameB 1 = s from hn 0 (by decide)), if_neg (show ¬ nameB 2 = s from hn 1 (by decide)), if_neg (show ¬ nameB 3 = s from hn 2 (by decide)), if_neg (show ¬ nameB 4 = s from hn 3 (by decide)), if_neg (show ¬ nameB 5 = s from hn 4 (by decide)), if_pos (show nameB 6 = s from h)]; rfl
  · unfold namedC; rw [if_neg (show ¬ nameB 1 = s from hn 0 (by decide)), if_neg (show ¬ nameB 2 = s from hn 1 (by decide)), if_neg (show ¬ nameB 3 = s from hn 2 (by decide)), if_neg (show ¬ nameB 4 = s from hn 3 (by decide)), if_neg (show ¬ nameB 5 = s from hn 4 (by decide)), if_neg (show ¬ nameB 6 = s from hn 5 (by decide)), if_pos (show nameB 7 = s from h)]; rfl
  · unfold namedC; rw [if_neg (show ¬ nameB 1 = s from hn 0 (by decide)), if_neg (show ¬ nameB 2 = s from hn 1 (by decide)), if_neg (show ¬ nameB 3 = s from hn 2 (by decide)), if_neg (show ¬ nameB 4 = s from hn 3 (by decide)), if_neg (show ¬ nameB 5 = s from hn 4 (by decide)), if_neg (show ¬ nameB 6 = s from hn 5 (by decide)), if_neg (show ¬ nameB 7 = s from hn 6 (by decide)), if_pos (show nameB 8 = s from h)]; rfl
theorem named_miss (s : ByteArray) (hn : notUpto s 8) : namedC s = 0 := by
  unfold namedC; rw [if_neg (show ¬ nameB 1 = s from hn 0 (by decide)), if_neg (show ¬ nameB 2 = s from hn 1 (by decide)), if_neg (show ¬ nameB 3 = s from hn 2 (by decide)), if_neg (show ¬ nameB 4 = s from hn 3 (by decide)), if_neg (show ¬ nameB 5 = s from hn 4 (by decide)), if_neg (show ¬ nameB 6 = s from hn 5 (by decide)), if_neg (show ¬ nameB 7 = s from hn 6 (by decide)), if_neg (show ¬ nameB 8 = s from hn 7 (by decide))]
theorem named_ok (s : ByteArray) (k : Nat) (h : namedC s = (k : Int) + 1) : namedOk s = true := by unfold namedOk; rw [h]; simp; omega
theorem named_no (s : ByteArray) (h : namedC s = 0) : namedOk s = false := by unfold namedOk; rw [h]; rfl
theorem toL_t {a s : ByteArray} (h : a = s) : (a.toList == s.toList) = true := by rw [h]; simp
theorem toL_inj {s s' : ByteArray} (h : s.toList = s'.toList) : s = s' := by
  rw [ByteArray.toList_eq, ByteArray.toList_eq] at h
  obtain ⟨⟨x⟩⟩ := s
  obtain ⟨⟨y⟩⟩ := s'
  simp at h
  rw [h]
theorem toL_f {a s : ByteArray} (h : ¬ a = s) : (a.toList == s.toList) = false := by simp; exact fun k => h (toL_inj k)
theorem retIB {k : IntKind} {a b : Int} {x y : Bool} (h : a = b) (h' : x = y) : Ending.returned (.tuple #[.int k a, .bool x]) = .returned (.tuple #[.int k b, .bool y]) := by rw [h, h']
/-- The document's list of names. -/
def rn : Array Value := #[.string (nameB 1), .string (nameB 2), .string (nameB 3), .string (nameB 4), .string (nameB 5), .string (nameB 6), .string (nameB 7), .string (nameB 8)]
theorem rn_eq : (#[.string ⟨#[35, 67, 89, 67, 76, 69, 33]⟩, .string ⟨#[35, 78, 85, 77, 33]⟩, .string ⟨#[35, 68, 73, 86, 33]⟩, .string ⟨#[35, 84, 89, 80, 69, 33]⟩, .string ⟨#[35, 82, 65, 78, 71, 69, 33]⟩, .string ⟨#[35, 77, 73, 83, 83, 33]⟩, .string ⟨#[35, 76, 79, 78, 71, 33]⟩, .string ⟨#[35, 65, 82, 71, 33]⟩] : Array Value) = rn := by
  unfold rn nameB; simp
theorem rn_at (k : Nat) (h : k < 8) : rn[k]? = some (.string (nameB ((k : Int) + 1))) := by
  obtain rfl | rfl | rfl | rfl | rfl | rfl | rfl | rfl : k = 0 ∨ k = 1 ∨ k = 2 ∨ k = 3 ∨ k = 4 ∨ k = 5 ∨ k = 6 ∨ k = 7 := by omega
  · rfl
  · rfl
  · rfl
  · rfl
  · rfl
  · rfl
  · rfl
  · rfl
end Go.Proofs.YtcgcnpcimfaecaaGreatDoor
