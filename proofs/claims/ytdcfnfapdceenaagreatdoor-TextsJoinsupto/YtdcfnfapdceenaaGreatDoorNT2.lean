/- The contracts of package given: how many arguments a function takes, which of them may be, and of slices.Index and slices.Contains at truths. New memory alone is made. The condition: lists of at most 2^47 things. -/
import Derived.Test.YtdcfnfapdceenaaGreatDoorNT1
import Derived.Test.YtdcfnfapdceenaaGreatDoorV2
namespace Go.Proofs.YtdcfnfapdceenaaGreatDoor
open Go.RowKit
set_option linter.all false
def hasB (lo hi n : Int) : Bool := decide (lo ≤ n) && decide (n ≤ hi)
theorem has_lo (lo hi n : Int) (w : World) (h : ¬ lo ≤ n) : Calls Tryz.prog 42 #[.agg #[.int .i64 lo, .int .i64 hi], .int .i64 n] w fun e w' => e = .returned (.bool false) ∧ Below w.heap.size w w' := by
  go_enter Tryz.func42, Tryz.ntmps42
  go_wp2
  go_ret
  exact ⟨rfl, by with_reducible (repeat' first | assumption | exact Below.refl _ _ | refine Below.drew ?_ | refine bdrewN ?_ _ | refine Below.setCell ?_ (by first | exact Nat.le_refl _ | (simp; done) | (simp; omega) | omega) _ | refine Below.alloc ?_ (by first | exact Nat.le_refl _ | (simp; done) | (simp; omega) | omega) _)⟩
theorem has_in (lo hi n : Int) (w : World) (h : lo ≤ n) (h2 : n ≤ hi) : Calls Tryz.prog 42 #[.agg #[.int .i64 lo, .int .i64 hi], .int .i64 n] w fun e w' => e = .returned (.bool true) ∧ Below w.heap.size w w' := by
  go_enter Tryz.func42, Tryz.ntmps42
  go_wp2
  go_ret
  exact ⟨rfl, by with_reducible (repeat' first | assumption | exact Below.refl _ _ | refine Below.drew ?_ | refine bdrewN ?_ _ | refine Below.setCell ?_ (by first | exact Nat.le_refl _ | (simp; done) | (simp; omega) | omega) _ | refine Below.alloc ?_ (by first | exact Nat.le_refl _ | (simp; done) | (simp; omega) | omega) _)⟩
theorem has_hi (lo hi n : Int) (w : World) (h : lo ≤ n) (h2 : ¬ n ≤ hi) : Calls Tryz.prog 42 #[.agg #[.int .i64 lo, .int .i64 hi], .int .i64 n] w fun e w' => e = .returned (.bool false) ∧ Below w.heap.size w w' := by
  go_enter Tryz.func42, Tryz.ntmps42
  go_wp2
  go_ret
  exact ⟨rfl, by with_reducible (repeat' first | assumption | exact Below.refl _ _ | refine Below.drew ?_ | refine bdrewN ?_ _ | refine Below.setCell ?_ (by first | exact Nat.le_refl _ | (simp; done) | (simp; omega) | omega) _ | refine Below.alloc ?_ (by first | exact Nat.le_refl _ | (simp; done) | (simp; omega) | omega) _)⟩
theorem has_any (lo hi n : Int) (w : World) : Calls Tryz.prog 42 #[.agg #[.int .i64 lo, .int .i64 hi], .int .i64 n] w fun e w' => e = .returned (.bool (hasB lo hi n)) ∧ Below w.heap.size w w' := by
  by_cases h : lo ≤ n
  · by_cases h2 : n ≤ hi
    · rw [show hasB lo hi n = true by simp [hasB, h, h2]]; exact has_in lo hi n w h h2
    · rw [show hasB lo hi n = false by simp [hasB, h2]]; exact has_hi lo hi n w h h2
  · rw [show hasB lo hi n = false by simp [hasB, h]]; exact has_lo lo hi n w h
/-- A slice of truths. -/
def bcell1 (b : Bool) : Array Value := #[.bool b]
abbrev BV (w : World) (v : Value) (l : List Bool) : Prop := View bcell1 1 w v l
theorem any_take {α : Type} {p : α → Bool} {l : List α} {i : Nat} {x : α} (h : l[i]? = some x) (h1 : (l.take i).any p = false) (h2 : p x = false) : (l.take (i + 1)).any p = false := by
  rw [List.take_succ, h, List.any_append, h1]; simp [h2]
theorem any_at {α : Type} {p : α → Bool} {l : List α} {i : Nat} {x : α} (h : l[i]? = some x) (h2 : p x = true) : l.any p = true := by
  rw [List.any_eq_true]; exact ⟨x, List.mem_of_getElem? h, h2⟩
theorem any_all {α : Type} {p : α → Bool} {l : List α} {i : Nat} (h : l.length ≤ i) (h1 : (l.take i).any p = false) : l.any p = false := by
  rwa [List.take_of_length_le h] at h1
set_option maxRecDepth 100000 in
set_option maxHeartbeats 2000000 in
theorem ixb_y (w : World) (b o c n : Nat) (l : List Bool) (hla : b < w.heap.size) (HA : ∀ i x, l[i]? = some x → ∀ j, j < 1 → w.cell? ⟨b, o + i * 1 + j, none⟩ = (bcell1 x)[j]?) (hn : l.length = n) (hc : n ≤ c) (h0 : 0 < n) (hl : n ≤ 9223372036854775807) :
    Calls Tryz.prog 90 #[.slice (some ⟨b, o, none⟩) n c, .bool true] w fun e w' => (∃ r : Int, e = .returned (.int .i64 r) ∧ decide (0 ≤ r) = l.any id) ∧ Below w.heap.size w w' := by
  have mixed : Tryz.prog.follows .mixedOrders = true := by kernel_rfl
  have HA' : Hid _ := HA
  have HL : Hid (l.length = n) := hn
  clear HA hn
  go_enter Tryz.func90, Tryz.ntmps90
  go_wp2
  go_loopw [8] (fun v w' => ∃ i : Nat, v = .int .i64 i ∧ i ≤ n ∧ Hid ((l.take i).any id = false) ∧ ∃ m, w' = w.drewN m) (fun v _ => n - (intOf v).toNat)
  case atStart => exact ⟨0, rfl, by omega, rfl, 0, rfl⟩
  case round =>
    obtain ⟨i, rfl, hi, htk, m, rfl⟩ := hrel
    by_cases hlt : i < n
    · have hlt' : (i : Int) < n := by omega
      have hai : l[i]? = some (l[i]'(by rw [HL.out]; exact hlt)) := List.getElem?_eq_getElem _
      have ca' := HA'.out i _ hai 0 (by decide)
      have HAi : Hid _ := hai
      revert ca' HAi
      generalize (l[i]'(by rw [HL.out]; exact hlt)) = x
      intro ca' HAi
      clear hai
      have x0 : w.cell? ⟨b, o + i, none⟩ = some (.bool x) := by simpa [bcell1] using ca'
      clear ca'
      cases x
      · go_wp2
        exact ⟨⟨i + 1, by go_num, by omega, any_take HAi.out htk.out rfl, _, rfl⟩, by simp [intOf]; omega⟩
      · go_wp2
        go_ret
        exact ⟨⟨_, rfl, by rw [any_at HAi.out rfl]; simp⟩, by with_reducible (repeat' first | assumption | exact Below.refl _ _ | refine Below.drew ?_ | refine bdrewN ?_ _ | refine Below.setCell ?_ (by first | exact Nat.le_refl _ | (simp; done) | (simp; omega) | omega) _ | refine Below.alloc ?_ (by first | exact Nat.le_refl _ | (simp; done) | (simp; omega) | omega) _)⟩
    · have hlt' : ¬ (i : Int) < n := by omega
      go_wp2
      go_ret
      exact ⟨⟨_, rfl, by rw [any_all (by rw [HL.out]; omega) htk.out]; rfl⟩, by with_reducible (repeat' first | assumption | exact Below.refl _ _ | refine Below.drew ?_ | refine bdrewN ?_ _ | refine Below.setCell ?_ (by first | exact Nat.le_refl _ | (simp; done) | (simp; omega) | omega) _ | refine Below.alloc ?_ (by first | exact Nat.le_refl _ | (simp; done) | (simp; omega) | omega) _)⟩
end Go.Proofs.YtdcfnfapdceenaaGreatDoor
