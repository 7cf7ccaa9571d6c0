/- The contract of aggs.place: of every text whether it is a function's name, and its place. Nothing is written. A block of the caller's own that stays as it is while others make new memory: small laws of no function. -/
import Derived.Test.YtcgcnpcimfaecaaGreatDoorQSums
namespace Go.Proofs.YtcgcnpcimfaecaaGreatDoor
open Go.RowKit
set_option linter.all false
/-- The names of the functions, by their places. -/
def nms : List (List UInt8) := [[83, 85, 77], [80, 82, 79, 68], [77, 73, 78], [77, 65, 88], [65, 86, 71], [77, 69, 68, 73, 65, 78], [67, 79, 85, 78, 84], [67, 79, 85, 78, 84, 65], [66, 76, 65, 78, 75, 83], [67, 79, 85, 78, 84, 73, 70], [83, 85, 77, 73, 70], [77, 65, 84, 67, 72], [76, 79, 79, 75, 85, 80], [73, 78, 68, 69, 88], [76, 65, 82, 71, 69], [74, 79, 73, 78], [82, 79, 87, 83], [67, 79, 76, 83]]
/-- A name's place; 18: there is none. -/
def nmI (s : ByteArray) : Nat := nms.idxOf s.data.toList
theorem nm_f {s : ByteArray} {l : List UInt8} (h : ¬ s = ⟨l.toArray⟩) : (s.toList == l) = false := by
  simp only [beq_eq_false_iff_ne, ne_eq]; exact fun k => h (toList_inj (by rw [k, ByteArray.toList_eq]))
theorem nm_n {s : ByteArray} {l : List UInt8} (h : ¬ s = ⟨l.toArray⟩) : (s.data.toList == l) = false := by
  simp only [beq_eq_false_iff_ne, ne_eq]; intro k; apply h; rw [← k]
theorem place_0 (w : World) : Calls Tryz.prog 47 #[.string ⟨#[83, 85, 77]⟩] w fun e w' => e = .returned (.tuple #[.int .i64 0, .bool true]) ∧ w' = w := by
  go_enter Tryz.func47, Tryz.ntmps47
  go_wp2
  go_ret2
  exact ⟨rfl, rfl⟩
theorem place_1 (w : World) : Calls Tryz.prog 47 #[.string ⟨#[80, 82, 79, 68]⟩] w fun e w' => e = .returned (.tuple #[.int .i64 1, .bool true]) ∧ w' = w := by
  go_enter Tryz.func47, Tryz.ntmps47
  go_wp2
  go_ret2
  exact ⟨rfl, rfl⟩
theorem place_2 (w : World) : Calls Tryz.prog 47 #[.string ⟨#[77, 73, 78]⟩] w fun e w' => e = .returned (.tuple #[.int .i64 2, .bool true]) ∧ w' = w := by
  go_enter Tryz.func47, Tryz.ntmps47
  go_wp2
  go_ret2
  exact ⟨rfl, rfl⟩
theorem place_3 (w : World) : Calls Tryz.prog 47 #[.string ⟨#[77, 65, 88]⟩] w fun e w' => e = .returned (.tuple #[.int .i64 3, .bool true]) ∧ w' = w := by
  go_enter Tryz.func47, Tryz.ntmps47
  go_wp2
  go_ret2
  exact ⟨rfl, rfl⟩
theorem place_4 (w : World) : Calls Tryz.prog 47 #[.string ⟨#[65, 86, 71]⟩] w fun e w' => e = .returned (.tuple #[.int .i64 4, .bool true]) ∧ w' = w := by
  go_enter Tryz.func47, Tryz.ntmps47
  go_wp2
  go_ret2
  exact ⟨rfl, rfl⟩
theorem place_5 (w : World) : Calls Tryz.prog 47 #[.string ⟨#[77, 69, 68, 73, 65, 78]⟩] w fun e w' => e = .returned (.tuple #[.int .i64 5, .bool true]) ∧ w' = w := by
  go_enter Tryz.func47, Tryz.ntmps47
  go_wp2
  go_ret2
  exact ⟨rfl, rfl⟩
theorem place_6 (w : World) : Calls Tryz.prog 47 #[.string ⟨#[67, 79, 85, 78, 84]⟩] w fun e w' => e = .returned (.tuple #[.int .i64 6, .bool true]) ∧ w' = w := by
  go_enter Tryz.func47, Tryz.ntmps47
  go_wp2
  go_ret2
  exact ⟨rfl, rfl⟩
theorem place_7 (w : World) : Calls Tryz.prog 47 #[.string ⟨#[67, 79, 85, 78, 84, 65]⟩] w fun e w' => e = .returned (.tuple #[.int .i64 7, .bool true]) ∧ w' = w := by
  go_enter Tryz.func47, Tryz.ntmps47
  go_wp2
  go_ret2
  exact ⟨rfl, rfl⟩
theorem place_8 (w : World) : Calls Tryz.prog 47 #[.string ⟨#[66, 76, 65, 78, 75, 83]⟩] w fun e w' => e = .returned (.tuple #[.int .i64 8, .bool true]) ∧ w' = w := by
  go_enter Tryz.func47, Tryz.ntmps47
  go_wp2
  go_ret2
  exact ⟨rfl, rfl⟩
theorem place_9 (w : World) : Calls Tryz.prog 47 #[.string ⟨#[67, 79, 85, 78, 84, 73, 70]⟩] w fun e w' => e = .returned (.tuple #[.int .i64 9, .bool true]) ∧ w' = w := by
  go_enter Tryz.func47, Tryz.ntmps47
  go_wp2
  go_ret2
  exact ⟨rfl, rfl⟩
theorem place_10 (w : World) : Calls Tryz.prog 47 #[.string ⟨#[83, 85, 77, 73, 70]⟩] w fun e w' => e = .returned (.tuple #[.int .i64 10, .bool true]) ∧ w' = w := by
  go_enter Tryz.func47, Tryz.ntmps47
  go_wp2
  go_ret2
  exact ⟨rfl, rfl⟩
theorem place_11 (w : World) : Calls Tryz.prog 47 #[.string ⟨#[77, 65, 84, 67, 72]⟩] w fun e w' => e = .returned (.tuple #[.int .i64 11, .bool true]) ∧ w' = w := by
  go_enter Tryz.func47, Tryz.ntmps47
  go_wp2
  go_ret2
  exact ⟨rfl, rfl⟩
theorem place_12 (w : World) : Calls Tryz.prog 47 #[.string ⟨#[76, 79, 79, 75, 85, 80]⟩] w fun e w' => e = .returned (.tuple #[.int .i64 12, .bool true]) ∧ w' = w := by
  go_enter Tryz.func47, Tryz.ntmps47
  go_wp2
  go_ret2
  exact ⟨rfl, rfl⟩
theorem place_13 (w : World) : Calls Tryz.prog 47 #[.string ⟨#[73, 78, 68, 69, 88]⟩] w fun e w' => e = .returned (.tuple #[.int .i64 13, .bool true]) ∧ w' = w := by
  go_enter Tryz.func47, Tryz.ntmps47
  go_wp2
  go_ret2
  exact ⟨rfl, rfl⟩
theorem place_14 (w : World) : Calls Tryz.prog 47 #[.string ⟨#[76, 65, 82, 71, 69]⟩] w fun e w' => e = .returned (.tuple #[.int .i64 14, .bool true]) ∧ w' = w := by
  go_enter Tryz.func47, Tryz.ntmps47
  go_wp2
  go_ret2
  exact ⟨rfl, rfl⟩
theorem place_15 (w : World) : Calls Tryz.prog 47 #[.string ⟨#[74, 79, 73, 78]⟩] w fun e w' => e = .returned (.tuple #[.int .i64 15, .bool true]) ∧ w' = w := by
  go_enter Tryz.func47, Tryz.ntmps47
  go_wp2
  go_ret2
  exact ⟨rfl, rfl⟩
theorem place_16 (w : World) : Calls Tryz.prog 47 #[.string ⟨#[82, 79, 87, 83]⟩] w fun e w' => e = .returned (.tuple #[.int .i64 16, .bool true]) ∧ w' = w := by
  go_enter Tryz.func47, Tryz.ntmps47
  go_wp2
  go_ret2
  exact ⟨rfl, rfl⟩
theorem place_17 (w : World) : Calls Tryz.prog 47 #[.string ⟨#[67, 79, 76, 83]⟩] w fun e w' => e = .returned (.tuple #[.int .i64 17, .bool true]) ∧ w' = w := by
  go_enter Tryz.func47, Tryz.ntmps47
  go_wp2
  go_ret2
  exact ⟨rfl, rfl⟩
theorem place_no (s : ByteArray) (w : World) (h0 : (s.toList == [83, 85, 77]) = false) (h1 : (s.toList == [80, 82, 79, 68]) = false) (h2 : (s.toList == [77, 73, 78]) = false) (h3 : (s.toList == [77, 65, 88]) = false) (h4 : (s.toList == [65, 86, 71]) = false) (h5 : (s.toList == [77, 69, 68, 73, 65, 78]) = false) (h6 : (s.toList == [67, 79, 85, 78, 84]) = false) (h7 : (s.toList == [67, 79, 85, 78, 84, 65]) = false) (h8 : (s.toList == [66, 76, 65, 78, 75, 83]) = false) (h9 : (s.toList == [67, 79, 85, 78, 84, 73, 70]) = false) (h10 : (s.toList == [83, 85, 77, 73, 70]) = false) (h11 : (s.toList == [77, 65, 84, 67, 72]) = false) (h12 : (s.toList == [76, 79, 79, 75, 85, 80]) = false) (h13 : (s.toList == [73, 78, 68, 69, 88]) = false) (h14 : (s.toList == [76, 65, 82, 71, 69]) = false) (h15 : (s.toList == [74, 79, 73, 78]) = false) (h16 : (s.toList == [82, 79, 87, 83]) = false) (h17 : (s.toList == [67, 79, 76, 83]) = false) : Calls Tryz.prog 47 #[.string s] w fun e w' => e = .returned (.tuple #[.int .i64 0, .bool false]) ∧ w' = w := by
  go_enter Tryz.func47, Tryz.ntmps47
  go_wp2
  go_ret2
  exact ⟨rfl, rfl⟩
theorem nm_at {s : ByteArray} (h : nmI s < 18) : s = ⟨(nms.getD (nmI s) []).toArray⟩ := by
  unfold nmI at h ⊢
  have e : nms[nms.idxOf s.data.toList]'(by simpa [nms] using h) = s.data.toList := List.getElem_idxOf _
  rw [List.getD_eq_getElem?_getD, List.getElem?_eq_getElem (by simpa [nms] using h), Option.getD_some, e]
theorem nm_le (s : ByteArray) : nmI s ≤ 18 := by
  have := List.idxOf_le_length (a := s.data.toList) (l := nms)
  exact this
theorem nm_no {s : ByteArray} (h : nmI s = 18) (l : List UInt8) (hl : l ∈ nms) : ¬ s = ⟨l.toArray⟩ := by
  rintro rfl
  have h2 := List.idxOf_lt_length_of_mem (a := l) (l := nms) hl
  unfold nmI at h
  simp only [List.toList_toArray] at h
  rw [h] at h2
  exact absurd h2 (by decide)
theorem place_any (s : ByteArray) (w : World) : Calls Tryz.prog 47 #[.string s] w fun e w' => e = .returned (.tuple #[.int .i64 (if nmI s < 18 then (nmI s : Int) else 0), .bool (decide (nmI s < 18))]) ∧ w' = w := by
  by_cases h : nmI s < 18
  · rw [if_pos h, decide_eq_true h]
    have e := nm_at h
    generalize hk : nmI s = k at h e
    clear hk
    subst e
    match k, h with
    | 0, _ => exact place_0 w
    | 1, _ => exact place_1 w
    | 2, _ => exact place_2 w
    | 3, _ => exact place_3 w
    | 4, _ => exact place_4 w
    | 5, _ => exact place_5 w
    | 6, _ => exact place_6 w
    | 7, _ => exact place_7 w
    | 8, _ => exact place_8 w
    | 9, _ => exact place_9 w
    | 10, _ => exact place_10 w
    | 11, _ => exact place_11 w
    | 12, _ => exact place_12 w
    | 13, _ => exact place_13 w
    | 14, _ => exact place_14 w
    | 15, _ => exact place_15 w
    | 16, _ => exact place_16 w
    | 17, _ => exact place_17 w
    | j + 18, h => exact absurd h (by omega)
  · rw [if_neg h, decide_eq_false h]
    have h18 : nmI s = 18 := by have := nm_le s; omega
    exact place_no s w (nm_f (nm_no h18 _ (by decide))) (nm_f (nm_no h18 _ (by decide))) (nm_f (nm_no h18 _ (by decide))) (nm_f (nm_no h18 _ (by decide))) (nm_f (nm_no h18 _ (by decide))) (nm_f (nm_no h18 _ (by decide))) (nm_f (nm_no h18 _ (by decide))) (nm_f (nm_no h18 _ (by decide))) (nm_f (nm_no h18 _ (by decide))) (nm_f (nm_no h18 _ (by decide))) (nm_f (nm_no h18 _ (by decide))) (nm_f (nm_no h18 _ (by decide))) (nm_f (nm_no h18 _ (by decide))) (nm_f (nm_no h18 _ (by decide))) (nm_f (nm_no h18 _ (by decide))) (nm_f (nm_no h18 _ (by decide))) (nm_f (nm_no h18 _ (by decide))) (nm_f (nm_no h18 _ (by decide)))
end Go.Proofs.YtcgcnpcimfaecaaGreatDoor
namespace Go.Proofs.YtcgcnpcimfaecaaGreatDoor
open Go.RowKit
set_option linter.all false
/-- The block holds these cells, and none of them is frozen. -/
structure Own (w : World) (blk : Nat) (A : Array Value) : Prop where
  lt : blk < w.heap.size
  cell : ∀ o, w.cell? ⟨blk, o, none⟩ = A[o]?
  fro : ∀ o, w.frozen? ⟨blk, o, none⟩ = false
theorem Own.keep {W w1 : World} {blk : Nat} {A : Array Value} (h : Own W blk A) (hb : Below W.heap.size W w1) : Own w1 blk A :=
  ⟨Nat.lt_of_lt_of_le h.lt hb.size, fun o => (hb.cell (p := ⟨blk, o, none⟩) h.lt).trans (h.cell o), fun o => (hb.frozen (p := ⟨blk, o, none⟩) h.lt).trans (h.fro o)⟩
theorem Own.new (w : World) (A : Array Value) (T : TypeId) : Own (w.alloc (.cells A T)) w.heap.size A :=
  ⟨by simp, fun o => World.cell?_alloc_new w A T o, fun o => World.frozen?_alloc_new w A T o⟩
theorem Own.past {w : World} {blk : Nat} {A : Array Value} (h : Own w blk A) (x : Obj) : Own (w.alloc x) blk A := h.keep (bal w x)
theorem Own.drew {w : World} {blk : Nat} {A : Array Value} (h : Own w blk A) : Own w.drew blk A := h.keep (Below.refl _ _).drew
theorem Own.new2 (w : World) (x : Obj) (A : Array Value) (T : TypeId) : Own ((w.alloc x).alloc (.cells A T)) (w.heap.size + 1) A := by
  have h := Own.new (w.alloc x) A T
  have e : (w.alloc x).heap.size = w.heap.size + 1 := by simp
  rw [e] at h
  exact h
theorem Own.new3 (w : World) (x y : Obj) (A : Array Value) (T : TypeId) : Own (((w.alloc x).alloc y).alloc (.cells A T)) (w.heap.size + 1 + 1) A := by
  have h := Own.new ((w.alloc x).alloc y) A T
  have e : ((w.alloc x).alloc y).heap.size = w.heap.size + 1 + 1 := by simp
  rw [e] at h
  exact h
end Go.Proofs.YtcgcnpcimfaecaaGreatDoor
