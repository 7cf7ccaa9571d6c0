/- The contracts of the document's Wants and Known. Nothing is written. The contract of the document's Takes, told as the program's. New memory alone is made. -/
import Derived.Test.YtcgcnpcimfaecaaGreatDoorQGT9
import Derived.Test.YtcgcnpcimfaecaaGreatDoorQGTr
namespace Go.Proofs.YtcgcnpcimfaecaaGreatDoor
open Go.RowKit
set_option linter.all false
def dkI (k : Nat) : ByteArray := [⟨#[120]⟩, ⟨#[120]⟩, ⟨#[120]⟩, ⟨#[120]⟩, ⟨#[120]⟩, ⟨#[120]⟩, ⟨#[120]⟩, ⟨#[120]⟩, ⟨#[114]⟩, ⟨#[114, 118]⟩, ⟨#[114, 118, 114]⟩, ⟨#[118, 114]⟩, ⟨#[118, 114, 114]⟩, ⟨#[114, 118, 118]⟩, ⟨#[114, 118]⟩, ⟨#[118, 120]⟩, ⟨#[114]⟩, ⟨#[114]⟩].getD k ⟨#[]⟩
def dlI (k : Nat) : Int := [1, 1, 1, 1, 1, 1, 1, 1, 1, 2, 3, 2, 3, 3, 2, 2, 1, 1].getD k 0
def dhI (k : Nat) : Int := [16, 16, 16, 16, 16, 16, 16, 16, 1, 2, 3, 2, 3, 3, 2, 16, 1, 1].getD k 0
theorem wants_0 (w : World) : Calls Tryz.prog 48 #[.string ⟨#[83, 85, 77]⟩] w fun e w' => e = .returned (.tuple #[.string ⟨#[120]⟩, .int .i64 1, .int .i64 16]) ∧ w' = w := by
  go_enter Tryz.func48, Tryz.ntmps48
  go_wp2
  exact bodyPost_ret (v := .tuple #[.string ⟨#[120]⟩, .int .i64 1, .int .i64 16]) (by simp [results, Tryz.results48, go_sem]) rfl ⟨rfl, rfl⟩
theorem wants_1 (w : World) : Calls Tryz.prog 48 #[.string ⟨#[80, 82, 79, 68]⟩] w fun e w' => e = .returned (.tuple #[.string ⟨#[120]⟩, .int .i64 1, .int .i64 16]) ∧ w' = w := by
  go_enter Tryz.func48, Tryz.ntmps48
  go_wp2
  exact bodyPost_ret (v := .tuple #[.string ⟨#[120]⟩, .int .i64 1, .int .i64 16]) (by simp [results, Tryz.results48, go_sem]) rfl ⟨rfl, rfl⟩
theorem wants_2 (w : World) : Calls Tryz.prog 48 #[.string ⟨#[77, 73, 78]⟩] w fun e w' => e = .returned (.tuple #[.string ⟨#[120]⟩, .int .i64 1, .int .i64 16]) ∧ w' = w := by
  go_enter Tryz.func48, Tryz.ntmps48
  go_wp2
  exact bodyPost_ret (v := .tuple #[.string ⟨#[120]⟩, .int .i64 1, .int .i64 16]) (by simp [results, Tryz.results48, go_sem]) rfl ⟨rfl, rfl⟩
theorem wants_3 (w : World) : Calls Tryz.prog 48 #[.string ⟨#[77, 65, 88]⟩] w fun e w' => e = .returned (.tuple #[.string ⟨#[120]⟩, .int .i64 1, .int .i64 16]) ∧ w' = w := by
  go_enter Tryz.func48, Tryz.ntmps48
  go_wp2
  exact bodyPost_ret (v := .tuple #[.string ⟨#[120]⟩, .int .i64 1, .int .i64 16]) (by simp [results, Tryz.results48, go_sem]) rfl ⟨rfl, rfl⟩
theorem wants_4 (w : World) : Calls Tryz.prog 48 #[.string ⟨#[65, 86, 71]⟩] w fun e w' => e = .returned (.tuple #[.string ⟨#[120]⟩, .int .i64 1, .int .i64 16]) ∧ w' = w := by
  go_enter Tryz.func48, Tryz.ntmps48
  go_wp2
  exact bodyPost_ret (v := .tuple #[.string ⟨#[120]⟩, .int .i64 1, .int .i64 16]) (by simp [results, Tryz.results48, go_sem]) rfl ⟨rfl, rfl⟩
theorem wants_5 (w : World) : Calls Tryz.prog 48 #[.string ⟨#[77, 69, 68, 73, 65, 78]⟩] w fun e w' => e = .returned (.tuple #[.string ⟨#[120]⟩, .int .i64 1, .int .i64 16]) ∧ w' = w := by
  go_enter Tryz.func48, Tryz.ntmps48
  go_wp2
  exact bodyPost_ret (v := .tuple #[.string ⟨#[120]⟩, .int .i64 1, .int .i64 16]) (by simp [results, Tryz.results48, go_sem]) rfl ⟨rfl, rfl⟩
theorem wants_6 (w : World) : Calls Tryz.prog 48 #[.string ⟨#[67, 79, 85, 78, 84]⟩] w fun e w' => e = .returned (.tuple #[.string ⟨#[120]⟩, .int .i64 1, .int .i64 16]) ∧ w' = w := by
  go_enter Tryz.func48, Tryz.ntmps48
  go_wp2
  exact bodyPost_ret (v := .tuple #[.string ⟨#[120]⟩, .int .i64 1, .int .i64 16]) (by simp [results, Tryz.results48, go_sem]) rfl ⟨rfl, rfl⟩
theorem wants_7 (w : World) : Calls Tryz.prog 48 #[.string ⟨#[67, 79, 85, 78, 84, 65]⟩] w fun e w' => e = .returned (.tuple #[.string ⟨#[120]⟩, .int .i64 1, .int .i64 16]) ∧ w' = w := by
  go_enter Tryz.func48, Tryz.ntmps48
  go_wp2
  exact bodyPost_ret (v := .tuple #[.string ⟨#[120]⟩, .int .i64 1, .int .i64 16]) (by simp [results, Tryz.results48, go_sem]) rfl ⟨rfl, rfl⟩
theorem wants_8 (w : World) : Calls Tryz.prog 48 #[.string ⟨#[66, 76, 65, 78, 75, 83]⟩] w fun e w' => e = .returned (.tuple #[.string ⟨#[114]⟩, .int .i64 1, .int .i64 1]) ∧ w' = w := by
  go_enter Tryz.func48, Tryz.ntmps48
  go_wp2
  exact bodyPost_ret (v := .tuple #[.string ⟨#[114]⟩, .int .i64 1, .int .i64 1]) (by simp [results, Tryz.results48, go_sem]) rfl ⟨rfl, rfl⟩
theorem wants_9 (w : World) : Calls Tryz.prog 48 #[.string ⟨#[67, 79, 85, 78, 84, 73, 70]⟩] w fun e w' => e = .returned (.tuple #[.string ⟨#[114, 118]⟩, .int .i64 2, .int .i64 2]) ∧ w' = w := by
  go_enter Tryz.func48, Tryz.ntmps48
  go_wp2
  exact bodyPost_ret (v := .tuple #[.string ⟨#[114, 118]⟩, .int .i64 2, .int .i64 2]) (by simp [results, Tryz.results48, go_sem]) rfl ⟨rfl, rfl⟩
theorem wants_10 (w : World) : Calls Tryz.prog 48 #[.string ⟨#[83, 85, 77, 73, 70]⟩] w fun e w' => e = .returned (.tuple #[.string ⟨#[114, 118, 114]⟩, .int .i64 3, .int .i64 3]) ∧ w' = w := by
  go_enter Tryz.func48, Tryz.ntmps48
  go_wp2
  exact bodyPost_ret (v := .tuple #[.string ⟨#[114, 118, 114]⟩, .int .i64 3, .int .i64 3]) (by simp [results, Tryz.results48, go_sem]) rfl ⟨rfl, rfl⟩
theorem wants_11 (w : World) : Calls Tryz.prog 48 #[.string ⟨#[77, 65, 84, 67, 72]⟩] w fun e w' => e = .returned (.tuple #[.string ⟨#[118, 114]⟩, .int .i64 2, .int .i64 2]) ∧ w' = w := by
  go_enter Tryz.func48, Tryz.ntmps48
  go_wp2
  exact bodyPost_ret (v := .tuple #[.string ⟨#[118, 114]⟩, .int .i64 2, .int .i64 2]) (by simp [results, Tryz.results48, go_sem]) rfl ⟨rfl, rfl⟩
theorem wants_12 (w : World) : Calls Tryz.prog 48 #[.string ⟨#[76, 79, 79, 75, 85, 80]⟩] w fun e w' => e = .returned (.tuple #[.string ⟨#[118, 114, 114]⟩, .int .i64 3, .int .i64 3]) ∧ w' = w := by
  go_enter Tryz.func48, Tryz.ntmps48
  go_wp2
  exact bodyPost_ret (v := .tuple #[.string ⟨#[118, 114, 114]⟩, .int .i64 3, .int .i64 3]) (by simp [results, Tryz.results48, go_sem]) rfl ⟨rfl, rfl⟩
theorem wants_13 (w : World) : Calls Tryz.prog 48 #[.string ⟨#[73, 78, 68, 69, 88]⟩] w fun e w' => e = .returned (.tuple #[.string ⟨#[114, 118, 118]⟩, .int .i64 3, .int .i64 3]) ∧ w' = w := by
  go_enter Tryz.func48, Tryz.ntmps48
  go_wp2
  exact bodyPost_ret (v := .tuple #[.string ⟨#[114, 118, 118]⟩, .int .i64 3, .int .i64 3]) (by simp [results, Tryz.results48, go_sem]) rfl ⟨rfl, rfl⟩
theorem wants_14 (w : World) : Calls Tryz.prog 48 #[.string ⟨#[76, 65, 82, 71, 69]⟩] w fun e w' => e = .returned (.tuple #[.string ⟨#[114, 118]⟩, .int .i64 2, .int .i64 2]) ∧ w' = w := by
  go_enter Tryz.func48, Tryz.ntmps48
  go_wp2
  exact bodyPost_ret (v := .tuple #[.string ⟨#[114, 118]⟩, .int .i64 2, .int .i64 2]) (by simp [results, Tryz.results48, go_sem]) rfl ⟨rfl, rfl⟩
theorem wants_15 (w : World) : Calls Tryz.prog 48 #[.string ⟨#[74, 79, 73, 78]⟩] w fun e w' => e = .returned (.tuple #[.string ⟨#[118, 120]⟩, .int .i64 2, .int .i64 16]) ∧ w' = w := by
  go_enter Tryz.func48, Tryz.ntmps48
  go_wp2
  exact bodyPost_ret (v := .tuple #[.string ⟨#[118, 120]⟩, .int .i64 2, .int .i64 16]) (by simp [results, Tryz.results48, go_sem]) rfl ⟨rfl, rfl⟩
theorem wants_16 (w : World) : Calls Tryz.prog 48 #[.string ⟨#[82, 79, 87, 83]⟩] w fun e w' => e = .returned (.tuple #[.string ⟨#[114]⟩, .int .i64 1, .int .i64 1]) ∧ w' = w := by
  go_enter Tryz.func48, Tryz.ntmps48
  go_wp2
  exact bodyPost_ret (v := .tuple #[.string ⟨#[114]⟩, .int .i64 1, .int .i64 1]) (by simp [results, Tryz.results48, go_sem]) rfl ⟨rfl, rfl⟩
theorem wants_17 (w : World) : Calls Tryz.prog 48 #[.string ⟨#[67, 79, 76, 83]⟩] w fun e w' => e = .returned (.tuple #[.string ⟨#[114]⟩, .int .i64 1, .int .i64 1]) ∧ w' = w := by
  go_enter Tryz.func48, Tryz.ntmps48
  go_wp2
  exact bodyPost_ret (v := .tuple #[.string ⟨#[114]⟩, .int .i64 1, .int .i64 1]) (by simp [results, Tryz.results48, go_sem]) rfl ⟨rfl, rfl⟩
theorem wants_no0 (s : ByteArray) (w : World) (h0 : (s.toList == [83, 85, 77]) = false) (h1 : (s.toList == [80, 82, 79, 68]) = false) (h2 : (s.toList == [77, 73, 78]) = false) (h3 : (s.toList == [77, 65, 88]) = false) (h4 : (s.toList == [65, 86, 71]) = false) (h5 : (s.toList == [77, 69, 68, 73, 65, 78]) = false) (h6 : (s.toList == [67, 79, 85, 78, 84]) = false) (h7 : (s.toList == [67, 79, 85, 78, 84, 65]) = false) (h8 : (s.toList == [66, 76, 65, 78, 75, 83]) = false) (h9 : (s.toList == [67, 79, 85, 78, 84, 73, 70]) = false) (h10 : (s.toList == [83, 85, 77, 73, 70]) = false) (h11 : (s.toList == [77, 65, 84, 67, 72]) = false) (h12 : (s.toList == [76, 79, 79, 75, 85, 80]) = false) (h13 : (s.toList == [73, 78, 68, 69, 88]) = false) (h14 : (s.toList == [76, 65, 82, 71, 69]) = false) (h15 : (s.toList == [74, 79, 73, 78]) = false) (h16 : (s.toList == [82, 79, 87, 83]) = false) (h17 : (s.toList == [67, 79, 76, 83]) = false) : Calls Tryz.prog 48 #[.string s] w fun e w' => e = .returned (.tuple #[.string ⟨#[]⟩, .int .i64 0, .int .i64 (-1)]) ∧ w' = w := by
  go_enter Tryz.func48, Tryz.ntmps48
  go_wp2
  exact bodyPost_ret (v := .tuple #[.string ⟨#[]⟩, .int .i64 0, .int .i64 (-1)]) (by simp [results, Tryz.results48, go_sem]) rfl ⟨rfl, rfl⟩
theorem wants_no (s : ByteArray) (w : World) (h : ¬ nmI s < 18) : Calls Tryz.prog 48 #[.string s] w fun e w' => e = .returned (.tuple #[.string ⟨#[]⟩, .int .i64 0, .int .i64 (-1)]) ∧ w' = w := by
  have h18 : nmI s = 18 := by have := nm_le s; omega
  exact wants_no0 s w (nm_f (nm_no h18 _ (by decide))) (nm_f (nm_no h18 _ (by decide))) (nm_f (nm_no h18 _ (by decide))) (nm_f (nm_no h18 _ (by decide))) (nm_f (nm_no h18 _ (by decide))) (nm_f (nm_no h18 _ (by decide))) (nm_f (nm_no h18 _ (by decide))) (nm_f (nm_no h18 _ (by decide))) (nm_f (nm_no h18 _ (by decide))) (nm_f (nm_no h18 _ (by decide))) (nm_f (nm_no h18 _ (by decide))) (nm_f (nm_no h18 _ (by decide))) (nm_f (nm_no h18 _ (by decide))) (nm_f (nm_no h18 _ (by decide))) (nm_f (nm_no h18 _ (by decide))) (nm_f (nm_no h18 _ (by decide))) (nm_f (nm_no h18 _ (by decide))) (nm_f (nm_no h18 _ (by decide)))
theorem wants_any (s : ByteArray) (w : World) (h : nmI s < 18) : Calls Tryz.prog 48 #[.string s] w fun e w' => e = .returned (.tuple #[.string (dkI (nmI s)), .int .i64 (dlI (nmI s)), .int .i64 (dhI (nmI s))]) ∧ w' = w := by
  have e := nm_at h
  generalize nmI s = k at h e ⊢
  subst e
  match k, h with
  | 0, _ => exact wants_0 w
  | 1, _ => exact wants_1 w
  | 2, _ => exact wants_2 w
  | 3, _ => exact wants_3 w
  | 4, _ => exact wants_4 w
  | 5, _ => exact wants_5 w
  | 6, _ => exact wants_6 w
  | 7, _ => exact wants_7 w
  | 8, _ => exact wants_8 w
  | 9, _ => exact wants_9 w
  | 10, _ => exact wants_10 w
  | 11, _ => exact wants_11 w
  | 12, _ => exact wants_12 w
  | 13, _ => exact wants_13 w
  | 14, _ => exact wants_14 w
  | 15, _ => exact wants_15 w
  | 16, _ => exact wants_16 w
  | 17, _ => exact wants_17 w
  | j + 18, h => exact absurd h (by omega)
theorem dh_pos (k : Nat) (h : k < 18) : (0 : Int) < dhI k := by
  match k, h with
  | 0, _ => exact (by decide)
  | 1, _ => exact (by decide)
  | 2, _ => exact (by decide)
  | 3, _ => exact (by decide)
  | 4, _ => exact (by decide)
  | 5, _ => exact (by decide)
  | 6, _ => exact (by decide)
  | 7, _ => exact (by decide)
  | 8, _ => exact (by decide)
  | 9, _ => exact (by decide)
  | 10, _ => exact (by decide)
  | 11, _ => exact (by decide)
  | 12, _ => exact (by decide)
  | 13, _ => exact (by decide)
  | 14, _ => exact (by decide)
  | 15, _ => exact (by decide)
  | 16, _ => exact (by decide)
  | 17, _ => exact (by decide)
  | j + 18, h => exact absurd h (by omega)
theorem rknown_any (s : ByteArray) (w : World) : Calls Tryz.prog 13 #[.string s] w fun e w' => e = .returned (.bool (decide (nmI s < 18))) ∧ w' = w := by
  by_cases h : nmI s < 18
  · rw [decide_eq_true h]
    have hp := dh_pos _ h
    have hw := wants_any s w h
    generalize dhI (nmI s) = hi at hp hw
    generalize dlI (nmI s) = lo at hw
    generalize dkI (nmI s) = kd at hw
    go_enter Tryz.func13, Tryz.ntmps13
    go_wp2_with (go_at_call 48; refine hw.mono ?_; rintro e w5 ⟨rfl, rfl⟩)
    go_ret
    exact ⟨rfl, rfl⟩
  · rw [decide_eq_false h]
    have hw := wants_no s w h
    go_enter Tryz.func13, Tryz.ntmps13
    go_wp2_with (go_at_call 48; refine hw.mono ?_; rintro e w5 ⟨rfl, rfl⟩)
    go_ret
    exact ⟨rfl, rfl⟩
end Go.Proofs.YtcgcnpcimfaecaaGreatDoor
namespace Go.Proofs.YtcgcnpcimfaecaaGreatDoor
open Go.RowKit
set_option linter.all false
/-- Whether a place of a kind may have a rectangle (or a single one), as the document says it. -/
def okD (k : UInt8) (m : Bool) : Bool := !(k == 114 && !m || k == 118 && m)
theorem pl_dk (k : Nat) (h : k < 18) : (plI k).size = (dkI k).size ∧ dlI k = (dkI k).size ∧ dhI k = moI k ∧ 0 < (dkI k).size ∧ (dkI k).size ≤ 16 ∧ moI k ≤ 16 ∧ ∀ j, j < 3 → ∀ m, okK (((plI k).data[j]?).getD 114) m = okD (((dkI k).data[j]?).getD 114) m := by
  match k, h with
  | 0, _ => exact (by decide)
  | 1, _ => exact (by decide)
  | 2, _ => exact (by decide)
  | 3, _ => exact (by decide)
  | 4, _ => exact (by decide)
  | 5, _ => exact (by decide)
  | 6, _ => exact (by decide)
  | 7, _ => exact (by decide)
  | 8, _ => exact (by decide)
  | 9, _ => exact (by decide)
  | 10, _ => exact (by decide)
  | 11, _ => exact (by decide)
  | 12, _ => exact (by decide)
  | 13, _ => exact (by decide)
  | 14, _ => exact (by decide)
  | 15, _ => exact (by decide)
  | 16, _ => exact (by decide)
  | 17, _ => exact (by decide)
  | j + 18, h => exact absurd h (by omega)
theorem ok_same (k : Nat) (h : k < 18) (i : Nat) (m : Bool) : okK (kdB (plI k) i) m = okD (kdB (dkI k) i) m := by
  obtain ⟨e1, _, _, h0, _, _, hj⟩ := pl_dk k h
  have h3 : (dkI k).size ≤ 3 := by
    match k, h with
    | 0, _ => exact (by decide)
    | 1, _ => exact (by decide)
    | 2, _ => exact (by decide)
    | 3, _ => exact (by decide)
    | 4, _ => exact (by decide)
    | 5, _ => exact (by decide)
    | 6, _ => exact (by decide)
    | 7, _ => exact (by decide)
    | 8, _ => exact (by decide)
    | 9, _ => exact (by decide)
    | 10, _ => exact (by decide)
    | 11, _ => exact (by decide)
    | 12, _ => exact (by decide)
    | 13, _ => exact (by decide)
    | 14, _ => exact (by decide)
    | 15, _ => exact (by decide)
    | 16, _ => exact (by decide)
    | 17, _ => exact (by decide)
    | j + 18, h => exact absurd h (by omega)
  have hl : min i ((dkI k).size - 1) < (dkI k).size := by omega
  have q := hj (min i ((dkI k).size - 1)) (by omega) m
  unfold kdB
  rw [e1]
  have a1 : min i ((dkI k).size - 1) < (plI k).data.size := by rw [show (plI k).data.size = (dkI k).size from e1]; exact hl
  have a2 : min i ((dkI k).size - 1) < (dkI k).data.size := hl
  rw [Array.getElem?_eq_getElem a1, Array.getElem?_eq_getElem a2] at q ⊢
  exact q
theorem rtakes_no (s : ByteArray) (w : World) (q : Option Addr) (n c : Nat) (h : ¬ nmI s < 18) : Calls Tryz.prog 15 #[.string s, .slice q n c] w fun e w' => e = .returned (.bool false) ∧ Below w.heap.size w w' := by
  have hw := wants_no s w h
  have e1 : ¬ ((n : Int) < 0) := by omega
  have e2 : (-1 : Int) < (n : Int) := by omega
  go_enter Tryz.func15, Tryz.ntmps15
  go_wp2_with (go_at_call 48; refine hw.mono ?_; rintro e w5 ⟨rfl, rfl⟩)
  go_ret
  exact ⟨rfl, by with_reducible (repeat' first | assumption | exact Below.refl _ _ | refine Below.drew ?_ | refine bdrewN ?_ _ | refine Below.setCell ?_ (by first | exact Nat.le_refl _ | (simp; done) | (simp; omega) | omega) _ | refine Below.alloc ?_ (by first | exact Nat.le_refl _ | (simp; done) | (simp; omega) | omega) _)⟩
theorem rtakes_few (s : ByteArray) (w : World) (q : Option Addr) (n c : Nat) (kd : ByteArray) (lo hi : Int) (hw : Calls Tryz.prog 48 #[.string s] w fun e w' => e = .returned (.tuple #[.string kd, .int .i64 lo, .int .i64 hi]) ∧ w' = w) (h : (n : Int) < lo) : Calls Tryz.prog 15 #[.string s, .slice q n c] w fun e w' => e = .returned (.bool false) ∧ Below w.heap.size w w' := by
  go_enter Tryz.func15, Tryz.ntmps15
  go_wp2_with (go_at_call 48; refine hw.mono ?_; rintro e w5 ⟨rfl, rfl⟩)
  go_ret
  exact ⟨rfl, by with_reducible (repeat' first | assumption | exact Below.refl _ _ | refine Below.drew ?_ | refine bdrewN ?_ _ | refine Below.setCell ?_ (by first | exact Nat.le_refl _ | (simp; done) | (simp; omega) | omega) _ | refine Below.alloc ?_ (by first | exact Nat.le_refl _ | (simp; done) | (simp; omega) | omega) _)⟩
theorem rtakes_more (s : ByteArray) (w : World) (q : Option Addr) (n c : Nat) (kd : ByteArray) (lo hi : Int) (hw : Calls Tryz.prog 48 #[.string s] w fun e w' => e = .returned (.tuple #[.string kd, .int .i64 lo, .int .i64 hi]) ∧ w' = w) (h : ¬ (n : Int) < lo) (h2 : hi < (n : Int)) : Calls Tryz.prog 15 #[.string s, .slice q n c] w fun e w' => e = .returned (.bool false) ∧ Below w.heap.size w w' := by
  go_enter Tryz.func15, Tryz.ntmps15
  go_wp2_with (go_at_call 48; refine hw.mono ?_; rintro e w5 ⟨rfl, rfl⟩)
  go_ret
  exact ⟨rfl, by with_reducible (repeat' first | assumption | exact Below.refl _ _ | refine Below.drew ?_ | refine bdrewN ?_ _ | refine Below.setCell ?_ (by first | exact Nat.le_refl _ | (simp; done) | (simp; omega) | omega) _ | refine Below.alloc ?_ (by first | exact Nat.le_refl _ | (simp; done) | (simp; omega) | omega) _)⟩
set_option maxRecDepth 100000 in
set_option maxHeartbeats 1000000 in
theorem rtakes_in (s : ByteArray) (w : World) (b o c n : Nat) (l : List Bool) (kd : ByteArray) (lo hi : Int) (hw : Calls Tryz.prog 48 #[.string s] w fun e w' => e = .returned (.tuple #[.string kd, .int .i64 lo, .int .i64 hi]) ∧ w' = w) (r : Bool) (hr0 : Hid (∀ i x, l[i]? = some x → okD (kdB kd i) x = false → r = false)) (hr1 : Hid ((∀ i x, l[i]? = some x → okD (kdB kd i) x = true) → r = true)) (hla : b < w.heap.size) (HA : ∀ i x, l[i]? = some x → ∀ j, j < 1 → w.cell? ⟨b, o + i * 1 + j, none⟩ = (bcell1 x)[j]?) (hn : l.length = n) (hc : n ≤ c) (hp : 0 < kd.size) (hp2 : kd.size ≤ 16) (h : ¬ (n : Int) < lo) (h2 : ¬ hi < (n : Int)) (hm : hi ≤ 16) : Calls Tryz.prog 15 #[.string s, .slice (some ⟨b, o, none⟩) n c] w fun e w' => e = .returned (.bool r) ∧ Below w.heap.size w w' := by
  have HA' : Hid _ := HA
  have HL : Hid (l.length = n) := hn
  clear HA hn
  go_enter Tryz.func15, Tryz.ntmps15
  go_wp2_with (go_at_call 48; refine hw.mono ?_; rintro e w5 ⟨rfl, h5⟩; rw [h5]; clear h5 w5)
  go_loopw [8] (fun v w' => ∃ i : Nat, v = .int .i64 i ∧ i ≤ n ∧ Hid (∀ j x, j < i → l[j]? = some x → okD (kdB kd j) x = true) ∧ Below w.heap.size w w') (fun v _ => n - (intOf v).toNat)
  case atStart => exact ⟨0, rfl, by omega, (show Hid _ from fun j x hj => absurd hj (by omega)), by with_reducible (repeat' first | assumption | exact Below.refl _ _ | refine Below.drew ?_ | refine bdrewN ?_ _ | refine Below.setCell ?_ (by first | exact Nat.le_refl _ | (simp; done) | (simp; omega) | omega) _ | refine Below.alloc ?_ (by first | exact Nat.le_refl _ | (simp; done) | (simp; omega) | omega) _)⟩
  case round =>
    obtain ⟨i, rfl, hii, htk, hB3⟩ := hrel
    by_cases hlt : i < n
    · have hlt' : (i : Int) < n := by omega
      have hai : l[i]? = some (l[i]'(by rw [HL.out]; exact hlt)) := List.getElem?_eq_getElem _
      have y0 := HA'.out i _ hai 0 (by decide)
      have HAi : Hid _ := hai
      revert y0 HAi
      generalize (l[i]'(by rw [HL.out]; exact hlt)) = x
      intro y0 HAi
      clear hai
      rw [Nat.mul_one, Nat.add_zero] at y0
      have x0 : wr.cell? ⟨b, o + i, none⟩ = some (.bool x) := (hB3.cell (p := ⟨b, o + i, none⟩) hla).trans y0
      clear y0
      obtain ⟨k, hk⟩ : ∃ k : Nat, min i (kd.size - 1) = k := ⟨_, rfl⟩
      have hks : k < kd.size := by omega
      have hks' : (k : Int) < (kd.size : Int) := by omega
      have hmn : min (i : Int) ((kd.size : Int) - 1) = (k : Int) := by omega
      have e : kdB kd i = kd[k]'hks := by unfold kdB; rw [hk, Array.getElem?_eq_getElem (show k < kd.data.size from hks)]; rfl
      have HT : Hid (okD (kdB kd i) x = true → ∀ j x, j < i + 1 → l[j]? = some x → okD (kdB kd j) x = true) := (show _ from fun ho j x' hj hx' => by
          by_cases e : j < i
          · exact htk.out j x' e hx'
          · have : j = i := by omega
            subst this
            have := HAi.out.symm.trans hx'
            cases this
            exact ho)
      have HF : Hid (okD (kdB kd i) x = false → r = false) := (show _ from fun ho => hr0.out i x HAi.out ho)
      rw [e] at HT HF
      clear e
      generalize hkk : (kd[k]'hks) = kk at HT HF
      have c1 := u8i kk 114 114 rfl
      have c2 := u8i kk 118 118 rfl
      have HO : Hid (okD kk x = !(kk == 114 && !x || kk == 118 && x)) := (show _ from rfl)
      cases d1 : (kk == 114) <;> cases d2 : (kk == 118)
      · rw [d1] at c1 HO
        rw [d2] at c2 HO
        clear d1 d2
        cases x
        · go_wp2
          exact ⟨⟨i + 1, by go_num, by omega, (show Hid _ from HT.out HO.out), by with_reducible (repeat' first | assumption | exact Below.refl _ _ | refine Below.drew ?_ | refine bdrewN ?_ _ | refine Below.setCell ?_ (by first | exact Nat.le_refl _ | (simp; done) | (simp; omega) | omega) _ | refine Below.alloc ?_ (by first | exact Nat.le_refl _ | (simp; done) | (simp; omega) | omega) _)⟩, by simp [intOf]; omega⟩
        · go_wp2
          exact ⟨⟨i + 1, by go_num, by omega, (show Hid _ from HT.out HO.out), by with_reducible (repeat' first | assumption | exact Below.refl _ _ | refine Below.drew ?_ | refine bdrewN ?_ _ | refine Below.setCell ?_ (by first | exact Nat.le_refl _ | (simp; done) | (simp; omega) | omega) _ | refine Below.alloc ?_ (by first | exact Nat.le_refl _ | (simp; done) | (simp; omega) | omega) _)⟩, by simp [intOf]; omega⟩
      · rw [d1] at c1 HO
        rw [d2] at c2 HO
        clear d1 d2
        cases x
        · go_wp2
          exact ⟨⟨i + 1, by go_num, by omega, (show Hid _ from HT.out HO.out), by with_reducible (repeat' first | assumption | exact Below.refl _ _ | refine Below.drew ?_ | refine bdrewN ?_ _ | refine Below.setCell ?_ (by first | exact Nat.le_refl _ | (simp; done) | (simp; omega) | omega) _ | refine Below.alloc ?_ (by first | exact Nat.le_refl _ | (simp; done) | (simp; omega) | omega) _)⟩, by simp [intOf]; omega⟩
        · go_wp2
          go_ret
          exact ⟨by rw [HF.out HO.out]; rfl, by with_reducible (repeat' first | assumption | exact Below.refl _ _ | refine Below.drew ?_ | refine bdrewN ?_ _ | refine Below.setCell ?_ (by first | exact Nat.le_refl _ | (simp; done) | (simp; omega) | omega) _ | refine Below.alloc ?_ (by first | exact Nat.le_refl _ | (simp; done) | (simp; omega) | omega) _)⟩
      · rw [d1] at c1 HO
        rw [d2] at c2 HO
        clear d1 d2
        cases x
        · go_wp2
          go_ret
          exact ⟨by rw [HF.out HO.out]; rfl, by with_reducible (repeat' first | assumption | exact Below.refl _ _ | refine Below.drew ?_ | refine bdrewN ?_ _ | refine Below.setCell ?_ (by first | exact Nat.le_refl _ | (simp; done) | (simp; omega) | omega) _ | refine Below.alloc ?_ (by first | exact Nat.le_refl _ | (simp; done) | (simp; omega) | omega) _)⟩
        · go_wp2
          exact ⟨⟨i + 1, by go_num, by omega, (show Hid _ from HT.out HO.out), by with_reducible (repeat' first | assumption | exact Below.refl _ _ | refine Below.drew ?_ | refine bdrewN ?_ _ | refine Below.setCell ?_ (by first | exact Nat.le_refl _ | (simp; done) | (simp; omega) | omega) _ | refine Below.alloc ?_ (by first | exact Nat.le_refl _ | (simp; done) | (simp; omega) | omega) _)⟩, by simp [intOf]; omega⟩
      · exact absurd ((beq_iff_eq.1 d1).symm.trans (beq_iff_eq.1 d2)) (by decide)
    · have hlt' : ¬ (i : Int) < n := by omega
      have HR : Hid (r = true) := (show _ from hr1.out (fun j x hj => htk.out j x (by have := (List.getElem?_eq_some_iff.1 hj).1; rw [HL.out] at this; omega) hj))
      go_wp2
      go_ret
      exact ⟨by rw [HR.out]; rfl, by with_reducible (repeat' first | assumption | exact Below.refl _ _ | refine Below.drew ?_ | refine bdrewN ?_ _ | refine Below.setCell ?_ (by first | exact Nat.le_refl _ | (simp; done) | (simp; omega) | omega) _ | refine Below.alloc ?_ (by first | exact Nat.le_refl _ | (simp; done) | (simp; omega) | omega) _)⟩
theorem rtakes_any (s : ByteArray) (w : World) (v : Value) (l : List Bool) (hv : BV w v l) : Calls Tryz.prog 15 #[.string s, v] w fun e w' => e = .returned (.bool (decide (nmI s < 18) && takB (plI (nmI s)) (moI (nmI s)) l)) ∧ Below w.heap.size w w' := by
  obtain ⟨q, c, rfl, hc, hf⟩ := hv
  by_cases g : nmI s < 18
  · rw [decide_eq_true g, Bool.true_and]
    obtain ⟨e1, e2, e3, h0, h16, hm, _⟩ := pl_dk _ g
    have hw := wants_any s w g
    have hs := ok_same _ g
    by_cases h : (l.length : Int) < dlI (nmI s)
    · have : takB (plI (nmI s)) (moI (nmI s)) l = false := by unfold takB; rw [decide_eq_false (show ¬ (plI (nmI s)).size ≤ l.length by omega)]; rfl
      rw [this]
      exact rtakes_few s w q _ c _ _ _ hw h
    by_cases h2 : dhI (nmI s) < (l.length : Int)
    · have : takB (plI (nmI s)) (moI (nmI s)) l = false := by unfold takB; rw [decide_eq_false (show ¬ (l.length : Int) ≤ moI (nmI s) by omega), Bool.and_false]; rfl
      rw [this]
      exact rtakes_more s w q _ c _ _ _ hw h h2
    obtain ⟨b, o, rfl, hlt, HA⟩ := hf (by omega)
    exact rtakes_in s w b o c _ l _ _ _ hw _ (show Hid _ from fun i x hi hx => tak_no hi (by rw [hs]; exact hx)) (show Hid _ from fun hx => tak_yes (by omega) (by omega) (fun j x hj => by rw [hs]; exact hx j x hj)) hlt HA rfl hc h0 h16 h h2 (by omega)
  · rw [decide_eq_false g, Bool.false_and]
    exact rtakes_no s w q _ c g
theorem takes_all (s : ByteArray) (w : World) (v : Value) (l : List Bool) (hv : BV w v l) : Calls Tryz.prog 14 #[.string s, v] w fun e w' => e = .returned (.bool (decide (nmI s < 18) && takB (plI (nmI s)) (moI (nmI s)) l)) ∧ Below w.heap.size w w' := by
  by_cases g : nmI s < 18
  · rw [decide_eq_true g, Bool.true_and]; exact takes_yes s w v l hv g
  · rw [decide_eq_false g, Bool.false_and]; exact takes_no s w v g
end Go.Proofs.YtcgcnpcimfaecaaGreatDoor
