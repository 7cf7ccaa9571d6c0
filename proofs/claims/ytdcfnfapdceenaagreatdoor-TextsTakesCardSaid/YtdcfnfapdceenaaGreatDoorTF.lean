/- The contracts of the document's Wants, Known and Takes. Nothing is written. -/
import Derived.Test.YtdcfnfapdceenaaGreatDoorNT9
namespace Go.Proofs.YtdcfnfapdceenaaGreatDoor
open Go.RowKit
set_option linter.all false
def kdB (k : Nat) : ByteArray := [⟨#[115]⟩, ⟨#[115, 110]⟩, ⟨#[115, 110]⟩, ⟨#[115, 110, 110]⟩, ⟨#[115]⟩, ⟨#[115]⟩, ⟨#[115]⟩, ⟨#[115, 110]⟩, ⟨#[115, 115, 110]⟩, ⟨#[115, 115, 115]⟩, ⟨#[115, 115, 115, 115, 115, 115, 115, 115, 115, 115, 115, 115, 115, 115, 115, 115]⟩, ⟨#[115]⟩, ⟨#[110]⟩, ⟨#[115, 115]⟩, ⟨#[115]⟩, ⟨#[115]⟩].getD k ⟨#[]⟩
theorem wants_0 (w : World) : Calls Tryz.prog 29 #[.string ⟨#[76, 69, 78]⟩] w fun e w' => e = .returned (.tuple #[.int .i64 1, .int .i64 1, .string ⟨#[115]⟩]) ∧ w' = w := by
  go_enter Tryz.func29, Tryz.ntmps29
  go_wp2
  exact bodyPost_ret (v := .tuple #[.int .i64 1, .int .i64 1, .string ⟨#[115]⟩]) (by simp [results, Tryz.results29, go_sem]) rfl ⟨rfl, rfl⟩
theorem wants_1 (w : World) : Calls Tryz.prog 29 #[.string ⟨#[76, 69, 70, 84]⟩] w fun e w' => e = .returned (.tuple #[.int .i64 1, .int .i64 2, .string ⟨#[115, 110]⟩]) ∧ w' = w := by
  go_enter Tryz.func29, Tryz.ntmps29
  go_wp2
  exact bodyPost_ret (v := .tuple #[.int .i64 1, .int .i64 2, .string ⟨#[115, 110]⟩]) (by simp [results, Tryz.results29, go_sem]) rfl ⟨rfl, rfl⟩
theorem wants_2 (w : World) : Calls Tryz.prog 29 #[.string ⟨#[82, 73, 71, 72, 84]⟩] w fun e w' => e = .returned (.tuple #[.int .i64 1, .int .i64 2, .string ⟨#[115, 110]⟩]) ∧ w' = w := by
  go_enter Tryz.func29, Tryz.ntmps29
  go_wp2
  exact bodyPost_ret (v := .tuple #[.int .i64 1, .int .i64 2, .string ⟨#[115, 110]⟩]) (by simp [results, Tryz.results29, go_sem]) rfl ⟨rfl, rfl⟩
theorem wants_3 (w : World) : Calls Tryz.prog 29 #[.string ⟨#[77, 73, 68]⟩] w fun e w' => e = .returned (.tuple #[.int .i64 3, .int .i64 3, .string ⟨#[115, 110, 110]⟩]) ∧ w' = w := by
  go_enter Tryz.func29, Tryz.ntmps29
  go_wp2
  exact bodyPost_ret (v := .tuple #[.int .i64 3, .int .i64 3, .string ⟨#[115, 110, 110]⟩]) (by simp [results, Tryz.results29, go_sem]) rfl ⟨rfl, rfl⟩
theorem wants_4 (w : World) : Calls Tryz.prog 29 #[.string ⟨#[85, 80, 80, 69, 82]⟩] w fun e w' => e = .returned (.tuple #[.int .i64 1, .int .i64 1, .string ⟨#[115]⟩]) ∧ w' = w := by
  go_enter Tryz.func29, Tryz.ntmps29
  go_wp2
  exact bodyPost_ret (v := .tuple #[.int .i64 1, .int .i64 1, .string ⟨#[115]⟩]) (by simp [results, Tryz.results29, go_sem]) rfl ⟨rfl, rfl⟩
theorem wants_5 (w : World) : Calls Tryz.prog 29 #[.string ⟨#[76, 79, 87, 69, 82]⟩] w fun e w' => e = .returned (.tuple #[.int .i64 1, .int .i64 1, .string ⟨#[115]⟩]) ∧ w' = w := by
  go_enter Tryz.func29, Tryz.ntmps29
  go_wp2
  exact bodyPost_ret (v := .tuple #[.int .i64 1, .int .i64 1, .string ⟨#[115]⟩]) (by simp [results, Tryz.results29, go_sem]) rfl ⟨rfl, rfl⟩
theorem wants_6 (w : World) : Calls Tryz.prog 29 #[.string ⟨#[84, 82, 73, 77]⟩] w fun e w' => e = .returned (.tuple #[.int .i64 1, .int .i64 1, .string ⟨#[115]⟩]) ∧ w' = w := by
  go_enter Tryz.func29, Tryz.ntmps29
  go_wp2
  exact bodyPost_ret (v := .tuple #[.int .i64 1, .int .i64 1, .string ⟨#[115]⟩]) (by simp [results, Tryz.results29, go_sem]) rfl ⟨rfl, rfl⟩
theorem wants_7 (w : World) : Calls Tryz.prog 29 #[.string ⟨#[82, 69, 80, 84]⟩] w fun e w' => e = .returned (.tuple #[.int .i64 2, .int .i64 2, .string ⟨#[115, 110]⟩]) ∧ w' = w := by
  go_enter Tryz.func29, Tryz.ntmps29
  go_wp2
  exact bodyPost_ret (v := .tuple #[.int .i64 2, .int .i64 2, .string ⟨#[115, 110]⟩]) (by simp [results, Tryz.results29, go_sem]) rfl ⟨rfl, rfl⟩
theorem wants_8 (w : World) : Calls Tryz.prog 29 #[.string ⟨#[70, 73, 78, 68]⟩] w fun e w' => e = .returned (.tuple #[.int .i64 2, .int .i64 3, .string ⟨#[115, 115, 110]⟩]) ∧ w' = w := by
  go_enter Tryz.func29, Tryz.ntmps29
  go_wp2
  exact bodyPost_ret (v := .tuple #[.int .i64 2, .int .i64 3, .string ⟨#[115, 115, 110]⟩]) (by simp [results, Tryz.results29, go_sem]) rfl ⟨rfl, rfl⟩
theorem wants_9 (w : World) : Calls Tryz.prog 29 #[.string ⟨#[83, 85, 66, 83, 84]⟩] w fun e w' => e = .returned (.tuple #[.int .i64 3, .int .i64 3, .string ⟨#[115, 115, 115]⟩]) ∧ w' = w := by
  go_enter Tryz.func29, Tryz.ntmps29
  go_wp2
  exact bodyPost_ret (v := .tuple #[.int .i64 3, .int .i64 3, .string ⟨#[115, 115, 115]⟩]) (by simp [results, Tryz.results29, go_sem]) rfl ⟨rfl, rfl⟩
theorem wants_10 (w : World) : Calls Tryz.prog 29 #[.string ⟨#[67, 79, 78, 67, 65, 84]⟩] w fun e w' => e = .returned (.tuple #[.int .i64 1, .int .i64 16, .string ⟨#[115, 115, 115, 115, 115, 115, 115, 115, 115, 115, 115, 115, 115, 115, 115, 115]⟩]) ∧ w' = w := by
  go_enter Tryz.func29, Tryz.ntmps29
  go_wp2
  exact bodyPost_ret (v := .tuple #[.int .i64 1, .int .i64 16, .string ⟨#[115, 115, 115, 115, 115, 115, 115, 115, 115, 115, 115, 115, 115, 115, 115, 115]⟩]) (by simp [results, Tryz.results29, go_sem]) rfl ⟨rfl, rfl⟩
theorem wants_11 (w : World) : Calls Tryz.prog 29 #[.string ⟨#[79, 82, 68]⟩] w fun e w' => e = .returned (.tuple #[.int .i64 1, .int .i64 1, .string ⟨#[115]⟩]) ∧ w' = w := by
  go_enter Tryz.func29, Tryz.ntmps29
  go_wp2
  exact bodyPost_ret (v := .tuple #[.int .i64 1, .int .i64 1, .string ⟨#[115]⟩]) (by simp [results, Tryz.results29, go_sem]) rfl ⟨rfl, rfl⟩
theorem wants_12 (w : World) : Calls Tryz.prog 29 #[.string ⟨#[67, 72, 65, 82]⟩] w fun e w' => e = .returned (.tuple #[.int .i64 1, .int .i64 1, .string ⟨#[110]⟩]) ∧ w' = w := by
  go_enter Tryz.func29, Tryz.ntmps29
  go_wp2
  exact bodyPost_ret (v := .tuple #[.int .i64 1, .int .i64 1, .string ⟨#[110]⟩]) (by simp [results, Tryz.results29, go_sem]) rfl ⟨rfl, rfl⟩
theorem wants_13 (w : World) : Calls Tryz.prog 29 #[.string ⟨#[69, 88, 65, 67, 84]⟩] w fun e w' => e = .returned (.tuple #[.int .i64 2, .int .i64 2, .string ⟨#[115, 115]⟩]) ∧ w' = w := by
  go_enter Tryz.func29, Tryz.ntmps29
  go_wp2
  exact bodyPost_ret (v := .tuple #[.int .i64 2, .int .i64 2, .string ⟨#[115, 115]⟩]) (by simp [results, Tryz.results29, go_sem]) rfl ⟨rfl, rfl⟩
theorem wants_14 (w : World) : Calls Tryz.prog 29 #[.string ⟨#[82, 69, 86]⟩] w fun e w' => e = .returned (.tuple #[.int .i64 1, .int .i64 1, .string ⟨#[115]⟩]) ∧ w' = w := by
  go_enter Tryz.func29, Tryz.ntmps29
  go_wp2
  exact bodyPost_ret (v := .tuple #[.int .i64 1, .int .i64 1, .string ⟨#[115]⟩]) (by simp [results, Tryz.results29, go_sem]) rfl ⟨rfl, rfl⟩
theorem wants_15 (w : World) : Calls Tryz.prog 29 #[.string ⟨#[78, 85, 77]⟩] w fun e w' => e = .returned (.tuple #[.int .i64 1, .int .i64 1, .string ⟨#[115]⟩]) ∧ w' = w := by
  go_enter Tryz.func29, Tryz.ntmps29
  go_wp2
  exact bodyPost_ret (v := .tuple #[.int .i64 1, .int .i64 1, .string ⟨#[115]⟩]) (by simp [results, Tryz.results29, go_sem]) rfl ⟨rfl, rfl⟩
theorem wants_no0 (s : ByteArray) (w : World) (h0 : (s.toList == [76, 69, 78]) = false) (h1 : (s.toList == [76, 69, 70, 84]) = false) (h2 : (s.toList == [82, 73, 71, 72, 84]) = false) (h3 : (s.toList == [77, 73, 68]) = false) (h4 : (s.toList == [85, 80, 80, 69, 82]) = false) (h5 : (s.toList == [76, 79, 87, 69, 82]) = false) (h6 : (s.toList == [84, 82, 73, 77]) = false) (h7 : (s.toList == [82, 69, 80, 84]) = false) (h8 : (s.toList == [70, 73, 78, 68]) = false) (h9 : (s.toList == [83, 85, 66, 83, 84]) = false) (h10 : (s.toList == [67, 79, 78, 67, 65, 84]) = false) (h11 : (s.toList == [79, 82, 68]) = false) (h12 : (s.toList == [67, 72, 65, 82]) = false) (h13 : (s.toList == [69, 88, 65, 67, 84]) = false) (h14 : (s.toList == [82, 69, 86]) = false) (h15 : (s.toList == [78, 85, 77]) = false) : Calls Tryz.prog 29 #[.string s] w fun e w' => e = .returned (.tuple #[.int .i64 0, .int .i64 (-1), .string ⟨#[]⟩]) ∧ w' = w := by
  go_enter Tryz.func29, Tryz.ntmps29
  go_wp2
  exact bodyPost_ret (v := .tuple #[.int .i64 0, .int .i64 (-1), .string ⟨#[]⟩]) (by simp [results, Tryz.results29, go_sem]) rfl ⟨rfl, rfl⟩
theorem wants_no (s : ByteArray) (w : World) (h : ¬ nmI s < 16) : Calls Tryz.prog 29 #[.string s] w fun e w' => e = .returned (.tuple #[.int .i64 0, .int .i64 (-1), .string ⟨#[]⟩]) ∧ w' = w := by
  have h16 : nmI s = 16 := by have := nm_le s; omega
  exact wants_no0 s w (nm_f (nm_no h16 _ (by decide))) (nm_f (nm_no h16 _ (by decide))) (nm_f (nm_no h16 _ (by decide))) (nm_f (nm_no h16 _ (by decide))) (nm_f (nm_no h16 _ (by decide))) (nm_f (nm_no h16 _ (by decide))) (nm_f (nm_no h16 _ (by decide))) (nm_f (nm_no h16 _ (by decide))) (nm_f (nm_no h16 _ (by decide))) (nm_f (nm_no h16 _ (by decide))) (nm_f (nm_no h16 _ (by decide))) (nm_f (nm_no h16 _ (by decide))) (nm_f (nm_no h16 _ (by decide))) (nm_f (nm_no h16 _ (by decide))) (nm_f (nm_no h16 _ (by decide))) (nm_f (nm_no h16 _ (by decide)))
theorem wants_any (s : ByteArray) (w : World) (h : nmI s < 16) : Calls Tryz.prog 29 #[.string s] w fun e w' => e = .returned (.tuple #[.int .i64 (loI (nmI s)), .int .i64 (hiI (nmI s)), .string (kdB (nmI s))]) ∧ w' = w := by
  have e := nm_at h
  generalize nmI s = k at h e ⊢
  subst e
  match k, h with
  | 0, _ => exact wants_0 w
  | 1, _ => exact wants_1 w
  | 2, _ => exact wants_2 w
  | 3, _ => exact wants_3 w
  | 4, _ => exact wants_4 w
  | 5, _ => exact wants_5 w
  | 6, _ => exact wants_6 w
  | 7, _ => exact wants_7 w
  | 8, _ => exact wants_8 w
  | 9, _ => exact wants_9 w
  | 10, _ => exact wants_10 w
  | 11, _ => exact wants_11 w
  | 12, _ => exact wants_12 w
  | 13, _ => exact wants_13 w
  | 14, _ => exact wants_14 w
  | 15, _ => exact wants_15 w
  | j + 16, h => exact absurd h (by omega)
theorem hi_pos (k : Nat) (h : k < 16) : (0 : Int) < hiI k := by
  match k, h with
  | 0, _ => exact (by decide)
  | 1, _ => exact (by decide)
  | 2, _ => exact (by decide)
  | 3, _ => exact (by decide)
  | 4, _ => exact (by decide)
  | 5, _ => exact (by decide)
  | 6, _ => exact (by decide)
  | 7, _ => exact (by decide)
  | 8, _ => exact (by decide)
  | 9, _ => exact (by decide)
  | 10, _ => exact (by decide)
  | 11, _ => exact (by decide)
  | 12, _ => exact (by decide)
  | 13, _ => exact (by decide)
  | 14, _ => exact (by decide)
  | 15, _ => exact (by decide)
  | j + 16, h => exact absurd h (by omega)
theorem rknown_any (s : ByteArray) (w : World) : Calls Tryz.prog 13 #[.string s] w fun e w' => e = .returned (.bool (decide (nmI s < 16))) ∧ w' = w := by
  by_cases h : nmI s < 16
  · rw [decide_eq_true h]
    have hp := hi_pos _ h
    have hw := wants_any s w h
    generalize hiI (nmI s) = hi at hp hw
    generalize loI (nmI s) = lo at hw
    generalize kdB (nmI s) = kd at hw
    go_enter Tryz.func13, Tryz.ntmps13
    go_wp2_with (go_at_call 29; refine hw.mono ?_; rintro e w5 ⟨rfl, rfl⟩)
    go_ret
    exact ⟨rfl, rfl⟩
  · rw [decide_eq_false h]
    have hw := wants_no s w h
    go_enter Tryz.func13, Tryz.ntmps13
    go_wp2_with (go_at_call 29; refine hw.mono ?_; rintro e w5 ⟨rfl, rfl⟩)
    go_ret
    exact ⟨rfl, rfl⟩
/-- How many the document wants. -/
def wlI (s : ByteArray) : Int := if nmI s < 16 then loI (nmI s) else 0
def wkB (s : ByteArray) : ByteArray := if nmI s < 16 then kdB (nmI s) else ⟨#[]⟩
def whI (s : ByteArray) : Int := if nmI s < 16 then hiI (nmI s) else -1
theorem wants_all (s : ByteArray) (w : World) : Calls Tryz.prog 29 #[.string s] w fun e w' => e = .returned (.tuple #[.int .i64 (wlI s), .int .i64 (whI s), .string (wkB s)]) ∧ w' = w := by
  unfold wlI whI wkB
  by_cases h : nmI s < 16
  · rw [if_pos h, if_pos h, if_pos h]; exact wants_any s w h
  · rw [if_neg h, if_neg h, if_neg h]; exact wants_no s w h
theorem wants_has (s : ByteArray) (n : Nat) : hasB (wlI s) (whI s) (n : Int) = (decide (nmI s < 16) && hasB (loI (nmI s)) (hiI (nmI s)) (n : Int)) := by
  unfold wlI whI
  by_cases h : nmI s < 16
  · rw [if_pos h, if_pos h, decide_eq_true h, Bool.true_and]
  · rw [if_neg h, if_neg h, decide_eq_false h, Bool.false_and]
    simp [hasB]; omega
theorem andg {x : Bool} {a b : Int} : (if decide (a ≤ b) = true then x else false) = (decide (a ≤ b) && x) := by cases decide (a ≤ b) <;> rfl
set_option maxRecDepth 100000 in
set_option maxHeartbeats 1000000 in
theorem rtakes_y (s : ByteArray) (w : World) (b o c n : Nat) (l : List Bool) (hla : b < w.heap.size) (HA : ∀ i x, l[i]? = some x → ∀ j, j < 1 → w.cell? ⟨b, o + i * 1 + j, none⟩ = (bcell1 x)[j]?) (hn : l.length = n) (hc : n ≤ c) (h0 : 0 < n) (hl : n ≤ 9223372036854775807) :
    Calls Tryz.prog 15 #[.string s, .slice (some ⟨b, o, none⟩) n c] w fun e w' => e = .returned (.bool (hasB (wlI s) (whI s) (n : Int) && !l.any id)) ∧ Below w.heap.size w w' := by
  have mixed : Tryz.prog.follows .mixedOrders = true := by kernel_rfl
  have hw := wants_all s w
  generalize wlI s = lo at hw ⊢
  generalize whI s = hi at hw ⊢
  generalize wkB s = kd at hw
  have HA' : Hid _ := HA
  have HL : Hid (l.length = n) := hn
  clear HA hn
  go_enter Tryz.func15, Tryz.ntmps15
  go_wp2_with (go_at_call 29; refine hw.mono ?_; rintro e w5 ⟨rfl, rfl⟩)
  go_loopw [8] (fun v w' => ∃ i : Nat, v = .int .i64 i ∧ i ≤ n ∧ Hid ((l.take i).any id = false) ∧ w' = w5) (fun v _ => n - (intOf v).toNat)
  case atStart => exact ⟨0, rfl, by omega, rfl, rfl⟩
  case round =>
    obtain ⟨i, rfl, hii, htk, rfl⟩ := hrel
    by_cases hlt : i < n
    · have hlt' : (i : Int) < n := by omega
      have hai : l[i]? = some (l[i]'(by rw [HL.out]; exact hlt)) := List.getElem?_eq_getElem _
      have ca' := HA'.out i _ hai 0 (by decide)
      have HAi : Hid _ := hai
      revert ca' HAi
      generalize (l[i]'(by rw [HL.out]; exact hlt)) = x
      intro ca' HAi
      clear hai
      have x0 : wr.cell? ⟨b, o + i, none⟩ = some (.bool x) := by simpa [bcell1] using ca'
      clear ca'
      cases x
      · go_wp2
        exact ⟨⟨i + 1, by go_num, by omega, any_take HAi.out htk.out rfl, trivial⟩, by simp [intOf]; omega⟩
      · go_wp2
        go_ret
        exact ⟨retBl (by rw [any_at HAi.out rfl]; simp), by with_reducible (repeat' first | assumption | exact Below.refl _ _ | refine Below.drew ?_ | refine bdrewN ?_ _ | refine Below.setCell ?_ (by first | exact Nat.le_refl _ | (simp; done) | (simp; omega) | omega) _ | refine Below.alloc ?_ (by first | exact Nat.le_refl _ | (simp; done) | (simp; omega) | omega) _)⟩
    · have hlt' : ¬ (i : Int) < n := by omega
      have hal := any_all (by rw [HL.out]; omega) htk.out
      by_cases g1 : lo ≤ (n : Int)
      · by_cases g2 : (n : Int) ≤ hi
        · go_wp2
          go_ret
          exact ⟨retBl (by simp [hasB, g1, g2, hal]), by with_reducible (repeat' first | assumption | exact Below.refl _ _ | refine Below.drew ?_ | refine bdrewN ?_ _ | refine Below.setCell ?_ (by first | exact Nat.le_refl _ | (simp; done) | (simp; omega) | omega) _ | refine Below.alloc ?_ (by first | exact Nat.le_refl _ | (simp; done) | (simp; omega) | omega) _)⟩
        · go_wp2
          go_ret
          exact ⟨retBl (by simp [hasB, g1, g2, hal]), by with_reducible (repeat' first | assumption | exact Below.refl _ _ | refine Below.drew ?_ | refine bdrewN ?_ _ | refine Below.setCell ?_ (by first | exact Nat.le_refl _ | (simp; done) | (simp; omega) | omega) _ | refine Below.alloc ?_ (by first | exact Nat.le_refl _ | (simp; done) | (simp; omega) | omega) _)⟩
      · go_wp2
        go_ret
        exact ⟨retBl (by unfold hasB; rw [decide_eq_false (show ¬ lo ≤ (n : Int) by omega)]; rfl), by with_reducible (repeat' first | assumption | exact Below.refl _ _ | refine Below.drew ?_ | refine bdrewN ?_ _ | refine Below.setCell ?_ (by first | exact Nat.le_refl _ | (simp; done) | (simp; omega) | omega) _ | refine Below.alloc ?_ (by first | exact Nat.le_refl _ | (simp; done) | (simp; omega) | omega) _)⟩
theorem rtakes_0 (s : ByteArray) (w : World) (p : Option Addr) (c : Nat) : Calls Tryz.prog 15 #[.string s, .slice p 0 c] w fun e w' => e = .returned (.bool (hasB (wlI s) (whI s) 0)) ∧ Below w.heap.size w w' := by
  have hw := wants_all s w
  generalize wlI s = lo at hw ⊢
  generalize whI s = hi at hw ⊢
  generalize wkB s = kd at hw
  go_enter Tryz.func15, Tryz.ntmps15
  go_wp2_with (go_at_call 29; refine hw.mono ?_; rintro e w5 ⟨rfl, rfl⟩)
  go_loopw [8] (fun v w' => v = .int .i64 0 ∧ w' = w5) (fun _ _ => 0)
  case atStart => exact ⟨rfl, rfl⟩
  case round =>
    obtain ⟨rfl, rfl⟩ := hrel
    by_cases g1 : lo ≤ 0
    · by_cases g2 : 0 ≤ hi
      · go_wp2
        go_ret
        exact ⟨retBl (by simp [hasB, g1, g2]), by with_reducible (repeat' first | assumption | exact Below.refl _ _ | refine Below.drew ?_ | refine bdrewN ?_ _ | refine Below.setCell ?_ (by first | exact Nat.le_refl _ | (simp; done) | (simp; omega) | omega) _ | refine Below.alloc ?_ (by first | exact Nat.le_refl _ | (simp; done) | (simp; omega) | omega) _)⟩
      · go_wp2
        go_ret
        exact ⟨retBl (by simp [hasB, g1, g2]), by with_reducible (repeat' first | assumption | exact Below.refl _ _ | refine Below.drew ?_ | refine bdrewN ?_ _ | refine Below.setCell ?_ (by first | exact Nat.le_refl _ | (simp; done) | (simp; omega) | omega) _ | refine Below.alloc ?_ (by first | exact Nat.le_refl _ | (simp; done) | (simp; omega) | omega) _)⟩
    · go_wp2
      go_ret
      exact ⟨retBl (by unfold hasB; rw [decide_eq_false (show ¬ lo ≤ (0 : Int) by omega)]; rfl), by with_reducible (repeat' first | assumption | exact Below.refl _ _ | refine Below.drew ?_ | refine bdrewN ?_ _ | refine Below.setCell ?_ (by first | exact Nat.le_refl _ | (simp; done) | (simp; omega) | omega) _ | refine Below.alloc ?_ (by first | exact Nat.le_refl _ | (simp; done) | (simp; omega) | omega) _)⟩
theorem rtakes_any (s : ByteArray) (w : World) (v : Value) (l : List Bool) (h : BV w v l) (hl : l.length ≤ 9223372036854775807) : Calls Tryz.prog 15 #[.string s, v] w fun e w' => e = .returned (.bool (hasB (wlI s) (whI s) (l.length : Int) && !l.any id)) ∧ Below w.heap.size w w' := by
  obtain ⟨p, c, rfl, hc, hf⟩ := h
  by_cases h0 : 0 < l.length
  · obtain ⟨b, o, rfl, hlt, HA⟩ := hf h0
    exact rtakes_y s w b o c l.length l hlt HA rfl hc h0 hl
  · have e : l = [] := List.eq_nil_of_length_eq_zero (by omega)
    subst e
    have q := rtakes_0 s w p c
    simpa using q
theorem takes_all (s : ByteArray) (w : World) (v : Value) (l : List Bool) (h : BV w v l) (hl : l.length ≤ 9223372036854775807) : Calls Tryz.prog 14 #[.string s, v] w fun e w' => e = .returned (.bool (hasB (wlI s) (whI s) (l.length : Int) && !l.any id)) ∧ Below w.heap.size w w' := by
  rw [wants_has]
  by_cases g : nmI s < 16
  · rw [decide_eq_true g, Bool.true_and]; exact takes_yes s w v l h hl g
  · rw [decide_eq_false g, Bool.false_and, Bool.false_and]; exact takes_no s w v g
end Go.Proofs.YtdcfnfapdceenaaGreatDoor
