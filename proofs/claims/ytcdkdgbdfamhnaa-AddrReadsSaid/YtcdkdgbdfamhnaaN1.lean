/- The contracts of the document's column and digits: of every column that may be its letters, of every number from 1 on its digits. Nothing is written (an order may be drawn). No condition. -/
import Derived.Test.YtcdkdgbdfamhnaaA1
import Derived.Test.YtcdkdgbdfamhnaaAM
import Derived.LoopTactic
namespace Go.Proofs.Ytcdkdgbdfamhnaa
open Go.RowKit
set_option linter.all false
/-- A column's name, a row's digits. -/
def colS (c : Int) : ByteArray := ⟨(colL c.toNat).toArray⟩
def digS (r : Int) : ByteArray := ⟨(Lib.decDigits r.toNat).toArray⟩
theorem az_fin : ∀ i : Fin 26, (⟨#[65, 66, 67, 68, 69, 70, 71, 72, 73, 74, 75, 76, 77, 78, 79, 80, 81, 82, 83, 84, 85, 86, 87, 88, 89, 90]⟩ : ByteArray).extract i.val (i.val + 1) = ⟨#[UInt8.ofNat (65 + i.val)]⟩ := by decide +kernel
theorem az (a b : Nat) (h : a < 26) (hb : b = a + 1) : (⟨#[65, 66, 67, 68, 69, 70, 71, 72, 73, 74, 75, 76, 77, 78, 79, 80, 81, 82, 83, 84, 85, 86, 87, 88, 89, 90]⟩ : ByteArray).extract a b = ⟨#[UInt8.ofNat (65 + a)]⟩ := by subst hb; exact az_fin ⟨a, h⟩
theorem dz_fin : ∀ i : Fin 10, (⟨#[48, 49, 50, 51, 52, 53, 54, 55, 56, 57]⟩ : ByteArray).extract i.val (i.val + 1) = ⟨#[UInt8.ofNat (48 + i.val)]⟩ := by decide +kernel
theorem dz (a b : Nat) (h : a < 10) (hb : b = a + 1) : (⟨#[48, 49, 50, 51, 52, 53, 54, 55, 56, 57]⟩ : ByteArray).extract a b = ⟨#[UInt8.ofNat (48 + a)]⟩ := by subst hb; exact dz_fin ⟨a, h⟩
theorem app_list (a b : List UInt8) : (⟨a.toArray⟩ : ByteArray) ++ (⟨b.toArray⟩ : ByteArray) = ⟨(a ++ b).toArray⟩ := by
  apply ByteArray.ext
  simp
theorem colS_1 (n : Int) (h1 : 1 ≤ n) (h2 : n ≤ 26) : (⟨#[65, 66, 67, 68, 69, 70, 71, 72, 73, 74, 75, 76, 77, 78, 79, 80, 81, 82, 83, 84, 85, 86, 87, 88, 89, 90]⟩ : ByteArray).extract (n.toNat - 1) n.toNat = colS n := by
  rw [az _ _ (by omega) (by omega)]
  unfold colS colL
  rw [if_neg (by omega), if_pos (by omega), show 65 + (n.toNat - 1) = 64 + n.toNat by omega]
theorem colS_2 (n : Int) (h1 : 26 < n) (h2 : n ≤ 256) : (⟨#[65, 66, 67, 68, 69, 70, 71, 72, 73, 74, 75, 76, 77, 78, 79, 80, 81, 82, 83, 84, 85, 86, 87, 88, 89, 90]⟩ : ByteArray).extract ((n - 27) / 26).toNat ((n - 27) / 26 + 1).toNat ++ (⟨#[65, 66, 67, 68, 69, 70, 71, 72, 73, 74, 75, 76, 77, 78, 79, 80, 81, 82, 83, 84, 85, 86, 87, 88, 89, 90]⟩ : ByteArray).extract ((n - 27) % 26).toNat ((n - 27) % 26 + 1).toNat = colS n := by
  rw [az _ _ (by omega) (by omega), az _ _ (by omega) (by omega)]
  unfold colS colL
  rw [if_neg (by omega), if_neg (by omega)]
  rw [show 65 + ((n - 27) / 26).toNat = 64 + (n.toNat - 1) / 26 by omega, show 65 + ((n - 27) % 26).toNat = 65 + (n.toNat - 1) % 26 by omega]
  exact app_list [_] [_]
theorem row_step (n : Nat) (h : 0 < n) : rowL n = rowL (n / 10) ++ [UInt8.ofNat (48 + n % 10)] := by
  rw [rowL_pos h]
  by_cases k : n < 10
  · rw [Lib.decDigits_one k, show n / 10 = 0 by omega, show n % 10 = n by omega]; rfl
  · rw [Lib.decDigits, dif_neg k, rowL_pos (by omega)]
theorem dig_app (n : Nat) (t : List UInt8) : (⟨#[48, 49, 50, 51, 52, 53, 54, 55, 56, 57]⟩ : ByteArray).extract (n % 10) (n % 10 + 1) ++ (⟨t.toArray⟩ : ByteArray) = ⟨(UInt8.ofNat (48 + n % 10) :: t).toArray⟩ := by
  rw [dz _ _ (by omega) rfl]
  exact app_list [_] t
set_option maxHeartbeats 1000000 in
theorem rcol1 (n : Int) (w : World) (h1 : 1 ≤ n) (h2 : n ≤ 26) : Calls Try.prog 20 #[.int .i64 n] w fun e w' => e = .returned (.string (colS n)) ∧ Below w.heap.size w w' := by
  go_enter Try.func20, Try.ntmps20
  go_wp2
  all_goals go_ret
  all_goals exact ⟨retS (colS_1 n h1 h2), Below.refl _ _⟩
set_option maxHeartbeats 1000000 in
theorem rcol2 (n : Int) (w : World) (h1 : 26 < n) (h2 : n ≤ 256) : Calls Try.prog 20 #[.int .i64 n] w fun e w' => e = .returned (.string (colS n)) ∧ Below w.heap.size w w' := by
  go_enter Try.func20, Try.ntmps20
  go_wp2
  all_goals go_quiet (fail)
  all_goals go_wp2
  all_goals go_ret
  all_goals exact ⟨retS (colS_2 n h1 h2), bdrewN (Below.refl _ _) _⟩
theorem rcol_any (n : Int) (w : World) (h1 : 1 ≤ n) (h2 : n ≤ 256) : Calls Try.prog 20 #[.int .i64 n] w fun e w' => e = .returned (.string (colS n)) ∧ Below w.heap.size w w' := by
  by_cases h : n ≤ 26
  · exact rcol1 n w h1 h
  · exact rcol2 n w (by omega) h2
set_option maxHeartbeats 1000000 in
theorem rdig_any (r : Int) (w : World) (h1 : 1 ≤ r) (h2 : r ≤ 4096) : Calls Try.prog 23 #[.int .i64 r] w fun e w' => e = .returned (.string (digS r)) ∧ w' = w := by
  go_enter Try.func23, Try.ntmps23
  go_wp2
  go_loop [0, 3] (fun a b => ∃ (n : Nat) (t : List UInt8), a = .int .i64 n ∧ b = .string ⟨t.toArray⟩ ∧ n ≤ 4096 ∧ rowL n ++ t = Lib.decDigits r.toNat) (fun a _ => (intOf a).toNat)
  case atStart => exact ⟨r.toNat, [], by rw [Int.toNat_of_nonneg (by omega)], rfl, by omega, by rw [rowL_pos (by omega), List.append_nil]⟩
  case round =>
    obtain ⟨n, t, rfl, rfl, hn, ht⟩ := hrel
    by_cases h0 : 0 < n
    · rw [row_step n h0] at ht
      have h0' : (0 : Int) < n := by omega
      have hl : t.length ≤ 4 := by
        have e := congrArg List.length ht
        have := dec_len r.toNat (by omega) (by omega)
        simp at e; omega
      have hq : ¬ (9223372036854775807 < min (n % 10 + 1) 10 - n % 10 + t.length) := by omega
      go_wp2
      all_goals refine ⟨⟨n / 10, UInt8.ofNat (48 + n % 10) :: t, by go_num, by rw [dig_app], by omega, by rw [← ht]; simp⟩, by simp [intOf]; omega⟩
    · obtain rfl : n = 0 := by omega
      go_wp2
      all_goals go_ret
      all_goals exact ⟨by rw [show rowL 0 = [] from rfl, List.nil_append] at ht; rw [ht]; rfl, rfl⟩
end Go.Proofs.Ytcdkdgbdfamhnaa
