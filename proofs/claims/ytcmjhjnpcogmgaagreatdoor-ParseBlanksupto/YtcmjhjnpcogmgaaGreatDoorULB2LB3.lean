/- Contracts of lex's isMeantAsCell, quotedReach, faultReach, wordReach and reach, for every  -/
import Derived.Test.YtcmjhjnpcogmgaaGreatDoorUAuto
import Derived.Test.YtcmjhjnpcogmgaaGreatDoorULXLBPX
set_option linter.all false
set_option maxRecDepth 100000
set_option maxHeartbeats 4000000
namespace Go.Proofs.YtcmjhjnpcogmgaaGreatDoor
open Go.Shelf Go.RowKit
theorem ext_size (s : ByteArray) (k : Nat) : (s.extract k s.size).size ≤ s.size := by rw [ByteArray.size_extract]; omega
theorem ext_size0 (s : ByteArray) (k : Nat) : (s.extract 0 k).size ≤ s.size := by rw [ByteArray.size_extract]; omega
theorem isE (s : ByteArray) : s.toList.isEmpty = s.data.toList.isEmpty := by rw [toL]
theorem run_LT (s : ByteArray) (w : World) (hs : s.size ≤ maxLen) : Calls Tryz.prog 121 #[.string s, .string ⟨#[65, 66, 67, 68, 69, 70, 71, 72, 73, 74, 75, 76, 77, 78, 79, 80, 81, 82, 83, 84, 85, 86, 87, 88, 89, 90]⟩] w fun e w' => e = .returned (.int .i64 (runL s.data.toList LT)) ∧ Below w.heap.size w w' :=
 run_any s _ w hs zq16 (ascii_all zq16)
theorem run_DG (s : ByteArray) (w : World) (hs : s.size ≤ maxLen) : Calls Tryz.prog 121 #[.string s, .string ⟨#[48, 49, 50, 51, 52, 53, 54, 55, 56, 57]⟩] w fun e w' => e = .returned (.int .i64 (runL s.data.toList DG)) ∧ Below w.heap.size w w' :=
 run_any s _ w hs zq16 (ascii_all zq16)
theorem run_NB (s : ByteArray) (w : World) (hs : s.size ≤ maxLen) : Calls Tryz.prog 121 #[.string s, .string ⟨#[48, 49, 50, 51, 52, 53, 54, 55, 56, 57, 46]⟩] w fun e w' => e = .returned (.int .i64 (runL s.data.toList NB)) ∧ Below w.heap.size w w' :=
 run_any s _ w hs zq16 (ascii_all zq16)
theorem run_WD (s : ByteArray) (w : World) (hs : s.size ≤ maxLen) : Calls Tryz.prog 121 #[.string s, .string ⟨#[65, 66, 67, 68, 69, 70, 71, 72, 73, 74, 75, 76, 77, 78, 79, 80, 81, 82, 83, 84, 85, 86, 87, 88, 89, 90, 48, 49, 50, 51, 52, 53, 54, 55, 56, 57, 95]⟩] w fun e w' => e = .returned (.int .i64 (runL s.data.toList WD)) ∧ Below w.heap.size w w' :=
 run_any s _ w hs zq16 (ascii_all zq16)
theorem meant_any (s : ByteArray) (w : World) (hs : s.size ≤ maxLen) :
  Calls Tryz.prog 132 #[.string s] w fun e w' => e = .returned (.bool (meant s.data.toList)) ∧ Below w.heap.size w w' := by
 have hR1 := fun w => run_LT s w hs
 have hle := runL_le s.data.toList LT
 rw [← size_len] at hle
 have em : meant s.data.toList = (!(s.data.toList.drop (runL s.data.toList LT)).isEmpty && runL (s.data.toList.drop (runL s.data.toList LT)) DG == (s.data.toList.drop (runL s.data.toList LT)).length) := rfl
 rw [em]
 clear em
 revert hR1 hle
 generalize runL s.data.toList LT = k
 intro hR1 hle
 have hR2 := fun w => run_DG (s.extract k s.size) w (Nat.le_trans (ext_size s k) hs)
 rw [← ext_from s k]
 have hz : (s.extract k s.size).size ≤ s.size := ext_size s k
 have hle' : (k : Int) ≤ s.size := by omega
 unfold maxLen at hs
 have em2 : ∀ a b : Nat, (a == b) = decide ((a : Int) = (b : Int)) := fun a b => by rw [Bool.eq_iff_iff]; simp; omega
 rw [em2, ← isE, ← size_len]
 clear em2
 revert hR2
 generalize runL (s.extract k s.size).data.toList DG = j
 intro hR2
 by_cases hq : (s.extract k s.size).toList = []
 ·have he : (s.extract k s.size).toList.isEmpty = true := by rw [hq]; rfl
  go_enter Tryz.func132, Tryz.ntmps132
  go_wp2_with (go_at_call 121; first | (refine (hR1 _).mono ?_; clear hR1; rintro e w1 ⟨rfl, hb⟩; have hB := bux w zq2 hb; clear hb) | (refine (hR2 _).mono ?_; clear hR2; rintro e w1 ⟨rfl, hb⟩; have hB := bux w zq2 hb; clear hb))
  go_ret
  exact ⟨by apply retB; first | (simp [he]; done) | (simp [he]; rw [Bool.eq_iff_iff]; simp), zq15⟩
 ·have he : (s.extract k s.size).toList.isEmpty = false := by cases h2 : (s.extract k s.size).toList; exact absurd h2 hq; rfl
  go_enter Tryz.func132, Tryz.ntmps132
  go_wp2_with (go_at_call 121; first | (refine (hR1 _).mono ?_; clear hR1; rintro e w1 ⟨rfl, hb⟩; have hB := bux w zq2 hb; clear hb) | (refine (hR2 _).mono ?_; clear hR2; rintro e w1 ⟨rfl, hb⟩; have hB := bux w zq2 hb; clear hb))
  go_ret
  exact ⟨by apply retB; first | (simp [he]; done) | (simp [he]; rw [Bool.eq_iff_iff]; simp), zq15⟩
theorem qr_a {l : List UInt8} {i : Nat} (hi : i < l.length) (h : bgn (l.drop i) [34] = false) : qrL (l.drop i) = 1 + qrL (l.drop (i + 1)) := by
 rw [List.drop_eq_getElem_cons hi] at h ⊢
 have hc : ¬ l[i] = 34 := by simpa [bgn] using h
 cases ht : l.drop (i + 1) with
 | nil => simp [qrL]
 | cons d t => simp [qrL, hc]
theorem qr_b {l : List UInt8} {i : Nat} (hi : i < l.length) (h : bgn (l.drop i) [34] = true) (h2 : bgn (l.drop (i + 1)) [34] = false) : qrL (l.drop i) = 1 := by
 rw [List.drop_eq_getElem_cons hi] at h ⊢
 have hc : l[i] = 34 := by simpa [bgn] using h
 cases ht : l.drop (i + 1) with
 | nil => simp [qrL]
 | cons d t =>
  rw [ht] at h2
  have hd : ¬ d = 34 := by simpa [bgn] using h2
  simp [qrL, hc, hd]
theorem qr_c {l : List UInt8} {i : Nat} (hi : i < l.length) (h : bgn (l.drop i) [34] = true) (h2 : bgn (l.drop (i + 1)) [34] = true) : i + 1 < l.length ∧ qrL (l.drop i) = 2 + qrL (l.drop (i + 2)) := by
 have hi2 : i + 1 < l.length := by
  have := len_pos (bgn_ne h2); simp at this; omega
 refine ⟨hi2, ?_⟩
 rw [List.drop_eq_getElem_cons hi] at h ⊢
 rw [List.drop_eq_getElem_cons hi2] at h2 ⊢
 have hc : l[i] = 34 := by simpa [bgn] using h
 have hd : l[i + 1] = 34 := by simpa [bgn] using h2
 simp [qrL, hc, hd]
theorem begins_Q (s : ByteArray) (w : World) : Calls Tryz.prog 83 #[.string s, .string ⟨#[34]⟩] w fun e w' => e = .returned (.bool (bgn s.data.toList [34])) ∧ Below w.heap.size w w' := begins_any s _ w
theorem qreach_any (s : ByteArray) (w : World) (hs : s.size ≤ maxLen) (h1 : 1 ≤ s.size) :
  Calls Tryz.prog 122 #[.string s] w fun e w' => e = .returned (.int .i64 ((1 + qrL (s.data.toList.drop 1) : Nat) : Int)) ∧ Below w.heap.size w w' := by
 unfold maxLen at hs
 obtain ⟨T, hT⟩ : ∃ T, 1 + qrL (s.data.toList.drop 1) = T := ⟨_, rfl⟩
 rw [hT]
 have HT : Hid (1 + qrL (s.data.toList.drop 1) = T) := hT
 clear hT
 go_enter Tryz.func122, Tryz.ntmps122
 go_wp2
 go_loopw [3] (fun v w' => ∃ i : Nat, v = .int .i64 i ∧ 1 ≤ i ∧ i ≤ s.size ∧ Hid (i + qrL (s.data.toList.drop i) = T) ∧ Below w.heap.size w w') (fun v _ => s.size - (intOf v).toNat)
 case atStart => exact ⟨1, rfl, zq17, h1, HT, Below.refl _ _⟩
 case round =>
  obtain ⟨i, rfl, hi1, hi2, hN, hB⟩ := hrel
  by_cases hlt : i < s.size
  ·have hlt' : (i : Int) < s.size := by omega
   have hlt2 : (i : Int) ≤ s.size := by omega
   have hlt3 : (i : Int) + 1 ≤ s.size := by omega
   have hll : i < s.data.toList.length := by rw [← size_len]; exact hlt
   cases hb1 : bgn (s.data.toList.drop i) [34]
   ·have hQ1 := fun w => begins_Q (s.extract i s.size) w
    rw [ext_from, hb1] at hQ1
    have e := qr_a hll hb1
    have hN' : i + 1 + qrL (s.data.toList.drop (i + 1)) = T := by have := hN.out; omega
    have HN : Hid (i + 1 + qrL (s.data.toList.drop (i + 1)) = T) := hN'
    clear hN' e hN hb1
    go_wp2_with (go_at_call 83; first | (refine (hQ1 _).mono ?_; clear hQ1; rintro e w1 ⟨rfl, hb⟩; have hB := bux w zq2 hb; clear hb))
    exact ⟨⟨i + 1, by go_num, zq17, zq17, HN, zq15⟩, by simp [intOf]; omega⟩
   ·cases hb2 : bgn (s.data.toList.drop (i + 1)) [34]
    ·have hQ1 := fun w => begins_Q (s.extract i s.size) w
     rw [ext_from, hb1] at hQ1
     have hQ2 := fun w => begins_Q (s.extract (i + 1) s.size) w
     rw [ext_from, hb2] at hQ2
     have e := qr_b hll hb1 hb2
     have hN' : i + 1 = T := by have := hN.out; omega
     have HN : Hid (i + 1 = T) := hN'
     clear hN' e hN hb1 hb2
     go_wp2_with (go_at_call 83; first | (refine (hQ1 _).mono ?_; clear hQ1; rintro e w1 ⟨rfl, hb⟩; have hB := bux w zq2 hb; clear hb) | (refine (hQ2 _).mono ?_; clear hQ2; rintro e w1 ⟨rfl, hb⟩; have hB := bux w zq2 hb; clear hb))
     go_ret
     exact ⟨by apply ret1; have := HN.out; omega, zq15⟩
    ·have hQ1 := fun w => begins_Q (s.extract i s.size) w
     rw [ext_from, hb1] at hQ1
     have hQ2 := fun w => begins_Q (s.extract (i + 1) s.size) w
     rw [ext_from, hb2] at hQ2
     obtain ⟨e0, e⟩ := qr_c hll hb1 hb2
     rw [← size_len] at e0
     have hN' : i + 2 + qrL (s.data.toList.drop (i + 2)) = T := by have := hN.out; omega
     have HN : Hid (i + 2 + qrL (s.data.toList.drop (i + 2)) = T) := hN'
     clear hN' e hN hb1 hb2
     go_wp2_with (go_at_call 83; first | (refine (hQ1 _).mono ?_; clear hQ1; rintro e w1 ⟨rfl, hb⟩; have hB := bux w zq2 hb; clear hb) | (refine (hQ2 _).mono ?_; clear hQ2; rintro e w1 ⟨rfl, hb⟩; have hB := bux w zq2 hb; clear hb))
     exact ⟨⟨i + 2, by go_num, zq17, zq17, HN, zq15⟩, by simp [intOf]; omega⟩
  ·have hlt' : ¬ (i : Int) < s.size := by omega
   have e : T = s.size := by
    have h := hN.out
    rw [List.drop_of_length_le (by rw [← size_len]; omega)] at h
    simp only [qrL] at h; omega
   clear hN
   go_wp2
   go_ret
   exact ⟨by first | rfl | rw [e], zq15⟩
theorem freach_any (s : ByteArray) (w : World) (hs : s.size ≤ maxLen) :
  Calls Tryz.prog 123 #[.string s] w fun e w' => e = .returned (.int .i64 (frL s.data.toList)) ∧ Below w.heap.size w w' := by
 have hC := fun w => fx_bel s hs w
 have hlt := fxAt_lt s
 have ef : frL s.data.toList = if 0 ≤ fxAt s then (fxA s).size + 1 else s.size := by
  unfold frL
  show (if 0 ≤ fxAt s then (fxAt s).toNat + 1 else s.data.toList.length) = _
  by_cases h : 0 ≤ fxAt s
  ·have := fxAt_lt s h
   rw [if_pos h, if_pos h]; unfold fxA; rw [if_pos h, ByteArray.size_extract]; omega
  ·rw [if_neg h, if_neg h, size_len]
 rw [ef]
 unfold maxLen at hs
 have hsz : (fxA s).size ≤ s.size := by unfold fxA; split; exact ext_size0 _ _; exact Nat.le_refl _
 by_cases h : 0 ≤ fxAt s
 ·have hf : fxF s = true := by simp [fxF, h]
  have hsz2 : (fxA s).size + 1 ≤ s.size := by have := hlt h; unfold fxA; rw [if_pos h, ByteArray.size_extract]; omega
  rw [if_pos h]
  rw [hf] at hC
  go_enter Tryz.func123, Tryz.ntmps123
  go_wp2_with (go_at_call 161; first | (refine (hC _).mono ?_; clear hC; rintro e w1 ⟨rfl, hb⟩; have hB := bux w zq2 hb; clear hb))
  go_ret
  exact ⟨by apply ret1; omega, zq15⟩
 ·have hf : fxF s = false := by simp [fxF]; omega
  rw [if_neg h]
  rw [hf] at hC
  go_enter Tryz.func123, Tryz.ntmps123
  go_wp2_with (go_at_call 161; first | (refine (hC _).mono ?_; clear hC; rintro e w1 ⟨rfl, hb⟩; have hB := bux w zq2 hb; clear hb))
  go_ret
  exact ⟨rfl, zq15⟩
end Go.Proofs.YtcmjhjnpcogmgaaGreatDoor
namespace Go.Proofs.YtcmjhjnpcogmgaaGreatDoor
open Go.Shelf Go.RowKit
theorem wreach_any (s : ByteArray) (w : World) (hs : s.size ≤ maxLen) :
  Calls Tryz.prog 124 #[.string s] w fun e w' => e = .returned (.int .i64 (wrL s.data.toList)) ∧ Below w.heap.size w w' := by
 have hR := fun w => run_WD s w hs
 have hle := runL_le s.data.toList WD
 rw [← size_len] at hle
 have em : wrL s.data.toList = if meant (s.data.toList.take (runL s.data.toList WD)) && bgn (s.data.toList.drop (runL s.data.toList WD)) [58] then runL s.data.toList WD + 1 + runL (s.data.toList.drop (runL s.data.toList WD + 1)) WD else runL s.data.toList WD := rfl
 rw [em]
 clear em
 revert hR hle
 generalize runL s.data.toList WD = k
 intro hR hle
 have hle' : (k : Int) ≤ s.size := by omega
 have hM := fun w => meant_any (s.extract 0 k) w (Nat.le_trans (ext_size0 s k) hs)
 have hG := fun w => begins_any (s.extract k s.size) ⟨#[58]⟩ w
 have hR2 := fun w => run_WD (s.extract (k + 1) s.size) w (Nat.le_trans (ext_size s (k + 1)) hs)
 rw [ext_to] at hM
 rw [ext_from] at hG hR2
 have hj := runL_le (s.data.toList.drop (k + 1)) WD
 rw [List.length_drop, ← size_len] at hj
 have hbg : bgn (s.data.toList.drop k) [58] = true → k + 1 ≤ s.size := fun h => by
  have := len_pos (bgn_ne h); rw [List.length_drop, ← size_len] at this; omega
 revert hM hG hR2 hj hbg
 show _ → (∀ w, Calls _ _ _ w fun e w' => e = .returned (.bool (bgn (s.data.toList.drop k) [58])) ∧ _) → _
 generalize meant (s.data.toList.take k) = m
 generalize bgn (s.data.toList.drop k) [58] = b
 generalize runL (s.data.toList.drop (k + 1)) WD = j
 intro hM hG hR2 hj hbg
 unfold maxLen at hs
 cases m
 ·rw [Bool.false_and, if_neg (by simp)]
  go_enter Tryz.func124, Tryz.ntmps124
  go_wp2_with (first | (go_at_call 121; first | (refine (hR _).mono ?_; clear hR; rintro e w1 ⟨rfl, hb⟩; have hB := bux w zq2 hb; clear hb) | (refine (hR2 _).mono ?_; clear hR2; rintro e w1 ⟨rfl, hb⟩; have hB := bux w zq2 hb; clear hb)) | (go_at_call 132; first | (refine (hM _).mono ?_; clear hM; rintro e w1 ⟨rfl, hb⟩; have hB := bux w zq2 hb; clear hb)) | (go_at_call 83; first | (refine (hG _).mono ?_; clear hG; rintro e w1 ⟨rfl, hb⟩; have hB := bux w zq2 hb; clear hb)))
  go_ret
  exact ⟨rfl, zq15⟩
 ·cases b
  ·rw [Bool.and_false, if_neg (by simp)]
   go_enter Tryz.func124, Tryz.ntmps124
   go_wp2_with (first | (go_at_call 121; first | (refine (hR _).mono ?_; clear hR; rintro e w1 ⟨rfl, hb⟩; have hB := bux w zq2 hb; clear hb) | (refine (hR2 _).mono ?_; clear hR2; rintro e w1 ⟨rfl, hb⟩; have hB := bux w zq2 hb; clear hb)) | (go_at_call 132; first | (refine (hM _).mono ?_; clear hM; rintro e w1 ⟨rfl, hb⟩; have hB := bux w zq2 hb; clear hb)) | (go_at_call 83; first | (refine (hG _).mono ?_; clear hG; rintro e w1 ⟨rfl, hb⟩; have hB := bux w zq2 hb; clear hb)))
   go_ret
   exact ⟨rfl, zq15⟩
  ·have h2 := hbg rfl
   have h3 : (k : Int) + 1 ≤ s.size := by omega
   rw [Bool.and_true, if_pos rfl]
   go_enter Tryz.func124, Tryz.ntmps124
   go_wp2_with (first | (go_at_call 121; first | (refine (hR _).mono ?_; clear hR; rintro e w1 ⟨rfl, hb⟩; have hB := bux w zq2 hb; clear hb) | (refine (hR2 _).mono ?_; clear hR2; rintro e w1 ⟨rfl, hb⟩; have hB := bux w zq2 hb; clear hb)) | (go_at_call 132; first | (refine (hM _).mono ?_; clear hM; rintro e w1 ⟨rfl, hb⟩; have hB := bux w zq2 hb; clear hb)) | (go_at_call 83; first | (refine (hG _).mono ?_; clear hG; rintro e w1 ⟨rfl, hb⟩; have hB := bux w zq2 hb; clear hb)))
   go_ret
   exact ⟨by apply ret1; omega, zq15⟩
theorem begins_D (s : ByteArray) (w : World) : Calls Tryz.prog 83 #[.string s, .string ⟨#[48, 49, 50, 51, 52, 53, 54, 55, 56, 57]⟩] w fun e w' => e = .returned (.bool (bgn s.data.toList DG)) ∧ Below w.heap.size w w' := begins_any s _ w
theorem begins_F (s : ByteArray) (w : World) : Calls Tryz.prog 83 #[.string s, .string ⟨#[35]⟩] w fun e w' => e = .returned (.bool (bgn s.data.toList [35])) ∧ Below w.heap.size w w' := begins_any s _ w
theorem begins_L (s : ByteArray) (w : World) : Calls Tryz.prog 83 #[.string s, .string ⟨#[65, 66, 67, 68, 69, 70, 71, 72, 73, 74, 75, 76, 77, 78, 79, 80, 81, 82, 83, 84, 85, 86, 87, 88, 89, 90]⟩] w fun e w' => e = .returned (.bool (bgn s.data.toList LT)) ∧ Below w.heap.size w w' := begins_any s _ w
theorem begins_S (s : ByteArray) (w : World) : Calls Tryz.prog 83 #[.string s, .string ⟨#[40, 41, 44, 43, 45, 42, 47, 37, 38, 61, 60, 62]⟩] w fun e w' => e = .returned (.bool (bgn s.data.toList SG)) ∧ Below w.heap.size w w' := begins_any s _ w
theorem pre_any (s p : ByteArray) (w : World) : Calls Tryz.prog 49 #[.string s, .string p] w fun e w' => e = .returned (.bool (p.data.toList.isPrefixOf s.data.toList)) ∧ Below w.heap.size w w' := by
 have h : Calls Tryz.prog 49 #[.string s, .string p] w fun e w' => e = .returned (.bool (Lib.hasPrefix s.data.toList p.data.toList)) ∧ w' = w := Any.strings_HasPrefix Tryz.lays99 s p w
 exact h.mono fun e w' ⟨he, hw⟩ => ⟨he, by rw [hw]; exact Below.refl _ _⟩
theorem reach_any (s : ByteArray) (w : World) (hs : s.size ≤ maxLen) :
  Calls Tryz.prog 82 #[.string s] w fun e w' => e = .returned (.int .i64 (reachL s.data.toList)) ∧ Below w.heap.size w w' := by
 by_cases hne : s.toList = []
 ·have e : reachL s.data.toList = 0 := by rw [← toL, hne]; rfl
  rw [e]
  have he : s.toList.isEmpty = true := by rw [hne]; rfl
  go_enter Tryz.func82, Tryz.ntmps82
  go_wp2
  go_ret
  exact ⟨rfl, Below.refl _ _⟩
 ·have he : s.toList.isEmpty = false := by cases h2 : s.toList; exact absurd h2 hne; rfl
  have h1 : 1 ≤ s.size := by rw [size_len]; exact len_pos (by rw [← toL]; exact hne)
  have e : reachL s.data.toList = if bgn s.data.toList DG then runL s.data.toList NB else if bgn s.data.toList [34] then 1 + qrL (s.data.toList.drop 1) else if bgn s.data.toList [35] then frL s.data.toList else if bgn s.data.toList LT then wrL s.data.toList else if [60, 62].isPrefixOf s.data.toList || ([60, 61].isPrefixOf s.data.toList || [62, 61].isPrefixOf s.data.toList) then 2 else 1 := by
   unfold reachL twoL; rw [if_neg (by rw [← toL]; exact hne)]
  rw [e]
  clear e
  have hD := fun w => begins_D s w
  have hQ := fun w => begins_Q s w
  have hF := fun w => begins_F s w
  have hL := fun w => begins_L s w
  have hP := fun w => pre_any s ⟨#[60, 62]⟩ w
  have hP2 := fun w => pre_any s ⟨#[60, 61]⟩ w
  have hP3 := fun w => pre_any s ⟨#[62, 61]⟩ w
  have hN := fun w => run_NB s w hs
  have hq := fun w => qreach_any s w hs h1
  have hf := fun w => freach_any s w hs
  have hw := fun w => wreach_any s w hs
  revert hD hQ hF hL hP hP2 hP3 hN hq hf hw
  show _ → _ → _ → _ → (∀ w, Calls _ _ _ w fun e w' => e = .returned (.bool ([60, 62].isPrefixOf s.data.toList)) ∧ _) → (∀ w, Calls _ _ _ w fun e w' => e = .returned (.bool ([60, 61].isPrefixOf s.data.toList)) ∧ _) → (∀ w, Calls _ _ _ w fun e w' => e = .returned (.bool ([62, 61].isPrefixOf s.data.toList)) ∧ _) → _
  generalize bgn s.data.toList DG = b1
  generalize bgn s.data.toList [34] = b2
  generalize bgn s.data.toList [35] = b3
  generalize bgn s.data.toList LT = b4
  generalize [60, 62].isPrefixOf s.data.toList = p1
  generalize [60, 61].isPrefixOf s.data.toList = p2
  generalize [62, 61].isPrefixOf s.data.toList = p3
  generalize runL s.data.toList NB = N1
  generalize 1 + qrL (s.data.toList.drop 1) = N2
  generalize frL s.data.toList = N3
  generalize wrL s.data.toList = N4
  intro hD hQ hF hL hP hP2 hP3 hN hq hf hw
  go_enter Tryz.func82, Tryz.ntmps82
  cases b1
  ·cases b2
   ·cases b3
    ·cases b4
     ·cases p1
      ·cases p2
       ·cases p3
        ·go_wp2_with (first | (go_at_call 83; first | (refine (hD _).mono ?_; clear hD; rintro e w1 ⟨rfl, hb⟩; have hB := bux w zq2 hb; clear hb) | (refine (hQ _).mono ?_; clear hQ; rintro e w1 ⟨rfl, hb⟩; have hB := bux w zq2 hb; clear hb) | (refine (hF _).mono ?_; clear hF; rintro e w1 ⟨rfl, hb⟩; have hB := bux w zq2 hb; clear hb) | (refine (hL _).mono ?_; clear hL; rintro e w1 ⟨rfl, hb⟩; have hB := bux w zq2 hb; clear hb)) | (go_at_call 49; first | (refine (hP _).mono ?_; clear hP; rintro e w1 ⟨rfl, hb⟩; have hB := bux w zq2 hb; clear hb) | (refine (hP2 _).mono ?_; clear hP2; rintro e w1 ⟨rfl, hb⟩; have hB := bux w zq2 hb; clear hb) | (refine (hP3 _).mono ?_; clear hP3; rintro e w1 ⟨rfl, hb⟩; have hB := bux w zq2 hb; clear hb)) | (go_at_call 121; first | (refine (hN _).mono ?_; clear hN; rintro e w1 ⟨rfl, hb⟩; have hB := bux w zq2 hb; clear hb)) | (go_at_call 122; first | (refine (hq _).mono ?_; clear hq; rintro e w1 ⟨rfl, hb⟩; have hB := bux w zq2 hb; clear hb)) | (go_at_call 123; first | (refine (hf _).mono ?_; clear hf; rintro e w1 ⟨rfl, hb⟩; have hB := bux w zq2 hb; clear hb)) | (go_at_call 124; first | (refine (hw _).mono ?_; clear hw; rintro e w1 ⟨rfl, hb⟩; have hB := bux w zq2 hb; clear hb)))
         go_ret
         exact ⟨rfl, zq15⟩
        ·go_wp2_with (first | (go_at_call 83; first | (refine (hD _).mono ?_; clear hD; rintro e w1 ⟨rfl, hb⟩; have hB := bux w zq2 hb; clear hb) | (refine (hQ _).mono ?_; clear hQ; rintro e w1 ⟨rfl, hb⟩; have hB := bux w zq2 hb; clear hb) | (refine (hF _).mono ?_; clear hF; rintro e w1 ⟨rfl, hb⟩; have hB := bux w zq2 hb; clear hb) | (refine (hL _).mono ?_; clear hL; rintro e w1 ⟨rfl, hb⟩; have hB := bux w zq2 hb; clear hb)) | (go_at_call 49; first | (refine (hP _).mono ?_; clear hP; rintro e w1 ⟨rfl, hb⟩; have hB := bux w zq2 hb; clear hb) | (refine (hP2 _).mono ?_; clear hP2; rintro e w1 ⟨rfl, hb⟩; have hB := bux w zq2 hb; clear hb) | (refine (hP3 _).mono ?_; clear hP3; rintro e w1 ⟨rfl, hb⟩; have hB := bux w zq2 hb; clear hb)) | (go_at_call 121; first | (refine (hN _).mono ?_; clear hN; rintro e w1 ⟨rfl, hb⟩; have hB := bux w zq2 hb; clear hb)) | (go_at_call 122; first | (refine (hq _).mono ?_; clear hq; rintro e w1 ⟨rfl, hb⟩; have hB := bux w zq2 hb; clear hb)) | (go_at_call 123; first | (refine (hf _).mono ?_; clear hf; rintro e w1 ⟨rfl, hb⟩; have hB := bux w zq2 hb; clear hb)) | (go_at_call 124; first | (refine (hw _).mono ?_; clear hw; rintro e w1 ⟨rfl, hb⟩; have hB := bux w zq2 hb; clear hb)))
         go_ret
         exact ⟨rfl, zq15⟩
       ·go_wp2_with (first | (go_at_call 83; first | (refine (hD _).mono ?_; clear hD; rintro e w1 ⟨rfl, hb⟩; have hB := bux w zq2 hb; clear hb) | (refine (hQ _).mono ?_; clear hQ; rintro e w1 ⟨rfl, hb⟩; have hB := bux w zq2 hb; clear hb) | (refine (hF _).mono ?_; clear hF; rintro e w1 ⟨rfl, hb⟩; have hB := bux w zq2 hb; clear hb) | (refine (hL _).mono ?_; clear hL; rintro e w1 ⟨rfl, hb⟩; have hB := bux w zq2 hb; clear hb)) | (go_at_call 49; first | (refine (hP _).mono ?_; clear hP; rintro e w1 ⟨rfl, hb⟩; have hB := bux w zq2 hb; clear hb) | (refine (hP2 _).mono ?_; clear hP2; rintro e w1 ⟨rfl, hb⟩; have hB := bux w zq2 hb; clear hb) | (refine (hP3 _).mono ?_; clear hP3; rintro e w1 ⟨rfl, hb⟩; have hB := bux w zq2 hb; clear hb)) | (go_at_call 121; first | (refine (hN _).mono ?_; clear hN; rintro e w1 ⟨rfl, hb⟩; have hB := bux w zq2 hb; clear hb)) | (go_at_call 122; first | (refine (hq _).mono ?_; clear hq; rintro e w1 ⟨rfl, hb⟩; have hB := bux w zq2 hb; clear hb)) | (go_at_call 123; first | (refine (hf _).mono ?_; clear hf; rintro e w1 ⟨rfl, hb⟩; have hB := bux w zq2 hb; clear hb)) | (go_at_call 124; first | (refine (hw _).mono ?_; clear hw; rintro e w1 ⟨rfl, hb⟩; have hB := bux w zq2 hb; clear hb)))
        go_ret
        exact ⟨rfl, zq15⟩
      ·go_wp2_with (first | (go_at_call 83; first | (refine (hD _).mono ?_; clear hD; rintro e w1 ⟨rfl, hb⟩; have hB := bux w zq2 hb; clear hb) | (refine (hQ _).mono ?_; clear hQ; rintro e w1 ⟨rfl, hb⟩; have hB := bux w zq2 hb; clear hb) | (refine (hF _).mono ?_; clear hF; rintro e w1 ⟨rfl, hb⟩; have hB := bux w zq2 hb; clear hb) | (refine (hL _).mono ?_; clear hL; rintro e w1 ⟨rfl, hb⟩; have hB := bux w zq2 hb; clear hb)) | (go_at_call 49; first | (refine (hP _).mono ?_; clear hP; rintro e w1 ⟨rfl, hb⟩; have hB := bux w zq2 hb; clear hb) | (refine (hP2 _).mono ?_; clear hP2; rintro e w1 ⟨rfl, hb⟩; have hB := bux w zq2 hb; clear hb) | (refine (hP3 _).mono ?_; clear hP3; rintro e w1 ⟨rfl, hb⟩; have hB := bux w zq2 hb; clear hb)) | (go_at_call 121; first | (refine (hN _).mono ?_; clear hN; rintro e w1 ⟨rfl, hb⟩; have hB := bux w zq2 hb; clear hb)) | (go_at_call 122; first | (refine (hq _).mono ?_; clear hq; rintro e w1 ⟨rfl, hb⟩; have hB := bux w zq2 hb; clear hb)) | (go_at_call 123; first | (refine (hf _).mono ?_; clear hf; rintro e w1 ⟨rfl, hb⟩; have hB := bux w zq2 hb; clear hb)) | (go_at_call 124; first | (refine (hw _).mono ?_; clear hw; rintro e w1 ⟨rfl, hb⟩; have hB := bux w zq2 hb; clear hb)))
       go_ret
       exact ⟨rfl, zq15⟩
     ·go_wp2_with (first | (go_at_call 83; first | (refine (hD _).mono ?_; clear hD; rintro e w1 ⟨rfl, hb⟩; have hB := bux w zq2 hb; clear hb) | (refine (hQ _).mono ?_; clear hQ; rintro e w1 ⟨rfl, hb⟩; have hB := bux w zq2 hb; clear hb) | (refine (hF _).mono ?_; clear hF; rintro e w1 ⟨rfl, hb⟩; have hB := bux w zq2 hb; clear hb) | (refine (hL _).mono ?_; clear hL; rintro e w1 ⟨rfl, hb⟩; have hB := bux w zq2 hb; clear hb)) | (go_at_call 49; first | (refine (hP _).mono ?_; clear hP; rintro e w1 ⟨rfl, hb⟩; have hB := bux w zq2 hb; clear hb) | (refine (hP2 _).mono ?_; clear hP2; rintro e w1 ⟨rfl, hb⟩; have hB := bux w zq2 hb; clear hb) | (refine (hP3 _).mono ?_; clear hP3; rintro e w1 ⟨rfl, hb⟩; have hB := bux w zq2 hb; clear hb)) | (go_at_call 121; first | (refine (hN _).mono ?_; clear hN; rintro e w1 ⟨rfl, hb⟩; have hB := bux w zq2 hb; clear hb)) | (go_at_call 122; first | (refine (hq _).mono ?_; clear hq; rintro e w1 ⟨rfl, hb⟩; have hB := bux w zq2 hb; clear hb)) | (go_at_call 123; first | (refine (hf _).mono ?_; clear hf; rintro e w1 ⟨rfl, hb⟩; have hB := bux w zq2 hb; clear hb)) | (go_at_call 124; first | (refine (hw _).mono ?_; clear hw; rintro e w1 ⟨rfl, hb⟩; have hB := bux w zq2 hb; clear hb)))
      go_ret
      exact ⟨rfl, zq15⟩
    ·go_wp2_with (first | (go_at_call 83; first | (refine (hD _).mono ?_; clear hD; rintro e w1 ⟨rfl, hb⟩; have hB := bux w zq2 hb; clear hb) | (refine (hQ _).mono ?_; clear hQ; rintro e w1 ⟨rfl, hb⟩; have hB := bux w zq2 hb; clear hb) | (refine (hF _).mono ?_; clear hF; rintro e w1 ⟨rfl, hb⟩; have hB := bux w zq2 hb; clear hb) | (refine (hL _).mono ?_; clear hL; rintro e w1 ⟨rfl, hb⟩; have hB := bux w zq2 hb; clear hb)) | (go_at_call 49; first | (refine (hP _).mono ?_; clear hP; rintro e w1 ⟨rfl, hb⟩; have hB := bux w zq2 hb; clear hb) | (refine (hP2 _).mono ?_; clear hP2; rintro e w1 ⟨rfl, hb⟩; have hB := bux w zq2 hb; clear hb) | (refine (hP3 _).mono ?_; clear hP3; rintro e w1 ⟨rfl, hb⟩; have hB := bux w zq2 hb; clear hb)) | (go_at_call 121; first | (refine (hN _).mono ?_; clear hN; rintro e w1 ⟨rfl, hb⟩; have hB := bux w zq2 hb; clear hb)) | (go_at_call 122; first | (refine (hq _).mono ?_; clear hq; rintro e w1 ⟨rfl, hb⟩; have hB := bux w zq2 hb; clear hb)) | (go_at_call 123; first | (refine (hf _).mono ?_; clear hf; rintro e w1 ⟨rfl, hb⟩; have hB := bux w zq2 hb; clear hb)) | (go_at_call 124; first | (refine (hw _).mono ?_; clear hw; rintro e w1 ⟨rfl, hb⟩; have hB := bux w zq2 hb; clear hb)))
     go_ret
     exact ⟨rfl, zq15⟩
   ·go_wp2_with (first | (go_at_call 83; first | (refine (hD _).mono ?_; clear hD; rintro e w1 ⟨rfl, hb⟩; have hB := bux w zq2 hb; clear hb) | (refine (hQ _).mono ?_; clear hQ; rintro e w1 ⟨rfl, hb⟩; have hB := bux w zq2 hb; clear hb) | (refine (hF _).mono ?_; clear hF; rintro e w1 ⟨rfl, hb⟩; have hB := bux w zq2 hb; clear hb) | (refine (hL _).mono ?_; clear hL; rintro e w1 ⟨rfl, hb⟩; have hB := bux w zq2 hb; clear hb)) | (go_at_call 49; first | (refine (hP _).mono ?_; clear hP; rintro e w1 ⟨rfl, hb⟩; have hB := bux w zq2 hb; clear hb) | (refine (hP2 _).mono ?_; clear hP2; rintro e w1 ⟨rfl, hb⟩; have hB := bux w zq2 hb; clear hb) | (refine (hP3 _).mono ?_; clear hP3; rintro e w1 ⟨rfl, hb⟩; have hB := bux w zq2 hb; clear hb)) | (go_at_call 121; first | (refine (hN _).mono ?_; clear hN; rintro e w1 ⟨rfl, hb⟩; have hB := bux w zq2 hb; clear hb)) | (go_at_call 122; first | (refine (hq _).mono ?_; clear hq; rintro e w1 ⟨rfl, hb⟩; have hB := bux w zq2 hb; clear hb)) | (go_at_call 123; first | (refine (hf _).mono ?_; clear hf; rintro e w1 ⟨rfl, hb⟩; have hB := bux w zq2 hb; clear hb)) | (go_at_call 124; first | (refine (hw _).mono ?_; clear hw; rintro e w1 ⟨rfl, hb⟩; have hB := bux w zq2 hb; clear hb)))
    go_ret
    exact ⟨rfl, zq15⟩
  ·go_wp2_with (first | (go_at_call 83; first | (refine (hD _).mono ?_; clear hD; rintro e w1 ⟨rfl, hb⟩; have hB := bux w zq2 hb; clear hb) | (refine (hQ _).mono ?_; clear hQ; rintro e w1 ⟨rfl, hb⟩; have hB := bux w zq2 hb; clear hb) | (refine (hF _).mono ?_; clear hF; rintro e w1 ⟨rfl, hb⟩; have hB := bux w zq2 hb; clear hb) | (refine (hL _).mono ?_; clear hL; rintro e w1 ⟨rfl, hb⟩; have hB := bux w zq2 hb; clear hb)) | (go_at_call 49; first | (refine (hP _).mono ?_; clear hP; rintro e w1 ⟨rfl, hb⟩; have hB := bux w zq2 hb; clear hb) | (refine (hP2 _).mono ?_; clear hP2; rintro e w1 ⟨rfl, hb⟩; have hB := bux w zq2 hb; clear hb) | (refine (hP3 _).mono ?_; clear hP3; rintro e w1 ⟨rfl, hb⟩; have hB := bux w zq2 hb; clear hb)) | (go_at_call 121; first | (refine (hN _).mono ?_; clear hN; rintro e w1 ⟨rfl, hb⟩; have hB := bux w zq2 hb; clear hb)) | (go_at_call 122; first | (refine (hq _).mono ?_; clear hq; rintro e w1 ⟨rfl, hb⟩; have hB := bux w zq2 hb; clear hb)) | (go_at_call 123; first | (refine (hf _).mono ?_; clear hf; rintro e w1 ⟨rfl, hb⟩; have hB := bux w zq2 hb; clear hb)) | (go_at_call 124; first | (refine (hw _).mono ?_; clear hw; rintro e w1 ⟨rfl, hb⟩; have hB := bux w zq2 hb; clear hb)))
   go_ret
   exact ⟨rfl, zq15⟩
end Go.Proofs.YtcmjhjnpcogmgaaGreatDoor
