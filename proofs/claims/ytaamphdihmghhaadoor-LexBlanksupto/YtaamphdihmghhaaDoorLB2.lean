/- Contracts of lex's isMeantAsCell, quotedReach, faultReach, wordReach and reach, for every text. New memory alone is made. The condition: texts no longer than a text may be. -/
import Derived.Test.YtaamphdihmghhaaDoorLB
import Derived.Test.YtaamphdihmghhaaDoorPX
namespace Go.Proofs.YtaamphdihmghhaaDoor
open Go.Shelf Go.RowKit
set_option linter.all false

theorem ext_size (s : ByteArray) (k : Nat) : (s.extract k s.size).size ≤ s.size := by rw [ByteArray.size_extract]; omega
theorem ext_size0 (s : ByteArray) (k : Nat) : (s.extract 0 k).size ≤ s.size := by rw [ByteArray.size_extract]; omega
theorem isE (s : ByteArray) : s.toList.isEmpty = s.data.toList.isEmpty := by rw [toL]
theorem run_LT (s : ByteArray) (w : World) (hs : s.size ≤ maxLen) : Calls Tryd.prog 28 #[.string s, .string ⟨#[65, 66, 67, 68, 69, 70, 71, 72, 73, 74, 75, 76, 77, 78, 79, 80, 81, 82, 83, 84, 85, 86, 87, 88, 89, 90]⟩] w fun e w' => e = .returned (.int .i64 (runL s.data.toList LT)) ∧ Below w.heap.size w w' :=
  run_any s _ w hs (by decide) (ascii_all (by decide))
theorem run_DG (s : ByteArray) (w : World) (hs : s.size ≤ maxLen) : Calls Tryd.prog 28 #[.string s, .string ⟨#[48, 49, 50, 51, 52, 53, 54, 55, 56, 57]⟩] w fun e w' => e = .returned (.int .i64 (runL s.data.toList DG)) ∧ Below w.heap.size w w' :=
  run_any s _ w hs (by decide) (ascii_all (by decide))
theorem run_NB (s : ByteArray) (w : World) (hs : s.size ≤ maxLen) : Calls Tryd.prog 28 #[.string s, .string ⟨#[48, 49, 50, 51, 52, 53, 54, 55, 56, 57, 46]⟩] w fun e w' => e = .returned (.int .i64 (runL s.data.toList NB)) ∧ Below w.heap.size w w' :=
  run_any s _ w hs (by decide) (ascii_all (by decide))
theorem run_WD (s : ByteArray) (w : World) (hs : s.size ≤ maxLen) : Calls Tryd.prog 28 #[.string s, .string ⟨#[65, 66, 67, 68, 69, 70, 71, 72, 73, 74, 75, 76, 77, 78, 79, 80, 81, 82, 83, 84, 85, 86, 87, 88, 89, 90, 48, 49, 50, 51, 52, 53, 54, 55, 56, 57, 95]⟩] w fun e w' => e = .returned (.int .i64 (runL s.data.toList WD)) ∧ Below w.heap.size w w' :=
  run_any s _ w hs (by decide) (ascii_all (by decide))
theorem meant_any (s : ByteArray) (w : World) (hs : s.size ≤ maxLen) :
    Calls Tryd.prog 39 #[.string s] w fun e w' => e = .returned (.bool (meant s.data.toList)) ∧ Below w.heap.size w w' := by
  have hR1 := fun w => run_LT s w hs
  have hle := runL_le s.data.toList LT
  rw [← size_len] at hle
  have em : meant s.data.toList = (!(s.data.toList.drop (runL s.data.toList LT)).isEmpty && runL (s.data.toList.drop (runL s.data.toList LT)) DG == (s.data.toList.drop (runL s.data.toList LT)).length) := rfl
  rw [em]
  clear em
  revert hR1 hle
  generalize runL s.data.toList LT = k
  intro hR1 hle
  have hR2 := fun w => run_DG (s.extract k s.size) w (Nat.le_trans (ext_size s k) hs)
  rw [← ext_from s k]
  have hz : (s.extract k s.size).size ≤ s.size := ext_size s k
  have hle' : (k : Int) ≤ s.size := by omega
  unfold maxLen at hs
  have em2 : ∀ a b : Nat, (a == b) = decide ((a : Int) = (b : Int)) := fun a b => by rw [Bool.eq_iff_iff]; simp; omega
  rw [em2, ← isE, ← size_len]
  clear em2
  revert hR2
  generalize runL (s.extract k s.size).data.toList DG = j
  intro hR2
  by_cases hq : (s.extract k s.size).toList = []
  · have he : (s.extract k s.size).toList.isEmpty = true := by rw [hq]; rfl
    go_enter Tryd.func39, Tryd.ntmps39
    go_wp2_with (go_at_call 28; first | (refine (hR1 _).mono ?_; clear hR1; rintro e w1 ⟨rfl, hb⟩; have hB : Below w.heap.size w w1 := bup (by with_reducible (repeat' first | assumption | exact Below.refl _ _ | refine Below.drew ?_ | refine Below.setCell ?_ (by first | exact Nat.le_refl _ | (simp; done) | (simp; omega) | omega) _ | refine Below.alloc ?_ (by first | exact Nat.le_refl _ | (simp; done) | (simp; omega) | omega) _)) hb; clear hb) | (refine (hR2 _).mono ?_; clear hR2; rintro e w1 ⟨rfl, hb⟩; have hB : Below w.heap.size w w1 := bup (by with_reducible (repeat' first | assumption | exact Below.refl _ _ | refine Below.drew ?_ | refine Below.setCell ?_ (by first | exact Nat.le_refl _ | (simp; done) | (simp; omega) | omega) _ | refine Below.alloc ?_ (by first | exact Nat.le_refl _ | (simp; done) | (simp; omega) | omega) _)) hb; clear hb))
    go_ret
    exact ⟨by apply retB; first | (simp [he]; done) | (simp [he]; rw [Bool.eq_iff_iff]; simp), by assumption⟩
  · have he : (s.extract k s.size).toList.isEmpty = false := by cases h2 : (s.extract k s.size).toList; exact absurd h2 hq; rfl
    go_enter Tryd.func39, Tryd.ntmps39
    go_wp2_with (go_at_call 28; first | (refine (hR1 _).mono ?_; clear hR1; rintro e w1 ⟨rfl, hb⟩; have hB : Below w.heap.size w w1 := bup (by with_reducible (repeat' first | assumption | exact Below.refl _ _ | refine Below.drew ?_ | refine Below.setCell ?_ (by first | exact Nat.le_refl _ | (simp; done) | (simp; omega) | omega) _ | refine Below.alloc ?_ (by first | exact Nat.le_refl _ | (simp; done) | (simp; omega) | omega) _)) hb; clear hb) | (refine (hR2 _).mono ?_; clear hR2; rintro e w1 ⟨rfl, hb⟩; have hB : Below w.heap.size w w1 := bup (by with_reducible (repeat' first | assumption | exact Below.refl _ _ | refine Below.drew ?_ | refine Below.setCell ?_ (by first | exact Nat.le_refl _ | (simp; done) | (simp; omega) | omega) _ | refine Below.alloc ?_ (by first | exact Nat.le_refl _ | (simp; done) | (simp; omega) | omega) _)) hb; clear hb))
    go_ret
    exact ⟨by apply retB; first | (simp [he]; done) | (simp [he]; rw [Bool.eq_iff_iff]; simp), by assumption⟩

theorem qr_a {l : List UInt8} {i : Nat} (hi : i < l.length) (h : bgn (l.drop i) [34] = false) : qrL (l.drop i) = 1 + qrL (l.drop (i + 1)) := by
  rw [List.drop_eq_getElem_cons hi] at h ⊢
  have hc : ¬ l[i] = 34 := by simpa [bgn] using h
  cases ht : l.drop (i + 1) with
  | nil => simp [qrL]
  | cons d t => simp [qrL, hc]
theorem qr_b {l : List UInt8} {i : Nat} (hi : i < l.length) (h : bgn (l.drop i) [34] = true) (h2 : bgn (l.drop (i + 1)) [34] = false) : qrL (l.drop i) = 1 := by
  rw [List.drop_eq_getElem_cons hi] at h ⊢
  have hc : l[i] = 34 := by simpa [bgn] using h
  cases ht : l.drop (i + 1) with
  | nil => simp [qrL]
  | cons d t =>
    rw [ht] at h2
    have hd : ¬ d = 34 := by simpa [bgn] using h2
    simp [qrL, hc, hd]
theorem qr_c {l : List UInt8} {i : Nat} (hi : i < l.length) (h : bgn (l.drop i) [34] = true) (h2 : bgn (l.drop (i + 1)) [34] = true) : i + 1 < l.length ∧ qrL (l.drop i) = 2 + qrL (l.drop (i + 2)) := by
  have hi2 : i + 1 < l.length := by
    have := len_pos (bgn_ne h2); simp at this; omega
  refine ⟨hi2, ?_⟩
  rw [List.drop_eq_getElem_cons hi] at h ⊢
  rw [List.drop_eq_getElem_cons hi2] at h2 ⊢
  have hc : l[i] = 34 := by simpa [bgn] using h
  have hd : l[i + 1] = 34 := by simpa [bgn] using h2
  simp [qrL, hc, hd]
theorem begins_Q (s : ByteArray) (w : World) : Calls Tryd.prog 19 #[.string s, .string ⟨#[34]⟩] w fun e w' => e = .returned (.bool (bgn s.data.toList [34])) ∧ Below w.heap.size w w' := begins_any s _ w
theorem qreach_any (s : ByteArray) (w : World) (hs : s.size ≤ maxLen) (h1 : 1 ≤ s.size) :
    Calls Tryd.prog 29 #[.string s] w fun e w' => e = .returned (.int .i64 ((1 + qrL (s.data.toList.drop 1) : Nat) : Int)) ∧ Below w.heap.size w w' := by
  unfold maxLen at hs
  obtain ⟨T, hT⟩ : ∃ T, 1 + qrL (s.data.toList.drop 1) = T := ⟨_, rfl⟩
  rw [hT]
  have HT : Hid (1 + qrL (s.data.toList.drop 1) = T) := hT
  clear hT
  go_enter Tryd.func29, Tryd.ntmps29
  go_wp2
  go_loopw [3] (fun v w' => ∃ i : Nat, v = .int .i64 i ∧ 1 ≤ i ∧ i ≤ s.size ∧ Hid (i + qrL (s.data.toList.drop i) = T) ∧ Below w.heap.size w w') (fun v _ => s.size - (intOf v).toNat)
  case atStart => exact ⟨1, rfl, by omega, h1, HT, Below.refl _ _⟩
  case round =>
    obtain ⟨i, rfl, hi1, hi2, hN, hB⟩ := hrel
    by_cases hlt : i < s.size
    · have hlt' : (i : Int) < s.size := by omega
      have hlt2 : (i : Int) ≤ s.size := by omega
      have hlt3 : (i : Int) + 1 ≤ s.size := by omega
      have hll : i < s.data.toList.length := by rw [← size_len]; exact hlt
      cases hb1 : bgn (s.data.toList.drop i) [34]
      · have hQ1 := fun w => begins_Q (s.extract i s.size) w
        rw [ext_from, hb1] at hQ1
        have e := qr_a hll hb1
        have hN' : i + 1 + qrL (s.data.toList.drop (i + 1)) = T := by have := hN.out; omega
        have HN : Hid (i + 1 + qrL (s.data.toList.drop (i + 1)) = T) := hN'
        clear hN' e hN hb1
        go_wp2_with (go_at_call 19; first | (refine (hQ1 _).mono ?_; clear hQ1; rintro e w1 ⟨rfl, hb⟩; have hB : Below w.heap.size w w1 := bup (by with_reducible (repeat' first | assumption | exact Below.refl _ _ | refine Below.drew ?_ | refine Below.setCell ?_ (by first | exact Nat.le_refl _ | (simp; done) | (simp; omega) | omega) _ | refine Below.alloc ?_ (by first | exact Nat.le_refl _ | (simp; done) | (simp; omega) | omega) _)) hb; clear hb))
        exact ⟨⟨i + 1, by go_num, by omega, by omega, HN, by assumption⟩, by simp [intOf]; omega⟩
      · cases hb2 : bgn (s.data.toList.drop (i + 1)) [34]
        · have hQ1 := fun w => begins_Q (s.extract i s.size) w
          rw [ext_from, hb1] at hQ1
          have hQ2 := fun w => begins_Q (s.extract (i + 1) s.size) w
          rw [ext_from, hb2] at hQ2
          have e := qr_b hll hb1 hb2
          have hN' : i + 1 = T := by have := hN.out; omega
          have HN : Hid (i + 1 = T) := hN'
          clear hN' e hN hb1 hb2
          go_wp2_with (go_at_call 19; first | (refine (hQ1 _).mono ?_; clear hQ1; rintro e w1 ⟨rfl, hb⟩; have hB : Below w.heap.size w w1 := bup (by with_reducible (repeat' first | assumption | exact Below.refl _ _ | refine Below.drew ?_ | refine Below.setCell ?_ (by first | exact Nat.le_refl _ | (simp; done) | (simp; omega) | omega) _ | refine Below.alloc ?_ (by first | exact Nat.le_refl _ | (simp; done) | (simp; omega) | omega) _)) hb; clear hb) | (refine (hQ2 _).mono ?_; clear hQ2; rintro e w1 ⟨rfl, hb⟩; have hB : Below w.heap.size w w1 := bup (by with_reducible (repeat' first | assumption | exact Below.refl _ _ | refine Below.drew ?_ | refine Below.setCell ?_ (by first | exact Nat.le_refl _ | (simp; done) | (simp; omega) | omega) _ | refine Below.alloc ?_ (by first | exact Nat.le_refl _ | (simp; done) | (simp; omega) | omega) _)) hb; clear hb))
          go_ret
          exact ⟨by apply ret1; have := HN.out; omega, by assumption⟩
        · have hQ1 := fun w => begins_Q (s.extract i s.size) w
          rw [ext_from, hb1] at hQ1
          have hQ2 := fun w => begins_Q (s.extract (i + 1) s.size) w
          rw [ext_from, hb2] at hQ2
          obtain ⟨e0, e⟩ := qr_c hll hb1 hb2
          rw [← size_len] at e0
          have hN' : i + 2 + qrL (s.data.toList.drop (i + 2)) = T := by have := hN.out; omega
          have HN : Hid (i + 2 + qrL (s.data.toList.drop (i + 2)) = T) := hN'
          clear hN' e hN hb1 hb2
          go_wp2_with (go_at_call 19; first | (refine (hQ1 _).mono ?_; clear hQ1; rintro e w1 ⟨rfl, hb⟩; have hB : Below w.heap.size w w1 := bup (by with_reducible (repeat' first | assumption | exact Below.refl _ _ | refine Below.drew ?_ | refine Below.setCell ?_ (by first | exact Nat.le_refl _ | (simp; done) | (simp; omega) | omega) _ | refine Below.alloc ?_ (by first | exact Nat.le_refl _ | (simp; done) | (simp; omega) | omega) _)) hb; clear hb) | (refine (hQ2 _).mono ?_; clear hQ2; rintro e w1 ⟨rfl, hb⟩; have hB : Below w.heap.size w w1 := bup (by with_reducible (repeat' first | assumption | exact Below.refl _ _ | refine Below.drew ?_ | refine Below.setCell ?_ (by first | exact Nat.le_refl _ | (simp; done) | (simp; omega) | omega) _ | refine Below.alloc ?_ (by first | exact Nat.le_refl _ | (simp; done) | (simp; omega) | omega) _)) hb; clear hb))
          exact ⟨⟨i + 2, by go_num, by omega, by omega, HN, by assumption⟩, by simp [intOf]; omega⟩
    · have hlt' : ¬ (i : Int) < s.size := by omega
      have e : T = s.size := by
        have h := hN.out
        rw [List.drop_of_length_le (by rw [← size_len]; omega)] at h
        simp only [qrL] at h; omega
      clear hN
      go_wp2
      go_ret
      exact ⟨by first | rfl | rw [e], by assumption⟩
theorem freach_any (s : ByteArray) (w : World) (hs : s.size ≤ maxLen) :
    Calls Tryd.prog 30 #[.string s] w fun e w' => e = .returned (.int .i64 (frL s.data.toList)) ∧ Below w.heap.size w w' := by
  have hC := fun w => fx_bel s hs w
  have hlt := fxAt_lt s
  have ef : frL s.data.toList = if 0 ≤ fxAt s then (fxA s).size + 1 else s.size := by
    unfold frL
    show (if 0 ≤ fxAt s then (fxAt s).toNat + 1 else s.data.toList.length) = _
    by_cases h : 0 ≤ fxAt s
    · have := fxAt_lt s h
      rw [if_pos h, if_pos h]; unfold fxA; rw [if_pos h, ByteArray.size_extract]; omega
    · rw [if_neg h, if_neg h, size_len]
  rw [ef]
  unfold maxLen at hs
  have hsz : (fxA s).size ≤ s.size := by unfold fxA; split; exact ext_size0 _ _; exact Nat.le_refl _
  by_cases h : 0 ≤ fxAt s
  · have hf : fxF s = true := by simp [fxF, h]
    have hsz2 : (fxA s).size + 1 ≤ s.size := by have := hlt h; unfold fxA; rw [if_pos h, ByteArray.size_extract]; omega
    rw [if_pos h]
    rw [hf] at hC
    go_enter Tryd.func30, Tryd.ntmps30
    go_wp2_with (go_at_call 44; first | (refine (hC _).mono ?_; clear hC; rintro e w1 ⟨rfl, hb⟩; have hB : Below w.heap.size w w1 := bup (by with_reducible (repeat' first | assumption | exact Below.refl _ _ | refine Below.drew ?_ | refine Below.setCell ?_ (by first | exact Nat.le_refl _ | (simp; done) | (simp; omega) | omega) _ | refine Below.alloc ?_ (by first | exact Nat.le_refl _ | (simp; done) | (simp; omega) | omega) _)) hb; clear hb))
    go_ret
    exact ⟨by apply ret1; omega, by assumption⟩
  · have hf : fxF s = false := by simp [fxF]; omega
    rw [if_neg h]
    rw [hf] at hC
    go_enter Tryd.func30, Tryd.ntmps30
    go_wp2_with (go_at_call 44; first | (refine (hC _).mono ?_; clear hC; rintro e w1 ⟨rfl, hb⟩; have hB : Below w.heap.size w w1 := bup (by with_reducible (repeat' first | assumption | exact Below.refl _ _ | refine Below.drew ?_ | refine Below.setCell ?_ (by first | exact Nat.le_refl _ | (simp; done) | (simp; omega) | omega) _ | refine Below.alloc ?_ (by first | exact Nat.le_refl _ | (simp; done) | (simp; omega) | omega) _)) hb; clear hb))
    go_ret
    exact ⟨rfl, by assumption⟩
end Go.Proofs.YtaamphdihmghhaaDoor
