/- The ways through the document's Parse behind a sign, over what 'digits' answers: the numbe -/
import Derived.Test.YtcmjhjnpcogmgaaGreatDoorUAuto
import Derived.Test.YtcmjhjnpcogmgaaGreatDoorUDcRDigitsDcRValDcRParseM
set_option linter.all false
set_option maxRecDepth 100000
set_option maxHeartbeats 4000000
namespace Go.Proofs.YtcmjhjnpcogmgaaGreatDoor.Dc
open Go.Shelf Go.RowKit
set_option linter.unusedVariables false
theorem rparse_k0_n (s : ByteArray) (k : Nat) (w : World) (hs : s.size ≤ maxLen) (hsz : 0 < s.size) (h45 : s[0].toNat = 45) (hdig : DigIs s 1 k) (hrun : DigRun s 1 k) (hk : k < 1) : Calls Tryz.prog 68 #[.string s] w fun e w' => e = .returned (.tuple #[.int .i64 0, .bool false]) ∧ w' = w := by
 unfold maxLen at hs
 have hsz' : (0 : Int) < s.size := by omega
 have hk' : (k : Int) < 1 := by omega
 go_enter Tryz.func68, Tryz.ntmps68
 go_wp2_with (go_at_call 104; refine (hdig _).mono ?_; rintro e w' ⟨rfl, rfl⟩)
 go_ret2
 exact ⟨rfl, rfl⟩
theorem rparse_k16_n (s : ByteArray) (k : Nat) (w : World) (hs : s.size ≤ maxLen) (hsz : 0 < s.size) (h45 : s[0].toNat = 45) (hdig : DigIs s 1 k) (hrun : DigRun s 1 k) (hk : 15 < k) (hat : 1 < s.size) : Calls Tryz.prog 68 #[.string s] w fun e w' => e = .returned (.tuple #[.int .i64 0, .bool false]) ∧ w' = w := by
 unfold maxLen at hs
 have hsz' : (0 : Int) < s.size := by omega
 have hk' : (15 : Int) < k := by omega
 go_enter Tryz.func68, Tryz.ntmps68
 go_wp2_with (go_at_call 104; refine (hdig _).mono ?_; rintro e w' ⟨rfl, rfl⟩)
 go_ret2
 exact ⟨rfl, rfl⟩
theorem rparse_lead_n (s : ByteArray) (k : Nat) (w : World) (hs : s.size ≤ maxLen) (hsz : 0 < s.size) (h45 : s[0].toNat = 45) (hdig : DigIs s 1 k) (hrun : DigRun s 1 k) (hk1 : 1 < k) (hk15 : k ≤ 15) (hat : 1 < s.size) (hz : s[1].toNat = 48) : Calls Tryz.prog 68 #[.string s] w fun e w' => e = .returned (.tuple #[.int .i64 0, .bool false]) ∧ w' = w := by
 unfold maxLen at hs
 have hsz' : (0 : Int) < s.size := by omega
 have hk' : (1 : Int) < k := by omega
 have hk15' : ¬ (15 : Int) < k := by omega
 have hat' : (1 : Int) < s.size := by omega
 go_enter Tryz.func68, Tryz.ntmps68
 go_wp2_with (go_at_call 104; refine (hdig _).mono ?_; rintro e w' ⟨rfl, rfl⟩)
 go_ret2
 exact ⟨rfl, rfl⟩
theorem rparse_ENbig_n (s : ByteArray) (k : Nat) (w : World) (hs : s.size ≤ maxLen) (hsz : 0 < s.size) (h45 : s[0].toNat = 45) (hdig : DigIs s 1 k) (hrun : DigRun s 1 k) (hk1 : 1 ≤ k) (hk15 : k ≤ 15) (hat : 1 < s.size) (hz : s[1].toNat ≠ 48) (hend : s.size ≤ 1 + k) (hb : 9223372036854775807 < fv (val s 1 k) s (1 + k + 1) 0 4) : Calls Tryz.prog 68 #[.string s] w fun e w' => e = .returned (.tuple #[.int .i64 0, .bool false]) ∧ w' = w := by
 unfold maxLen at hs
 have hsz' : (0 : Int) < s.size := by omega
 have hk1' : ¬ (k : Int) < 1 := by omega
 have hk15' : ¬ (15 : Int) < k := by omega
 have hat' : (1 : Int) < s.size := by omega
 have hv15 : val s 1 k < 1000000000000000 := by
  have h1 := val_lt s 1 k hrun.all
  have h2 := p10_le (j := k) (k := 15) zq17
  have h3 : p10 15 = 1000000000000000 := rfl
  omega
 go_enter Tryz.func68, Tryz.ntmps68
 go_wp2_with (go_at_call 104; refine (hdig _).mono ?_; rintro e w' ⟨rfl, rfl⟩)
 go_loop [7, 8] (fun x y => ∃ j : Nat, j ≤ k ∧ y = .int .i64 ((1 : Nat) + j : Nat) ∧ x = .int .u64 (val s 1 j : Nat)) (fun _ y => 1 + k - (intOf y).toNat)
 case atStart => exact ⟨0, zq17, rfl, rfl⟩
 case round =>
  obtain ⟨j, hj, rfl, rfl⟩ := hrel
  by_cases hlt : j < k
  ·have hbd : val s 1 j < 100000000000000 := by
    have h1 := val_lt s 1 j fun m hm hmj => hrun.all m hm zq17
    have h2 := p10_le (j := j) (k := 14) zq17
    have h3 : p10 14 = 100000000000000 := rfl
    omega
   have hin : 1 + j < s.size := by have := hrun.le; omega
   have hdj := hrun.all j hin hlt
   have hd' : 48 ≤ s[1 + j].toNat ∧ s[1 + j].toNat ≤ 57 := by simpa [isDig] using hdj
   have HS := Lib.hid (show val s 1 (j + 1) = 10 * val s 1 j + (s[1 + j].toNat - 48) by simp only [val]; rw [dgt_is hin])
   have hin' : (((1 : Nat) + j : Nat) : Int) < s.size := by omega
   obtain ⟨d1, d2⟩ := hd'
   clear hdj hrun hdig
   go_wp2
   go_round
   case rel => exact ⟨j + 1, zq17, by go_num, by rw [HS.out]; go_num⟩
   case measure => simp [intOf]; omega
  ·obtain rfl : j = k := by omega
   clear hdig
   have hfl := fv_lt (val s 1 j) s (1 + j + 1) 0 (fun m _ hm => absurd hm zq17) hv15
   have hend' : ¬ (1 + (j : Int)) < s.size := by omega
   go_wp2
   go_loop [7, 10] (fun x y => ∃ i : Nat, i ≤ 4 ∧ y = .int .i64 i ∧ x = .int .u64 (fv (val s 1 j) s (1 + j + 1) 0 i : Nat)) (fun _ y => 4 - (intOf y).toNat)
   case atStart => exact ⟨0, zq17, rfl, rfl⟩
   case round =>
    obtain ⟨i, hi, rfl, rfl⟩ := hrel
    by_cases hlt4 : i < 4
    ·have hlt4' : (i : Int) < 4 := by omega
     have hfb : fv (val s 1 j) s (1 + j + 1) 0 i < 1000000000000000000 := by
      have h1 := hfl i zq17
      have h2 := p10_le (j := i) (k := 3) zq17
      have h3 : p10 3 = 1000 := rfl
      omega
     have HF := Lib.hid (show fv (val s 1 j) s (1 + j + 1) 0 (i + 1) = 10 * fv (val s 1 j) s (1 + j + 1) 0 i by simp [fv])
     have hn0 : ¬ (i : Int) < 0 := by omega
     clear hfl
     go_wp2
     go_round
     case rel => exact ⟨i + 1, zq17, by go_num, by rw [HF.out]; go_num⟩
     case measure => simp [intOf]; omega
    ·obtain rfl : i = 4 := by omega
     generalize hV : fv (val s 1 j) s (1 + j + 1) 0 4 = V at *
     have tV1 : decide ((9223372036854775807 : Int) < (V : Int)) = true := decide_eq_true zq17
     go_wp2
     go_ret2
     exact ⟨rfl, rfl⟩
theorem rparse_okNbig_n (s : ByteArray) (k : Nat) (w : World) (hs : s.size ≤ maxLen) (hsz : 0 < s.size) (h45 : s[0].toNat = 45) (hdig : DigIs s 1 k) (hrun : DigRun s 1 k) (hk1 : 1 ≤ k) (hk15 : k ≤ 15) (hat : 1 < s.size) (hz : s[1].toNat ≠ 48) (hlt1 : 1 + k < s.size) (r : Nat) (hdig2 : DigAt s (1 + (k : Int) + 1) r) (hdot : s[1 + k].toNat = 46) (hr1 : 1 ≤ r) (hr4 : r ≤ 4) (hrend : s.size ≤ 1 + k + 1 + r) (hr9 : 1 + k + 1 + r ≤ s.size) (hr2 : ∀ m, (h : 1 + k + 1 + m < s.size) → m < r → isDig s[1 + k + 1 + m] = true) (hb : 9223372036854775807 < fv (val s 1 k) s (1 + k + 1) r 4) : Calls Tryz.prog 68 #[.string s] w fun e w' => e = .returned (.tuple #[.int .i64 0, .bool false]) ∧ w' = w := by
 unfold maxLen at hs
 have hsz' : (0 : Int) < s.size := by omega
 have hk1' : ¬ (k : Int) < 1 := by omega
 have hk15' : ¬ (15 : Int) < k := by omega
 have hat' : (1 : Int) < s.size := by omega
 have hv15 : val s 1 k < 1000000000000000 := by
  have h1 := val_lt s 1 k hrun.all
  have h2 := p10_le (j := k) (k := 15) zq17
  have h3 : p10 15 = 1000000000000000 := rfl
  omega
 go_enter Tryz.func68, Tryz.ntmps68
 go_wp2_with (go_at_call 104; refine (hdig _).mono ?_; rintro e w' ⟨rfl, rfl⟩)
 go_loop [7, 8] (fun x y => ∃ j : Nat, j ≤ k ∧ y = .int .i64 ((1 : Nat) + j : Nat) ∧ x = .int .u64 (val s 1 j : Nat)) (fun _ y => 1 + k - (intOf y).toNat)
 case atStart => exact ⟨0, zq17, rfl, rfl⟩
 case round =>
  obtain ⟨j, hj, rfl, rfl⟩ := hrel
  by_cases hlt : j < k
  ·have hbd : val s 1 j < 100000000000000 := by
    have h1 := val_lt s 1 j fun m hm hmj => hrun.all m hm zq17
    have h2 := p10_le (j := j) (k := 14) zq17
    have h3 : p10 14 = 100000000000000 := rfl
    omega
   have hin : 1 + j < s.size := by have := hrun.le; omega
   have hdj := hrun.all j hin hlt
   have hd' : 48 ≤ s[1 + j].toNat ∧ s[1 + j].toNat ≤ 57 := by simpa [isDig] using hdj
   have HS := Lib.hid (show val s 1 (j + 1) = 10 * val s 1 j + (s[1 + j].toNat - 48) by simp only [val]; rw [dgt_is hin])
   have hin' : (((1 : Nat) + j : Nat) : Int) < s.size := by omega
   obtain ⟨d1, d2⟩ := hd'
   clear hdj hrun hdig
   go_wp2
   go_round
   case rel => exact ⟨j + 1, zq17, by go_num, by rw [HS.out]; go_num⟩
   case measure => simp [intOf]; omega
  ·obtain rfl : j = k := by omega
   clear hdig
   have hlt2 : (1 + (j : Int)) < s.size := by omega
   have hfl := fv_lt (val s 1 j) s (1 + j + 1) r hr2 hv15
   go_wp2_with (go_at_call 104; refine (hdig2 _).mono ?_; rintro e w' ⟨rfl, rfl⟩)
   go_loop [7, 10] (fun x y => ∃ i : Nat, i ≤ 4 ∧ y = .int .i64 i ∧ x = .int .u64 (fv (val s 1 j) s (1 + j + 1) r i : Nat)) (fun _ y => 4 - (intOf y).toNat)
   case atStart => exact ⟨0, zq17, rfl, rfl⟩
   case round =>
    obtain ⟨i, hi, rfl, rfl⟩ := hrel
    by_cases hlt4 : i < 4
    ·have hlt4' : (i : Int) < 4 := by omega
     have hfb : fv (val s 1 j) s (1 + j + 1) r i < 1000000000000000000 := by
      have h1 := hfl i zq17
      have h2 := p10_le (j := i) (k := 3) zq17
      have h3 : p10 3 = 1000 := rfl
      omega
     by_cases hir : i < r
     ·have hin : 1 + j + 1 + i < s.size := by omega
      have hdi := hr2 i hin hir
      have hd' : 48 ≤ s[1 + j + 1 + i].toNat ∧ s[1 + j + 1 + i].toNat ≤ 57 := by simpa [isDig] using hdi
      obtain ⟨d1, d2⟩ := hd'
      have HF := Lib.hid (show fv (val s 1 j) s (1 + j + 1) r (i + 1) = 10 * fv (val s 1 j) s (1 + j + 1) r i + (s[1 + j + 1 + i].toNat - 48) by simp only [fv]; rw [if_pos hir, dgt_is hin])
      have hir' : (i : Int) < r := by omega
      clear hfl hdi hr2
      go_wp2
      go_round
      case rel => exact ⟨i + 1, zq17, by go_num, by rw [HF.out]; go_num⟩
      case measure => simp [intOf]; omega
     ·have HF := Lib.hid (show fv (val s 1 j) s (1 + j + 1) r (i + 1) = 10 * fv (val s 1 j) s (1 + j + 1) r i by simp only [fv]; rw [if_neg hir]; rfl)
      have hir' : ¬ (i : Int) < r := by omega
      clear hfl hr2
      go_wp2
      go_round
      case rel => exact ⟨i + 1, zq17, by go_num, by rw [HF.out]; go_num⟩
      case measure => simp [intOf]; omega
    ·obtain rfl : i = 4 := by omega
     generalize hV : fv (val s 1 j) s (1 + j + 1) r 4 = V at *
     have tV1 : decide ((9223372036854775807 : Int) < (V : Int)) = true := decide_eq_true zq17
     go_wp2
     go_ret2
     exact ⟨rfl, rfl⟩
theorem rparse_ENzero_n (s : ByteArray) (k : Nat) (w : World) (hs : s.size ≤ maxLen) (hsz : 0 < s.size) (h45 : s[0].toNat = 45) (hdig : DigIs s 1 k) (hrun : DigRun s 1 k) (hk1 : 1 ≤ k) (hk15 : k ≤ 15) (hat : 1 < s.size) (hz : s[1].toNat ≠ 48) (hend : s.size ≤ 1 + k) (hb : fv (val s 1 k) s (1 + k + 1) 0 4 = 0) : Calls Tryz.prog 68 #[.string s] w fun e w' => e = .returned (.tuple #[.int .i64 0, .bool false]) ∧ w' = w := by
 unfold maxLen at hs
 have hsz' : (0 : Int) < s.size := by omega
 have hk1' : ¬ (k : Int) < 1 := by omega
 have hk15' : ¬ (15 : Int) < k := by omega
 have hat' : (1 : Int) < s.size := by omega
 have hv15 : val s 1 k < 1000000000000000 := by
  have h1 := val_lt s 1 k hrun.all
  have h2 := p10_le (j := k) (k := 15) zq17
  have h3 : p10 15 = 1000000000000000 := rfl
  omega
 go_enter Tryz.func68, Tryz.ntmps68
 go_wp2_with (go_at_call 104; refine (hdig _).mono ?_; rintro e w' ⟨rfl, rfl⟩)
 go_loop [7, 8] (fun x y => ∃ j : Nat, j ≤ k ∧ y = .int .i64 ((1 : Nat) + j : Nat) ∧ x = .int .u64 (val s 1 j : Nat)) (fun _ y => 1 + k - (intOf y).toNat)
 case atStart => exact ⟨0, zq17, rfl, rfl⟩
 case round =>
  obtain ⟨j, hj, rfl, rfl⟩ := hrel
  by_cases hlt : j < k
  ·have hbd : val s 1 j < 100000000000000 := by
    have h1 := val_lt s 1 j fun m hm hmj => hrun.all m hm zq17
    have h2 := p10_le (j := j) (k := 14) zq17
    have h3 : p10 14 = 100000000000000 := rfl
    omega
   have hin : 1 + j < s.size := by have := hrun.le; omega
   have hdj := hrun.all j hin hlt
   have hd' : 48 ≤ s[1 + j].toNat ∧ s[1 + j].toNat ≤ 57 := by simpa [isDig] using hdj
   have HS := Lib.hid (show val s 1 (j + 1) = 10 * val s 1 j + (s[1 + j].toNat - 48) by simp only [val]; rw [dgt_is hin])
   have hin' : (((1 : Nat) + j : Nat) : Int) < s.size := by omega
   obtain ⟨d1, d2⟩ := hd'
   clear hdj hrun hdig
   go_wp2
   go_round
   case rel => exact ⟨j + 1, zq17, by go_num, by rw [HS.out]; go_num⟩
   case measure => simp [intOf]; omega
  ·obtain rfl : j = k := by omega
   clear hdig
   have hfl := fv_lt (val s 1 j) s (1 + j + 1) 0 (fun m _ hm => absurd hm zq17) hv15
   have hend' : ¬ (1 + (j : Int)) < s.size := by omega
   go_wp2
   go_loop [7, 10] (fun x y => ∃ i : Nat, i ≤ 4 ∧ y = .int .i64 i ∧ x = .int .u64 (fv (val s 1 j) s (1 + j + 1) 0 i : Nat)) (fun _ y => 4 - (intOf y).toNat)
   case atStart => exact ⟨0, zq17, rfl, rfl⟩
   case round =>
    obtain ⟨i, hi, rfl, rfl⟩ := hrel
    by_cases hlt4 : i < 4
    ·have hlt4' : (i : Int) < 4 := by omega
     have hfb : fv (val s 1 j) s (1 + j + 1) 0 i < 1000000000000000000 := by
      have h1 := hfl i zq17
      have h2 := p10_le (j := i) (k := 3) zq17
      have h3 : p10 3 = 1000 := rfl
      omega
     have HF := Lib.hid (show fv (val s 1 j) s (1 + j + 1) 0 (i + 1) = 10 * fv (val s 1 j) s (1 + j + 1) 0 i by simp [fv])
     have hn0 : ¬ (i : Int) < 0 := by omega
     clear hfl
     go_wp2
     go_round
     case rel => exact ⟨i + 1, zq17, by go_num, by rw [HF.out]; go_num⟩
     case measure => simp [intOf]; omega
    ·obtain rfl : i = 4 := by omega
     generalize hV : fv (val s 1 j) s (1 + j + 1) 0 4 = V at *
     go_wp2
     go_ret2
     exact ⟨rfl, rfl⟩
theorem rparse_okNzero_n (s : ByteArray) (k : Nat) (w : World) (hs : s.size ≤ maxLen) (hsz : 0 < s.size) (h45 : s[0].toNat = 45) (hdig : DigIs s 1 k) (hrun : DigRun s 1 k) (hk1 : 1 ≤ k) (hk15 : k ≤ 15) (hat : 1 < s.size) (hz : s[1].toNat ≠ 48) (hlt1 : 1 + k < s.size) (r : Nat) (hdig2 : DigAt s (1 + (k : Int) + 1) r) (hdot : s[1 + k].toNat = 46) (hr1 : 1 ≤ r) (hr4 : r ≤ 4) (hrend : s.size ≤ 1 + k + 1 + r) (hr9 : 1 + k + 1 + r ≤ s.size) (hr2 : ∀ m, (h : 1 + k + 1 + m < s.size) → m < r → isDig s[1 + k + 1 + m] = true) (hb : fv (val s 1 k) s (1 + k + 1) r 4 = 0) : Calls Tryz.prog 68 #[.string s] w fun e w' => e = .returned (.tuple #[.int .i64 0, .bool false]) ∧ w' = w := by
 unfold maxLen at hs
 have hsz' : (0 : Int) < s.size := by omega
 have hk1' : ¬ (k : Int) < 1 := by omega
 have hk15' : ¬ (15 : Int) < k := by omega
 have hat' : (1 : Int) < s.size := by omega
 have hv15 : val s 1 k < 1000000000000000 := by
  have h1 := val_lt s 1 k hrun.all
  have h2 := p10_le (j := k) (k := 15) zq17
  have h3 : p10 15 = 1000000000000000 := rfl
  omega
 go_enter Tryz.func68, Tryz.ntmps68
 go_wp2_with (go_at_call 104; refine (hdig _).mono ?_; rintro e w' ⟨rfl, rfl⟩)
 go_loop [7, 8] (fun x y => ∃ j : Nat, j ≤ k ∧ y = .int .i64 ((1 : Nat) + j : Nat) ∧ x = .int .u64 (val s 1 j : Nat)) (fun _ y => 1 + k - (intOf y).toNat)
 case atStart => exact ⟨0, zq17, rfl, rfl⟩
 case round =>
  obtain ⟨j, hj, rfl, rfl⟩ := hrel
  by_cases hlt : j < k
  ·have hbd : val s 1 j < 100000000000000 := by
    have h1 := val_lt s 1 j fun m hm hmj => hrun.all m hm zq17
    have h2 := p10_le (j := j) (k := 14) zq17
    have h3 : p10 14 = 100000000000000 := rfl
    omega
   have hin : 1 + j < s.size := by have := hrun.le; omega
   have hdj := hrun.all j hin hlt
   have hd' : 48 ≤ s[1 + j].toNat ∧ s[1 + j].toNat ≤ 57 := by simpa [isDig] using hdj
   have HS := Lib.hid (show val s 1 (j + 1) = 10 * val s 1 j + (s[1 + j].toNat - 48) by simp only [val]; rw [dgt_is hin])
   have hin' : (((1 : Nat) + j : Nat) : Int) < s.size := by omega
   obtain ⟨d1, d2⟩ := hd'
   clear hdj hrun hdig
   go_wp2
   go_round
   case rel => exact ⟨j + 1, zq17, by go_num, by rw [HS.out]; go_num⟩
   case measure => simp [intOf]; omega
  ·obtain rfl : j = k := by omega
   clear hdig
   have hlt2 : (1 + (j : Int)) < s.size := by omega
   have hfl := fv_lt (val s 1 j) s (1 + j + 1) r hr2 hv15
   go_wp2_with (go_at_call 104; refine (hdig2 _).mono ?_; rintro e w' ⟨rfl, rfl⟩)
   go_loop [7, 10] (fun x y => ∃ i : Nat, i ≤ 4 ∧ y = .int .i64 i ∧ x = .int .u64 (fv (val s 1 j) s (1 + j + 1) r i : Nat)) (fun _ y => 4 - (intOf y).toNat)
   case atStart => exact ⟨0, zq17, rfl, rfl⟩
   case round =>
    obtain ⟨i, hi, rfl, rfl⟩ := hrel
    by_cases hlt4 : i < 4
    ·have hlt4' : (i : Int) < 4 := by omega
     have hfb : fv (val s 1 j) s (1 + j + 1) r i < 1000000000000000000 := by
      have h1 := hfl i zq17
      have h2 := p10_le (j := i) (k := 3) zq17
      have h3 : p10 3 = 1000 := rfl
      omega
     by_cases hir : i < r
     ·have hin : 1 + j + 1 + i < s.size := by omega
      have hdi := hr2 i hin hir
      have hd' : 48 ≤ s[1 + j + 1 + i].toNat ∧ s[1 + j + 1 + i].toNat ≤ 57 := by simpa [isDig] using hdi
      obtain ⟨d1, d2⟩ := hd'
      have HF := Lib.hid (show fv (val s 1 j) s (1 + j + 1) r (i + 1) = 10 * fv (val s 1 j) s (1 + j + 1) r i + (s[1 + j + 1 + i].toNat - 48) by simp only [fv]; rw [if_pos hir, dgt_is hin])
      have hir' : (i : Int) < r := by omega
      clear hfl hdi hr2
      go_wp2
      go_round
      case rel => exact ⟨i + 1, zq17, by go_num, by rw [HF.out]; go_num⟩
      case measure => simp [intOf]; omega
     ·have HF := Lib.hid (show fv (val s 1 j) s (1 + j + 1) r (i + 1) = 10 * fv (val s 1 j) s (1 + j + 1) r i by simp only [fv]; rw [if_neg hir]; rfl)
      have hir' : ¬ (i : Int) < r := by omega
      clear hfl hr2
      go_wp2
      go_round
      case rel => exact ⟨i + 1, zq17, by go_num, by rw [HF.out]; go_num⟩
      case measure => simp [intOf]; omega
    ·obtain rfl : i = 4 := by omega
     generalize hV : fv (val s 1 j) s (1 + j + 1) r 4 = V at *
     go_wp2
     go_ret2
     exact ⟨rfl, rfl⟩
theorem rparse_ENgood_n (s : ByteArray) (k : Nat) (w : World) (hs : s.size ≤ maxLen) (hsz : 0 < s.size) (h45 : s[0].toNat = 45) (hdig : DigIs s 1 k) (hrun : DigRun s 1 k) (hk1 : 1 ≤ k) (hk15 : k ≤ 15) (hat : 1 < s.size) (hz : s[1].toNat ≠ 48) (hend : s.size ≤ 1 + k) (hb : fv (val s 1 k) s (1 + k + 1) 0 4 ≤ 9223372036854775807) (hb0 : 0 < fv (val s 1 k) s (1 + k + 1) 0 4) : Calls Tryz.prog 68 #[.string s] w fun e w' => e = .returned (.tuple #[.int .i64 (-((fv (val s 1 k) s (1 + k + 1) 0 4 : Nat) : Int)), .bool true]) ∧ w' = w := by
 unfold maxLen at hs
 have hsz' : (0 : Int) < s.size := by omega
 have hk1' : ¬ (k : Int) < 1 := by omega
 have hk15' : ¬ (15 : Int) < k := by omega
 have hat' : (1 : Int) < s.size := by omega
 have hv15 : val s 1 k < 1000000000000000 := by
  have h1 := val_lt s 1 k hrun.all
  have h2 := p10_le (j := k) (k := 15) zq17
  have h3 : p10 15 = 1000000000000000 := rfl
  omega
 go_enter Tryz.func68, Tryz.ntmps68
 go_wp2_with (go_at_call 104; refine (hdig _).mono ?_; rintro e w' ⟨rfl, rfl⟩)
 go_loop [7, 8] (fun x y => ∃ j : Nat, j ≤ k ∧ y = .int .i64 ((1 : Nat) + j : Nat) ∧ x = .int .u64 (val s 1 j : Nat)) (fun _ y => 1 + k - (intOf y).toNat)
 case atStart => exact ⟨0, zq17, rfl, rfl⟩
 case round =>
  obtain ⟨j, hj, rfl, rfl⟩ := hrel
  by_cases hlt : j < k
  ·have hbd : val s 1 j < 100000000000000 := by
    have h1 := val_lt s 1 j fun m hm hmj => hrun.all m hm zq17
    have h2 := p10_le (j := j) (k := 14) zq17
    have h3 : p10 14 = 100000000000000 := rfl
    omega
   have hin : 1 + j < s.size := by have := hrun.le; omega
   have hdj := hrun.all j hin hlt
   have hd' : 48 ≤ s[1 + j].toNat ∧ s[1 + j].toNat ≤ 57 := by simpa [isDig] using hdj
   have HS := Lib.hid (show val s 1 (j + 1) = 10 * val s 1 j + (s[1 + j].toNat - 48) by simp only [val]; rw [dgt_is hin])
   have hin' : (((1 : Nat) + j : Nat) : Int) < s.size := by omega
   obtain ⟨d1, d2⟩ := hd'
   clear hdj hrun hdig
   go_wp2
   go_round
   case rel => exact ⟨j + 1, zq17, by go_num, by rw [HS.out]; go_num⟩
   case measure => simp [intOf]; omega
  ·obtain rfl : j = k := by omega
   clear hdig
   have hfl := fv_lt (val s 1 j) s (1 + j + 1) 0 (fun m _ hm => absurd hm zq17) hv15
   have hend' : ¬ (1 + (j : Int)) < s.size := by omega
   go_wp2
   go_loop [7, 10] (fun x y => ∃ i : Nat, i ≤ 4 ∧ y = .int .i64 i ∧ x = .int .u64 (fv (val s 1 j) s (1 + j + 1) 0 i : Nat)) (fun _ y => 4 - (intOf y).toNat)
   case atStart => exact ⟨0, zq17, rfl, rfl⟩
   case round =>
    obtain ⟨i, hi, rfl, rfl⟩ := hrel
    by_cases hlt4 : i < 4
    ·have hlt4' : (i : Int) < 4 := by omega
     have hfb : fv (val s 1 j) s (1 + j + 1) 0 i < 1000000000000000000 := by
      have h1 := hfl i zq17
      have h2 := p10_le (j := i) (k := 3) zq17
      have h3 : p10 3 = 1000 := rfl
      omega
     have HF := Lib.hid (show fv (val s 1 j) s (1 + j + 1) 0 (i + 1) = 10 * fv (val s 1 j) s (1 + j + 1) 0 i by simp [fv])
     have hn0 : ¬ (i : Int) < 0 := by omega
     clear hfl
     go_wp2
     go_round
     case rel => exact ⟨i + 1, zq17, by go_num, by rw [HF.out]; go_num⟩
     case measure => simp [intOf]; omega
    ·obtain rfl : i = 4 := by omega
     generalize hV : fv (val s 1 j) s (1 + j + 1) 0 4 = V at *
     have tV1 : decide ((9223372036854775807 : Int) < (V : Int)) = false := decide_eq_false zq17
     have tV2 : ((V : Int) == 0) = false := by rw [beq_eq_false_iff_ne]; omega
     go_wp2_with (go_at_call 105; refine (rsigned_neg _ _ zq17 zq17).mono ?_; rintro e w' ⟨rfl, rfl⟩)
     go_ret2
     exact ⟨ret2b (by rw [hV]), rfl⟩
theorem rparse_okNgood_n (s : ByteArray) (k : Nat) (w : World) (hs : s.size ≤ maxLen) (hsz : 0 < s.size) (h45 : s[0].toNat = 45) (hdig : DigIs s 1 k) (hrun : DigRun s 1 k) (hk1 : 1 ≤ k) (hk15 : k ≤ 15) (hat : 1 < s.size) (hz : s[1].toNat ≠ 48) (hlt1 : 1 + k < s.size) (r : Nat) (hdig2 : DigAt s (1 + (k : Int) + 1) r) (hdot : s[1 + k].toNat = 46) (hr1 : 1 ≤ r) (hr4 : r ≤ 4) (hrend : s.size ≤ 1 + k + 1 + r) (hr9 : 1 + k + 1 + r ≤ s.size) (hr2 : ∀ m, (h : 1 + k + 1 + m < s.size) → m < r → isDig s[1 + k + 1 + m] = true) (hb : fv (val s 1 k) s (1 + k + 1) r 4 ≤ 9223372036854775807) (hb0 : 0 < fv (val s 1 k) s (1 + k + 1) r 4) : Calls Tryz.prog 68 #[.string s] w fun e w' => e = .returned (.tuple #[.int .i64 (-((fv (val s 1 k) s (1 + k + 1) r 4 : Nat) : Int)), .bool true]) ∧ w' = w := by
 unfold maxLen at hs
 have hsz' : (0 : Int) < s.size := by omega
 have hk1' : ¬ (k : Int) < 1 := by omega
 have hk15' : ¬ (15 : Int) < k := by omega
 have hat' : (1 : Int) < s.size := by omega
 have hv15 : val s 1 k < 1000000000000000 := by
  have h1 := val_lt s 1 k hrun.all
  have h2 := p10_le (j := k) (k := 15) zq17
  have h3 : p10 15 = 1000000000000000 := rfl
  omega
 go_enter Tryz.func68, Tryz.ntmps68
 go_wp2_with (go_at_call 104; refine (hdig _).mono ?_; rintro e w' ⟨rfl, rfl⟩)
 go_loop [7, 8] (fun x y => ∃ j : Nat, j ≤ k ∧ y = .int .i64 ((1 : Nat) + j : Nat) ∧ x = .int .u64 (val s 1 j : Nat)) (fun _ y => 1 + k - (intOf y).toNat)
 case atStart => exact ⟨0, zq17, rfl, rfl⟩
 case round =>
  obtain ⟨j, hj, rfl, rfl⟩ := hrel
  by_cases hlt : j < k
  ·have hbd : val s 1 j < 100000000000000 := by
    have h1 := val_lt s 1 j fun m hm hmj => hrun.all m hm zq17
    have h2 := p10_le (j := j) (k := 14) zq17
    have h3 : p10 14 = 100000000000000 := rfl
    omega
   have hin : 1 + j < s.size := by have := hrun.le; omega
   have hdj := hrun.all j hin hlt
   have hd' : 48 ≤ s[1 + j].toNat ∧ s[1 + j].toNat ≤ 57 := by simpa [isDig] using hdj
   have HS := Lib.hid (show val s 1 (j + 1) = 10 * val s 1 j + (s[1 + j].toNat - 48) by simp only [val]; rw [dgt_is hin])
   have hin' : (((1 : Nat) + j : Nat) : Int) < s.size := by omega
   obtain ⟨d1, d2⟩ := hd'
   clear hdj hrun hdig
   go_wp2
   go_round
   case rel => exact ⟨j + 1, zq17, by go_num, by rw [HS.out]; go_num⟩
   case measure => simp [intOf]; omega
  ·obtain rfl : j = k := by omega
   clear hdig
   have hlt2 : (1 + (j : Int)) < s.size := by omega
   have hfl := fv_lt (val s 1 j) s (1 + j + 1) r hr2 hv15
   go_wp2_with (go_at_call 104; refine (hdig2 _).mono ?_; rintro e w' ⟨rfl, rfl⟩)
   go_loop [7, 10] (fun x y => ∃ i : Nat, i ≤ 4 ∧ y = .int .i64 i ∧ x = .int .u64 (fv (val s 1 j) s (1 + j + 1) r i : Nat)) (fun _ y => 4 - (intOf y).toNat)
   case atStart => exact ⟨0, zq17, rfl, rfl⟩
   case round =>
    obtain ⟨i, hi, rfl, rfl⟩ := hrel
    by_cases hlt4 : i < 4
    ·have hlt4' : (i : Int) < 4 := by omega
     have hfb : fv (val s 1 j) s (1 + j + 1) r i < 1000000000000000000 := by
      have h1 := hfl i zq17
      have h2 := p10_le (j := i) (k := 3) zq17
      have h3 : p10 3 = 1000 := rfl
      omega
     by_cases hir : i < r
     ·have hin : 1 + j + 1 + i < s.size := by omega
      have hdi := hr2 i hin hir
      have hd' : 48 ≤ s[1 + j + 1 + i].toNat ∧ s[1 + j + 1 + i].toNat ≤ 57 := by simpa [isDig] using hdi
      obtain ⟨d1, d2⟩ := hd'
      have HF := Lib.hid (show fv (val s 1 j) s (1 + j + 1) r (i + 1) = 10 * fv (val s 1 j) s (1 + j + 1) r i + (s[1 + j + 1 + i].toNat - 48) by simp only [fv]; rw [if_pos hir, dgt_is hin])
      have hir' : (i : Int) < r := by omega
      clear hfl hdi hr2
      go_wp2
      go_round
      case rel => exact ⟨i + 1, zq17, by go_num, by rw [HF.out]; go_num⟩
      case measure => simp [intOf]; omega
     ·have HF := Lib.hid (show fv (val s 1 j) s (1 + j + 1) r (i + 1) = 10 * fv (val s 1 j) s (1 + j + 1) r i by simp only [fv]; rw [if_neg hir]; rfl)
      have hir' : ¬ (i : Int) < r := by omega
      clear hfl hr2
      go_wp2
      go_round
      case rel => exact ⟨i + 1, zq17, by go_num, by rw [HF.out]; go_num⟩
      case measure => simp [intOf]; omega
    ·obtain rfl : i = 4 := by omega
     generalize hV : fv (val s 1 j) s (1 + j + 1) r 4 = V at *
     have tV1 : decide ((9223372036854775807 : Int) < (V : Int)) = false := decide_eq_false zq17
     have tV2 : ((V : Int) == 0) = false := by rw [beq_eq_false_iff_ne]; omega
     go_wp2_with (go_at_call 105; refine (rsigned_neg _ _ zq17 zq17).mono ?_; rintro e w' ⟨rfl, rfl⟩)
     go_ret2
     exact ⟨ret2b (by rw [hV]), rfl⟩
theorem rparse_ndN_n (s : ByteArray) (k : Nat) (w : World) (hs : s.size ≤ maxLen) (hsz : 0 < s.size) (h45 : s[0].toNat = 45) (hdig : DigIs s 1 k) (hrun : DigRun s 1 k) (hk1 : 1 ≤ k) (hk15 : k ≤ 15) (hat : 1 < s.size) (hz : s[1].toNat ≠ 48) (hlt1 : 1 + k < s.size) (r : Nat) (hdig2 : DigAt s (1 + (k : Int) + 1) r) (hdot : s[1 + k].toNat ≠ 46)  : Calls Tryz.prog 68 #[.string s] w fun e w' => e = .returned (.tuple #[.int .i64 0, .bool false]) ∧ w' = w := by
 unfold maxLen at hs
 have hsz' : (0 : Int) < s.size := by omega
 have hk1' : ¬ (k : Int) < 1 := by omega
 have hk15' : ¬ (15 : Int) < k := by omega
 have hat' : (1 : Int) < s.size := by omega
 have hv15 : val s 1 k < 1000000000000000 := by
  have h1 := val_lt s 1 k hrun.all
  have h2 := p10_le (j := k) (k := 15) zq17
  have h3 : p10 15 = 1000000000000000 := rfl
  omega
 go_enter Tryz.func68, Tryz.ntmps68
 go_wp2_with (go_at_call 104; refine (hdig _).mono ?_; rintro e w' ⟨rfl, rfl⟩)
 go_loop [7, 8] (fun x y => ∃ j : Nat, j ≤ k ∧ y = .int .i64 ((1 : Nat) + j : Nat) ∧ x = .int .u64 (val s 1 j : Nat)) (fun _ y => 1 + k - (intOf y).toNat)
 case atStart => exact ⟨0, zq17, rfl, rfl⟩
 case round =>
  obtain ⟨j, hj, rfl, rfl⟩ := hrel
  by_cases hlt : j < k
  ·have hbd : val s 1 j < 100000000000000 := by
    have h1 := val_lt s 1 j fun m hm hmj => hrun.all m hm zq17
    have h2 := p10_le (j := j) (k := 14) zq17
    have h3 : p10 14 = 100000000000000 := rfl
    omega
   have hin : 1 + j < s.size := by have := hrun.le; omega
   have hdj := hrun.all j hin hlt
   have hd' : 48 ≤ s[1 + j].toNat ∧ s[1 + j].toNat ≤ 57 := by simpa [isDig] using hdj
   have HS := Lib.hid (show val s 1 (j + 1) = 10 * val s 1 j + (s[1 + j].toNat - 48) by simp only [val]; rw [dgt_is hin])
   have hin' : (((1 : Nat) + j : Nat) : Int) < s.size := by omega
   obtain ⟨d1, d2⟩ := hd'
   clear hdj hrun hdig
   go_wp2
   go_round
   case rel => exact ⟨j + 1, zq17, by go_num, by rw [HS.out]; go_num⟩
   case measure => simp [intOf]; omega
  ·obtain rfl : j = k := by omega
   clear hdig
   have hlt2 : (1 + (j : Int)) < s.size := by omega
   have hne : s[1 + j].toNat ≠ 46 := hdot
   go_wp2_with (go_at_call 104; refine (hdig2 _).mono ?_; rintro e w' ⟨rfl, rfl⟩)
   go_ret2
   exact ⟨rfl, rfl⟩
theorem rparse_rN_n (s : ByteArray) (k : Nat) (w : World) (hs : s.size ≤ maxLen) (hsz : 0 < s.size) (h45 : s[0].toNat = 45) (hdig : DigIs s 1 k) (hrun : DigRun s 1 k) (hk1 : 1 ≤ k) (hk15 : k ≤ 15) (hat : 1 < s.size) (hz : s[1].toNat ≠ 48) (hlt1 : 1 + k < s.size) (r : Nat) (hdig2 : DigAt s (1 + (k : Int) + 1) r) (hdot : s[1 + k].toNat = 46) (hrb : r < 1 ∨ 4 < r ∨ 1 + k + 1 + r < s.size) (hr9 : 1 + k + 1 + r ≤ s.size)  : Calls Tryz.prog 68 #[.string s] w fun e w' => e = .returned (.tuple #[.int .i64 0, .bool false]) ∧ w' = w := by
 unfold maxLen at hs
 have hsz' : (0 : Int) < s.size := by omega
 have hk1' : ¬ (k : Int) < 1 := by omega
 have hk15' : ¬ (15 : Int) < k := by omega
 have hat' : (1 : Int) < s.size := by omega
 have hv15 : val s 1 k < 1000000000000000 := by
  have h1 := val_lt s 1 k hrun.all
  have h2 := p10_le (j := k) (k := 15) zq17
  have h3 : p10 15 = 1000000000000000 := rfl
  omega
 go_enter Tryz.func68, Tryz.ntmps68
 go_wp2_with (go_at_call 104; refine (hdig _).mono ?_; rintro e w' ⟨rfl, rfl⟩)
 go_loop [7, 8] (fun x y => ∃ j : Nat, j ≤ k ∧ y = .int .i64 ((1 : Nat) + j : Nat) ∧ x = .int .u64 (val s 1 j : Nat)) (fun _ y => 1 + k - (intOf y).toNat)
 case atStart => exact ⟨0, zq17, rfl, rfl⟩
 case round =>
  obtain ⟨j, hj, rfl, rfl⟩ := hrel
  by_cases hlt : j < k
  ·have hbd : val s 1 j < 100000000000000 := by
    have h1 := val_lt s 1 j fun m hm hmj => hrun.all m hm zq17
    have h2 := p10_le (j := j) (k := 14) zq17
    have h3 : p10 14 = 100000000000000 := rfl
    omega
   have hin : 1 + j < s.size := by have := hrun.le; omega
   have hdj := hrun.all j hin hlt
   have hd' : 48 ≤ s[1 + j].toNat ∧ s[1 + j].toNat ≤ 57 := by simpa [isDig] using hdj
   have HS := Lib.hid (show val s 1 (j + 1) = 10 * val s 1 j + (s[1 + j].toNat - 48) by simp only [val]; rw [dgt_is hin])
   have hin' : (((1 : Nat) + j : Nat) : Int) < s.size := by omega
   obtain ⟨d1, d2⟩ := hd'
   clear hdj hrun hdig
   go_wp2
   go_round
   case rel => exact ⟨j + 1, zq17, by go_num, by rw [HS.out]; go_num⟩
   case measure => simp [intOf]; omega
  ·obtain rfl : j = k := by omega
   by_cases hr_1 : r < 1
   ·have tt1 : (r : Int) < 1 := by omega
    clear hdig
    have hlt2 : (1 + (j : Int)) < s.size := by omega
    go_wp2_with (go_at_call 104; refine (hdig2 _).mono ?_; rintro e w' ⟨rfl, rfl⟩)
    go_ret2
    exact ⟨rfl, rfl⟩
   by_cases hr_4 : 4 < r
   ·have tt2 : (4 : Int) < r := by omega
    clear hdig
    have hlt2 : (1 + (j : Int)) < s.size := by omega
    go_wp2_with (go_at_call 104; refine (hdig2 _).mono ?_; rintro e w' ⟨rfl, rfl⟩)
    go_ret2
    exact ⟨rfl, rfl⟩
   ·have tt3 : (1 + (j : Int)) + 1 + r < s.size := by omega
    clear hdig
    have hlt2 : (1 + (j : Int)) < s.size := by omega
    go_wp2_with (go_at_call 104; refine (hdig2 _).mono ?_; rintro e w' ⟨rfl, rfl⟩)
    go_ret2
    exact ⟨rfl, rfl⟩
theorem rparse_EZbig_n (s : ByteArray) (k : Nat) (w : World) (hs : s.size ≤ maxLen) (hsz : 0 < s.size) (h45 : s[0].toNat = 45) (hdig : DigIs s 1 k) (hrun : DigRun s 1 k) (hk1 : 1 ≤ k) (hk15 : k ≤ 15) (hat : 1 < s.size) (hz : s[1].toNat = 48) (hk0 : k ≤ 1) (hend : s.size ≤ 1 + k) (hb : 9223372036854775807 < fv (val s 1 k) s (1 + k + 1) 0 4) : Calls Tryz.prog 68 #[.string s] w fun e w' => e = .returned (.tuple #[.int .i64 0, .bool false]) ∧ w' = w := by
 unfold maxLen at hs
 have hsz' : (0 : Int) < s.size := by omega
 have hk1' : ¬ (k : Int) < 1 := by omega
 have hk15' : ¬ (15 : Int) < k := by omega
 have hat' : (1 : Int) < s.size := by omega
 have hk0' : ¬ (1 : Int) < k := by omega
 have hv15 : val s 1 k < 1000000000000000 := by
  have h1 := val_lt s 1 k hrun.all
  have h2 := p10_le (j := k) (k := 15) zq17
  have h3 : p10 15 = 1000000000000000 := rfl
  omega
 go_enter Tryz.func68, Tryz.ntmps68
 go_wp2_with (go_at_call 104; refine (hdig _).mono ?_; rintro e w' ⟨rfl, rfl⟩)
 go_loop [7, 8] (fun x y => ∃ j : Nat, j ≤ k ∧ y = .int .i64 ((1 : Nat) + j : Nat) ∧ x = .int .u64 (val s 1 j : Nat)) (fun _ y => 1 + k - (intOf y).toNat)
 case atStart => exact ⟨0, zq17, rfl, rfl⟩
 case round =>
  obtain ⟨j, hj, rfl, rfl⟩ := hrel
  by_cases hlt : j < k
  ·have hbd : val s 1 j < 100000000000000 := by
    have h1 := val_lt s 1 j fun m hm hmj => hrun.all m hm zq17
    have h2 := p10_le (j := j) (k := 14) zq17
    have h3 : p10 14 = 100000000000000 := rfl
    omega
   have hin : 1 + j < s.size := by have := hrun.le; omega
   have hdj := hrun.all j hin hlt
   have hd' : 48 ≤ s[1 + j].toNat ∧ s[1 + j].toNat ≤ 57 := by simpa [isDig] using hdj
   have HS := Lib.hid (show val s 1 (j + 1) = 10 * val s 1 j + (s[1 + j].toNat - 48) by simp only [val]; rw [dgt_is hin])
   have hin' : (((1 : Nat) + j : Nat) : Int) < s.size := by omega
   obtain ⟨d1, d2⟩ := hd'
   clear hdj hrun hdig
   go_wp2
   go_round
   case rel => exact ⟨j + 1, zq17, by go_num, by rw [HS.out]; go_num⟩
   case measure => simp [intOf]; omega
  ·obtain rfl : j = k := by omega
   clear hdig
   have hfl := fv_lt (val s 1 j) s (1 + j + 1) 0 (fun m _ hm => absurd hm zq17) hv15
   have hend' : ¬ (1 + (j : Int)) < s.size := by omega
   go_wp2
   go_loop [7, 10] (fun x y => ∃ i : Nat, i ≤ 4 ∧ y = .int .i64 i ∧ x = .int .u64 (fv (val s 1 j) s (1 + j + 1) 0 i : Nat)) (fun _ y => 4 - (intOf y).toNat)
   case atStart => exact ⟨0, zq17, rfl, rfl⟩
   case round =>
    obtain ⟨i, hi, rfl, rfl⟩ := hrel
    by_cases hlt4 : i < 4
    ·have hlt4' : (i : Int) < 4 := by omega
     have hfb : fv (val s 1 j) s (1 + j + 1) 0 i < 1000000000000000000 := by
      have h1 := hfl i zq17
      have h2 := p10_le (j := i) (k := 3) zq17
      have h3 : p10 3 = 1000 := rfl
      omega
     have HF := Lib.hid (show fv (val s 1 j) s (1 + j + 1) 0 (i + 1) = 10 * fv (val s 1 j) s (1 + j + 1) 0 i by simp [fv])
     have hn0 : ¬ (i : Int) < 0 := by omega
     clear hfl
     go_wp2
     go_round
     case rel => exact ⟨i + 1, zq17, by go_num, by rw [HF.out]; go_num⟩
     case measure => simp [intOf]; omega
    ·obtain rfl : i = 4 := by omega
     generalize hV : fv (val s 1 j) s (1 + j + 1) 0 4 = V at *
     have tV1 : decide ((9223372036854775807 : Int) < (V : Int)) = true := decide_eq_true zq17
     go_wp2
     go_ret2
     exact ⟨rfl, rfl⟩
theorem rparse_okZbig_n (s : ByteArray) (k : Nat) (w : World) (hs : s.size ≤ maxLen) (hsz : 0 < s.size) (h45 : s[0].toNat = 45) (hdig : DigIs s 1 k) (hrun : DigRun s 1 k) (hk1 : 1 ≤ k) (hk15 : k ≤ 15) (hat : 1 < s.size) (hz : s[1].toNat = 48) (hk0 : k ≤ 1) (hlt1 : 1 + k < s.size) (r : Nat) (hdig2 : DigAt s (1 + (k : Int) + 1) r) (hdot : s[1 + k].toNat = 46) (hr1 : 1 ≤ r) (hr4 : r ≤ 4) (hrend : s.size ≤ 1 + k + 1 + r) (hr9 : 1 + k + 1 + r ≤ s.size) (hr2 : ∀ m, (h : 1 + k + 1 + m < s.size) → m < r → isDig s[1 + k + 1 + m] = true) (hb : 9223372036854775807 < fv (val s 1 k) s (1 + k + 1) r 4) : Calls Tryz.prog 68 #[.string s] w fun e w' => e = .returned (.tuple #[.int .i64 0, .bool false]) ∧ w' = w := by
 unfold maxLen at hs
 have hsz' : (0 : Int) < s.size := by omega
 have hk1' : ¬ (k : Int) < 1 := by omega
 have hk15' : ¬ (15 : Int) < k := by omega
 have hat' : (1 : Int) < s.size := by omega
 have hk0' : ¬ (1 : Int) < k := by omega
 have hv15 : val s 1 k < 1000000000000000 := by
  have h1 := val_lt s 1 k hrun.all
  have h2 := p10_le (j := k) (k := 15) zq17
  have h3 : p10 15 = 1000000000000000 := rfl
  omega
 go_enter Tryz.func68, Tryz.ntmps68
 go_wp2_with (go_at_call 104; refine (hdig _).mono ?_; rintro e w' ⟨rfl, rfl⟩)
 go_loop [7, 8] (fun x y => ∃ j : Nat, j ≤ k ∧ y = .int .i64 ((1 : Nat) + j : Nat) ∧ x = .int .u64 (val s 1 j : Nat)) (fun _ y => 1 + k - (intOf y).toNat)
 case atStart => exact ⟨0, zq17, rfl, rfl⟩
 case round =>
  obtain ⟨j, hj, rfl, rfl⟩ := hrel
  by_cases hlt : j < k
  ·have hbd : val s 1 j < 100000000000000 := by
    have h1 := val_lt s 1 j fun m hm hmj => hrun.all m hm zq17
    have h2 := p10_le (j := j) (k := 14) zq17
    have h3 : p10 14 = 100000000000000 := rfl
    omega
   have hin : 1 + j < s.size := by have := hrun.le; omega
   have hdj := hrun.all j hin hlt
   have hd' : 48 ≤ s[1 + j].toNat ∧ s[1 + j].toNat ≤ 57 := by simpa [isDig] using hdj
   have HS := Lib.hid (show val s 1 (j + 1) = 10 * val s 1 j + (s[1 + j].toNat - 48) by simp only [val]; rw [dgt_is hin])
   have hin' : (((1 : Nat) + j : Nat) : Int) < s.size := by omega
   obtain ⟨d1, d2⟩ := hd'
   clear hdj hrun hdig
   go_wp2
   go_round
   case rel => exact ⟨j + 1, zq17, by go_num, by rw [HS.out]; go_num⟩
   case measure => simp [intOf]; omega
  ·obtain rfl : j = k := by omega
   clear hdig
   have hlt2 : (1 + (j : Int)) < s.size := by omega
   have hfl := fv_lt (val s 1 j) s (1 + j + 1) r hr2 hv15
   go_wp2_with (go_at_call 104; refine (hdig2 _).mono ?_; rintro e w' ⟨rfl, rfl⟩)
   go_loop [7, 10] (fun x y => ∃ i : Nat, i ≤ 4 ∧ y = .int .i64 i ∧ x = .int .u64 (fv (val s 1 j) s (1 + j + 1) r i : Nat)) (fun _ y => 4 - (intOf y).toNat)
   case atStart => exact ⟨0, zq17, rfl, rfl⟩
   case round =>
    obtain ⟨i, hi, rfl, rfl⟩ := hrel
    by_cases hlt4 : i < 4
    ·have hlt4' : (i : Int) < 4 := by omega
     have hfb : fv (val s 1 j) s (1 + j + 1) r i < 1000000000000000000 := by
      have h1 := hfl i zq17
      have h2 := p10_le (j := i) (k := 3) zq17
      have h3 : p10 3 = 1000 := rfl
      omega
     by_cases hir : i < r
     ·have hin : 1 + j + 1 + i < s.size := by omega
      have hdi := hr2 i hin hir
      have hd' : 48 ≤ s[1 + j + 1 + i].toNat ∧ s[1 + j + 1 + i].toNat ≤ 57 := by simpa [isDig] using hdi
      obtain ⟨d1, d2⟩ := hd'
      have HF := Lib.hid (show fv (val s 1 j) s (1 + j + 1) r (i + 1) = 10 * fv (val s 1 j) s (1 + j + 1) r i + (s[1 + j + 1 + i].toNat - 48) by simp only [fv]; rw [if_pos hir, dgt_is hin])
      have hir' : (i : Int) < r := by omega
      clear hfl hdi hr2
      go_wp2
      go_round
      case rel => exact ⟨i + 1, zq17, by go_num, by rw [HF.out]; go_num⟩
      case measure => simp [intOf]; omega
     ·have HF := Lib.hid (show fv (val s 1 j) s (1 + j + 1) r (i + 1) = 10 * fv (val s 1 j) s (1 + j + 1) r i by simp only [fv]; rw [if_neg hir]; rfl)
      have hir' : ¬ (i : Int) < r := by omega
      clear hfl hr2
      go_wp2
      go_round
      case rel => exact ⟨i + 1, zq17, by go_num, by rw [HF.out]; go_num⟩
      case measure => simp [intOf]; omega
    ·obtain rfl : i = 4 := by omega
     generalize hV : fv (val s 1 j) s (1 + j + 1) r 4 = V at *
     have tV1 : decide ((9223372036854775807 : Int) < (V : Int)) = true := decide_eq_true zq17
     go_wp2
     go_ret2
     exact ⟨rfl, rfl⟩
theorem rparse_EZzero_n (s : ByteArray) (k : Nat) (w : World) (hs : s.size ≤ maxLen) (hsz : 0 < s.size) (h45 : s[0].toNat = 45) (hdig : DigIs s 1 k) (hrun : DigRun s 1 k) (hk1 : 1 ≤ k) (hk15 : k ≤ 15) (hat : 1 < s.size) (hz : s[1].toNat = 48) (hk0 : k ≤ 1) (hend : s.size ≤ 1 + k) (hb : fv (val s 1 k) s (1 + k + 1) 0 4 = 0) : Calls Tryz.prog 68 #[.string s] w fun e w' => e = .returned (.tuple #[.int .i64 0, .bool false]) ∧ w' = w := by
 unfold maxLen at hs
 have hsz' : (0 : Int) < s.size := by omega
 have hk1' : ¬ (k : Int) < 1 := by omega
 have hk15' : ¬ (15 : Int) < k := by omega
 have hat' : (1 : Int) < s.size := by omega
 have hk0' : ¬ (1 : Int) < k := by omega
 have hv15 : val s 1 k < 1000000000000000 := by
  have h1 := val_lt s 1 k hrun.all
  have h2 := p10_le (j := k) (k := 15) zq17
  have h3 : p10 15 = 1000000000000000 := rfl
  omega
 go_enter Tryz.func68, Tryz.ntmps68
 go_wp2_with (go_at_call 104; refine (hdig _).mono ?_; rintro e w' ⟨rfl, rfl⟩)
 go_loop [7, 8] (fun x y => ∃ j : Nat, j ≤ k ∧ y = .int .i64 ((1 : Nat) + j : Nat) ∧ x = .int .u64 (val s 1 j : Nat)) (fun _ y => 1 + k - (intOf y).toNat)
 case atStart => exact ⟨0, zq17, rfl, rfl⟩
 case round =>
  obtain ⟨j, hj, rfl, rfl⟩ := hrel
  by_cases hlt : j < k
  ·have hbd : val s 1 j < 100000000000000 := by
    have h1 := val_lt s 1 j fun m hm hmj => hrun.all m hm zq17
    have h2 := p10_le (j := j) (k := 14) zq17
    have h3 : p10 14 = 100000000000000 := rfl
    omega
   have hin : 1 + j < s.size := by have := hrun.le; omega
   have hdj := hrun.all j hin hlt
   have hd' : 48 ≤ s[1 + j].toNat ∧ s[1 + j].toNat ≤ 57 := by simpa [isDig] using hdj
   have HS := Lib.hid (show val s 1 (j + 1) = 10 * val s 1 j + (s[1 + j].toNat - 48) by simp only [val]; rw [dgt_is hin])
   have hin' : (((1 : Nat) + j : Nat) : Int) < s.size := by omega
   obtain ⟨d1, d2⟩ := hd'
   clear hdj hrun hdig
   go_wp2
   go_round
   case rel => exact ⟨j + 1, zq17, by go_num, by rw [HS.out]; go_num⟩
   case measure => simp [intOf]; omega
  ·obtain rfl : j = k := by omega
   clear hdig
   have hfl := fv_lt (val s 1 j) s (1 + j + 1) 0 (fun m _ hm => absurd hm zq17) hv15
   have hend' : ¬ (1 + (j : Int)) < s.size := by omega
   go_wp2
   go_loop [7, 10] (fun x y => ∃ i : Nat, i ≤ 4 ∧ y = .int .i64 i ∧ x = .int .u64 (fv (val s 1 j) s (1 + j + 1) 0 i : Nat)) (fun _ y => 4 - (intOf y).toNat)
   case atStart => exact ⟨0, zq17, rfl, rfl⟩
   case round =>
    obtain ⟨i, hi, rfl, rfl⟩ := hrel
    by_cases hlt4 : i < 4
    ·have hlt4' : (i : Int) < 4 := by omega
     have hfb : fv (val s 1 j) s (1 + j + 1) 0 i < 1000000000000000000 := by
      have h1 := hfl i zq17
      have h2 := p10_le (j := i) (k := 3) zq17
      have h3 : p10 3 = 1000 := rfl
      omega
     have HF := Lib.hid (show fv (val s 1 j) s (1 + j + 1) 0 (i + 1) = 10 * fv (val s 1 j) s (1 + j + 1) 0 i by simp [fv])
     have hn0 : ¬ (i : Int) < 0 := by omega
     clear hfl
     go_wp2
     go_round
     case rel => exact ⟨i + 1, zq17, by go_num, by rw [HF.out]; go_num⟩
     case measure => simp [intOf]; omega
    ·obtain rfl : i = 4 := by omega
     generalize hV : fv (val s 1 j) s (1 + j + 1) 0 4 = V at *
     go_wp2
     go_ret2
     exact ⟨rfl, rfl⟩
theorem rparse_okZzero_n (s : ByteArray) (k : Nat) (w : World) (hs : s.size ≤ maxLen) (hsz : 0 < s.size) (h45 : s[0].toNat = 45) (hdig : DigIs s 1 k) (hrun : DigRun s 1 k) (hk1 : 1 ≤ k) (hk15 : k ≤ 15) (hat : 1 < s.size) (hz : s[1].toNat = 48) (hk0 : k ≤ 1) (hlt1 : 1 + k < s.size) (r : Nat) (hdig2 : DigAt s (1 + (k : Int) + 1) r) (hdot : s[1 + k].toNat = 46) (hr1 : 1 ≤ r) (hr4 : r ≤ 4) (hrend : s.size ≤ 1 + k + 1 + r) (hr9 : 1 + k + 1 + r ≤ s.size) (hr2 : ∀ m, (h : 1 + k + 1 + m < s.size) → m < r → isDig s[1 + k + 1 + m] = true) (hb : fv (val s 1 k) s (1 + k + 1) r 4 = 0) : Calls Tryz.prog 68 #[.string s] w fun e w' => e = .returned (.tuple #[.int .i64 0, .bool false]) ∧ w' = w := by
 unfold maxLen at hs
 have hsz' : (0 : Int) < s.size := by omega
 have hk1' : ¬ (k : Int) < 1 := by omega
 have hk15' : ¬ (15 : Int) < k := by omega
 have hat' : (1 : Int) < s.size := by omega
 have hk0' : ¬ (1 : Int) < k := by omega
 have hv15 : val s 1 k < 1000000000000000 := by
  have h1 := val_lt s 1 k hrun.all
  have h2 := p10_le (j := k) (k := 15) zq17
  have h3 : p10 15 = 1000000000000000 := rfl
  omega
 go_enter Tryz.func68, Tryz.ntmps68
 go_wp2_with (go_at_call 104; refine (hdig _).mono ?_; rintro e w' ⟨rfl, rfl⟩)
 go_loop [7, 8] (fun x y => ∃ j : Nat, j ≤ k ∧ y = .int .i64 ((1 : Nat) + j : Nat) ∧ x = .int .u64 (val s 1 j : Nat)) (fun _ y => 1 + k - (intOf y).toNat)
 case atStart => exact ⟨0, zq17, rfl, rfl⟩
 case round =>
  obtain ⟨j, hj, rfl, rfl⟩ := hrel
  by_cases hlt : j < k
  ·have hbd : val s 1 j < 100000000000000 := by
    have h1 := val_lt s 1 j fun m hm hmj => hrun.all m hm zq17
    have h2 := p10_le (j := j) (k := 14) zq17
    have h3 : p10 14 = 100000000000000 := rfl
    omega
   have hin : 1 + j < s.size := by have := hrun.le; omega
   have hdj := hrun.all j hin hlt
   have hd' : 48 ≤ s[1 + j].toNat ∧ s[1 + j].toNat ≤ 57 := by simpa [isDig] using hdj
   have HS := Lib.hid (show val s 1 (j + 1) = 10 * val s 1 j + (s[1 + j].toNat - 48) by simp only [val]; rw [dgt_is hin])
   have hin' : (((1 : Nat) + j : Nat) : Int) < s.size := by omega
   obtain ⟨d1, d2⟩ := hd'
   clear hdj hrun hdig
   go_wp2
   go_round
   case rel => exact ⟨j + 1, zq17, by go_num, by rw [HS.out]; go_num⟩
   case measure => simp [intOf]; omega
  ·obtain rfl : j = k := by omega
   clear hdig
   have hlt2 : (1 + (j : Int)) < s.size := by omega
   have hfl := fv_lt (val s 1 j) s (1 + j + 1) r hr2 hv15
   go_wp2_with (go_at_call 104; refine (hdig2 _).mono ?_; rintro e w' ⟨rfl, rfl⟩)
   go_loop [7, 10] (fun x y => ∃ i : Nat, i ≤ 4 ∧ y = .int .i64 i ∧ x = .int .u64 (fv (val s 1 j) s (1 + j + 1) r i : Nat)) (fun _ y => 4 - (intOf y).toNat)
   case atStart => exact ⟨0, zq17, rfl, rfl⟩
   case round =>
    obtain ⟨i, hi, rfl, rfl⟩ := hrel
    by_cases hlt4 : i < 4
    ·have hlt4' : (i : Int) < 4 := by omega
     have hfb : fv (val s 1 j) s (1 + j + 1) r i < 1000000000000000000 := by
      have h1 := hfl i zq17
      have h2 := p10_le (j := i) (k := 3) zq17
      have h3 : p10 3 = 1000 := rfl
      omega
     by_cases hir : i < r
     ·have hin : 1 + j + 1 + i < s.size := by omega
      have hdi := hr2 i hin hir
      have hd' : 48 ≤ s[1 + j + 1 + i].toNat ∧ s[1 + j + 1 + i].toNat ≤ 57 := by simpa [isDig] using hdi
      obtain ⟨d1, d2⟩ := hd'
      have HF := Lib.hid (show fv (val s 1 j) s (1 + j + 1) r (i + 1) = 10 * fv (val s 1 j) s (1 + j + 1) r i + (s[1 + j + 1 + i].toNat - 48) by simp only [fv]; rw [if_pos hir, dgt_is hin])
      have hir' : (i : Int) < r := by omega
      clear hfl hdi hr2
      go_wp2
      go_round
      case rel => exact ⟨i + 1, zq17, by go_num, by rw [HF.out]; go_num⟩
      case measure => simp [intOf]; omega
     ·have HF := Lib.hid (show fv (val s 1 j) s (1 + j + 1) r (i + 1) = 10 * fv (val s 1 j) s (1 + j + 1) r i by simp only [fv]; rw [if_neg hir]; rfl)
      have hir' : ¬ (i : Int) < r := by omega
      clear hfl hr2
      go_wp2
      go_round
      case rel => exact ⟨i + 1, zq17, by go_num, by rw [HF.out]; go_num⟩
      case measure => simp [intOf]; omega
    ·obtain rfl : i = 4 := by omega
     generalize hV : fv (val s 1 j) s (1 + j + 1) r 4 = V at *
     go_wp2
     go_ret2
     exact ⟨rfl, rfl⟩
theorem rparse_EZgood_n (s : ByteArray) (k : Nat) (w : World) (hs : s.size ≤ maxLen) (hsz : 0 < s.size) (h45 : s[0].toNat = 45) (hdig : DigIs s 1 k) (hrun : DigRun s 1 k) (hk1 : 1 ≤ k) (hk15 : k ≤ 15) (hat : 1 < s.size) (hz : s[1].toNat = 48) (hk0 : k ≤ 1) (hend : s.size ≤ 1 + k) (hb : fv (val s 1 k) s (1 + k + 1) 0 4 ≤ 9223372036854775807) (hb0 : 0 < fv (val s 1 k) s (1 + k + 1) 0 4) : Calls Tryz.prog 68 #[.string s] w fun e w' => e = .returned (.tuple #[.int .i64 (-((fv (val s 1 k) s (1 + k + 1) 0 4 : Nat) : Int)), .bool true]) ∧ w' = w := by
 unfold maxLen at hs
 have hsz' : (0 : Int) < s.size := by omega
 have hk1' : ¬ (k : Int) < 1 := by omega
 have hk15' : ¬ (15 : Int) < k := by omega
 have hat' : (1 : Int) < s.size := by omega
 have hk0' : ¬ (1 : Int) < k := by omega
 have hv15 : val s 1 k < 1000000000000000 := by
  have h1 := val_lt s 1 k hrun.all
  have h2 := p10_le (j := k) (k := 15) zq17
  have h3 : p10 15 = 1000000000000000 := rfl
  omega
 go_enter Tryz.func68, Tryz.ntmps68
 go_wp2_with (go_at_call 104; refine (hdig _).mono ?_; rintro e w' ⟨rfl, rfl⟩)
 go_loop [7, 8] (fun x y => ∃ j : Nat, j ≤ k ∧ y = .int .i64 ((1 : Nat) + j : Nat) ∧ x = .int .u64 (val s 1 j : Nat)) (fun _ y => 1 + k - (intOf y).toNat)
 case atStart => exact ⟨0, zq17, rfl, rfl⟩
 case round =>
  obtain ⟨j, hj, rfl, rfl⟩ := hrel
  by_cases hlt : j < k
  ·have hbd : val s 1 j < 100000000000000 := by
    have h1 := val_lt s 1 j fun m hm hmj => hrun.all m hm zq17
    have h2 := p10_le (j := j) (k := 14) zq17
    have h3 : p10 14 = 100000000000000 := rfl
    omega
   have hin : 1 + j < s.size := by have := hrun.le; omega
   have hdj := hrun.all j hin hlt
   have hd' : 48 ≤ s[1 + j].toNat ∧ s[1 + j].toNat ≤ 57 := by simpa [isDig] using hdj
   have HS := Lib.hid (show val s 1 (j + 1) = 10 * val s 1 j + (s[1 + j].toNat - 48) by simp only [val]; rw [dgt_is hin])
   have hin' : (((1 : Nat) + j : Nat) : Int) < s.size := by omega
   obtain ⟨d1, d2⟩ := hd'
   clear hdj hrun hdig
   go_wp2
   go_round
   case rel => exact ⟨j + 1, zq17, by go_num, by rw [HS.out]; go_num⟩
   case measure => simp [intOf]; omega
  ·obtain rfl : j = k := by omega
   clear hdig
   have hfl := fv_lt (val s 1 j) s (1 + j + 1) 0 (fun m _ hm => absurd hm zq17) hv15
   have hend' : ¬ (1 + (j : Int)) < s.size := by omega
   go_wp2
   go_loop [7, 10] (fun x y => ∃ i : Nat, i ≤ 4 ∧ y = .int .i64 i ∧ x = .int .u64 (fv (val s 1 j) s (1 + j + 1) 0 i : Nat)) (fun _ y => 4 - (intOf y).toNat)
   case atStart => exact ⟨0, zq17, rfl, rfl⟩
   case round =>
    obtain ⟨i, hi, rfl, rfl⟩ := hrel
    by_cases hlt4 : i < 4
    ·have hlt4' : (i : Int) < 4 := by omega
     have hfb : fv (val s 1 j) s (1 + j + 1) 0 i < 1000000000000000000 := by
      have h1 := hfl i zq17
      have h2 := p10_le (j := i) (k := 3) zq17
      have h3 : p10 3 = 1000 := rfl
      omega
     have HF := Lib.hid (show fv (val s 1 j) s (1 + j + 1) 0 (i + 1) = 10 * fv (val s 1 j) s (1 + j + 1) 0 i by simp [fv])
     have hn0 : ¬ (i : Int) < 0 := by omega
     clear hfl
     go_wp2
     go_round
     case rel => exact ⟨i + 1, zq17, by go_num, by rw [HF.out]; go_num⟩
     case measure => simp [intOf]; omega
    ·obtain rfl : i = 4 := by omega
     generalize hV : fv (val s 1 j) s (1 + j + 1) 0 4 = V at *
     have tV1 : decide ((9223372036854775807 : Int) < (V : Int)) = false := decide_eq_false zq17
     have tV2 : ((V : Int) == 0) = false := by rw [beq_eq_false_iff_ne]; omega
     go_wp2_with (go_at_call 105; refine (rsigned_neg _ _ zq17 zq17).mono ?_; rintro e w' ⟨rfl, rfl⟩)
     go_ret2
     exact ⟨ret2b (by rw [hV]), rfl⟩
theorem rparse_okZgood_n (s : ByteArray) (k : Nat) (w : World) (hs : s.size ≤ maxLen) (hsz : 0 < s.size) (h45 : s[0].toNat = 45) (hdig : DigIs s 1 k) (hrun : DigRun s 1 k) (hk1 : 1 ≤ k) (hk15 : k ≤ 15) (hat : 1 < s.size) (hz : s[1].toNat = 48) (hk0 : k ≤ 1) (hlt1 : 1 + k < s.size) (r : Nat) (hdig2 : DigAt s (1 + (k : Int) + 1) r) (hdot : s[1 + k].toNat = 46) (hr1 : 1 ≤ r) (hr4 : r ≤ 4) (hrend : s.size ≤ 1 + k + 1 + r) (hr9 : 1 + k + 1 + r ≤ s.size) (hr2 : ∀ m, (h : 1 + k + 1 + m < s.size) → m < r → isDig s[1 + k + 1 + m] = true) (hb : fv (val s 1 k) s (1 + k + 1) r 4 ≤ 9223372036854775807) (hb0 : 0 < fv (val s 1 k) s (1 + k + 1) r 4) : Calls Tryz.prog 68 #[.string s] w fun e w' => e = .returned (.tuple #[.int .i64 (-((fv (val s 1 k) s (1 + k + 1) r 4 : Nat) : Int)), .bool true]) ∧ w' = w := by
 unfold maxLen at hs
 have hsz' : (0 : Int) < s.size := by omega
 have hk1' : ¬ (k : Int) < 1 := by omega
 have hk15' : ¬ (15 : Int) < k := by omega
 have hat' : (1 : Int) < s.size := by omega
 have hk0' : ¬ (1 : Int) < k := by omega
 have hv15 : val s 1 k < 1000000000000000 := by
  have h1 := val_lt s 1 k hrun.all
  have h2 := p10_le (j := k) (k := 15) zq17
  have h3 : p10 15 = 1000000000000000 := rfl
  omega
 go_enter Tryz.func68, Tryz.ntmps68
 go_wp2_with (go_at_call 104; refine (hdig _).mono ?_; rintro e w' ⟨rfl, rfl⟩)
 go_loop [7, 8] (fun x y => ∃ j : Nat, j ≤ k ∧ y = .int .i64 ((1 : Nat) + j : Nat) ∧ x = .int .u64 (val s 1 j : Nat)) (fun _ y => 1 + k - (intOf y).toNat)
 case atStart => exact ⟨0, zq17, rfl, rfl⟩
 case round =>
  obtain ⟨j, hj, rfl, rfl⟩ := hrel
  by_cases hlt : j < k
  ·have hbd : val s 1 j < 100000000000000 := by
    have h1 := val_lt s 1 j fun m hm hmj => hrun.all m hm zq17
    have h2 := p10_le (j := j) (k := 14) zq17
    have h3 : p10 14 = 100000000000000 := rfl
    omega
   have hin : 1 + j < s.size := by have := hrun.le; omega
   have hdj := hrun.all j hin hlt
   have hd' : 48 ≤ s[1 + j].toNat ∧ s[1 + j].toNat ≤ 57 := by simpa [isDig] using hdj
   have HS := Lib.hid (show val s 1 (j + 1) = 10 * val s 1 j + (s[1 + j].toNat - 48) by simp only [val]; rw [dgt_is hin])
   have hin' : (((1 : Nat) + j : Nat) : Int) < s.size := by omega
   obtain ⟨d1, d2⟩ := hd'
   clear hdj hrun hdig
   go_wp2
   go_round
   case rel => exact ⟨j + 1, zq17, by go_num, by rw [HS.out]; go_num⟩
   case measure => simp [intOf]; omega
  ·obtain rfl : j = k := by omega
   clear hdig
   have hlt2 : (1 + (j : Int)) < s.size := by omega
   have hfl := fv_lt (val s 1 j) s (1 + j + 1) r hr2 hv15
   go_wp2_with (go_at_call 104; refine (hdig2 _).mono ?_; rintro e w' ⟨rfl, rfl⟩)
   go_loop [7, 10] (fun x y => ∃ i : Nat, i ≤ 4 ∧ y = .int .i64 i ∧ x = .int .u64 (fv (val s 1 j) s (1 + j + 1) r i : Nat)) (fun _ y => 4 - (intOf y).toNat)
   case atStart => exact ⟨0, zq17, rfl, rfl⟩
   case round =>
    obtain ⟨i, hi, rfl, rfl⟩ := hrel
    by_cases hlt4 : i < 4
    ·have hlt4' : (i : Int) < 4 := by omega
     have hfb : fv (val s 1 j) s (1 + j + 1) r i < 1000000000000000000 := by
      have h1 := hfl i zq17
      have h2 := p10_le (j := i) (k := 3) zq17
      have h3 : p10 3 = 1000 := rfl
      omega
     by_cases hir : i < r
     ·have hin : 1 + j + 1 + i < s.size := by omega
      have hdi := hr2 i hin hir
      have hd' : 48 ≤ s[1 + j + 1 + i].toNat ∧ s[1 + j + 1 + i].toNat ≤ 57 := by simpa [isDig] using hdi
      obtain ⟨d1, d2⟩ := hd'
      have HF := Lib.hid (show fv (val s 1 j) s (1 + j + 1) r (i + 1) = 10 * fv (val s 1 j) s (1 + j + 1) r i + (s[1 + j + 1 + i].toNat - 48) by simp only [fv]; rw [if_pos hir, dgt_is hin])
      have hir' : (i : Int) < r := by omega
      clear hfl hdi hr2
      go_wp2
      go_round
      case rel => exact ⟨i + 1, zq17, by go_num, by rw [HF.out]; go_num⟩
      case measure => simp [intOf]; omega
     ·have HF := Lib.hid (show fv (val s 1 j) s (1 + j + 1) r (i + 1) = 10 * fv (val s 1 j) s (1 + j + 1) r i by simp only [fv]; rw [if_neg hir]; rfl)
      have hir' : ¬ (i : Int) < r := by omega
      clear hfl hr2
      go_wp2
      go_round
      case rel => exact ⟨i + 1, zq17, by go_num, by rw [HF.out]; go_num⟩
      case measure => simp [intOf]; omega
    ·obtain rfl : i = 4 := by omega
     generalize hV : fv (val s 1 j) s (1 + j + 1) r 4 = V at *
     have tV1 : decide ((9223372036854775807 : Int) < (V : Int)) = false := decide_eq_false zq17
     have tV2 : ((V : Int) == 0) = false := by rw [beq_eq_false_iff_ne]; omega
     go_wp2_with (go_at_call 105; refine (rsigned_neg _ _ zq17 zq17).mono ?_; rintro e w' ⟨rfl, rfl⟩)
     go_ret2
     exact ⟨ret2b (by rw [hV]), rfl⟩
theorem rparse_ndZ_n (s : ByteArray) (k : Nat) (w : World) (hs : s.size ≤ maxLen) (hsz : 0 < s.size) (h45 : s[0].toNat = 45) (hdig : DigIs s 1 k) (hrun : DigRun s 1 k) (hk1 : 1 ≤ k) (hk15 : k ≤ 15) (hat : 1 < s.size) (hz : s[1].toNat = 48) (hk0 : k ≤ 1) (hlt1 : 1 + k < s.size) (r : Nat) (hdig2 : DigAt s (1 + (k : Int) + 1) r) (hdot : s[1 + k].toNat ≠ 46)  : Calls Tryz.prog 68 #[.string s] w fun e w' => e = .returned (.tuple #[.int .i64 0, .bool false]) ∧ w' = w := by
 unfold maxLen at hs
 have hsz' : (0 : Int) < s.size := by omega
 have hk1' : ¬ (k : Int) < 1 := by omega
 have hk15' : ¬ (15 : Int) < k := by omega
 have hat' : (1 : Int) < s.size := by omega
 have hk0' : ¬ (1 : Int) < k := by omega
 have hv15 : val s 1 k < 1000000000000000 := by
  have h1 := val_lt s 1 k hrun.all
  have h2 := p10_le (j := k) (k := 15) zq17
  have h3 : p10 15 = 1000000000000000 := rfl
  omega
 go_enter Tryz.func68, Tryz.ntmps68
 go_wp2_with (go_at_call 104; refine (hdig _).mono ?_; rintro e w' ⟨rfl, rfl⟩)
 go_loop [7, 8] (fun x y => ∃ j : Nat, j ≤ k ∧ y = .int .i64 ((1 : Nat) + j : Nat) ∧ x = .int .u64 (val s 1 j : Nat)) (fun _ y => 1 + k - (intOf y).toNat)
 case atStart => exact ⟨0, zq17, rfl, rfl⟩
 case round =>
  obtain ⟨j, hj, rfl, rfl⟩ := hrel
  by_cases hlt : j < k
  ·have hbd : val s 1 j < 100000000000000 := by
    have h1 := val_lt s 1 j fun m hm hmj => hrun.all m hm zq17
    have h2 := p10_le (j := j) (k := 14) zq17
    have h3 : p10 14 = 100000000000000 := rfl
    omega
   have hin : 1 + j < s.size := by have := hrun.le; omega
   have hdj := hrun.all j hin hlt
   have hd' : 48 ≤ s[1 + j].toNat ∧ s[1 + j].toNat ≤ 57 := by simpa [isDig] using hdj
   have HS := Lib.hid (show val s 1 (j + 1) = 10 * val s 1 j + (s[1 + j].toNat - 48) by simp only [val]; rw [dgt_is hin])
   have hin' : (((1 : Nat) + j : Nat) : Int) < s.size := by omega
   obtain ⟨d1, d2⟩ := hd'
   clear hdj hrun hdig
   go_wp2
   go_round
   case rel => exact ⟨j + 1, zq17, by go_num, by rw [HS.out]; go_num⟩
   case measure => simp [intOf]; omega
  ·obtain rfl : j = k := by omega
   clear hdig
   have hlt2 : (1 + (j : Int)) < s.size := by omega
   have hne : s[1 + j].toNat ≠ 46 := hdot
   go_wp2_with (go_at_call 104; refine (hdig2 _).mono ?_; rintro e w' ⟨rfl, rfl⟩)
   go_ret2
   exact ⟨rfl, rfl⟩
theorem rparse_rZ_n (s : ByteArray) (k : Nat) (w : World) (hs : s.size ≤ maxLen) (hsz : 0 < s.size) (h45 : s[0].toNat = 45) (hdig : DigIs s 1 k) (hrun : DigRun s 1 k) (hk1 : 1 ≤ k) (hk15 : k ≤ 15) (hat : 1 < s.size) (hz : s[1].toNat = 48) (hk0 : k ≤ 1) (hlt1 : 1 + k < s.size) (r : Nat) (hdig2 : DigAt s (1 + (k : Int) + 1) r) (hdot : s[1 + k].toNat = 46) (hrb : r < 1 ∨ 4 < r ∨ 1 + k + 1 + r < s.size) (hr9 : 1 + k + 1 + r ≤ s.size)  : Calls Tryz.prog 68 #[.string s] w fun e w' => e = .returned (.tuple #[.int .i64 0, .bool false]) ∧ w' = w := by
 unfold maxLen at hs
 have hsz' : (0 : Int) < s.size := by omega
 have hk1' : ¬ (k : Int) < 1 := by omega
 have hk15' : ¬ (15 : Int) < k := by omega
 have hat' : (1 : Int) < s.size := by omega
 have hk0' : ¬ (1 : Int) < k := by omega
 have hv15 : val s 1 k < 1000000000000000 := by
  have h1 := val_lt s 1 k hrun.all
  have h2 := p10_le (j := k) (k := 15) zq17
  have h3 : p10 15 = 1000000000000000 := rfl
  omega
 go_enter Tryz.func68, Tryz.ntmps68
 go_wp2_with (go_at_call 104; refine (hdig _).mono ?_; rintro e w' ⟨rfl, rfl⟩)
 go_loop [7, 8] (fun x y => ∃ j : Nat, j ≤ k ∧ y = .int .i64 ((1 : Nat) + j : Nat) ∧ x = .int .u64 (val s 1 j : Nat)) (fun _ y => 1 + k - (intOf y).toNat)
 case atStart => exact ⟨0, zq17, rfl, rfl⟩
 case round =>
  obtain ⟨j, hj, rfl, rfl⟩ := hrel
  by_cases hlt : j < k
  ·have hbd : val s 1 j < 100000000000000 := by
    have h1 := val_lt s 1 j fun m hm hmj => hrun.all m hm zq17
    have h2 := p10_le (j := j) (k := 14) zq17
    have h3 : p10 14 = 100000000000000 := rfl
    omega
   have hin : 1 + j < s.size := by have := hrun.le; omega
   have hdj := hrun.all j hin hlt
   have hd' : 48 ≤ s[1 + j].toNat ∧ s[1 + j].toNat ≤ 57 := by simpa [isDig] using hdj
   have HS := Lib.hid (show val s 1 (j + 1) = 10 * val s 1 j + (s[1 + j].toNat - 48) by simp only [val]; rw [dgt_is hin])
   have hin' : (((1 : Nat) + j : Nat) : Int) < s.size := by omega
   obtain ⟨d1, d2⟩ := hd'
   clear hdj hrun hdig
   go_wp2
   go_round
   case rel => exact ⟨j + 1, zq17, by go_num, by rw [HS.out]; go_num⟩
   case measure => simp [intOf]; omega
  ·obtain rfl : j = k := by omega
   by_cases hr_1 : r < 1
   ·have tt1 : (r : Int) < 1 := by omega
    clear hdig
    have hlt2 : (1 + (j : Int)) < s.size := by omega
    go_wp2_with (go_at_call 104; refine (hdig2 _).mono ?_; rintro e w' ⟨rfl, rfl⟩)
    go_ret2
    exact ⟨rfl, rfl⟩
   by_cases hr_4 : 4 < r
   ·have tt2 : (4 : Int) < r := by omega
    clear hdig
    have hlt2 : (1 + (j : Int)) < s.size := by omega
    go_wp2_with (go_at_call 104; refine (hdig2 _).mono ?_; rintro e w' ⟨rfl, rfl⟩)
    go_ret2
    exact ⟨rfl, rfl⟩
   ·have tt3 : (1 + (j : Int)) + 1 + r < s.size := by omega
    clear hdig
    have hlt2 : (1 + (j : Int)) < s.size := by omega
    go_wp2_with (go_at_call 104; refine (hdig2 _).mono ?_; rintro e w' ⟨rfl, rfl⟩)
    go_ret2
    exact ⟨rfl, rfl⟩
end Go.Proofs.YtcmjhjnpcogmgaaGreatDoor.Dc
