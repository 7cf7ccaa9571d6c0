/- The ways through the document's Parse without a sign, over what 'digits' answers: the numb -/
import Derived.Test.YtcmjhjnpcogmgaaGreatDoorUAuto
import Derived.Test.YtcmjhjnpcogmgaaGreatDoorUDcRDigitsDcRValDcRParseM
import Derived.Test.YtcmjhjnpcogmgaaGreatDoorUDcRParseN
set_option linter.all false
set_option maxRecDepth 100000
set_option maxHeartbeats 4000000
namespace Go.Proofs.YtcmjhjnpcogmgaaGreatDoor.Dc
open Go.Shelf Go.RowKit
set_option linter.unusedVariables false
theorem rparse_k0_p (s : ByteArray) (k : Nat) (w : World) (hs : s.size ≤ maxLen) (hsz : 0 < s.size) (h45 : s[0].toNat ≠ 45) (hdig : DigIs s 0 k) (hrun : DigRun s 0 k) (hk : k < 1) : Calls Tryz.prog 68 #[.string s] w fun e w' => e = .returned (.tuple #[.int .i64 0, .bool false]) ∧ w' = w := by
 unfold maxLen at hs
 have hsz' : (0 : Int) < s.size := by omega
 have hk' : (k : Int) < 1 := by omega
 go_enter Tryz.func68, Tryz.ntmps68
 go_wp2_with (go_at_call 104; refine (hdig _).mono ?_; rintro e w' ⟨rfl, rfl⟩)
 go_ret2
 exact ⟨rfl, rfl⟩
theorem rparse_k16_p (s : ByteArray) (k : Nat) (w : World) (hs : s.size ≤ maxLen) (hsz : 0 < s.size) (h45 : s[0].toNat ≠ 45) (hdig : DigIs s 0 k) (hrun : DigRun s 0 k) (hk : 15 < k) (hat : 0 < s.size) : Calls Tryz.prog 68 #[.string s] w fun e w' => e = .returned (.tuple #[.int .i64 0, .bool false]) ∧ w' = w := by
 unfold maxLen at hs
 have hsz' : (0 : Int) < s.size := by omega
 have hk' : (15 : Int) < k := by omega
 go_enter Tryz.func68, Tryz.ntmps68
 go_wp2_with (go_at_call 104; refine (hdig _).mono ?_; rintro e w' ⟨rfl, rfl⟩)
 go_ret2
 exact ⟨rfl, rfl⟩
theorem rparse_lead_p (s : ByteArray) (k : Nat) (w : World) (hs : s.size ≤ maxLen) (hsz : 0 < s.size) (h45 : s[0].toNat ≠ 45) (hdig : DigIs s 0 k) (hrun : DigRun s 0 k) (hk1 : 1 < k) (hk15 : k ≤ 15) (hat : 0 < s.size) (hz : s[0].toNat = 48) : Calls Tryz.prog 68 #[.string s] w fun e w' => e = .returned (.tuple #[.int .i64 0, .bool false]) ∧ w' = w := by
 unfold maxLen at hs
 have hsz' : (0 : Int) < s.size := by omega
 have hk' : (1 : Int) < k := by omega
 have hk15' : ¬ (15 : Int) < k := by omega
 have hat' : (0 : Int) < s.size := by omega
 go_enter Tryz.func68, Tryz.ntmps68
 go_wp2_with (go_at_call 104; refine (hdig _).mono ?_; rintro e w' ⟨rfl, rfl⟩)
 go_ret2
 exact ⟨rfl, rfl⟩
theorem rparse_empty_p (s : ByteArray) (w : World) (hz : s.size ≤ 0) (hdig : DigIs s 0 0) : Calls Tryz.prog 68 #[.string s] w fun e w' => e = .returned (.tuple #[.int .i64 0, .bool false]) ∧ w' = w := by
 have hz' : ¬ (0 : Int) < s.size := by omega
 go_enter Tryz.func68, Tryz.ntmps68
 go_wp2_with (go_at_call 104; refine (hdig _).mono ?_; rintro e w' ⟨rfl, rfl⟩)
 go_ret2
 exact ⟨rfl, rfl⟩
theorem rparse_ENbig_p (s : ByteArray) (k : Nat) (w : World) (hs : s.size ≤ maxLen) (hsz : 0 < s.size) (h45 : s[0].toNat ≠ 45) (hdig : DigIs s 0 k) (hrun : DigRun s 0 k) (hk1 : 1 ≤ k) (hk15 : k ≤ 15) (hat : 0 < s.size) (hz : s[0].toNat ≠ 48) (hend : s.size ≤ k) (hb : 9223372036854775807 < fv (val s 0 k) s (k + 1) 0 4) : Calls Tryz.prog 68 #[.string s] w fun e w' => e = .returned (.tuple #[.int .i64 0, .bool false]) ∧ w' = w := by
 unfold maxLen at hs
 have hsz' : (0 : Int) < s.size := by omega
 have hk1' : ¬ (k : Int) < 1 := by omega
 have hk15' : ¬ (15 : Int) < k := by omega
 have hat' : (0 : Int) < s.size := by omega
 have hv15 : val s 0 k < 1000000000000000 := by
  have h1 := val_lt s 0 k hrun.all
  have h2 := p10_le (j := k) (k := 15) zq17
  have h3 : p10 15 = 1000000000000000 := rfl
  omega
 go_enter Tryz.func68, Tryz.ntmps68
 go_wp2_with (go_at_call 104; refine (hdig _).mono ?_; rintro e w' ⟨rfl, rfl⟩)
 go_loop [7, 8] (fun x y => ∃ j : Nat, j ≤ k ∧ y = .int .i64 (j : Nat) ∧ x = .int .u64 (val s 0 j : Nat)) (fun _ y => k - (intOf y).toNat)
 case atStart => exact ⟨0, zq17, rfl, rfl⟩
 case round =>
  obtain ⟨j, hj, rfl, rfl⟩ := hrel
  by_cases hlt : j < k
  ·have hbd : val s 0 j < 100000000000000 := by
    have h1 := val_lt s 0 j fun m hm hmj => hrun.all m hm zq17
    have h2 := p10_le (j := j) (k := 14) zq17
    have h3 : p10 14 = 100000000000000 := rfl
    omega
   have hin : j < s.size := by have := hrun.le; omega
   have hdj : isDig s[j] = true := by have := hrun.all j zq17 hlt; simpa using this
   have hd' : 48 ≤ s[j].toNat ∧ s[j].toNat ≤ 57 := by simpa [isDig] using hdj
   have HS := Lib.hid (show val s 0 (j + 1) = 10 * val s 0 j + (s[j].toNat - 48) by simp only [val, Nat.zero_add]; rw [dgt_is hin])
   have hin' : ((j : Nat) : Int) < s.size := by omega
   obtain ⟨d1, d2⟩ := hd'
   clear hdj hrun hdig
   go_wp2
   go_round
   case rel => exact ⟨j + 1, zq17, by go_num, by rw [HS.out]; go_num⟩
   case measure => simp [intOf]; omega
  ·obtain rfl : j = k := by omega
   clear hdig
   have hfl := fv_lt (val s 0 j) s (j + 1) 0 (fun m _ hm => absurd hm zq17) hv15
   have hend' : ¬ ( (j : Int)) < s.size := by omega
   go_wp2
   go_loop [7, 10] (fun x y => ∃ i : Nat, i ≤ 4 ∧ y = .int .i64 i ∧ x = .int .u64 (fv (val s 0 j) s (j + 1) 0 i : Nat)) (fun _ y => 4 - (intOf y).toNat)
   case atStart => exact ⟨0, zq17, rfl, rfl⟩
   case round =>
    obtain ⟨i, hi, rfl, rfl⟩ := hrel
    by_cases hlt4 : i < 4
    ·have hlt4' : (i : Int) < 4 := by omega
     have hfb : fv (val s 0 j) s (j + 1) 0 i < 1000000000000000000 := by
      have h1 := hfl i zq17
      have h2 := p10_le (j := i) (k := 3) zq17
      have h3 : p10 3 = 1000 := rfl
      omega
     have HF := Lib.hid (show fv (val s 0 j) s (j + 1) 0 (i + 1) = 10 * fv (val s 0 j) s (j + 1) 0 i by simp [fv])
     have hn0 : ¬ (i : Int) < 0 := by omega
     clear hfl
     go_wp2
     go_round
     case rel => exact ⟨i + 1, zq17, by go_num, by rw [HF.out]; go_num⟩
     case measure => simp [intOf]; omega
    ·obtain rfl : i = 4 := by omega
     generalize hV : fv (val s 0 j) s (j + 1) 0 4 = V at *
     have tV1 : decide ((9223372036854775807 : Int) < (V : Int)) = true := decide_eq_true zq17
     go_wp2
     go_ret2
     exact ⟨rfl, rfl⟩
theorem rparse_okNbig_p (s : ByteArray) (k : Nat) (w : World) (hs : s.size ≤ maxLen) (hsz : 0 < s.size) (h45 : s[0].toNat ≠ 45) (hdig : DigIs s 0 k) (hrun : DigRun s 0 k) (hk1 : 1 ≤ k) (hk15 : k ≤ 15) (hat : 0 < s.size) (hz : s[0].toNat ≠ 48) (hlt1 : k < s.size) (r : Nat) (hdig2 : DigAt s ((k : Int) + 1) r) (hdot : s[k].toNat = 46) (hr1 : 1 ≤ r) (hr4 : r ≤ 4) (hrend : s.size ≤ k + 1 + r) (hr9 : k + 1 + r ≤ s.size) (hr2 : ∀ m, (h : k + 1 + m < s.size) → m < r → isDig s[k + 1 + m] = true) (hb : 9223372036854775807 < fv (val s 0 k) s (k + 1) r 4) : Calls Tryz.prog 68 #[.string s] w fun e w' => e = .returned (.tuple #[.int .i64 0, .bool false]) ∧ w' = w := by
 unfold maxLen at hs
 have hsz' : (0 : Int) < s.size := by omega
 have hk1' : ¬ (k : Int) < 1 := by omega
 have hk15' : ¬ (15 : Int) < k := by omega
 have hat' : (0 : Int) < s.size := by omega
 have hv15 : val s 0 k < 1000000000000000 := by
  have h1 := val_lt s 0 k hrun.all
  have h2 := p10_le (j := k) (k := 15) zq17
  have h3 : p10 15 = 1000000000000000 := rfl
  omega
 go_enter Tryz.func68, Tryz.ntmps68
 go_wp2_with (go_at_call 104; refine (hdig _).mono ?_; rintro e w' ⟨rfl, rfl⟩)
 go_loop [7, 8] (fun x y => ∃ j : Nat, j ≤ k ∧ y = .int .i64 (j : Nat) ∧ x = .int .u64 (val s 0 j : Nat)) (fun _ y => k - (intOf y).toNat)
 case atStart => exact ⟨0, zq17, rfl, rfl⟩
 case round =>
  obtain ⟨j, hj, rfl, rfl⟩ := hrel
  by_cases hlt : j < k
  ·have hbd : val s 0 j < 100000000000000 := by
    have h1 := val_lt s 0 j fun m hm hmj => hrun.all m hm zq17
    have h2 := p10_le (j := j) (k := 14) zq17
    have h3 : p10 14 = 100000000000000 := rfl
    omega
   have hin : j < s.size := by have := hrun.le; omega
   have hdj : isDig s[j] = true := by have := hrun.all j zq17 hlt; simpa using this
   have hd' : 48 ≤ s[j].toNat ∧ s[j].toNat ≤ 57 := by simpa [isDig] using hdj
   have HS := Lib.hid (show val s 0 (j + 1) = 10 * val s 0 j + (s[j].toNat - 48) by simp only [val, Nat.zero_add]; rw [dgt_is hin])
   have hin' : ((j : Nat) : Int) < s.size := by omega
   obtain ⟨d1, d2⟩ := hd'
   clear hdj hrun hdig
   go_wp2
   go_round
   case rel => exact ⟨j + 1, zq17, by go_num, by rw [HS.out]; go_num⟩
   case measure => simp [intOf]; omega
  ·obtain rfl : j = k := by omega
   clear hdig
   have hlt2 : ( (j : Int)) < s.size := by omega
   have hfl := fv_lt (val s 0 j) s (j + 1) r hr2 hv15
   go_wp2_with (go_at_call 104; refine (hdig2 _).mono ?_; rintro e w' ⟨rfl, rfl⟩)
   go_loop [7, 10] (fun x y => ∃ i : Nat, i ≤ 4 ∧ y = .int .i64 i ∧ x = .int .u64 (fv (val s 0 j) s (j + 1) r i : Nat)) (fun _ y => 4 - (intOf y).toNat)
   case atStart => exact ⟨0, zq17, rfl, rfl⟩
   case round =>
    obtain ⟨i, hi, rfl, rfl⟩ := hrel
    by_cases hlt4 : i < 4
    ·have hlt4' : (i : Int) < 4 := by omega
     have hfb : fv (val s 0 j) s (j + 1) r i < 1000000000000000000 := by
      have h1 := hfl i zq17
      have h2 := p10_le (j := i) (k := 3) zq17
      have h3 : p10 3 = 1000 := rfl
      omega
     by_cases hir : i < r
     ·have hin : j + 1 + i < s.size := by omega
      have hdi := hr2 i hin hir
      have hd' : 48 ≤ s[j + 1 + i].toNat ∧ s[j + 1 + i].toNat ≤ 57 := by simpa [isDig] using hdi
      obtain ⟨d1, d2⟩ := hd'
      have HF := Lib.hid (show fv (val s 0 j) s (j + 1) r (i + 1) = 10 * fv (val s 0 j) s (j + 1) r i + (s[j + 1 + i].toNat - 48) by simp only [fv]; rw [if_pos hir, dgt_is hin])
      have hir' : (i : Int) < r := by omega
      clear hfl hdi hr2
      go_wp2
      go_round
      case rel => exact ⟨i + 1, zq17, by go_num, by rw [HF.out]; go_num⟩
      case measure => simp [intOf]; omega
     ·have HF := Lib.hid (show fv (val s 0 j) s (j + 1) r (i + 1) = 10 * fv (val s 0 j) s (j + 1) r i by simp only [fv]; rw [if_neg hir]; rfl)
      have hir' : ¬ (i : Int) < r := by omega
      clear hfl hr2
      go_wp2
      go_round
      case rel => exact ⟨i + 1, zq17, by go_num, by rw [HF.out]; go_num⟩
      case measure => simp [intOf]; omega
    ·obtain rfl : i = 4 := by omega
     generalize hV : fv (val s 0 j) s (j + 1) r 4 = V at *
     have tV1 : decide ((9223372036854775807 : Int) < (V : Int)) = true := decide_eq_true zq17
     go_wp2
     go_ret2
     exact ⟨rfl, rfl⟩
theorem rparse_ENgood_p (s : ByteArray) (k : Nat) (w : World) (hs : s.size ≤ maxLen) (hsz : 0 < s.size) (h45 : s[0].toNat ≠ 45) (hdig : DigIs s 0 k) (hrun : DigRun s 0 k) (hk1 : 1 ≤ k) (hk15 : k ≤ 15) (hat : 0 < s.size) (hz : s[0].toNat ≠ 48) (hend : s.size ≤ k) (hb : fv (val s 0 k) s (k + 1) 0 4 ≤ 9223372036854775807) : Calls Tryz.prog 68 #[.string s] w fun e w' => e = .returned (.tuple #[.int .i64 ((fv (val s 0 k) s (k + 1) 0 4 : Nat) : Int), .bool true]) ∧ w' = w := by
 unfold maxLen at hs
 have hsz' : (0 : Int) < s.size := by omega
 have hk1' : ¬ (k : Int) < 1 := by omega
 have hk15' : ¬ (15 : Int) < k := by omega
 have hat' : (0 : Int) < s.size := by omega
 have hv15 : val s 0 k < 1000000000000000 := by
  have h1 := val_lt s 0 k hrun.all
  have h2 := p10_le (j := k) (k := 15) zq17
  have h3 : p10 15 = 1000000000000000 := rfl
  omega
 go_enter Tryz.func68, Tryz.ntmps68
 go_wp2_with (go_at_call 104; refine (hdig _).mono ?_; rintro e w' ⟨rfl, rfl⟩)
 go_loop [7, 8] (fun x y => ∃ j : Nat, j ≤ k ∧ y = .int .i64 (j : Nat) ∧ x = .int .u64 (val s 0 j : Nat)) (fun _ y => k - (intOf y).toNat)
 case atStart => exact ⟨0, zq17, rfl, rfl⟩
 case round =>
  obtain ⟨j, hj, rfl, rfl⟩ := hrel
  by_cases hlt : j < k
  ·have hbd : val s 0 j < 100000000000000 := by
    have h1 := val_lt s 0 j fun m hm hmj => hrun.all m hm zq17
    have h2 := p10_le (j := j) (k := 14) zq17
    have h3 : p10 14 = 100000000000000 := rfl
    omega
   have hin : j < s.size := by have := hrun.le; omega
   have hdj : isDig s[j] = true := by have := hrun.all j zq17 hlt; simpa using this
   have hd' : 48 ≤ s[j].toNat ∧ s[j].toNat ≤ 57 := by simpa [isDig] using hdj
   have HS := Lib.hid (show val s 0 (j + 1) = 10 * val s 0 j + (s[j].toNat - 48) by simp only [val, Nat.zero_add]; rw [dgt_is hin])
   have hin' : ((j : Nat) : Int) < s.size := by omega
   obtain ⟨d1, d2⟩ := hd'
   clear hdj hrun hdig
   go_wp2
   go_round
   case rel => exact ⟨j + 1, zq17, by go_num, by rw [HS.out]; go_num⟩
   case measure => simp [intOf]; omega
  ·obtain rfl : j = k := by omega
   clear hdig
   have hfl := fv_lt (val s 0 j) s (j + 1) 0 (fun m _ hm => absurd hm zq17) hv15
   have hend' : ¬ ( (j : Int)) < s.size := by omega
   go_wp2
   go_loop [7, 10] (fun x y => ∃ i : Nat, i ≤ 4 ∧ y = .int .i64 i ∧ x = .int .u64 (fv (val s 0 j) s (j + 1) 0 i : Nat)) (fun _ y => 4 - (intOf y).toNat)
   case atStart => exact ⟨0, zq17, rfl, rfl⟩
   case round =>
    obtain ⟨i, hi, rfl, rfl⟩ := hrel
    by_cases hlt4 : i < 4
    ·have hlt4' : (i : Int) < 4 := by omega
     have hfb : fv (val s 0 j) s (j + 1) 0 i < 1000000000000000000 := by
      have h1 := hfl i zq17
      have h2 := p10_le (j := i) (k := 3) zq17
      have h3 : p10 3 = 1000 := rfl
      omega
     have HF := Lib.hid (show fv (val s 0 j) s (j + 1) 0 (i + 1) = 10 * fv (val s 0 j) s (j + 1) 0 i by simp [fv])
     have hn0 : ¬ (i : Int) < 0 := by omega
     clear hfl
     go_wp2
     go_round
     case rel => exact ⟨i + 1, zq17, by go_num, by rw [HF.out]; go_num⟩
     case measure => simp [intOf]; omega
    ·obtain rfl : i = 4 := by omega
     generalize hV : fv (val s 0 j) s (j + 1) 0 4 = V at *
     have tV1 : decide ((9223372036854775807 : Int) < (V : Int)) = false := decide_eq_false zq17
     go_wp2_with (go_at_call 105; refine (rsigned_pos _ _ zq17 zq17).mono ?_; rintro e w' ⟨rfl, rfl⟩)
     go_ret2
     exact ⟨ret2b (by rw [hV]), rfl⟩
theorem rparse_okNgood_p (s : ByteArray) (k : Nat) (w : World) (hs : s.size ≤ maxLen) (hsz : 0 < s.size) (h45 : s[0].toNat ≠ 45) (hdig : DigIs s 0 k) (hrun : DigRun s 0 k) (hk1 : 1 ≤ k) (hk15 : k ≤ 15) (hat : 0 < s.size) (hz : s[0].toNat ≠ 48) (hlt1 : k < s.size) (r : Nat) (hdig2 : DigAt s ((k : Int) + 1) r) (hdot : s[k].toNat = 46) (hr1 : 1 ≤ r) (hr4 : r ≤ 4) (hrend : s.size ≤ k + 1 + r) (hr9 : k + 1 + r ≤ s.size) (hr2 : ∀ m, (h : k + 1 + m < s.size) → m < r → isDig s[k + 1 + m] = true) (hb : fv (val s 0 k) s (k + 1) r 4 ≤ 9223372036854775807) : Calls Tryz.prog 68 #[.string s] w fun e w' => e = .returned (.tuple #[.int .i64 ((fv (val s 0 k) s (k + 1) r 4 : Nat) : Int), .bool true]) ∧ w' = w := by
 unfold maxLen at hs
 have hsz' : (0 : Int) < s.size := by omega
 have hk1' : ¬ (k : Int) < 1 := by omega
 have hk15' : ¬ (15 : Int) < k := by omega
 have hat' : (0 : Int) < s.size := by omega
 have hv15 : val s 0 k < 1000000000000000 := by
  have h1 := val_lt s 0 k hrun.all
  have h2 := p10_le (j := k) (k := 15) zq17
  have h3 : p10 15 = 1000000000000000 := rfl
  omega
 go_enter Tryz.func68, Tryz.ntmps68
 go_wp2_with (go_at_call 104; refine (hdig _).mono ?_; rintro e w' ⟨rfl, rfl⟩)
 go_loop [7, 8] (fun x y => ∃ j : Nat, j ≤ k ∧ y = .int .i64 (j : Nat) ∧ x = .int .u64 (val s 0 j : Nat)) (fun _ y => k - (intOf y).toNat)
 case atStart => exact ⟨0, zq17, rfl, rfl⟩
 case round =>
  obtain ⟨j, hj, rfl, rfl⟩ := hrel
  by_cases hlt : j < k
  ·have hbd : val s 0 j < 100000000000000 := by
    have h1 := val_lt s 0 j fun m hm hmj => hrun.all m hm zq17
    have h2 := p10_le (j := j) (k := 14) zq17
    have h3 : p10 14 = 100000000000000 := rfl
    omega
   have hin : j < s.size := by have := hrun.le; omega
   have hdj : isDig s[j] = true := by have := hrun.all j zq17 hlt; simpa using this
   have hd' : 48 ≤ s[j].toNat ∧ s[j].toNat ≤ 57 := by simpa [isDig] using hdj
   have HS := Lib.hid (show val s 0 (j + 1) = 10 * val s 0 j + (s[j].toNat - 48) by simp only [val, Nat.zero_add]; rw [dgt_is hin])
   have hin' : ((j : Nat) : Int) < s.size := by omega
   obtain ⟨d1, d2⟩ := hd'
   clear hdj hrun hdig
   go_wp2
   go_round
   case rel => exact ⟨j + 1, zq17, by go_num, by rw [HS.out]; go_num⟩
   case measure => simp [intOf]; omega
  ·obtain rfl : j = k := by omega
   clear hdig
   have hlt2 : ( (j : Int)) < s.size := by omega
   have hfl := fv_lt (val s 0 j) s (j + 1) r hr2 hv15
   go_wp2_with (go_at_call 104; refine (hdig2 _).mono ?_; rintro e w' ⟨rfl, rfl⟩)
   go_loop [7, 10] (fun x y => ∃ i : Nat, i ≤ 4 ∧ y = .int .i64 i ∧ x = .int .u64 (fv (val s 0 j) s (j + 1) r i : Nat)) (fun _ y => 4 - (intOf y).toNat)
   case atStart => exact ⟨0, zq17, rfl, rfl⟩
   case round =>
    obtain ⟨i, hi, rfl, rfl⟩ := hrel
    by_cases hlt4 : i < 4
    ·have hlt4' : (i : Int) < 4 := by omega
     have hfb : fv (val s 0 j) s (j + 1) r i < 1000000000000000000 := by
      have h1 := hfl i zq17
      have h2 := p10_le (j := i) (k := 3) zq17
      have h3 : p10 3 = 1000 := rfl
      omega
     by_cases hir : i < r
     ·have hin : j + 1 + i < s.size := by omega
      have hdi := hr2 i hin hir
      have hd' : 48 ≤ s[j + 1 + i].toNat ∧ s[j + 1 + i].toNat ≤ 57 := by simpa [isDig] using hdi
      obtain ⟨d1, d2⟩ := hd'
      have HF := Lib.hid (show fv (val s 0 j) s (j + 1) r (i + 1) = 10 * fv (val s 0 j) s (j + 1) r i + (s[j + 1 + i].toNat - 48) by simp only [fv]; rw [if_pos hir, dgt_is hin])
      have hir' : (i : Int) < r := by omega
      clear hfl hdi hr2
      go_wp2
      go_round
      case rel => exact ⟨i + 1, zq17, by go_num, by rw [HF.out]; go_num⟩
      case measure => simp [intOf]; omega
     ·have HF := Lib.hid (show fv (val s 0 j) s (j + 1) r (i + 1) = 10 * fv (val s 0 j) s (j + 1) r i by simp only [fv]; rw [if_neg hir]; rfl)
      have hir' : ¬ (i : Int) < r := by omega
      clear hfl hr2
      go_wp2
      go_round
      case rel => exact ⟨i + 1, zq17, by go_num, by rw [HF.out]; go_num⟩
      case measure => simp [intOf]; omega
    ·obtain rfl : i = 4 := by omega
     generalize hV : fv (val s 0 j) s (j + 1) r 4 = V at *
     have tV1 : decide ((9223372036854775807 : Int) < (V : Int)) = false := decide_eq_false zq17
     go_wp2_with (go_at_call 105; refine (rsigned_pos _ _ zq17 zq17).mono ?_; rintro e w' ⟨rfl, rfl⟩)
     go_ret2
     exact ⟨ret2b (by rw [hV]), rfl⟩
theorem rparse_ndN_p (s : ByteArray) (k : Nat) (w : World) (hs : s.size ≤ maxLen) (hsz : 0 < s.size) (h45 : s[0].toNat ≠ 45) (hdig : DigIs s 0 k) (hrun : DigRun s 0 k) (hk1 : 1 ≤ k) (hk15 : k ≤ 15) (hat : 0 < s.size) (hz : s[0].toNat ≠ 48) (hlt1 : k < s.size) (r : Nat) (hdig2 : DigAt s ((k : Int) + 1) r) (hdot : s[k].toNat ≠ 46)  : Calls Tryz.prog 68 #[.string s] w fun e w' => e = .returned (.tuple #[.int .i64 0, .bool false]) ∧ w' = w := by
 unfold maxLen at hs
 have hsz' : (0 : Int) < s.size := by omega
 have hk1' : ¬ (k : Int) < 1 := by omega
 have hk15' : ¬ (15 : Int) < k := by omega
 have hat' : (0 : Int) < s.size := by omega
 have hv15 : val s 0 k < 1000000000000000 := by
  have h1 := val_lt s 0 k hrun.all
  have h2 := p10_le (j := k) (k := 15) zq17
  have h3 : p10 15 = 1000000000000000 := rfl
  omega
 go_enter Tryz.func68, Tryz.ntmps68
 go_wp2_with (go_at_call 104; refine (hdig _).mono ?_; rintro e w' ⟨rfl, rfl⟩)
 go_loop [7, 8] (fun x y => ∃ j : Nat, j ≤ k ∧ y = .int .i64 (j : Nat) ∧ x = .int .u64 (val s 0 j : Nat)) (fun _ y => k - (intOf y).toNat)
 case atStart => exact ⟨0, zq17, rfl, rfl⟩
 case round =>
  obtain ⟨j, hj, rfl, rfl⟩ := hrel
  by_cases hlt : j < k
  ·have hbd : val s 0 j < 100000000000000 := by
    have h1 := val_lt s 0 j fun m hm hmj => hrun.all m hm zq17
    have h2 := p10_le (j := j) (k := 14) zq17
    have h3 : p10 14 = 100000000000000 := rfl
    omega
   have hin : j < s.size := by have := hrun.le; omega
   have hdj : isDig s[j] = true := by have := hrun.all j zq17 hlt; simpa using this
   have hd' : 48 ≤ s[j].toNat ∧ s[j].toNat ≤ 57 := by simpa [isDig] using hdj
   have HS := Lib.hid (show val s 0 (j + 1) = 10 * val s 0 j + (s[j].toNat - 48) by simp only [val, Nat.zero_add]; rw [dgt_is hin])
   have hin' : ((j : Nat) : Int) < s.size := by omega
   obtain ⟨d1, d2⟩ := hd'
   clear hdj hrun hdig
   go_wp2
   go_round
   case rel => exact ⟨j + 1, zq17, by go_num, by rw [HS.out]; go_num⟩
   case measure => simp [intOf]; omega
  ·obtain rfl : j = k := by omega
   clear hdig
   have hlt2 : ( (j : Int)) < s.size := by omega
   have hne : s[j].toNat ≠ 46 := hdot
   go_wp2_with (go_at_call 104; refine (hdig2 _).mono ?_; rintro e w' ⟨rfl, rfl⟩)
   go_ret2
   exact ⟨rfl, rfl⟩
theorem rparse_rN_p (s : ByteArray) (k : Nat) (w : World) (hs : s.size ≤ maxLen) (hsz : 0 < s.size) (h45 : s[0].toNat ≠ 45) (hdig : DigIs s 0 k) (hrun : DigRun s 0 k) (hk1 : 1 ≤ k) (hk15 : k ≤ 15) (hat : 0 < s.size) (hz : s[0].toNat ≠ 48) (hlt1 : k < s.size) (r : Nat) (hdig2 : DigAt s ((k : Int) + 1) r) (hdot : s[k].toNat = 46) (hrb : r < 1 ∨ 4 < r ∨ k + 1 + r < s.size) (hr9 : k + 1 + r ≤ s.size)  : Calls Tryz.prog 68 #[.string s] w fun e w' => e = .returned (.tuple #[.int .i64 0, .bool false]) ∧ w' = w := by
 unfold maxLen at hs
 have hsz' : (0 : Int) < s.size := by omega
 have hk1' : ¬ (k : Int) < 1 := by omega
 have hk15' : ¬ (15 : Int) < k := by omega
 have hat' : (0 : Int) < s.size := by omega
 have hv15 : val s 0 k < 1000000000000000 := by
  have h1 := val_lt s 0 k hrun.all
  have h2 := p10_le (j := k) (k := 15) zq17
  have h3 : p10 15 = 1000000000000000 := rfl
  omega
 go_enter Tryz.func68, Tryz.ntmps68
 go_wp2_with (go_at_call 104; refine (hdig _).mono ?_; rintro e w' ⟨rfl, rfl⟩)
 go_loop [7, 8] (fun x y => ∃ j : Nat, j ≤ k ∧ y = .int .i64 (j : Nat) ∧ x = .int .u64 (val s 0 j : Nat)) (fun _ y => k - (intOf y).toNat)
 case atStart => exact ⟨0, zq17, rfl, rfl⟩
 case round =>
  obtain ⟨j, hj, rfl, rfl⟩ := hrel
  by_cases hlt : j < k
  ·have hbd : val s 0 j < 100000000000000 := by
    have h1 := val_lt s 0 j fun m hm hmj => hrun.all m hm zq17
    have h2 := p10_le (j := j) (k := 14) zq17
    have h3 : p10 14 = 100000000000000 := rfl
    omega
   have hin : j < s.size := by have := hrun.le; omega
   have hdj : isDig s[j] = true := by have := hrun.all j zq17 hlt; simpa using this
   have hd' : 48 ≤ s[j].toNat ∧ s[j].toNat ≤ 57 := by simpa [isDig] using hdj
   have HS := Lib.hid (show val s 0 (j + 1) = 10 * val s 0 j + (s[j].toNat - 48) by simp only [val, Nat.zero_add]; rw [dgt_is hin])
   have hin' : ((j : Nat) : Int) < s.size := by omega
   obtain ⟨d1, d2⟩ := hd'
   clear hdj hrun hdig
   go_wp2
   go_round
   case rel => exact ⟨j + 1, zq17, by go_num, by rw [HS.out]; go_num⟩
   case measure => simp [intOf]; omega
  ·obtain rfl : j = k := by omega
   by_cases hr_1 : r < 1
   ·have tt1 : (r : Int) < 1 := by omega
    clear hdig
    have hlt2 : ( (j : Int)) < s.size := by omega
    go_wp2_with (go_at_call 104; refine (hdig2 _).mono ?_; rintro e w' ⟨rfl, rfl⟩)
    go_ret2
    exact ⟨rfl, rfl⟩
   by_cases hr_4 : 4 < r
   ·have tt2 : (4 : Int) < r := by omega
    clear hdig
    have hlt2 : ( (j : Int)) < s.size := by omega
    go_wp2_with (go_at_call 104; refine (hdig2 _).mono ?_; rintro e w' ⟨rfl, rfl⟩)
    go_ret2
    exact ⟨rfl, rfl⟩
   ·have tt3 : ( (j : Int)) + 1 + r < s.size := by omega
    clear hdig
    have hlt2 : ( (j : Int)) < s.size := by omega
    go_wp2_with (go_at_call 104; refine (hdig2 _).mono ?_; rintro e w' ⟨rfl, rfl⟩)
    go_ret2
    exact ⟨rfl, rfl⟩
theorem rparse_EZbig_p (s : ByteArray) (k : Nat) (w : World) (hs : s.size ≤ maxLen) (hsz : 0 < s.size) (h45 : s[0].toNat ≠ 45) (hdig : DigIs s 0 k) (hrun : DigRun s 0 k) (hk1 : 1 ≤ k) (hk15 : k ≤ 15) (hat : 0 < s.size) (hz : s[0].toNat = 48) (hk0 : k ≤ 1) (hend : s.size ≤ k) (hb : 9223372036854775807 < fv (val s 0 k) s (k + 1) 0 4) : Calls Tryz.prog 68 #[.string s] w fun e w' => e = .returned (.tuple #[.int .i64 0, .bool false]) ∧ w' = w := by
 unfold maxLen at hs
 have hsz' : (0 : Int) < s.size := by omega
 have hk1' : ¬ (k : Int) < 1 := by omega
 have hk15' : ¬ (15 : Int) < k := by omega
 have hat' : (0 : Int) < s.size := by omega
 have hk0' : ¬ (1 : Int) < k := by omega
 have hv15 : val s 0 k < 1000000000000000 := by
  have h1 := val_lt s 0 k hrun.all
  have h2 := p10_le (j := k) (k := 15) zq17
  have h3 : p10 15 = 1000000000000000 := rfl
  omega
 go_enter Tryz.func68, Tryz.ntmps68
 go_wp2_with (go_at_call 104; refine (hdig _).mono ?_; rintro e w' ⟨rfl, rfl⟩)
 go_loop [7, 8] (fun x y => ∃ j : Nat, j ≤ k ∧ y = .int .i64 (j : Nat) ∧ x = .int .u64 (val s 0 j : Nat)) (fun _ y => k - (intOf y).toNat)
 case atStart => exact ⟨0, zq17, rfl, rfl⟩
 case round =>
  obtain ⟨j, hj, rfl, rfl⟩ := hrel
  by_cases hlt : j < k
  ·have hbd : val s 0 j < 100000000000000 := by
    have h1 := val_lt s 0 j fun m hm hmj => hrun.all m hm zq17
    have h2 := p10_le (j := j) (k := 14) zq17
    have h3 : p10 14 = 100000000000000 := rfl
    omega
   have hin : j < s.size := by have := hrun.le; omega
   have hdj : isDig s[j] = true := by have := hrun.all j zq17 hlt; simpa using this
   have hd' : 48 ≤ s[j].toNat ∧ s[j].toNat ≤ 57 := by simpa [isDig] using hdj
   have HS := Lib.hid (show val s 0 (j + 1) = 10 * val s 0 j + (s[j].toNat - 48) by simp only [val, Nat.zero_add]; rw [dgt_is hin])
   have hin' : ((j : Nat) : Int) < s.size := by omega
   obtain ⟨d1, d2⟩ := hd'
   clear hdj hrun hdig
   go_wp2
   go_round
   case rel => exact ⟨j + 1, zq17, by go_num, by rw [HS.out]; go_num⟩
   case measure => simp [intOf]; omega
  ·obtain rfl : j = k := by omega
   clear hdig
   have hfl := fv_lt (val s 0 j) s (j + 1) 0 (fun m _ hm => absurd hm zq17) hv15
   have hend' : ¬ ( (j : Int)) < s.size := by omega
   go_wp2
   go_loop [7, 10] (fun x y => ∃ i : Nat, i ≤ 4 ∧ y = .int .i64 i ∧ x = .int .u64 (fv (val s 0 j) s (j + 1) 0 i : Nat)) (fun _ y => 4 - (intOf y).toNat)
   case atStart => exact ⟨0, zq17, rfl, rfl⟩
   case round =>
    obtain ⟨i, hi, rfl, rfl⟩ := hrel
    by_cases hlt4 : i < 4
    ·have hlt4' : (i : Int) < 4 := by omega
     have hfb : fv (val s 0 j) s (j + 1) 0 i < 1000000000000000000 := by
      have h1 := hfl i zq17
      have h2 := p10_le (j := i) (k := 3) zq17
      have h3 : p10 3 = 1000 := rfl
      omega
     have HF := Lib.hid (show fv (val s 0 j) s (j + 1) 0 (i + 1) = 10 * fv (val s 0 j) s (j + 1) 0 i by simp [fv])
     have hn0 : ¬ (i : Int) < 0 := by omega
     clear hfl
     go_wp2
     go_round
     case rel => exact ⟨i + 1, zq17, by go_num, by rw [HF.out]; go_num⟩
     case measure => simp [intOf]; omega
    ·obtain rfl : i = 4 := by omega
     generalize hV : fv (val s 0 j) s (j + 1) 0 4 = V at *
     have tV1 : decide ((9223372036854775807 : Int) < (V : Int)) = true := decide_eq_true zq17
     go_wp2
     go_ret2
     exact ⟨rfl, rfl⟩
theorem rparse_okZbig_p (s : ByteArray) (k : Nat) (w : World) (hs : s.size ≤ maxLen) (hsz : 0 < s.size) (h45 : s[0].toNat ≠ 45) (hdig : DigIs s 0 k) (hrun : DigRun s 0 k) (hk1 : 1 ≤ k) (hk15 : k ≤ 15) (hat : 0 < s.size) (hz : s[0].toNat = 48) (hk0 : k ≤ 1) (hlt1 : k < s.size) (r : Nat) (hdig2 : DigAt s ((k : Int) + 1) r) (hdot : s[k].toNat = 46) (hr1 : 1 ≤ r) (hr4 : r ≤ 4) (hrend : s.size ≤ k + 1 + r) (hr9 : k + 1 + r ≤ s.size) (hr2 : ∀ m, (h : k + 1 + m < s.size) → m < r → isDig s[k + 1 + m] = true) (hb : 9223372036854775807 < fv (val s 0 k) s (k + 1) r 4) : Calls Tryz.prog 68 #[.string s] w fun e w' => e = .returned (.tuple #[.int .i64 0, .bool false]) ∧ w' = w := by
 unfold maxLen at hs
 have hsz' : (0 : Int) < s.size := by omega
 have hk1' : ¬ (k : Int) < 1 := by omega
 have hk15' : ¬ (15 : Int) < k := by omega
 have hat' : (0 : Int) < s.size := by omega
 have hk0' : ¬ (1 : Int) < k := by omega
 have hv15 : val s 0 k < 1000000000000000 := by
  have h1 := val_lt s 0 k hrun.all
  have h2 := p10_le (j := k) (k := 15) zq17
  have h3 : p10 15 = 1000000000000000 := rfl
  omega
 go_enter Tryz.func68, Tryz.ntmps68
 go_wp2_with (go_at_call 104; refine (hdig _).mono ?_; rintro e w' ⟨rfl, rfl⟩)
 go_loop [7, 8] (fun x y => ∃ j : Nat, j ≤ k ∧ y = .int .i64 (j : Nat) ∧ x = .int .u64 (val s 0 j : Nat)) (fun _ y => k - (intOf y).toNat)
 case atStart => exact ⟨0, zq17, rfl, rfl⟩
 case round =>
  obtain ⟨j, hj, rfl, rfl⟩ := hrel
  by_cases hlt : j < k
  ·have hbd : val s 0 j < 100000000000000 := by
    have h1 := val_lt s 0 j fun m hm hmj => hrun.all m hm zq17
    have h2 := p10_le (j := j) (k := 14) zq17
    have h3 : p10 14 = 100000000000000 := rfl
    omega
   have hin : j < s.size := by have := hrun.le; omega
   have hdj : isDig s[j] = true := by have := hrun.all j zq17 hlt; simpa using this
   have hd' : 48 ≤ s[j].toNat ∧ s[j].toNat ≤ 57 := by simpa [isDig] using hdj
   have HS := Lib.hid (show val s 0 (j + 1) = 10 * val s 0 j + (s[j].toNat - 48) by simp only [val, Nat.zero_add]; rw [dgt_is hin])
   have hin' : ((j : Nat) : Int) < s.size := by omega
   obtain ⟨d1, d2⟩ := hd'
   clear hdj hrun hdig
   go_wp2
   go_round
   case rel => exact ⟨j + 1, zq17, by go_num, by rw [HS.out]; go_num⟩
   case measure => simp [intOf]; omega
  ·obtain rfl : j = k := by omega
   clear hdig
   have hlt2 : ( (j : Int)) < s.size := by omega
   have hfl := fv_lt (val s 0 j) s (j + 1) r hr2 hv15
   go_wp2_with (go_at_call 104; refine (hdig2 _).mono ?_; rintro e w' ⟨rfl, rfl⟩)
   go_loop [7, 10] (fun x y => ∃ i : Nat, i ≤ 4 ∧ y = .int .i64 i ∧ x = .int .u64 (fv (val s 0 j) s (j + 1) r i : Nat)) (fun _ y => 4 - (intOf y).toNat)
   case atStart => exact ⟨0, zq17, rfl, rfl⟩
   case round =>
    obtain ⟨i, hi, rfl, rfl⟩ := hrel
    by_cases hlt4 : i < 4
    ·have hlt4' : (i : Int) < 4 := by omega
     have hfb : fv (val s 0 j) s (j + 1) r i < 1000000000000000000 := by
      have h1 := hfl i zq17
      have h2 := p10_le (j := i) (k := 3) zq17
      have h3 : p10 3 = 1000 := rfl
      omega
     by_cases hir : i < r
     ·have hin : j + 1 + i < s.size := by omega
      have hdi := hr2 i hin hir
      have hd' : 48 ≤ s[j + 1 + i].toNat ∧ s[j + 1 + i].toNat ≤ 57 := by simpa [isDig] using hdi
      obtain ⟨d1, d2⟩ := hd'
      have HF := Lib.hid (show fv (val s 0 j) s (j + 1) r (i + 1) = 10 * fv (val s 0 j) s (j + 1) r i + (s[j + 1 + i].toNat - 48) by simp only [fv]; rw [if_pos hir, dgt_is hin])
      have hir' : (i : Int) < r := by omega
      clear hfl hdi hr2
      go_wp2
      go_round
      case rel => exact ⟨i + 1, zq17, by go_num, by rw [HF.out]; go_num⟩
      case measure => simp [intOf]; omega
     ·have HF := Lib.hid (show fv (val s 0 j) s (j + 1) r (i + 1) = 10 * fv (val s 0 j) s (j + 1) r i by simp only [fv]; rw [if_neg hir]; rfl)
      have hir' : ¬ (i : Int) < r := by omega
      clear hfl hr2
      go_wp2
      go_round
      case rel => exact ⟨i + 1, zq17, by go_num, by rw [HF.out]; go_num⟩
      case measure => simp [intOf]; omega
    ·obtain rfl : i = 4 := by omega
     generalize hV : fv (val s 0 j) s (j + 1) r 4 = V at *
     have tV1 : decide ((9223372036854775807 : Int) < (V : Int)) = true := decide_eq_true zq17
     go_wp2
     go_ret2
     exact ⟨rfl, rfl⟩
theorem rparse_EZgood_p (s : ByteArray) (k : Nat) (w : World) (hs : s.size ≤ maxLen) (hsz : 0 < s.size) (h45 : s[0].toNat ≠ 45) (hdig : DigIs s 0 k) (hrun : DigRun s 0 k) (hk1 : 1 ≤ k) (hk15 : k ≤ 15) (hat : 0 < s.size) (hz : s[0].toNat = 48) (hk0 : k ≤ 1) (hend : s.size ≤ k) (hb : fv (val s 0 k) s (k + 1) 0 4 ≤ 9223372036854775807) : Calls Tryz.prog 68 #[.string s] w fun e w' => e = .returned (.tuple #[.int .i64 ((fv (val s 0 k) s (k + 1) 0 4 : Nat) : Int), .bool true]) ∧ w' = w := by
 unfold maxLen at hs
 have hsz' : (0 : Int) < s.size := by omega
 have hk1' : ¬ (k : Int) < 1 := by omega
 have hk15' : ¬ (15 : Int) < k := by omega
 have hat' : (0 : Int) < s.size := by omega
 have hk0' : ¬ (1 : Int) < k := by omega
 have hv15 : val s 0 k < 1000000000000000 := by
  have h1 := val_lt s 0 k hrun.all
  have h2 := p10_le (j := k) (k := 15) zq17
  have h3 : p10 15 = 1000000000000000 := rfl
  omega
 go_enter Tryz.func68, Tryz.ntmps68
 go_wp2_with (go_at_call 104; refine (hdig _).mono ?_; rintro e w' ⟨rfl, rfl⟩)
 go_loop [7, 8] (fun x y => ∃ j : Nat, j ≤ k ∧ y = .int .i64 (j : Nat) ∧ x = .int .u64 (val s 0 j : Nat)) (fun _ y => k - (intOf y).toNat)
 case atStart => exact ⟨0, zq17, rfl, rfl⟩
 case round =>
  obtain ⟨j, hj, rfl, rfl⟩ := hrel
  by_cases hlt : j < k
  ·have hbd : val s 0 j < 100000000000000 := by
    have h1 := val_lt s 0 j fun m hm hmj => hrun.all m hm zq17
    have h2 := p10_le (j := j) (k := 14) zq17
    have h3 : p10 14 = 100000000000000 := rfl
    omega
   have hin : j < s.size := by have := hrun.le; omega
   have hdj : isDig s[j] = true := by have := hrun.all j zq17 hlt; simpa using this
   have hd' : 48 ≤ s[j].toNat ∧ s[j].toNat ≤ 57 := by simpa [isDig] using hdj
   have HS := Lib.hid (show val s 0 (j + 1) = 10 * val s 0 j + (s[j].toNat - 48) by simp only [val, Nat.zero_add]; rw [dgt_is hin])
   have hin' : ((j : Nat) : Int) < s.size := by omega
   obtain ⟨d1, d2⟩ := hd'
   clear hdj hrun hdig
   go_wp2
   go_round
   case rel => exact ⟨j + 1, zq17, by go_num, by rw [HS.out]; go_num⟩
   case measure => simp [intOf]; omega
  ·obtain rfl : j = k := by omega
   clear hdig
   have hfl := fv_lt (val s 0 j) s (j + 1) 0 (fun m _ hm => absurd hm zq17) hv15
   have hend' : ¬ ( (j : Int)) < s.size := by omega
   go_wp2
   go_loop [7, 10] (fun x y => ∃ i : Nat, i ≤ 4 ∧ y = .int .i64 i ∧ x = .int .u64 (fv (val s 0 j) s (j + 1) 0 i : Nat)) (fun _ y => 4 - (intOf y).toNat)
   case atStart => exact ⟨0, zq17, rfl, rfl⟩
   case round =>
    obtain ⟨i, hi, rfl, rfl⟩ := hrel
    by_cases hlt4 : i < 4
    ·have hlt4' : (i : Int) < 4 := by omega
     have hfb : fv (val s 0 j) s (j + 1) 0 i < 1000000000000000000 := by
      have h1 := hfl i zq17
      have h2 := p10_le (j := i) (k := 3) zq17
      have h3 : p10 3 = 1000 := rfl
      omega
     have HF := Lib.hid (show fv (val s 0 j) s (j + 1) 0 (i + 1) = 10 * fv (val s 0 j) s (j + 1) 0 i by simp [fv])
     have hn0 : ¬ (i : Int) < 0 := by omega
     clear hfl
     go_wp2
     go_round
     case rel => exact ⟨i + 1, zq17, by go_num, by rw [HF.out]; go_num⟩
     case measure => simp [intOf]; omega
    ·obtain rfl : i = 4 := by omega
     generalize hV : fv (val s 0 j) s (j + 1) 0 4 = V at *
     have tV1 : decide ((9223372036854775807 : Int) < (V : Int)) = false := decide_eq_false zq17
     go_wp2_with (go_at_call 105; refine (rsigned_pos _ _ zq17 zq17).mono ?_; rintro e w' ⟨rfl, rfl⟩)
     go_ret2
     exact ⟨ret2b (by rw [hV]), rfl⟩
theorem rparse_okZgood_p (s : ByteArray) (k : Nat) (w : World) (hs : s.size ≤ maxLen) (hsz : 0 < s.size) (h45 : s[0].toNat ≠ 45) (hdig : DigIs s 0 k) (hrun : DigRun s 0 k) (hk1 : 1 ≤ k) (hk15 : k ≤ 15) (hat : 0 < s.size) (hz : s[0].toNat = 48) (hk0 : k ≤ 1) (hlt1 : k < s.size) (r : Nat) (hdig2 : DigAt s ((k : Int) + 1) r) (hdot : s[k].toNat = 46) (hr1 : 1 ≤ r) (hr4 : r ≤ 4) (hrend : s.size ≤ k + 1 + r) (hr9 : k + 1 + r ≤ s.size) (hr2 : ∀ m, (h : k + 1 + m < s.size) → m < r → isDig s[k + 1 + m] = true) (hb : fv (val s 0 k) s (k + 1) r 4 ≤ 9223372036854775807) : Calls Tryz.prog 68 #[.string s] w fun e w' => e = .returned (.tuple #[.int .i64 ((fv (val s 0 k) s (k + 1) r 4 : Nat) : Int), .bool true]) ∧ w' = w := by
 unfold maxLen at hs
 have hsz' : (0 : Int) < s.size := by omega
 have hk1' : ¬ (k : Int) < 1 := by omega
 have hk15' : ¬ (15 : Int) < k := by omega
 have hat' : (0 : Int) < s.size := by omega
 have hk0' : ¬ (1 : Int) < k := by omega
 have hv15 : val s 0 k < 1000000000000000 := by
  have h1 := val_lt s 0 k hrun.all
  have h2 := p10_le (j := k) (k := 15) zq17
  have h3 : p10 15 = 1000000000000000 := rfl
  omega
 go_enter Tryz.func68, Tryz.ntmps68
 go_wp2_with (go_at_call 104; refine (hdig _).mono ?_; rintro e w' ⟨rfl, rfl⟩)
 go_loop [7, 8] (fun x y => ∃ j : Nat, j ≤ k ∧ y = .int .i64 (j : Nat) ∧ x = .int .u64 (val s 0 j : Nat)) (fun _ y => k - (intOf y).toNat)
 case atStart => exact ⟨0, zq17, rfl, rfl⟩
 case round =>
  obtain ⟨j, hj, rfl, rfl⟩ := hrel
  by_cases hlt : j < k
  ·have hbd : val s 0 j < 100000000000000 := by
    have h1 := val_lt s 0 j fun m hm hmj => hrun.all m hm zq17
    have h2 := p10_le (j := j) (k := 14) zq17
    have h3 : p10 14 = 100000000000000 := rfl
    omega
   have hin : j < s.size := by have := hrun.le; omega
   have hdj : isDig s[j] = true := by have := hrun.all j zq17 hlt; simpa using this
   have hd' : 48 ≤ s[j].toNat ∧ s[j].toNat ≤ 57 := by simpa [isDig] using hdj
   have HS := Lib.hid (show val s 0 (j + 1) = 10 * val s 0 j + (s[j].toNat - 48) by simp only [val, Nat.zero_add]; rw [dgt_is hin])
   have hin' : ((j : Nat) : Int) < s.size := by omega
   obtain ⟨d1, d2⟩ := hd'
   clear hdj hrun hdig
   go_wp2
   go_round
   case rel => exact ⟨j + 1, zq17, by go_num, by rw [HS.out]; go_num⟩
   case measure => simp [intOf]; omega
  ·obtain rfl : j = k := by omega
   clear hdig
   have hlt2 : ( (j : Int)) < s.size := by omega
   have hfl := fv_lt (val s 0 j) s (j + 1) r hr2 hv15
   go_wp2_with (go_at_call 104; refine (hdig2 _).mono ?_; rintro e w' ⟨rfl, rfl⟩)
   go_loop [7, 10] (fun x y => ∃ i : Nat, i ≤ 4 ∧ y = .int .i64 i ∧ x = .int .u64 (fv (val s 0 j) s (j + 1) r i : Nat)) (fun _ y => 4 - (intOf y).toNat)
   case atStart => exact ⟨0, zq17, rfl, rfl⟩
   case round =>
    obtain ⟨i, hi, rfl, rfl⟩ := hrel
    by_cases hlt4 : i < 4
    ·have hlt4' : (i : Int) < 4 := by omega
     have hfb : fv (val s 0 j) s (j + 1) r i < 1000000000000000000 := by
      have h1 := hfl i zq17
      have h2 := p10_le (j := i) (k := 3) zq17
      have h3 : p10 3 = 1000 := rfl
      omega
     by_cases hir : i < r
     ·have hin : j + 1 + i < s.size := by omega
      have hdi := hr2 i hin hir
      have hd' : 48 ≤ s[j + 1 + i].toNat ∧ s[j + 1 + i].toNat ≤ 57 := by simpa [isDig] using hdi
      obtain ⟨d1, d2⟩ := hd'
      have HF := Lib.hid (show fv (val s 0 j) s (j + 1) r (i + 1) = 10 * fv (val s 0 j) s (j + 1) r i + (s[j + 1 + i].toNat - 48) by simp only [fv]; rw [if_pos hir, dgt_is hin])
      have hir' : (i : Int) < r := by omega
      clear hfl hdi hr2
      go_wp2
      go_round
      case rel => exact ⟨i + 1, zq17, by go_num, by rw [HF.out]; go_num⟩
      case measure => simp [intOf]; omega
     ·have HF := Lib.hid (show fv (val s 0 j) s (j + 1) r (i + 1) = 10 * fv (val s 0 j) s (j + 1) r i by simp only [fv]; rw [if_neg hir]; rfl)
      have hir' : ¬ (i : Int) < r := by omega
      clear hfl hr2
      go_wp2
      go_round
      case rel => exact ⟨i + 1, zq17, by go_num, by rw [HF.out]; go_num⟩
      case measure => simp [intOf]; omega
    ·obtain rfl : i = 4 := by omega
     generalize hV : fv (val s 0 j) s (j + 1) r 4 = V at *
     have tV1 : decide ((9223372036854775807 : Int) < (V : Int)) = false := decide_eq_false zq17
     go_wp2_with (go_at_call 105; refine (rsigned_pos _ _ zq17 zq17).mono ?_; rintro e w' ⟨rfl, rfl⟩)
     go_ret2
     exact ⟨ret2b (by rw [hV]), rfl⟩
theorem rparse_ndZ_p (s : ByteArray) (k : Nat) (w : World) (hs : s.size ≤ maxLen) (hsz : 0 < s.size) (h45 : s[0].toNat ≠ 45) (hdig : DigIs s 0 k) (hrun : DigRun s 0 k) (hk1 : 1 ≤ k) (hk15 : k ≤ 15) (hat : 0 < s.size) (hz : s[0].toNat = 48) (hk0 : k ≤ 1) (hlt1 : k < s.size) (r : Nat) (hdig2 : DigAt s ((k : Int) + 1) r) (hdot : s[k].toNat ≠ 46)  : Calls Tryz.prog 68 #[.string s] w fun e w' => e = .returned (.tuple #[.int .i64 0, .bool false]) ∧ w' = w := by
 unfold maxLen at hs
 have hsz' : (0 : Int) < s.size := by omega
 have hk1' : ¬ (k : Int) < 1 := by omega
 have hk15' : ¬ (15 : Int) < k := by omega
 have hat' : (0 : Int) < s.size := by omega
 have hk0' : ¬ (1 : Int) < k := by omega
 have hv15 : val s 0 k < 1000000000000000 := by
  have h1 := val_lt s 0 k hrun.all
  have h2 := p10_le (j := k) (k := 15) zq17
  have h3 : p10 15 = 1000000000000000 := rfl
  omega
 go_enter Tryz.func68, Tryz.ntmps68
 go_wp2_with (go_at_call 104; refine (hdig _).mono ?_; rintro e w' ⟨rfl, rfl⟩)
 go_loop [7, 8] (fun x y => ∃ j : Nat, j ≤ k ∧ y = .int .i64 (j : Nat) ∧ x = .int .u64 (val s 0 j : Nat)) (fun _ y => k - (intOf y).toNat)
 case atStart => exact ⟨0, zq17, rfl, rfl⟩
 case round =>
  obtain ⟨j, hj, rfl, rfl⟩ := hrel
  by_cases hlt : j < k
  ·have hbd : val s 0 j < 100000000000000 := by
    have h1 := val_lt s 0 j fun m hm hmj => hrun.all m hm zq17
    have h2 := p10_le (j := j) (k := 14) zq17
    have h3 : p10 14 = 100000000000000 := rfl
    omega
   have hin : j < s.size := by have := hrun.le; omega
   have hdj : isDig s[j] = true := by have := hrun.all j zq17 hlt; simpa using this
   have hd' : 48 ≤ s[j].toNat ∧ s[j].toNat ≤ 57 := by simpa [isDig] using hdj
   have HS := Lib.hid (show val s 0 (j + 1) = 10 * val s 0 j + (s[j].toNat - 48) by simp only [val, Nat.zero_add]; rw [dgt_is hin])
   have hin' : ((j : Nat) : Int) < s.size := by omega
   obtain ⟨d1, d2⟩ := hd'
   clear hdj hrun hdig
   go_wp2
   go_round
   case rel => exact ⟨j + 1, zq17, by go_num, by rw [HS.out]; go_num⟩
   case measure => simp [intOf]; omega
  ·obtain rfl : j = k := by omega
   clear hdig
   have hlt2 : ( (j : Int)) < s.size := by omega
   have hne : s[j].toNat ≠ 46 := hdot
   go_wp2_with (go_at_call 104; refine (hdig2 _).mono ?_; rintro e w' ⟨rfl, rfl⟩)
   go_ret2
   exact ⟨rfl, rfl⟩
theorem rparse_rZ_p (s : ByteArray) (k : Nat) (w : World) (hs : s.size ≤ maxLen) (hsz : 0 < s.size) (h45 : s[0].toNat ≠ 45) (hdig : DigIs s 0 k) (hrun : DigRun s 0 k) (hk1 : 1 ≤ k) (hk15 : k ≤ 15) (hat : 0 < s.size) (hz : s[0].toNat = 48) (hk0 : k ≤ 1) (hlt1 : k < s.size) (r : Nat) (hdig2 : DigAt s ((k : Int) + 1) r) (hdot : s[k].toNat = 46) (hrb : r < 1 ∨ 4 < r ∨ k + 1 + r < s.size) (hr9 : k + 1 + r ≤ s.size)  : Calls Tryz.prog 68 #[.string s] w fun e w' => e = .returned (.tuple #[.int .i64 0, .bool false]) ∧ w' = w := by
 unfold maxLen at hs
 have hsz' : (0 : Int) < s.size := by omega
 have hk1' : ¬ (k : Int) < 1 := by omega
 have hk15' : ¬ (15 : Int) < k := by omega
 have hat' : (0 : Int) < s.size := by omega
 have hk0' : ¬ (1 : Int) < k := by omega
 have hv15 : val s 0 k < 1000000000000000 := by
  have h1 := val_lt s 0 k hrun.all
  have h2 := p10_le (j := k) (k := 15) zq17
  have h3 : p10 15 = 1000000000000000 := rfl
  omega
 go_enter Tryz.func68, Tryz.ntmps68
 go_wp2_with (go_at_call 104; refine (hdig _).mono ?_; rintro e w' ⟨rfl, rfl⟩)
 go_loop [7, 8] (fun x y => ∃ j : Nat, j ≤ k ∧ y = .int .i64 (j : Nat) ∧ x = .int .u64 (val s 0 j : Nat)) (fun _ y => k - (intOf y).toNat)
 case atStart => exact ⟨0, zq17, rfl, rfl⟩
 case round =>
  obtain ⟨j, hj, rfl, rfl⟩ := hrel
  by_cases hlt : j < k
  ·have hbd : val s 0 j < 100000000000000 := by
    have h1 := val_lt s 0 j fun m hm hmj => hrun.all m hm zq17
    have h2 := p10_le (j := j) (k := 14) zq17
    have h3 : p10 14 = 100000000000000 := rfl
    omega
   have hin : j < s.size := by have := hrun.le; omega
   have hdj : isDig s[j] = true := by have := hrun.all j zq17 hlt; simpa using this
   have hd' : 48 ≤ s[j].toNat ∧ s[j].toNat ≤ 57 := by simpa [isDig] using hdj
   have HS := Lib.hid (show val s 0 (j + 1) = 10 * val s 0 j + (s[j].toNat - 48) by simp only [val, Nat.zero_add]; rw [dgt_is hin])
   have hin' : ((j : Nat) : Int) < s.size := by omega
   obtain ⟨d1, d2⟩ := hd'
   clear hdj hrun hdig
   go_wp2
   go_round
   case rel => exact ⟨j + 1, zq17, by go_num, by rw [HS.out]; go_num⟩
   case measure => simp [intOf]; omega
  ·obtain rfl : j = k := by omega
   by_cases hr_1 : r < 1
   ·have tt1 : (r : Int) < 1 := by omega
    clear hdig
    have hlt2 : ( (j : Int)) < s.size := by omega
    go_wp2_with (go_at_call 104; refine (hdig2 _).mono ?_; rintro e w' ⟨rfl, rfl⟩)
    go_ret2
    exact ⟨rfl, rfl⟩
   by_cases hr_4 : 4 < r
   ·have tt2 : (4 : Int) < r := by omega
    clear hdig
    have hlt2 : ( (j : Int)) < s.size := by omega
    go_wp2_with (go_at_call 104; refine (hdig2 _).mono ?_; rintro e w' ⟨rfl, rfl⟩)
    go_ret2
    exact ⟨rfl, rfl⟩
   ·have tt3 : ( (j : Int)) + 1 + r < s.size := by omega
    clear hdig
    have hlt2 : ( (j : Int)) < s.size := by omega
    go_wp2_with (go_at_call 104; refine (hdig2 _).mono ?_; rintro e w' ⟨rfl, rfl⟩)
    go_ret2
    exact ⟨rfl, rfl⟩
end Go.Proofs.YtcmjhjnpcogmgaaGreatDoor.Dc
namespace Go.Proofs.YtcmjhjnpcogmgaaGreatDoor.Dc
open Go.Shelf Go.RowKit
set_option linter.unusedVariables false
theorem run_exists (s : ByteArray) : ∀ (m a : Nat), a ≤ s.size → s.size - a ≤ m → ∃ k, DigRun s a k
 | 0, a, ha, hm => ⟨0, zq17, fun k _ hk => absurd hk zq17, fun h => absurd h zq17⟩
 | m + 1, a, ha, hm => by
  by_cases h : a < s.size
  ·cases hd : isDig s[a] with
   | false => exact ⟨0, zq17, fun k _ hk => absurd hk zq17, fun _ => hd⟩
   | true =>
    obtain ⟨k, r⟩ := run_exists s m (a + 1) zq17 zq17
    refine ⟨k + 1, by have := r.le; omega, fun i hi hik => ?_, fun hc => ?_⟩
    ·by_cases h0 : i = 0
     ·subst h0; exact hd
     ·have := r.all (i - 1) zq17 zq17
      simp only [show a + 1 + (i - 1) = a + i by omega] at this
      exact this
    ·have := r.stop zq17
     simp only [show a + 1 + k = a + (k + 1) by omega] at this
     exact this
  ·exact ⟨0, zq17, fun k _ hk => absurd hk zq17, fun hc => absurd hc zq17⟩
theorem run_one {s : ByteArray} {a n m : Nat} (h : DigRun s a n) (h' : DigRun s a m) : n = m := by
 have l1 := h.le; have l2 := h'.le
 by_cases h1 : n < m
 ·have x := h.stop zq17; have y := h'.all n zq17 h1; rw [x] at y; cases y
 by_cases h2 : m < n
 ·have x := h'.stop zq17; have y := h.all m zq17 h2; rw [x] at y; cases y
 ·omega
theorem dig_at {s : ByteArray} {a k : Nat} (x : Int) (hx : x = a) (hs : s.size ≤ maxLen) (ha : a ≤ s.size) (h : DigRun s a k) : DigAt s x k := by
 subst hx
 intro w
 exact (digits_walk s a w hs ha).mono fun e w' ⟨⟨n, he, hn⟩, hw⟩ => ⟨by rw [he, run_one hn h], hw⟩
theorem neg_yes {s : ByteArray} (h : negS s = true) : ∃ hz : 0 < s.size, s[0].toNat = 45 := by
 have hz := neg_size h
 refine ⟨zq17, ?_⟩
 unfold negS Lib.hasPrefix at h
 have hl : s.data.toList[0]? = some s[0] := list_at zq17
 cases hd : s.data.toList with
 | nil => rw [hd] at hl; cases hl
 | cons x l =>
  rw [hd] at hl h
  have hx : x = s[0] := Option.some.inj hl
  have : x = 45 := by simp [List.isPrefixOf] at h; exact h.symm
  rw [← hx, this]; rfl
theorem neg_no {s : ByteArray} (h : negS s = false) : s.size = 0 ∨ ∃ hz : 0 < s.size, s[0].toNat ≠ 45 := by
 by_cases hz : s.size = 0
 ·exact .inl hz
 ·refine .inr ⟨zq17, fun he => ?_⟩
  unfold negS Lib.hasPrefix at h
  have hl : s.data.toList[0]? = some s[0] := list_at zq17
  have he' : s[0] = 45 := UInt8.toNat_inj.1 he
  cases hd : s.data.toList with
  | nil => rw [hd] at hl; cases hl
  | cons x l =>
   rw [hd] at hl h
   have hx : x = s[0] := Option.some.inj hl
   rw [hx, he'] at h
   simp [List.isPrefixOf] at h
theorem cut_shape {d : ByteArray} {k : Nat} (r : Run d k) (h : d.size ≤ k ∨ ∃ h : k < d.size, d[k].toNat = 46) : cutA d = d.extract 0 k := by
 rcases h with h | ⟨h1, h2⟩
 ·rw [(run_end r h).2.1]
  apply ByteArray.ext
  rw [ByteArray.data_extract]
  apply Array.ext'
  rw [Array.toList_extract, List.extract_eq_take_drop]
  have hl : d.data.toList.length = d.size := rfl
  simp only [List.drop_zero, Nat.sub_zero]
  rw [List.take_of_length_le (by rw [hl]; exact h)]
 ·exact (run_dot r h1 h2).2.1
theorem shape_digs {d : ByteArray} {k : Nat} (r : Run d k) (he : cutA d = d.extract 0 k) : digsB (cutA d) 15 = (decide (1 ≤ k) && decide (k ≤ 15)) := by
 have hs := size_extract0 d k r.le
 have ha : allDig (d.extract 0 k) = true := by unfold allDig; rw [list_extract0]; exact run_all r
 rw [he]; unfold digsB; rw [hs, ha, Bool.and_true]
 congr 1
 by_cases h : k ≤ 15
 ·rw [decide_eq_true h, decide_eq_true zq17]
 ·rw [decide_eq_false h, decide_eq_false zq17]
theorem shape_lead {d : ByteArray} {k : Nat} (r : Run d k) (he : cutA d = d.extract 0 k) (hk : 1 ≤ k) (h0 : 0 < d.size) : lead0 (cutA d) = (decide (1 < k) && (d[0].toNat == 48)) := by
 have hs := size_extract0 d k r.le
 rw [he]
 have hx : (d.extract 0 k).data.toList[0]? = some d[0] := by rw [list_extract0, List.getElem?_take, if_pos zq17, list_at h0]
 unfold lead0
 by_cases h : 1 < (d.extract 0 k).size
 ·rw [dif_pos h, decide_eq_true (show 1 < k by omega), Bool.true_and]
  have : (d.extract 0 k)[0] = d[0] := by
   have := list_at (d := d.extract 0 k) (i := 0) zq17
   rw [hx] at this; exact (Option.some.inj this).symm
  rw [this]
 ·rw [dif_neg h, decide_eq_false zq17, Bool.false_and]
theorem shape_val {s d : ByteArray} {a k : Nat} (r : Run d k) (he : cutA d = d.extract 0 k) (hsz : d.size + a = s.size) (hat : ∀ i, (h : i < d.size) → (h' : a + i < s.size) → d[i] = s[a + i]) : cnt (cutA d).data.toList = val s a k := by
 rw [he, list_extract0, cnt_val d k r.le, val_shift hsz hat k r.le]
theorem rbad {s : ByteArray} {w : World} (h : parseOk s = false) (c : Calls Tryz.prog 68 #[.string s] w fun e w' => e = .returned (.tuple #[.int .i64 0, .bool false]) ∧ w' = w) :
  Calls Tryz.prog 68 #[.string s] w fun e w' => e = .returned (.tuple #[.int .i64 (parseV s), .bool (parseOk s)]) ∧ w' = w := by
 have e : parseV s = 0 := by unfold parseV; rw [h]; rfl
 rw [h, e]; exact c
theorem rgood {s : ByteArray} {w : World} {x : Int} (h : parseOk s = true) (hx : x = if negS s then -(partsN (dgS s) : Int) else partsN (dgS s)) (c : Calls Tryz.prog 68 #[.string s] w fun e w' => e = .returned (.tuple #[.int .i64 x, .bool true]) ∧ w' = w) :
  Calls Tryz.prog 68 #[.string s] w fun e w' => e = .returned (.tuple #[.int .i64 (parseV s), .bool (parseOk s)]) ∧ w' = w := by
 have e : parseV s = x := by unfold parseV; rw [h, hx]; rfl
 rw [h, e]; exact c
theorem rparse_neg (s d : ByteArray) (w : World) (hs : s.size ≤ maxLen) (hn : negS s = true) (hdg : dgS s = d) (hsz : d.size + 1 = s.size) (hat : ∀ i, (h : i < d.size) → (h' : 1 + i < s.size) → d[i] = s[1 + i]) : Calls Tryz.prog 68 #[.string s] w fun e w' => e = .returned (.tuple #[.int .i64 (parseV s), .bool (parseOk s)]) ∧ w' = w := by
 obtain ⟨hz0, h45⟩ := neg_yes hn
 obtain ⟨k, hrun⟩ := run_exists s s.size 1 zq17 zq17
 have hdig : DigIs s 1 k := dig_at _ rfl hs zq17 hrun
 have run : Run d k := ⟨by have := hrun.le; omega, fun i hi hik => by
   have := hrun.all i zq17 hik; rw [← hat i hi zq17] at this; exact this, fun hc => by
   have := hrun.stop zq17; rw [← hat k hc zq17] at this; exact this⟩
 have hrl := hrun.le
 by_cases hnd : ∃ h : k < d.size, d[k].toNat ≠ 46
 ·obtain ⟨hkd, hne⟩ := hnd
  have hda : digsB (cutA d) 15 = false := by unfold digsB; rw [run_nd run hkd hne, Bool.and_false]
  have bad := num_bad (by rw [hdg]; unfold numOk; rw [hda]; simp)
  by_cases hk0 : k < 1
  ·exact rbad bad (rparse_k0_n s k w hs hz0 h45 hdig hrun hk0)
  by_cases hk16 : 15 < k
  ·exact rbad bad (rparse_k16_n s k w hs hz0 h45 hdig hrun hk16 zq17)
  have hdot : s[1 + k].toNat ≠ 46 := by rw [← hat k hkd zq17]; exact hne
  obtain ⟨r, hrun2⟩ := run_exists s s.size (1 + k + 1) zq17 zq17
  have hdig2 : DigAt s (1 + (k : Int) + 1) r := dig_at _ zq17 hs zq17 hrun2
  by_cases hz : s[1].toNat = 48
  ·by_cases hk1 : 1 < k
   ·exact rbad bad (rparse_lead_n s k w hs hz0 h45 hdig hrun hk1 zq17 zq17 hz)
   ·exact rbad bad (rparse_ndZ_n s k w hs hz0 h45 hdig hrun zq17 zq17 zq17 hz zq17 zq17 r hdig2 hdot)
  ·exact rbad bad (rparse_ndN_n s k w hs hz0 h45 hdig hrun zq17 zq17 zq17 hz zq17 r hdig2 hdot)
 have hsh0 : d.size ≤ k ∨ ∃ h : k < d.size, d[k].toNat = 46 := by
  by_cases h : k < d.size
  ·refine .inr ⟨h, ?_⟩
   by_cases hc : d[k].toNat = 46
   ·exact hc
   ·exact absurd ⟨h, hc⟩ hnd
  ·exact .inl zq17
 have hsh := cut_shape run hsh0
 have hdg15 := shape_digs run hsh
 by_cases hk0 : k < 1
 ·exact rbad (num_bad (by rw [hdg]; unfold numOk; rw [hdg15, decide_eq_false (show ¬ 1 ≤ k by omega)]; simp)) (rparse_k0_n s k w hs hz0 h45 hdig hrun hk0)
 by_cases hk16 : 15 < k
 ·exact rbad (num_bad (by rw [hdg]; unfold numOk; rw [hdg15, decide_eq_false (show ¬ k ≤ 15 by omega)]; simp)) (rparse_k16_n s k w hs hz0 h45 hdig hrun hk16 zq17)
 rw [decide_eq_true (show 1 ≤ k by omega), decide_eq_true (show k ≤ 15 by omega)] at hdg15
 have hld := shape_lead run hsh zq17 zq17
 have h0e : d[0] = s[1] := by have := hat 0 zq17 zq17; simpa using this
 have hval := shape_val run hsh hsz hat
 by_cases hlead : 1 < k ∧ s[1].toNat = 48
 ·exact rbad (num_bad (by rw [hdg]; unfold numOk; rw [hdg15, hld, h0e, decide_eq_true hlead.1, hlead.2]; simp)) (rparse_lead_n s k w hs hz0 h45 hdig hrun hlead.1 zq17 zq17 hlead.2)
 have hld0 : lead0 (cutA d) = false := by
  rw [hld, h0e]
  by_cases h1 : 1 < k
  ·have : s[1].toNat ≠ 48 := fun hc => hlead ⟨h1, hc⟩
   rw [decide_eq_true h1, beq_eq_false_iff_ne.2 this]; rfl
  ·rw [decide_eq_false h1]; rfl
 by_cases hend : d.size ≤ k
 ·obtain ⟨c1, c2, c3⟩ := run_end run hend
  have hnum : numOk d = true := by unfold numOk; rw [hdg15, hld0, c1]; rfl
  have hpv := parts_fv (s := s) (d := d) (a := 1) (k := k) (r := 0) (by rw [c3]; rfl) zq17 (fun i h _ => absurd h (by rw [c3]; exact Nat.not_lt_zero _)) (.inl rfl) hval
  by_cases hz : s[1].toNat = 48
  ·have hP : partsN d = fv (val s 1 k) s (1 + k + 1) 0 4 := hpv
   by_cases hbig : 9223372036854775807 < fv (val s 1 k) s (1 + k + 1) 0 4
   ·exact rbad (by unfold parseOk; rw [hdg, hnum, hP, decide_eq_false zq17]; rfl) (rparse_EZbig_n s k w hs hz0 h45 hdig hrun zq17 zq17 zq17 hz zq17 zq17 hbig)
   by_cases hzero : fv (val s 1 k) s (1 + k + 1) 0 4 = 0
   ·exact rbad (by unfold parseOk; rw [hdg, hnum, hn, hP, decide_eq_true hzero]; simp) (rparse_EZzero_n s k w hs hz0 h45 hdig hrun zq17 zq17 zq17 hz zq17 zq17 hzero)
   ·exact rgood (by unfold parseOk; rw [hdg, hnum, hn, hP, decide_eq_true (show fv (val s 1 k) s (1 + k + 1) 0 4 ≤ 9223372036854775807 by omega), decide_eq_false hzero]; rfl) (by rw [hdg, hn, hP]; rfl) (rparse_EZgood_n s k w hs hz0 h45 hdig hrun zq17 zq17 zq17 hz zq17 zq17 zq17 zq17)
  ·have hP : partsN d = fv (val s 1 k) s (1 + k + 1) 0 4 := hpv
   by_cases hbig : 9223372036854775807 < fv (val s 1 k) s (1 + k + 1) 0 4
   ·exact rbad (by unfold parseOk; rw [hdg, hnum, hP, decide_eq_false zq17]; rfl) (rparse_ENbig_n s k w hs hz0 h45 hdig hrun zq17 zq17 zq17 hz zq17 hbig)
   by_cases hzero : fv (val s 1 k) s (1 + k + 1) 0 4 = 0
   ·exact rbad (by unfold parseOk; rw [hdg, hnum, hn, hP, decide_eq_true hzero]; simp) (rparse_ENzero_n s k w hs hz0 h45 hdig hrun zq17 zq17 zq17 hz zq17 hzero)
   ·exact rgood (by unfold parseOk; rw [hdg, hnum, hn, hP, decide_eq_true (show fv (val s 1 k) s (1 + k + 1) 0 4 ≤ 9223372036854775807 by omega), decide_eq_false hzero]; rfl) (by rw [hdg, hn, hP]; rfl) (rparse_ENgood_n s k w hs hz0 h45 hdig hrun zq17 zq17 zq17 hz zq17 zq17 zq17)
 have hkd : k < d.size := by omega
 have hdot' : d[k].toNat = 46 := by
  by_cases hc : d[k].toNat = 46
  ·exact hc
  ·exact absurd ⟨hkd, hc⟩ hnd
 have hdot : s[1 + k].toNat = 46 := by rw [← hat k hkd zq17]; exact hdot'
 obtain ⟨c1, c2, c3⟩ := run_dot run hkd hdot'
 obtain ⟨r, hrun2⟩ := run_exists s s.size (1 + k + 1) zq17 zq17
 have hdig2 : DigAt s (1 + (k : Int) + 1) r := dig_at _ zq17 hs zq17 hrun2
 have hr2l := hrun2.le
 have hBs : (cutB d).size = d.size - (k + 1) := by rw [c3, ByteArray.size_extract]; omega
 have hBat : ∀ i, (h : i < (cutB d).size) → (h' : 1 + k + 1 + i < s.size) → (cutB d)[i] = s[1 + k + 1 + i] := fun i h h' => by
  have e1 : (cutB d).data.toList[i]? = some (cutB d)[i] := list_at h
  have e2 : (cutB d).data.toList[i]? = some d[k + 1 + i] := by
   rw [c3, ByteArray.data_extract, Array.toList_extract, List.extract_eq_take_drop, List.getElem?_take, if_pos zq17, List.getElem?_drop]
   exact list_at zq17
  have e3 := Option.some.inj (e1.symm.trans e2)
  rw [e3, hat (k + 1 + i) zq17 zq17]
  congr 1
  omega
 by_cases hrb : r < 1 ∨ 4 < r ∨ 1 + k + 1 + r < s.size
 ·have hB : digsB (cutB d) 4 = false := by
   rcases hrb with h | h | h
   ·by_cases h9 : (cutB d).size < 1
    ·unfold digsB; rw [decide_eq_false zq17]; rfl
    ·obtain rfl : r = 0 := by omega
     have hst := hrun2.stop zq17
     have := all_false (s := cutB d) (k := 0) zq17 (by rw [hBat 0 zq17 zq17]; exact hst)
     unfold digsB; rw [this, Bool.and_false]
   ·unfold digsB; rw [decide_eq_false (show ¬ ((cutB d).size : Int) ≤ 4 by omega)]; simp
   ·have hst := hrun2.stop h
    have := all_false (s := cutB d) (k := r) zq17 (by rw [hBat r zq17 zq17]; exact hst)
    unfold digsB; rw [this, Bool.and_false]
  have bad := num_bad (by rw [hdg]; unfold numOk; rw [hdg15, hld0, c1, hB]; simp)
  by_cases hz : s[1].toNat = 48
  ·exact rbad bad (rparse_rZ_n s k w hs hz0 h45 hdig hrun zq17 zq17 zq17 hz zq17 zq17 r hdig2 hdot hrb hr2l)
  ·exact rbad bad (rparse_rN_n s k w hs hz0 h45 hdig hrun zq17 zq17 zq17 hz zq17 r hdig2 hdot hrb hr2l)
 have hBr : (cutB d).size = r := by omega
 have hBd : allDig (cutB d) = true := by
  unfold allDig
  rw [List.all_eq_true]
  intro y hy
  obtain ⟨i, hi, rfl⟩ := List.mem_iff_getElem.1 hy
  have hi' : i < (cutB d).size := by simpa using hi
  have : (cutB d).data.toList[i] = (cutB d)[i] := rfl
  rw [this, hBat i hi' zq17]
  exact hrun2.all i zq17 zq17
 have hB : digsB (cutB d) 4 = true := by unfold digsB; rw [hBd, decide_eq_true (show 1 ≤ (cutB d).size by omega), decide_eq_true (show ((cutB d).size : Int) ≤ 4 by omega)]; rfl
 have hnum : numOk d = true := by unfold numOk; rw [hdg15, hld0, c1, hB]; rfl
 have hpv := parts_fv (s := s) (d := d) (a := 1) (k := k) (r := r) hBr zq17 hBat (.inr zq17) hval
 by_cases hz : s[1].toNat = 48
 ·have hP : partsN d = fv (val s 1 k) s (1 + k + 1) r 4 := hpv
  by_cases hbig : 9223372036854775807 < fv (val s 1 k) s (1 + k + 1) r 4
  ·exact rbad (by unfold parseOk; rw [hdg, hnum, hP, decide_eq_false zq17]; rfl) (rparse_okZbig_n s k w hs hz0 h45 hdig hrun zq17 zq17 zq17 hz zq17 zq17 r hdig2 hdot zq17 zq17 zq17 hr2l hrun2.all hbig)
  by_cases hzero : fv (val s 1 k) s (1 + k + 1) r 4 = 0
  ·exact rbad (by unfold parseOk; rw [hdg, hnum, hn, hP, decide_eq_true hzero]; simp) (rparse_okZzero_n s k w hs hz0 h45 hdig hrun zq17 zq17 zq17 hz zq17 zq17 r hdig2 hdot zq17 zq17 zq17 hr2l hrun2.all hzero)
  ·exact rgood (by unfold parseOk; rw [hdg, hnum, hn, hP, decide_eq_true (show fv (val s 1 k) s (1 + k + 1) r 4 ≤ 9223372036854775807 by omega), decide_eq_false hzero]; rfl) (by rw [hdg, hn, hP]; rfl) (rparse_okZgood_n s k w hs hz0 h45 hdig hrun zq17 zq17 zq17 hz zq17 zq17 r hdig2 hdot zq17 zq17 zq17 hr2l hrun2.all zq17 zq17)
 ·have hP : partsN d = fv (val s 1 k) s (1 + k + 1) r 4 := hpv
  by_cases hbig : 9223372036854775807 < fv (val s 1 k) s (1 + k + 1) r 4
  ·exact rbad (by unfold parseOk; rw [hdg, hnum, hP, decide_eq_false zq17]; rfl) (rparse_okNbig_n s k w hs hz0 h45 hdig hrun zq17 zq17 zq17 hz zq17 r hdig2 hdot zq17 zq17 zq17 hr2l hrun2.all hbig)
  by_cases hzero : fv (val s 1 k) s (1 + k + 1) r 4 = 0
  ·exact rbad (by unfold parseOk; rw [hdg, hnum, hn, hP, decide_eq_true hzero]; simp) (rparse_okNzero_n s k w hs hz0 h45 hdig hrun zq17 zq17 zq17 hz zq17 r hdig2 hdot zq17 zq17 zq17 hr2l hrun2.all hzero)
  ·exact rgood (by unfold parseOk; rw [hdg, hnum, hn, hP, decide_eq_true (show fv (val s 1 k) s (1 + k + 1) r 4 ≤ 9223372036854775807 by omega), decide_eq_false hzero]; rfl) (by rw [hdg, hn, hP]; rfl) (rparse_okNgood_n s k w hs hz0 h45 hdig hrun zq17 zq17 zq17 hz zq17 r hdig2 hdot zq17 zq17 zq17 hr2l hrun2.all zq17 zq17)
theorem rparse_pos (s d : ByteArray) (w : World) (hs : s.size ≤ maxLen) (hn : negS s = false) (hdg : dgS s = d) (hsz : d.size + 0 = s.size) (hat : ∀ i, (h : i < d.size) → (h' : i < s.size) → d[i] = s[i]) : Calls Tryz.prog 68 #[.string s] w fun e w' => e = .returned (.tuple #[.int .i64 (parseV s), .bool (parseOk s)]) ∧ w' = w := by
 by_cases he : s.size ≤ 0
 ·have hr0 : DigRun s 0 0 := ⟨zq17, fun k _ hk => absurd hk zq17, fun h => absurd h zq17⟩
  have hd0 : d.size = 0 := by omega
  have hb : digsB (cutA d) 15 = false := by unfold digsB; rw [decide_eq_false (by have := cutA_le d; omega)]; rfl
  exact rbad (num_bad (by rw [hdg]; unfold numOk; rw [hb]; simp)) (rparse_empty_p s w he (dig_at _ rfl hs zq17 hr0))
 obtain ⟨hz0, h45⟩ : ∃ hz : 0 < s.size, s[0].toNat ≠ 45 := by
  rcases neg_no hn with h | h
  ·omega
  ·exact h
 obtain ⟨k, hrun⟩ := run_exists s s.size 0 zq17 zq17
 have hdig : DigIs s 0 k := dig_at _ rfl hs zq17 hrun
 have run : Run d k := ⟨by have := hrun.le; omega, fun i hi hik => by
   have := hrun.all i zq17 hik; simp only [Nat.zero_add] at this; rw [← hat i hi zq17] at this; exact this, fun hc => by
   have := hrun.stop zq17; simp only [Nat.zero_add] at this; rw [← hat k hc zq17] at this; exact this⟩
 have hrl := hrun.le
 by_cases hnd : ∃ h : k < d.size, d[k].toNat ≠ 46
 ·obtain ⟨hkd, hne⟩ := hnd
  have hda : digsB (cutA d) 15 = false := by unfold digsB; rw [run_nd run hkd hne, Bool.and_false]
  have bad := num_bad (by rw [hdg]; unfold numOk; rw [hda]; simp)
  by_cases hk0 : k < 1
  ·exact rbad bad (rparse_k0_p s k w hs hz0 h45 hdig hrun hk0)
  by_cases hk16 : 15 < k
  ·exact rbad bad (rparse_k16_p s k w hs hz0 h45 hdig hrun hk16 zq17)
  have hdot : s[k].toNat ≠ 46 := by rw [← hat k hkd zq17]; exact hne
  obtain ⟨r, hrun2⟩ := run_exists s s.size (k + 1) zq17 zq17
  have hdig2 : DigAt s ((k : Int) + 1) r := dig_at _ zq17 hs zq17 hrun2
  by_cases hz : s[0].toNat = 48
  ·by_cases hk1 : 1 < k
   ·exact rbad bad (rparse_lead_p s k w hs hz0 h45 hdig hrun hk1 zq17 zq17 hz)
   ·exact rbad bad (rparse_ndZ_p s k w hs hz0 h45 hdig hrun zq17 zq17 zq17 hz zq17 zq17 r hdig2 hdot)
  ·exact rbad bad (rparse_ndN_p s k w hs hz0 h45 hdig hrun zq17 zq17 zq17 hz zq17 r hdig2 hdot)
 have hsh0 : d.size ≤ k ∨ ∃ h : k < d.size, d[k].toNat = 46 := by
  by_cases h : k < d.size
  ·refine .inr ⟨h, ?_⟩
   by_cases hc : d[k].toNat = 46
   ·exact hc
   ·exact absurd ⟨h, hc⟩ hnd
  ·exact .inl zq17
 have hsh := cut_shape run hsh0
 have hdg15 := shape_digs run hsh
 by_cases hk0 : k < 1
 ·exact rbad (num_bad (by rw [hdg]; unfold numOk; rw [hdg15, decide_eq_false (show ¬ 1 ≤ k by omega)]; simp)) (rparse_k0_p s k w hs hz0 h45 hdig hrun hk0)
 by_cases hk16 : 15 < k
 ·exact rbad (num_bad (by rw [hdg]; unfold numOk; rw [hdg15, decide_eq_false (show ¬ k ≤ 15 by omega)]; simp)) (rparse_k16_p s k w hs hz0 h45 hdig hrun hk16 zq17)
 rw [decide_eq_true (show 1 ≤ k by omega), decide_eq_true (show k ≤ 15 by omega)] at hdg15
 have hld := shape_lead run hsh zq17 zq17
 have h0e : d[0] = s[0] := by have := hat 0 zq17 zq17; simpa using this
 have hval := shape_val (a := 0) run hsh hsz (fun i h h' => by simp only [Nat.zero_add]; exact hat i h zq17)
 by_cases hlead : 1 < k ∧ s[0].toNat = 48
 ·exact rbad (num_bad (by rw [hdg]; unfold numOk; rw [hdg15, hld, h0e, decide_eq_true hlead.1, hlead.2]; simp)) (rparse_lead_p s k w hs hz0 h45 hdig hrun hlead.1 zq17 zq17 hlead.2)
 have hld0 : lead0 (cutA d) = false := by
  rw [hld, h0e]
  by_cases h1 : 1 < k
  ·have : s[0].toNat ≠ 48 := fun hc => hlead ⟨h1, hc⟩
   rw [decide_eq_true h1, beq_eq_false_iff_ne.2 this]; rfl
  ·rw [decide_eq_false h1]; rfl
 by_cases hend : d.size ≤ k
 ·obtain ⟨c1, c2, c3⟩ := run_end run hend
  have hnum : numOk d = true := by unfold numOk; rw [hdg15, hld0, c1]; rfl
  have hpv := parts_fv (s := s) (d := d) (a := 0) (k := k) (r := 0) (by rw [c3]; rfl) zq17 (fun i h _ => absurd h (by rw [c3]; exact Nat.not_lt_zero _)) (.inl rfl) hval
  simp only [Nat.zero_add] at hpv
  by_cases hz : s[0].toNat = 48
  ·have hP : partsN d = fv (val s 0 k) s (k + 1) 0 4 := hpv
   by_cases hbig : 9223372036854775807 < fv (val s 0 k) s (k + 1) 0 4
   ·exact rbad (by unfold parseOk; rw [hdg, hnum, hP, decide_eq_false zq17]; rfl) (rparse_EZbig_p s k w hs hz0 h45 hdig hrun zq17 zq17 zq17 hz zq17 zq17 hbig)
   exact rgood (by unfold parseOk; rw [hdg, hnum, hn, hP, decide_eq_true (show fv (val s 0 k) s (k + 1) 0 4 ≤ 9223372036854775807 by omega)]; rfl) (by rw [hdg, hn, hP]; rfl) (rparse_EZgood_p s k w hs hz0 h45 hdig hrun zq17 zq17 zq17 hz zq17 zq17 zq17)
  ·have hP : partsN d = fv (val s 0 k) s (k + 1) 0 4 := hpv
   by_cases hbig : 9223372036854775807 < fv (val s 0 k) s (k + 1) 0 4
   ·exact rbad (by unfold parseOk; rw [hdg, hnum, hP, decide_eq_false zq17]; rfl) (rparse_ENbig_p s k w hs hz0 h45 hdig hrun zq17 zq17 zq17 hz zq17 hbig)
   exact rgood (by unfold parseOk; rw [hdg, hnum, hn, hP, decide_eq_true (show fv (val s 0 k) s (k + 1) 0 4 ≤ 9223372036854775807 by omega)]; rfl) (by rw [hdg, hn, hP]; rfl) (rparse_ENgood_p s k w hs hz0 h45 hdig hrun zq17 zq17 zq17 hz zq17 zq17)
 have hkd : k < d.size := by omega
 have hdot' : d[k].toNat = 46 := by
  by_cases hc : d[k].toNat = 46
  ·exact hc
  ·exact absurd ⟨hkd, hc⟩ hnd
 have hdot : s[k].toNat = 46 := by rw [← hat k hkd zq17]; exact hdot'
 obtain ⟨c1, c2, c3⟩ := run_dot run hkd hdot'
 obtain ⟨r, hrun2⟩ := run_exists s s.size (k + 1) zq17 zq17
 have hdig2 : DigAt s ((k : Int) + 1) r := dig_at _ zq17 hs zq17 hrun2
 have hr2l := hrun2.le
 have hBs : (cutB d).size = d.size - (k + 1) := by rw [c3, ByteArray.size_extract]; omega
 have hBat : ∀ i, (h : i < (cutB d).size) → (h' : k + 1 + i < s.size) → (cutB d)[i] = s[k + 1 + i] := fun i h h' => by
  have e1 : (cutB d).data.toList[i]? = some (cutB d)[i] := list_at h
  have e2 : (cutB d).data.toList[i]? = some d[k + 1 + i] := by
   rw [c3, ByteArray.data_extract, Array.toList_extract, List.extract_eq_take_drop, List.getElem?_take, if_pos zq17, List.getElem?_drop]
   exact list_at zq17
  have e3 := Option.some.inj (e1.symm.trans e2)
  rw [e3, hat (k + 1 + i) zq17 zq17]
 by_cases hrb : r < 1 ∨ 4 < r ∨ k + 1 + r < s.size
 ·have hB : digsB (cutB d) 4 = false := by
   rcases hrb with h | h | h
   ·by_cases h9 : (cutB d).size < 1
    ·unfold digsB; rw [decide_eq_false zq17]; rfl
    ·obtain rfl : r = 0 := by omega
     have hst := hrun2.stop zq17
     have := all_false (s := cutB d) (k := 0) zq17 (by rw [hBat 0 zq17 zq17]; exact hst)
     unfold digsB; rw [this, Bool.and_false]
   ·unfold digsB; rw [decide_eq_false (show ¬ ((cutB d).size : Int) ≤ 4 by omega)]; simp
   ·have hst := hrun2.stop h
    have := all_false (s := cutB d) (k := r) zq17 (by rw [hBat r zq17 zq17]; exact hst)
    unfold digsB; rw [this, Bool.and_false]
  have bad := num_bad (by rw [hdg]; unfold numOk; rw [hdg15, hld0, c1, hB]; simp)
  by_cases hz : s[0].toNat = 48
  ·exact rbad bad (rparse_rZ_p s k w hs hz0 h45 hdig hrun zq17 zq17 zq17 hz zq17 zq17 r hdig2 hdot hrb hr2l)
  ·exact rbad bad (rparse_rN_p s k w hs hz0 h45 hdig hrun zq17 zq17 zq17 hz zq17 r hdig2 hdot hrb hr2l)
 have hBr : (cutB d).size = r := by omega
 have hBd : allDig (cutB d) = true := by
  unfold allDig
  rw [List.all_eq_true]
  intro y hy
  obtain ⟨i, hi, rfl⟩ := List.mem_iff_getElem.1 hy
  have hi' : i < (cutB d).size := by simpa using hi
  have : (cutB d).data.toList[i] = (cutB d)[i] := rfl
  rw [this, hBat i hi' zq17]
  exact hrun2.all i zq17 zq17
 have hB : digsB (cutB d) 4 = true := by unfold digsB; rw [hBd, decide_eq_true (show 1 ≤ (cutB d).size by omega), decide_eq_true (show ((cutB d).size : Int) ≤ 4 by omega)]; rfl
 have hnum : numOk d = true := by unfold numOk; rw [hdg15, hld0, c1, hB]; rfl
 have hpv := parts_fv (s := s) (d := d) (a := 0) (k := k) (r := r) hBr zq17 (fun i h h' => by simp only [Nat.zero_add]; exact hBat i h zq17) (.inr zq17) hval
 simp only [Nat.zero_add] at hpv
 by_cases hz : s[0].toNat = 48
 ·have hP : partsN d = fv (val s 0 k) s (k + 1) r 4 := hpv
  by_cases hbig : 9223372036854775807 < fv (val s 0 k) s (k + 1) r 4
  ·exact rbad (by unfold parseOk; rw [hdg, hnum, hP, decide_eq_false zq17]; rfl) (rparse_okZbig_p s k w hs hz0 h45 hdig hrun zq17 zq17 zq17 hz zq17 zq17 r hdig2 hdot zq17 zq17 zq17 hr2l hrun2.all hbig)
  exact rgood (by unfold parseOk; rw [hdg, hnum, hn, hP, decide_eq_true (show fv (val s 0 k) s (k + 1) r 4 ≤ 9223372036854775807 by omega)]; rfl) (by rw [hdg, hn, hP]; rfl) (rparse_okZgood_p s k w hs hz0 h45 hdig hrun zq17 zq17 zq17 hz zq17 zq17 r hdig2 hdot zq17 zq17 zq17 hr2l hrun2.all zq17)
 ·have hP : partsN d = fv (val s 0 k) s (k + 1) r 4 := hpv
  by_cases hbig : 9223372036854775807 < fv (val s 0 k) s (k + 1) r 4
  ·exact rbad (by unfold parseOk; rw [hdg, hnum, hP, decide_eq_false zq17]; rfl) (rparse_okNbig_p s k w hs hz0 h45 hdig hrun zq17 zq17 zq17 hz zq17 r hdig2 hdot zq17 zq17 zq17 hr2l hrun2.all hbig)
  exact rgood (by unfold parseOk; rw [hdg, hnum, hn, hP, decide_eq_true (show fv (val s 0 k) s (k + 1) r 4 ≤ 9223372036854775807 by omega)]; rfl) (by rw [hdg, hn, hP]; rfl) (rparse_okNgood_p s k w hs hz0 h45 hdig hrun zq17 zq17 zq17 hz zq17 r hdig2 hdot zq17 zq17 zq17 hr2l hrun2.all zq17)
theorem rparse_any (s : ByteArray) (w : World) (hs : s.size ≤ maxLen) : Calls Tryz.prog 68 #[.string s] w fun e w' => e = .returned (.tuple #[.int .i64 (parseV s), .bool (parseOk s)]) ∧ w' = w := by
 cases hn : negS s with
 | true =>
  have h1 := neg_size hn
  refine rparse_neg s (s.extract 1 s.size) w hs hn (by unfold dgS; rw [hn]; rfl) (by rw [ByteArray.size_extract]; omega) fun i h h' => ?_
  have e1 : (s.extract 1 s.size).data.toList[i]? = some (s.extract 1 s.size)[i] := list_at h
  have e2 : (s.extract 1 s.size).data.toList[i]? = some s[1 + i] := by
   rw [ByteArray.data_extract, Array.toList_extract, List.extract_eq_take_drop, List.getElem?_take, if_pos zq17, List.getElem?_drop]
   exact list_at h'
  exact Option.some.inj (e1.symm.trans e2)
 | false =>
  exact rparse_pos s s w hs hn (by unfold dgS; rw [hn]; rfl) zq17 fun i h h' => rfl
end Go.Proofs.YtcmjhjnpcogmgaaGreatDoor.Dc
