/- The contract of dec.Parse, for every text: the number that it tells, where it tells one; n -/
import Derived.Test.YtcmjhjnpcogmgaaGreatDoorUAuto
import Derived.Test.YtcmjhjnpcogmgaaGreatDoorUDcDigitsDcCutDcSums
set_option linter.all false
set_option maxRecDepth 100000
set_option maxHeartbeats 4000000
namespace Go.Proofs.YtcmjhjnpcogmgaaGreatDoor.Dc
open Go.Shelf Go.RowKit
set_option linter.unusedVariables false
def negS (s : ByteArray) : Bool := Lib.hasPrefix s.data.toList [45]
theorem hasPre (s : ByteArray) (w : World) : Calls Tryz.prog 49 #[.string s, .string ⟨#[45]⟩] w fun e w' => e = .returned (.bool (negS s)) ∧ w' = w :=
 Any.strings_HasPrefix Tryz.lays99 s ⟨#[45]⟩ w
theorem extract_le (s : ByteArray) (a b : Nat) : (s.extract a b).size ≤ s.size := by rw [ByteArray.size_extract]; omega
theorem cutA_le (d : ByteArray) : (cutA d).size ≤ d.size := by
 unfold cutA; split
 ·exact extract_le _ _ _
 ·exact Nat.le_refl _
theorem cutB_le (d : ByteArray) : (cutB d).size ≤ d.size := by
 unfold cutB; split
 ·exact extract_le _ _ _
 ·exact Nat.zero_le _
theorem signed_big (n : Int) (b : Bool) (w : World) (h : 9223372036854775807 < n) : Calls Tryz.prog 165 #[.int .u64 n, .bool b] w fun e w' => e = .returned (.tuple #[.int .i64 0, .int .i64 2]) ∧ w' = w := by
 go_enter Tryz.func165, Tryz.ntmps165
 go_wp2
 go_ret2
 exact ⟨rfl, rfl⟩
theorem signed_pos (n : Int) (w : World) (h0 : 0 ≤ n) (h : n ≤ 9223372036854775807) : Calls Tryz.prog 165 #[.int .u64 n, .bool false] w fun e w' => e = .returned (.tuple #[.int .i64 n, .int .i64 0]) ∧ w' = w := by
 go_enter Tryz.func165, Tryz.ntmps165
 go_wp2
 go_ret2
 exact ⟨rfl, rfl⟩
theorem signed_neg (n : Int) (w : World) (h0 : 0 ≤ n) (h : n ≤ 9223372036854775807) : Calls Tryz.prog 165 #[.int .u64 n, .bool true] w fun e w' => e = .returned (.tuple #[.int .i64 (-n), .int .i64 0]) ∧ w' = w := by
 go_enter Tryz.func165, Tryz.ntmps165
 go_wp2
 go_ret2
 exact ⟨rfl, rfl⟩
theorem quiet_plus {P : Program} {f : FuncId} {args : Array Value} {w : World} {n x : Nat} {v : Value} (h : Calls P f args (w.drewN (n + x)) fun e w' => e = .returned v ∧ w' = w.drewN (n + x)) :
  Calls P f args (w.drewN (n + x)) fun e w'' => e = .returned v ∧ ∃ m, w'' = w.drewN (n + m) := h.mono fun _ _ ⟨he, hm⟩ => ⟨he, x, hm⟩
def CutIs (d a b : ByteArray) (f : Bool) : Prop := ∀ w, Calls Tryz.prog 161 #[.string d, .string ⟨#[46]⟩] w fun e w' => e = .returned (.tuple #[.string a, .string b, .bool f]) ∧ ∃ n, w' = w.drewN n
def PreIs (s : ByteArray) (f : Bool) : Prop := ∀ w, Calls Tryz.prog 49 #[.string s, .string ⟨#[45]⟩] w fun e w' => e = .returned (.bool f) ∧ w' = w
theorem parse_w1f1_p (s a b : ByteArray) (w : World) (hpre : PreIs s false) (hcut : CutIs s a b true) (hsA : a.size ≤ maxLen) (hsB : b.size ≤ maxLen) (hA : digsB a 15 = false) : Calls Tryz.prog 126 #[.string s] w fun e w' => e = .returned (.tuple #[.int .i64 0, .bool false]) ∧ ∃ n, w' = w.drewN n := by
 go_enter Tryz.func126, Tryz.ntmps126
 go_wp2_with (first | (go_at_call 49; refine (hpre _).mono ?_; rintro e w' ⟨rfl, rfl⟩) | (go_at_call 161; refine (hcut _).mono ?_; rintro e w' ⟨rfl, n, rfl⟩) | (go_at_call 163; refine (isDigits_any _ _ _ zq15).mono ?_; rintro e w' ⟨rfl, rfl⟩))
 go_ret2
 exact ⟨rfl, n, rfl⟩
theorem parse_w2f1_p (s a b : ByteArray) (w : World) (hpre : PreIs s false) (hcut : CutIs s a b true) (hsA : a.size ≤ maxLen) (hsB : b.size ≤ maxLen) (hA : digsB a 15 = true) (hsz : 1 < a.size) (hz : a[0].toNat = 48) : Calls Tryz.prog 126 #[.string s] w fun e w' => e = .returned (.tuple #[.int .i64 0, .bool false]) ∧ ∃ n, w' = w.drewN n := by
 have hsz' : (1 : Int) < a.size := by omega
 go_enter Tryz.func126, Tryz.ntmps126
 go_wp2_with (first | (go_at_call 49; refine (hpre _).mono ?_; rintro e w' ⟨rfl, rfl⟩) | (go_at_call 161; refine (hcut _).mono ?_; rintro e w' ⟨rfl, n, rfl⟩) | (go_at_call 163; refine (isDigits_any _ _ _ zq15).mono ?_; rintro e w' ⟨rfl, rfl⟩))
 go_ret2
 exact ⟨rfl, n, rfl⟩
theorem parse_w1f0_p (s a b : ByteArray) (w : World) (hpre : PreIs s false) (hcut : CutIs s a b false) (hsA : a.size ≤ maxLen) (hsB : b.size ≤ maxLen) (hA : digsB a 15 = false) : Calls Tryz.prog 126 #[.string s] w fun e w' => e = .returned (.tuple #[.int .i64 0, .bool false]) ∧ ∃ n, w' = w.drewN n := by
 go_enter Tryz.func126, Tryz.ntmps126
 go_wp2_with (first | (go_at_call 49; refine (hpre _).mono ?_; rintro e w' ⟨rfl, rfl⟩) | (go_at_call 161; refine (hcut _).mono ?_; rintro e w' ⟨rfl, n, rfl⟩) | (go_at_call 163; refine (isDigits_any _ _ _ zq15).mono ?_; rintro e w' ⟨rfl, rfl⟩))
 go_ret2
 exact ⟨rfl, n, rfl⟩
theorem parse_w2f0_p (s a b : ByteArray) (w : World) (hpre : PreIs s false) (hcut : CutIs s a b false) (hsA : a.size ≤ maxLen) (hsB : b.size ≤ maxLen) (hA : digsB a 15 = true) (hsz : 1 < a.size) (hz : a[0].toNat = 48) : Calls Tryz.prog 126 #[.string s] w fun e w' => e = .returned (.tuple #[.int .i64 0, .bool false]) ∧ ∃ n, w' = w.drewN n := by
 have hsz' : (1 : Int) < a.size := by omega
 go_enter Tryz.func126, Tryz.ntmps126
 go_wp2_with (first | (go_at_call 49; refine (hpre _).mono ?_; rintro e w' ⟨rfl, rfl⟩) | (go_at_call 161; refine (hcut _).mono ?_; rintro e w' ⟨rfl, n, rfl⟩) | (go_at_call 163; refine (isDigits_any _ _ _ zq15).mono ?_; rintro e w' ⟨rfl, rfl⟩))
 go_ret2
 exact ⟨rfl, n, rfl⟩
theorem parse_w3a_p (s a b : ByteArray) (w : World) (hpre : PreIs s false) (hcut : CutIs s a b true) (hsA : a.size ≤ maxLen) (hsB : b.size ≤ maxLen) (hA : digsB a 15 = true) (hsz : ¬ 1 < a.size) (hB : digsB b 4 = false) : Calls Tryz.prog 126 #[.string s] w fun e w' => e = .returned (.tuple #[.int .i64 0, .bool false]) ∧ ∃ n, w' = w.drewN n := by
 have hsz' : ¬ (1 : Int) < a.size := by omega
 go_enter Tryz.func126, Tryz.ntmps126
 go_wp2_with (first | (go_at_call 49; refine (hpre _).mono ?_; rintro e w' ⟨rfl, rfl⟩) | (go_at_call 161; refine (hcut _).mono ?_; rintro e w' ⟨rfl, n, rfl⟩) | (go_at_call 163; refine (isDigits_any _ _ _ zq15).mono ?_; rintro e w' ⟨rfl, rfl⟩))
 go_ret2
 exact ⟨rfl, n, rfl⟩
theorem parse_w3b_p (s a b : ByteArray) (w : World) (hpre : PreIs s false) (hcut : CutIs s a b true) (hsA : a.size ≤ maxLen) (hsB : b.size ≤ maxLen) (hA : digsB a 15 = true) (hsz : 1 < a.size) (hz : a[0].toNat ≠ 48) (hB : digsB b 4 = false) : Calls Tryz.prog 126 #[.string s] w fun e w' => e = .returned (.tuple #[.int .i64 0, .bool false]) ∧ ∃ n, w' = w.drewN n := by
 have hsz' : (1 : Int) < a.size := by omega
 go_enter Tryz.func126, Tryz.ntmps126
 go_wp2_with (first | (go_at_call 49; refine (hpre _).mono ?_; rintro e w' ⟨rfl, rfl⟩) | (go_at_call 161; refine (hcut _).mono ?_; rintro e w' ⟨rfl, n, rfl⟩) | (go_at_call 163; refine (isDigits_any _ _ _ zq15).mono ?_; rintro e w' ⟨rfl, rfl⟩))
 go_ret2
 exact ⟨rfl, n, rfl⟩
theorem parse_w1f1_n (s d a b : ByteArray) (w : World) (h1 : 1 ≤ s.size) (hd : s.extract 1 s.size = d) (hpre : PreIs s true) (hcut : CutIs d a b true) (hsA : a.size ≤ maxLen) (hsB : b.size ≤ maxLen) (hA : digsB a 15 = false) : Calls Tryz.prog 126 #[.string s] w fun e w' => e = .returned (.tuple #[.int .i64 0, .bool false]) ∧ ∃ n, w' = w.drewN n := by
 have h1' : (1 : Int) ≤ s.size := by omega
 go_enter Tryz.func126, Tryz.ntmps126
 go_wp2_with (first | (go_at_call 49; refine (hpre _).mono ?_; rintro e w' ⟨rfl, rfl⟩) | (go_at_call 161; refine (hcut _).mono ?_; rintro e w' ⟨rfl, n, rfl⟩) | (go_at_call 163; refine (isDigits_any _ _ _ zq15).mono ?_; rintro e w' ⟨rfl, rfl⟩))
 go_ret2
 exact ⟨rfl, n, rfl⟩
theorem parse_w2f1_n (s d a b : ByteArray) (w : World) (h1 : 1 ≤ s.size) (hd : s.extract 1 s.size = d) (hpre : PreIs s true) (hcut : CutIs d a b true) (hsA : a.size ≤ maxLen) (hsB : b.size ≤ maxLen) (hA : digsB a 15 = true) (hsz : 1 < a.size) (hz : a[0].toNat = 48) : Calls Tryz.prog 126 #[.string s] w fun e w' => e = .returned (.tuple #[.int .i64 0, .bool false]) ∧ ∃ n, w' = w.drewN n := by
 have h1' : (1 : Int) ≤ s.size := by omega
 have hsz' : (1 : Int) < a.size := by omega
 go_enter Tryz.func126, Tryz.ntmps126
 go_wp2_with (first | (go_at_call 49; refine (hpre _).mono ?_; rintro e w' ⟨rfl, rfl⟩) | (go_at_call 161; refine (hcut _).mono ?_; rintro e w' ⟨rfl, n, rfl⟩) | (go_at_call 163; refine (isDigits_any _ _ _ zq15).mono ?_; rintro e w' ⟨rfl, rfl⟩))
 go_ret2
 exact ⟨rfl, n, rfl⟩
theorem parse_w1f0_n (s d a b : ByteArray) (w : World) (h1 : 1 ≤ s.size) (hd : s.extract 1 s.size = d) (hpre : PreIs s true) (hcut : CutIs d a b false) (hsA : a.size ≤ maxLen) (hsB : b.size ≤ maxLen) (hA : digsB a 15 = false) : Calls Tryz.prog 126 #[.string s] w fun e w' => e = .returned (.tuple #[.int .i64 0, .bool false]) ∧ ∃ n, w' = w.drewN n := by
 have h1' : (1 : Int) ≤ s.size := by omega
 go_enter Tryz.func126, Tryz.ntmps126
 go_wp2_with (first | (go_at_call 49; refine (hpre _).mono ?_; rintro e w' ⟨rfl, rfl⟩) | (go_at_call 161; refine (hcut _).mono ?_; rintro e w' ⟨rfl, n, rfl⟩) | (go_at_call 163; refine (isDigits_any _ _ _ zq15).mono ?_; rintro e w' ⟨rfl, rfl⟩))
 go_ret2
 exact ⟨rfl, n, rfl⟩
theorem parse_w2f0_n (s d a b : ByteArray) (w : World) (h1 : 1 ≤ s.size) (hd : s.extract 1 s.size = d) (hpre : PreIs s true) (hcut : CutIs d a b false) (hsA : a.size ≤ maxLen) (hsB : b.size ≤ maxLen) (hA : digsB a 15 = true) (hsz : 1 < a.size) (hz : a[0].toNat = 48) : Calls Tryz.prog 126 #[.string s] w fun e w' => e = .returned (.tuple #[.int .i64 0, .bool false]) ∧ ∃ n, w' = w.drewN n := by
 have h1' : (1 : Int) ≤ s.size := by omega
 have hsz' : (1 : Int) < a.size := by omega
 go_enter Tryz.func126, Tryz.ntmps126
 go_wp2_with (first | (go_at_call 49; refine (hpre _).mono ?_; rintro e w' ⟨rfl, rfl⟩) | (go_at_call 161; refine (hcut _).mono ?_; rintro e w' ⟨rfl, n, rfl⟩) | (go_at_call 163; refine (isDigits_any _ _ _ zq15).mono ?_; rintro e w' ⟨rfl, rfl⟩))
 go_ret2
 exact ⟨rfl, n, rfl⟩
theorem parse_w3a_n (s d a b : ByteArray) (w : World) (h1 : 1 ≤ s.size) (hd : s.extract 1 s.size = d) (hpre : PreIs s true) (hcut : CutIs d a b true) (hsA : a.size ≤ maxLen) (hsB : b.size ≤ maxLen) (hA : digsB a 15 = true) (hsz : ¬ 1 < a.size) (hB : digsB b 4 = false) : Calls Tryz.prog 126 #[.string s] w fun e w' => e = .returned (.tuple #[.int .i64 0, .bool false]) ∧ ∃ n, w' = w.drewN n := by
 have h1' : (1 : Int) ≤ s.size := by omega
 have hsz' : ¬ (1 : Int) < a.size := by omega
 go_enter Tryz.func126, Tryz.ntmps126
 go_wp2_with (first | (go_at_call 49; refine (hpre _).mono ?_; rintro e w' ⟨rfl, rfl⟩) | (go_at_call 161; refine (hcut _).mono ?_; rintro e w' ⟨rfl, n, rfl⟩) | (go_at_call 163; refine (isDigits_any _ _ _ zq15).mono ?_; rintro e w' ⟨rfl, rfl⟩))
 go_ret2
 exact ⟨rfl, n, rfl⟩
theorem parse_w3b_n (s d a b : ByteArray) (w : World) (h1 : 1 ≤ s.size) (hd : s.extract 1 s.size = d) (hpre : PreIs s true) (hcut : CutIs d a b true) (hsA : a.size ≤ maxLen) (hsB : b.size ≤ maxLen) (hA : digsB a 15 = true) (hsz : 1 < a.size) (hz : a[0].toNat ≠ 48) (hB : digsB b 4 = false) : Calls Tryz.prog 126 #[.string s] w fun e w' => e = .returned (.tuple #[.int .i64 0, .bool false]) ∧ ∃ n, w' = w.drewN n := by
 have h1' : (1 : Int) ≤ s.size := by omega
 have hsz' : (1 : Int) < a.size := by omega
 go_enter Tryz.func126, Tryz.ntmps126
 go_wp2_with (first | (go_at_call 49; refine (hpre _).mono ?_; rintro e w' ⟨rfl, rfl⟩) | (go_at_call 161; refine (hcut _).mono ?_; rintro e w' ⟨rfl, n, rfl⟩) | (go_at_call 163; refine (isDigits_any _ _ _ zq15).mono ?_; rintro e w' ⟨rfl, rfl⟩))
 go_ret2
 exact ⟨rfl, n, rfl⟩
theorem parse_g0tbig_p (s a b : ByteArray) (w : World) (hpre : PreIs s false) (hcut : CutIs s a b true) (hsA : a.size ≤ maxLen) (hsB : b.size ≤ maxLen) (hA : digsB a 15 = true) (hsz : ¬ 1 < a.size) (hB : digsB b 4 = true) (hA' : allDig a = true) (hAs : a.size ≤ 15) (hBs : b.size ≤ 4) (fr : ByteArray) (hfr : (b ++ ⟨#[48, 48, 48, 48]⟩).extract 0 4 = fr) (hfd : allDig fr = true) (hfs : fr.size ≤ 4) (hq : cnt a.data.toList < 1000000000000000) (hq2 : cnt fr.data.toList < 10000) (hp : 9223372036854775807 < (cnt a.data.toList : Int) * 10000 + (cnt fr.data.toList : Int)) : Calls Tryz.prog 126 #[.string s] w fun e w' => e = .returned (.tuple #[.int .i64 0, .bool false]) ∧ ∃ n, w' = w.drewN n := by
 have hsz' : ¬ (1 : Int) < a.size := by omega
 go_enter Tryz.func126, Tryz.ntmps126
 go_wp2_with (first | (go_at_call 49; refine (hpre _).mono ?_; rintro e w' ⟨rfl, rfl⟩) | (go_at_call 161; refine (hcut _).mono ?_; rintro e w' ⟨rfl, n, rfl⟩) | (go_at_call 163; refine (isDigits_any _ _ _ zq15).mono ?_; rintro e w' ⟨rfl, rfl⟩))
 go_quiet ((go_at_call 164; exact quiet_plus (count_any _ _ zq17 zq15)))
 go_wp2_with (go_at_call 165; refine (signed_big _ _ _ zq17).mono ?_; rintro e w' ⟨rfl, rfl⟩)
 go_ret2
 exact ⟨rfl, n + nq, rfl⟩
theorem parse_g0tok_p (s a b : ByteArray) (w : World) (hpre : PreIs s false) (hcut : CutIs s a b true) (hsA : a.size ≤ maxLen) (hsB : b.size ≤ maxLen) (hA : digsB a 15 = true) (hsz : ¬ 1 < a.size) (hB : digsB b 4 = true) (hA' : allDig a = true) (hAs : a.size ≤ 15) (hBs : b.size ≤ 4) (fr : ByteArray) (hfr : (b ++ ⟨#[48, 48, 48, 48]⟩).extract 0 4 = fr) (hfd : allDig fr = true) (hfs : fr.size ≤ 4) (hq : cnt a.data.toList < 1000000000000000) (hq2 : cnt fr.data.toList < 10000) (hp : (cnt a.data.toList : Int) * 10000 + (cnt fr.data.toList : Int) ≤ 9223372036854775807) : Calls Tryz.prog 126 #[.string s] w fun e w' => e = .returned (.tuple #[.int .i64 ((cnt a.data.toList : Int) * 10000 + (cnt fr.data.toList : Int)), .bool true]) ∧ ∃ n, w' = w.drewN n := by
 have hsz' : ¬ (1 : Int) < a.size := by omega
 go_enter Tryz.func126, Tryz.ntmps126
 go_wp2_with (first | (go_at_call 49; refine (hpre _).mono ?_; rintro e w' ⟨rfl, rfl⟩) | (go_at_call 161; refine (hcut _).mono ?_; rintro e w' ⟨rfl, n, rfl⟩) | (go_at_call 163; refine (isDigits_any _ _ _ zq15).mono ?_; rintro e w' ⟨rfl, rfl⟩))
 go_quiet ((go_at_call 164; exact quiet_plus (count_any _ _ zq17 zq15)))
 go_wp2_with (go_at_call 165; refine (signed_pos _ _ zq17 zq17).mono ?_; rintro e w' ⟨rfl, rfl⟩)
 go_ret2
 exact ⟨rfl, n + nq, rfl⟩
theorem parse_g0fbig_p (s a b : ByteArray) (w : World) (hpre : PreIs s false) (hcut : CutIs s a b false) (hsA : a.size ≤ maxLen) (hsB : b.size ≤ maxLen) (hA : digsB a 15 = true) (hsz : ¬ 1 < a.size)  (hA' : allDig a = true) (hAs : a.size ≤ 15) (hBs : b.size ≤ 4) (fr : ByteArray) (hfr : (b ++ ⟨#[48, 48, 48, 48]⟩).extract 0 4 = fr) (hfd : allDig fr = true) (hfs : fr.size ≤ 4) (hq : cnt a.data.toList < 1000000000000000) (hq2 : cnt fr.data.toList < 10000) (hp : 9223372036854775807 < (cnt a.data.toList : Int) * 10000 + (cnt fr.data.toList : Int)) : Calls Tryz.prog 126 #[.string s] w fun e w' => e = .returned (.tuple #[.int .i64 0, .bool false]) ∧ ∃ n, w' = w.drewN n := by
 have hsz' : ¬ (1 : Int) < a.size := by omega
 go_enter Tryz.func126, Tryz.ntmps126
 go_wp2_with (first | (go_at_call 49; refine (hpre _).mono ?_; rintro e w' ⟨rfl, rfl⟩) | (go_at_call 161; refine (hcut _).mono ?_; rintro e w' ⟨rfl, n, rfl⟩) | (go_at_call 163; refine (isDigits_any _ _ _ zq15).mono ?_; rintro e w' ⟨rfl, rfl⟩))
 go_quiet ((go_at_call 164; exact quiet_plus (count_any _ _ zq17 zq15)))
 go_wp2_with (go_at_call 165; refine (signed_big _ _ _ zq17).mono ?_; rintro e w' ⟨rfl, rfl⟩)
 go_ret2
 exact ⟨rfl, n + nq, rfl⟩
theorem parse_g0fok_p (s a b : ByteArray) (w : World) (hpre : PreIs s false) (hcut : CutIs s a b false) (hsA : a.size ≤ maxLen) (hsB : b.size ≤ maxLen) (hA : digsB a 15 = true) (hsz : ¬ 1 < a.size)  (hA' : allDig a = true) (hAs : a.size ≤ 15) (hBs : b.size ≤ 4) (fr : ByteArray) (hfr : (b ++ ⟨#[48, 48, 48, 48]⟩).extract 0 4 = fr) (hfd : allDig fr = true) (hfs : fr.size ≤ 4) (hq : cnt a.data.toList < 1000000000000000) (hq2 : cnt fr.data.toList < 10000) (hp : (cnt a.data.toList : Int) * 10000 + (cnt fr.data.toList : Int) ≤ 9223372036854775807) : Calls Tryz.prog 126 #[.string s] w fun e w' => e = .returned (.tuple #[.int .i64 ((cnt a.data.toList : Int) * 10000 + (cnt fr.data.toList : Int)), .bool true]) ∧ ∃ n, w' = w.drewN n := by
 have hsz' : ¬ (1 : Int) < a.size := by omega
 go_enter Tryz.func126, Tryz.ntmps126
 go_wp2_with (first | (go_at_call 49; refine (hpre _).mono ?_; rintro e w' ⟨rfl, rfl⟩) | (go_at_call 161; refine (hcut _).mono ?_; rintro e w' ⟨rfl, n, rfl⟩) | (go_at_call 163; refine (isDigits_any _ _ _ zq15).mono ?_; rintro e w' ⟨rfl, rfl⟩))
 go_quiet ((go_at_call 164; exact quiet_plus (count_any _ _ zq17 zq15)))
 go_wp2_with (go_at_call 165; refine (signed_pos _ _ zq17 zq17).mono ?_; rintro e w' ⟨rfl, rfl⟩)
 go_ret2
 exact ⟨rfl, n + nq, rfl⟩
theorem parse_g1tbig_p (s a b : ByteArray) (w : World) (hpre : PreIs s false) (hcut : CutIs s a b true) (hsA : a.size ≤ maxLen) (hsB : b.size ≤ maxLen) (hA : digsB a 15 = true) (hsz : 1 < a.size) (hz : a[0].toNat ≠ 48) (hB : digsB b 4 = true) (hA' : allDig a = true) (hAs : a.size ≤ 15) (hBs : b.size ≤ 4) (fr : ByteArray) (hfr : (b ++ ⟨#[48, 48, 48, 48]⟩).extract 0 4 = fr) (hfd : allDig fr = true) (hfs : fr.size ≤ 4) (hq : cnt a.data.toList < 1000000000000000) (hq2 : cnt fr.data.toList < 10000) (hp : 9223372036854775807 < (cnt a.data.toList : Int) * 10000 + (cnt fr.data.toList : Int)) : Calls Tryz.prog 126 #[.string s] w fun e w' => e = .returned (.tuple #[.int .i64 0, .bool false]) ∧ ∃ n, w' = w.drewN n := by
 have hsz' : (1 : Int) < a.size := by omega
 go_enter Tryz.func126, Tryz.ntmps126
 go_wp2_with (first | (go_at_call 49; refine (hpre _).mono ?_; rintro e w' ⟨rfl, rfl⟩) | (go_at_call 161; refine (hcut _).mono ?_; rintro e w' ⟨rfl, n, rfl⟩) | (go_at_call 163; refine (isDigits_any _ _ _ zq15).mono ?_; rintro e w' ⟨rfl, rfl⟩))
 go_quiet ((go_at_call 164; exact quiet_plus (count_any _ _ zq17 zq15)))
 go_wp2_with (go_at_call 165; refine (signed_big _ _ _ zq17).mono ?_; rintro e w' ⟨rfl, rfl⟩)
 go_ret2
 exact ⟨rfl, n + nq, rfl⟩
theorem parse_g1tok_p (s a b : ByteArray) (w : World) (hpre : PreIs s false) (hcut : CutIs s a b true) (hsA : a.size ≤ maxLen) (hsB : b.size ≤ maxLen) (hA : digsB a 15 = true) (hsz : 1 < a.size) (hz : a[0].toNat ≠ 48) (hB : digsB b 4 = true) (hA' : allDig a = true) (hAs : a.size ≤ 15) (hBs : b.size ≤ 4) (fr : ByteArray) (hfr : (b ++ ⟨#[48, 48, 48, 48]⟩).extract 0 4 = fr) (hfd : allDig fr = true) (hfs : fr.size ≤ 4) (hq : cnt a.data.toList < 1000000000000000) (hq2 : cnt fr.data.toList < 10000) (hp : (cnt a.data.toList : Int) * 10000 + (cnt fr.data.toList : Int) ≤ 9223372036854775807) : Calls Tryz.prog 126 #[.string s] w fun e w' => e = .returned (.tuple #[.int .i64 ((cnt a.data.toList : Int) * 10000 + (cnt fr.data.toList : Int)), .bool true]) ∧ ∃ n, w' = w.drewN n := by
 have hsz' : (1 : Int) < a.size := by omega
 go_enter Tryz.func126, Tryz.ntmps126
 go_wp2_with (first | (go_at_call 49; refine (hpre _).mono ?_; rintro e w' ⟨rfl, rfl⟩) | (go_at_call 161; refine (hcut _).mono ?_; rintro e w' ⟨rfl, n, rfl⟩) | (go_at_call 163; refine (isDigits_any _ _ _ zq15).mono ?_; rintro e w' ⟨rfl, rfl⟩))
 go_quiet ((go_at_call 164; exact quiet_plus (count_any _ _ zq17 zq15)))
 go_wp2_with (go_at_call 165; refine (signed_pos _ _ zq17 zq17).mono ?_; rintro e w' ⟨rfl, rfl⟩)
 go_ret2
 exact ⟨rfl, n + nq, rfl⟩
theorem parse_g1fbig_p (s a b : ByteArray) (w : World) (hpre : PreIs s false) (hcut : CutIs s a b false) (hsA : a.size ≤ maxLen) (hsB : b.size ≤ maxLen) (hA : digsB a 15 = true) (hsz : 1 < a.size) (hz : a[0].toNat ≠ 48)  (hA' : allDig a = true) (hAs : a.size ≤ 15) (hBs : b.size ≤ 4) (fr : ByteArray) (hfr : (b ++ ⟨#[48, 48, 48, 48]⟩).extract 0 4 = fr) (hfd : allDig fr = true) (hfs : fr.size ≤ 4) (hq : cnt a.data.toList < 1000000000000000) (hq2 : cnt fr.data.toList < 10000) (hp : 9223372036854775807 < (cnt a.data.toList : Int) * 10000 + (cnt fr.data.toList : Int)) : Calls Tryz.prog 126 #[.string s] w fun e w' => e = .returned (.tuple #[.int .i64 0, .bool false]) ∧ ∃ n, w' = w.drewN n := by
 have hsz' : (1 : Int) < a.size := by omega
 go_enter Tryz.func126, Tryz.ntmps126
 go_wp2_with (first | (go_at_call 49; refine (hpre _).mono ?_; rintro e w' ⟨rfl, rfl⟩) | (go_at_call 161; refine (hcut _).mono ?_; rintro e w' ⟨rfl, n, rfl⟩) | (go_at_call 163; refine (isDigits_any _ _ _ zq15).mono ?_; rintro e w' ⟨rfl, rfl⟩))
 go_quiet ((go_at_call 164; exact quiet_plus (count_any _ _ zq17 zq15)))
 go_wp2_with (go_at_call 165; refine (signed_big _ _ _ zq17).mono ?_; rintro e w' ⟨rfl, rfl⟩)
 go_ret2
 exact ⟨rfl, n + nq, rfl⟩
theorem parse_g1fok_p (s a b : ByteArray) (w : World) (hpre : PreIs s false) (hcut : CutIs s a b false) (hsA : a.size ≤ maxLen) (hsB : b.size ≤ maxLen) (hA : digsB a 15 = true) (hsz : 1 < a.size) (hz : a[0].toNat ≠ 48)  (hA' : allDig a = true) (hAs : a.size ≤ 15) (hBs : b.size ≤ 4) (fr : ByteArray) (hfr : (b ++ ⟨#[48, 48, 48, 48]⟩).extract 0 4 = fr) (hfd : allDig fr = true) (hfs : fr.size ≤ 4) (hq : cnt a.data.toList < 1000000000000000) (hq2 : cnt fr.data.toList < 10000) (hp : (cnt a.data.toList : Int) * 10000 + (cnt fr.data.toList : Int) ≤ 9223372036854775807) : Calls Tryz.prog 126 #[.string s] w fun e w' => e = .returned (.tuple #[.int .i64 ((cnt a.data.toList : Int) * 10000 + (cnt fr.data.toList : Int)), .bool true]) ∧ ∃ n, w' = w.drewN n := by
 have hsz' : (1 : Int) < a.size := by omega
 go_enter Tryz.func126, Tryz.ntmps126
 go_wp2_with (first | (go_at_call 49; refine (hpre _).mono ?_; rintro e w' ⟨rfl, rfl⟩) | (go_at_call 161; refine (hcut _).mono ?_; rintro e w' ⟨rfl, n, rfl⟩) | (go_at_call 163; refine (isDigits_any _ _ _ zq15).mono ?_; rintro e w' ⟨rfl, rfl⟩))
 go_quiet ((go_at_call 164; exact quiet_plus (count_any _ _ zq17 zq15)))
 go_wp2_with (go_at_call 165; refine (signed_pos _ _ zq17 zq17).mono ?_; rintro e w' ⟨rfl, rfl⟩)
 go_ret2
 exact ⟨rfl, n + nq, rfl⟩
theorem parse_g0tbig_n (s d a b : ByteArray) (w : World) (h1 : 1 ≤ s.size) (hd : s.extract 1 s.size = d) (hpre : PreIs s true) (hcut : CutIs d a b true) (hsA : a.size ≤ maxLen) (hsB : b.size ≤ maxLen) (hA : digsB a 15 = true) (hsz : ¬ 1 < a.size) (hB : digsB b 4 = true) (hA' : allDig a = true) (hAs : a.size ≤ 15) (hBs : b.size ≤ 4) (fr : ByteArray) (hfr : (b ++ ⟨#[48, 48, 48, 48]⟩).extract 0 4 = fr) (hfd : allDig fr = true) (hfs : fr.size ≤ 4) (hq : cnt a.data.toList < 1000000000000000) (hq2 : cnt fr.data.toList < 10000) (hp : 9223372036854775807 < (cnt a.data.toList : Int) * 10000 + (cnt fr.data.toList : Int)) : Calls Tryz.prog 126 #[.string s] w fun e w' => e = .returned (.tuple #[.int .i64 0, .bool false]) ∧ ∃ n, w' = w.drewN n := by
 have h1' : (1 : Int) ≤ s.size := by omega
 have hsz' : ¬ (1 : Int) < a.size := by omega
 go_enter Tryz.func126, Tryz.ntmps126
 go_wp2_with (first | (go_at_call 49; refine (hpre _).mono ?_; rintro e w' ⟨rfl, rfl⟩) | (go_at_call 161; refine (hcut _).mono ?_; rintro e w' ⟨rfl, n, rfl⟩) | (go_at_call 163; refine (isDigits_any _ _ _ zq15).mono ?_; rintro e w' ⟨rfl, rfl⟩))
 go_quiet ((go_at_call 164; exact quiet_plus (count_any _ _ zq17 zq15)))
 go_wp2_with (go_at_call 165; refine (signed_big _ _ _ zq17).mono ?_; rintro e w' ⟨rfl, rfl⟩)
 go_ret2
 exact ⟨rfl, n + nq, rfl⟩
theorem parse_g0tzero_n (s d a b : ByteArray) (w : World) (h1 : 1 ≤ s.size) (hd : s.extract 1 s.size = d) (hpre : PreIs s true) (hcut : CutIs d a b true) (hsA : a.size ≤ maxLen) (hsB : b.size ≤ maxLen) (hA : digsB a 15 = true) (hsz : ¬ 1 < a.size) (hB : digsB b 4 = true) (hA' : allDig a = true) (hAs : a.size ≤ 15) (hBs : b.size ≤ 4) (fr : ByteArray) (hfr : (b ++ ⟨#[48, 48, 48, 48]⟩).extract 0 4 = fr) (hfd : allDig fr = true) (hfs : fr.size ≤ 4) (hq : cnt a.data.toList < 1000000000000000) (hq2 : cnt fr.data.toList < 10000) (hp : (cnt a.data.toList : Int) * 10000 + (cnt fr.data.toList : Int) = 0) : Calls Tryz.prog 126 #[.string s] w fun e w' => e = .returned (.tuple #[.int .i64 0, .bool false]) ∧ ∃ n, w' = w.drewN n := by
 have h1' : (1 : Int) ≤ s.size := by omega
 have hsz' : ¬ (1 : Int) < a.size := by omega
 go_enter Tryz.func126, Tryz.ntmps126
 go_wp2_with (first | (go_at_call 49; refine (hpre _).mono ?_; rintro e w' ⟨rfl, rfl⟩) | (go_at_call 161; refine (hcut _).mono ?_; rintro e w' ⟨rfl, n, rfl⟩) | (go_at_call 163; refine (isDigits_any _ _ _ zq15).mono ?_; rintro e w' ⟨rfl, rfl⟩))
 go_quiet ((go_at_call 164; exact quiet_plus (count_any _ _ zq17 zq15)))
 go_wp2_with (go_at_call 165; refine (signed_neg _ _ zq17 zq17).mono ?_; rintro e w' ⟨rfl, rfl⟩)
 go_ret2
 exact ⟨rfl, n + nq, rfl⟩
theorem parse_g0tok_n (s d a b : ByteArray) (w : World) (h1 : 1 ≤ s.size) (hd : s.extract 1 s.size = d) (hpre : PreIs s true) (hcut : CutIs d a b true) (hsA : a.size ≤ maxLen) (hsB : b.size ≤ maxLen) (hA : digsB a 15 = true) (hsz : ¬ 1 < a.size) (hB : digsB b 4 = true) (hA' : allDig a = true) (hAs : a.size ≤ 15) (hBs : b.size ≤ 4) (fr : ByteArray) (hfr : (b ++ ⟨#[48, 48, 48, 48]⟩).extract 0 4 = fr) (hfd : allDig fr = true) (hfs : fr.size ≤ 4) (hq : cnt a.data.toList < 1000000000000000) (hq2 : cnt fr.data.toList < 10000) (hp : (cnt a.data.toList : Int) * 10000 + (cnt fr.data.toList : Int) ≤ 9223372036854775807) (hp0 : 0 < (cnt a.data.toList : Int) * 10000 + (cnt fr.data.toList : Int)) : Calls Tryz.prog 126 #[.string s] w fun e w' => e = .returned (.tuple #[.int .i64 (-((cnt a.data.toList : Int) * 10000 + (cnt fr.data.toList : Int))), .bool true]) ∧ ∃ n, w' = w.drewN n := by
 have h1' : (1 : Int) ≤ s.size := by omega
 have hsz' : ¬ (1 : Int) < a.size := by omega
 go_enter Tryz.func126, Tryz.ntmps126
 go_wp2_with (first | (go_at_call 49; refine (hpre _).mono ?_; rintro e w' ⟨rfl, rfl⟩) | (go_at_call 161; refine (hcut _).mono ?_; rintro e w' ⟨rfl, n, rfl⟩) | (go_at_call 163; refine (isDigits_any _ _ _ zq15).mono ?_; rintro e w' ⟨rfl, rfl⟩))
 go_quiet ((go_at_call 164; exact quiet_plus (count_any _ _ zq17 zq15)))
 go_wp2_with (go_at_call 165; refine (signed_neg _ _ zq17 zq17).mono ?_; rintro e w' ⟨rfl, rfl⟩)
 go_ret2
 exact ⟨rfl, n + nq, rfl⟩
theorem parse_g0fbig_n (s d a b : ByteArray) (w : World) (h1 : 1 ≤ s.size) (hd : s.extract 1 s.size = d) (hpre : PreIs s true) (hcut : CutIs d a b false) (hsA : a.size ≤ maxLen) (hsB : b.size ≤ maxLen) (hA : digsB a 15 = true) (hsz : ¬ 1 < a.size)  (hA' : allDig a = true) (hAs : a.size ≤ 15) (hBs : b.size ≤ 4) (fr : ByteArray) (hfr : (b ++ ⟨#[48, 48, 48, 48]⟩).extract 0 4 = fr) (hfd : allDig fr = true) (hfs : fr.size ≤ 4) (hq : cnt a.data.toList < 1000000000000000) (hq2 : cnt fr.data.toList < 10000) (hp : 9223372036854775807 < (cnt a.data.toList : Int) * 10000 + (cnt fr.data.toList : Int)) : Calls Tryz.prog 126 #[.string s] w fun e w' => e = .returned (.tuple #[.int .i64 0, .bool false]) ∧ ∃ n, w' = w.drewN n := by
 have h1' : (1 : Int) ≤ s.size := by omega
 have hsz' : ¬ (1 : Int) < a.size := by omega
 go_enter Tryz.func126, Tryz.ntmps126
 go_wp2_with (first | (go_at_call 49; refine (hpre _).mono ?_; rintro e w' ⟨rfl, rfl⟩) | (go_at_call 161; refine (hcut _).mono ?_; rintro e w' ⟨rfl, n, rfl⟩) | (go_at_call 163; refine (isDigits_any _ _ _ zq15).mono ?_; rintro e w' ⟨rfl, rfl⟩))
 go_quiet ((go_at_call 164; exact quiet_plus (count_any _ _ zq17 zq15)))
 go_wp2_with (go_at_call 165; refine (signed_big _ _ _ zq17).mono ?_; rintro e w' ⟨rfl, rfl⟩)
 go_ret2
 exact ⟨rfl, n + nq, rfl⟩
theorem parse_g0fzero_n (s d a b : ByteArray) (w : World) (h1 : 1 ≤ s.size) (hd : s.extract 1 s.size = d) (hpre : PreIs s true) (hcut : CutIs d a b false) (hsA : a.size ≤ maxLen) (hsB : b.size ≤ maxLen) (hA : digsB a 15 = true) (hsz : ¬ 1 < a.size)  (hA' : allDig a = true) (hAs : a.size ≤ 15) (hBs : b.size ≤ 4) (fr : ByteArray) (hfr : (b ++ ⟨#[48, 48, 48, 48]⟩).extract 0 4 = fr) (hfd : allDig fr = true) (hfs : fr.size ≤ 4) (hq : cnt a.data.toList < 1000000000000000) (hq2 : cnt fr.data.toList < 10000) (hp : (cnt a.data.toList : Int) * 10000 + (cnt fr.data.toList : Int) = 0) : Calls Tryz.prog 126 #[.string s] w fun e w' => e = .returned (.tuple #[.int .i64 0, .bool false]) ∧ ∃ n, w' = w.drewN n := by
 have h1' : (1 : Int) ≤ s.size := by omega
 have hsz' : ¬ (1 : Int) < a.size := by omega
 go_enter Tryz.func126, Tryz.ntmps126
 go_wp2_with (first | (go_at_call 49; refine (hpre _).mono ?_; rintro e w' ⟨rfl, rfl⟩) | (go_at_call 161; refine (hcut _).mono ?_; rintro e w' ⟨rfl, n, rfl⟩) | (go_at_call 163; refine (isDigits_any _ _ _ zq15).mono ?_; rintro e w' ⟨rfl, rfl⟩))
 go_quiet ((go_at_call 164; exact quiet_plus (count_any _ _ zq17 zq15)))
 go_wp2_with (go_at_call 165; refine (signed_neg _ _ zq17 zq17).mono ?_; rintro e w' ⟨rfl, rfl⟩)
 go_ret2
 exact ⟨rfl, n + nq, rfl⟩
theorem parse_g0fok_n (s d a b : ByteArray) (w : World) (h1 : 1 ≤ s.size) (hd : s.extract 1 s.size = d) (hpre : PreIs s true) (hcut : CutIs d a b false) (hsA : a.size ≤ maxLen) (hsB : b.size ≤ maxLen) (hA : digsB a 15 = true) (hsz : ¬ 1 < a.size)  (hA' : allDig a = true) (hAs : a.size ≤ 15) (hBs : b.size ≤ 4) (fr : ByteArray) (hfr : (b ++ ⟨#[48, 48, 48, 48]⟩).extract 0 4 = fr) (hfd : allDig fr = true) (hfs : fr.size ≤ 4) (hq : cnt a.data.toList < 1000000000000000) (hq2 : cnt fr.data.toList < 10000) (hp : (cnt a.data.toList : Int) * 10000 + (cnt fr.data.toList : Int) ≤ 9223372036854775807) (hp0 : 0 < (cnt a.data.toList : Int) * 10000 + (cnt fr.data.toList : Int)) : Calls Tryz.prog 126 #[.string s] w fun e w' => e = .returned (.tuple #[.int .i64 (-((cnt a.data.toList : Int) * 10000 + (cnt fr.data.toList : Int))), .bool true]) ∧ ∃ n, w' = w.drewN n := by
 have h1' : (1 : Int) ≤ s.size := by omega
 have hsz' : ¬ (1 : Int) < a.size := by omega
 go_enter Tryz.func126, Tryz.ntmps126
 go_wp2_with (first | (go_at_call 49; refine (hpre _).mono ?_; rintro e w' ⟨rfl, rfl⟩) | (go_at_call 161; refine (hcut _).mono ?_; rintro e w' ⟨rfl, n, rfl⟩) | (go_at_call 163; refine (isDigits_any _ _ _ zq15).mono ?_; rintro e w' ⟨rfl, rfl⟩))
 go_quiet ((go_at_call 164; exact quiet_plus (count_any _ _ zq17 zq15)))
 go_wp2_with (go_at_call 165; refine (signed_neg _ _ zq17 zq17).mono ?_; rintro e w' ⟨rfl, rfl⟩)
 go_ret2
 exact ⟨rfl, n + nq, rfl⟩
theorem parse_g1tbig_n (s d a b : ByteArray) (w : World) (h1 : 1 ≤ s.size) (hd : s.extract 1 s.size = d) (hpre : PreIs s true) (hcut : CutIs d a b true) (hsA : a.size ≤ maxLen) (hsB : b.size ≤ maxLen) (hA : digsB a 15 = true) (hsz : 1 < a.size) (hz : a[0].toNat ≠ 48) (hB : digsB b 4 = true) (hA' : allDig a = true) (hAs : a.size ≤ 15) (hBs : b.size ≤ 4) (fr : ByteArray) (hfr : (b ++ ⟨#[48, 48, 48, 48]⟩).extract 0 4 = fr) (hfd : allDig fr = true) (hfs : fr.size ≤ 4) (hq : cnt a.data.toList < 1000000000000000) (hq2 : cnt fr.data.toList < 10000) (hp : 9223372036854775807 < (cnt a.data.toList : Int) * 10000 + (cnt fr.data.toList : Int)) : Calls Tryz.prog 126 #[.string s] w fun e w' => e = .returned (.tuple #[.int .i64 0, .bool false]) ∧ ∃ n, w' = w.drewN n := by
 have h1' : (1 : Int) ≤ s.size := by omega
 have hsz' : (1 : Int) < a.size := by omega
 go_enter Tryz.func126, Tryz.ntmps126
 go_wp2_with (first | (go_at_call 49; refine (hpre _).mono ?_; rintro e w' ⟨rfl, rfl⟩) | (go_at_call 161; refine (hcut _).mono ?_; rintro e w' ⟨rfl, n, rfl⟩) | (go_at_call 163; refine (isDigits_any _ _ _ zq15).mono ?_; rintro e w' ⟨rfl, rfl⟩))
 go_quiet ((go_at_call 164; exact quiet_plus (count_any _ _ zq17 zq15)))
 go_wp2_with (go_at_call 165; refine (signed_big _ _ _ zq17).mono ?_; rintro e w' ⟨rfl, rfl⟩)
 go_ret2
 exact ⟨rfl, n + nq, rfl⟩
theorem parse_g1tzero_n (s d a b : ByteArray) (w : World) (h1 : 1 ≤ s.size) (hd : s.extract 1 s.size = d) (hpre : PreIs s true) (hcut : CutIs d a b true) (hsA : a.size ≤ maxLen) (hsB : b.size ≤ maxLen) (hA : digsB a 15 = true) (hsz : 1 < a.size) (hz : a[0].toNat ≠ 48) (hB : digsB b 4 = true) (hA' : allDig a = true) (hAs : a.size ≤ 15) (hBs : b.size ≤ 4) (fr : ByteArray) (hfr : (b ++ ⟨#[48, 48, 48, 48]⟩).extract 0 4 = fr) (hfd : allDig fr = true) (hfs : fr.size ≤ 4) (hq : cnt a.data.toList < 1000000000000000) (hq2 : cnt fr.data.toList < 10000) (hp : (cnt a.data.toList : Int) * 10000 + (cnt fr.data.toList : Int) = 0) : Calls Tryz.prog 126 #[.string s] w fun e w' => e = .returned (.tuple #[.int .i64 0, .bool false]) ∧ ∃ n, w' = w.drewN n := by
 have h1' : (1 : Int) ≤ s.size := by omega
 have hsz' : (1 : Int) < a.size := by omega
 go_enter Tryz.func126, Tryz.ntmps126
 go_wp2_with (first | (go_at_call 49; refine (hpre _).mono ?_; rintro e w' ⟨rfl, rfl⟩) | (go_at_call 161; refine (hcut _).mono ?_; rintro e w' ⟨rfl, n, rfl⟩) | (go_at_call 163; refine (isDigits_any _ _ _ zq15).mono ?_; rintro e w' ⟨rfl, rfl⟩))
 go_quiet ((go_at_call 164; exact quiet_plus (count_any _ _ zq17 zq15)))
 go_wp2_with (go_at_call 165; refine (signed_neg _ _ zq17 zq17).mono ?_; rintro e w' ⟨rfl, rfl⟩)
 go_ret2
 exact ⟨rfl, n + nq, rfl⟩
theorem parse_g1tok_n (s d a b : ByteArray) (w : World) (h1 : 1 ≤ s.size) (hd : s.extract 1 s.size = d) (hpre : PreIs s true) (hcut : CutIs d a b true) (hsA : a.size ≤ maxLen) (hsB : b.size ≤ maxLen) (hA : digsB a 15 = true) (hsz : 1 < a.size) (hz : a[0].toNat ≠ 48) (hB : digsB b 4 = true) (hA' : allDig a = true) (hAs : a.size ≤ 15) (hBs : b.size ≤ 4) (fr : ByteArray) (hfr : (b ++ ⟨#[48, 48, 48, 48]⟩).extract 0 4 = fr) (hfd : allDig fr = true) (hfs : fr.size ≤ 4) (hq : cnt a.data.toList < 1000000000000000) (hq2 : cnt fr.data.toList < 10000) (hp : (cnt a.data.toList : Int) * 10000 + (cnt fr.data.toList : Int) ≤ 9223372036854775807) (hp0 : 0 < (cnt a.data.toList : Int) * 10000 + (cnt fr.data.toList : Int)) : Calls Tryz.prog 126 #[.string s] w fun e w' => e = .returned (.tuple #[.int .i64 (-((cnt a.data.toList : Int) * 10000 + (cnt fr.data.toList : Int))), .bool true]) ∧ ∃ n, w' = w.drewN n := by
 have h1' : (1 : Int) ≤ s.size := by omega
 have hsz' : (1 : Int) < a.size := by omega
 go_enter Tryz.func126, Tryz.ntmps126
 go_wp2_with (first | (go_at_call 49; refine (hpre _).mono ?_; rintro e w' ⟨rfl, rfl⟩) | (go_at_call 161; refine (hcut _).mono ?_; rintro e w' ⟨rfl, n, rfl⟩) | (go_at_call 163; refine (isDigits_any _ _ _ zq15).mono ?_; rintro e w' ⟨rfl, rfl⟩))
 go_quiet ((go_at_call 164; exact quiet_plus (count_any _ _ zq17 zq15)))
 go_wp2_with (go_at_call 165; refine (signed_neg _ _ zq17 zq17).mono ?_; rintro e w' ⟨rfl, rfl⟩)
 go_ret2
 exact ⟨rfl, n + nq, rfl⟩
theorem parse_g1fbig_n (s d a b : ByteArray) (w : World) (h1 : 1 ≤ s.size) (hd : s.extract 1 s.size = d) (hpre : PreIs s true) (hcut : CutIs d a b false) (hsA : a.size ≤ maxLen) (hsB : b.size ≤ maxLen) (hA : digsB a 15 = true) (hsz : 1 < a.size) (hz : a[0].toNat ≠ 48)  (hA' : allDig a = true) (hAs : a.size ≤ 15) (hBs : b.size ≤ 4) (fr : ByteArray) (hfr : (b ++ ⟨#[48, 48, 48, 48]⟩).extract 0 4 = fr) (hfd : allDig fr = true) (hfs : fr.size ≤ 4) (hq : cnt a.data.toList < 1000000000000000) (hq2 : cnt fr.data.toList < 10000) (hp : 9223372036854775807 < (cnt a.data.toList : Int) * 10000 + (cnt fr.data.toList : Int)) : Calls Tryz.prog 126 #[.string s] w fun e w' => e = .returned (.tuple #[.int .i64 0, .bool false]) ∧ ∃ n, w' = w.drewN n := by
 have h1' : (1 : Int) ≤ s.size := by omega
 have hsz' : (1 : Int) < a.size := by omega
 go_enter Tryz.func126, Tryz.ntmps126
 go_wp2_with (first | (go_at_call 49; refine (hpre _).mono ?_; rintro e w' ⟨rfl, rfl⟩) | (go_at_call 161; refine (hcut _).mono ?_; rintro e w' ⟨rfl, n, rfl⟩) | (go_at_call 163; refine (isDigits_any _ _ _ zq15).mono ?_; rintro e w' ⟨rfl, rfl⟩))
 go_quiet ((go_at_call 164; exact quiet_plus (count_any _ _ zq17 zq15)))
 go_wp2_with (go_at_call 165; refine (signed_big _ _ _ zq17).mono ?_; rintro e w' ⟨rfl, rfl⟩)
 go_ret2
 exact ⟨rfl, n + nq, rfl⟩
theorem parse_g1fzero_n (s d a b : ByteArray) (w : World) (h1 : 1 ≤ s.size) (hd : s.extract 1 s.size = d) (hpre : PreIs s true) (hcut : CutIs d a b false) (hsA : a.size ≤ maxLen) (hsB : b.size ≤ maxLen) (hA : digsB a 15 = true) (hsz : 1 < a.size) (hz : a[0].toNat ≠ 48)  (hA' : allDig a = true) (hAs : a.size ≤ 15) (hBs : b.size ≤ 4) (fr : ByteArray) (hfr : (b ++ ⟨#[48, 48, 48, 48]⟩).extract 0 4 = fr) (hfd : allDig fr = true) (hfs : fr.size ≤ 4) (hq : cnt a.data.toList < 1000000000000000) (hq2 : cnt fr.data.toList < 10000) (hp : (cnt a.data.toList : Int) * 10000 + (cnt fr.data.toList : Int) = 0) : Calls Tryz.prog 126 #[.string s] w fun e w' => e = .returned (.tuple #[.int .i64 0, .bool false]) ∧ ∃ n, w' = w.drewN n := by
 have h1' : (1 : Int) ≤ s.size := by omega
 have hsz' : (1 : Int) < a.size := by omega
 go_enter Tryz.func126, Tryz.ntmps126
 go_wp2_with (first | (go_at_call 49; refine (hpre _).mono ?_; rintro e w' ⟨rfl, rfl⟩) | (go_at_call 161; refine (hcut _).mono ?_; rintro e w' ⟨rfl, n, rfl⟩) | (go_at_call 163; refine (isDigits_any _ _ _ zq15).mono ?_; rintro e w' ⟨rfl, rfl⟩))
 go_quiet ((go_at_call 164; exact quiet_plus (count_any _ _ zq17 zq15)))
 go_wp2_with (go_at_call 165; refine (signed_neg _ _ zq17 zq17).mono ?_; rintro e w' ⟨rfl, rfl⟩)
 go_ret2
 exact ⟨rfl, n + nq, rfl⟩
theorem parse_g1fok_n (s d a b : ByteArray) (w : World) (h1 : 1 ≤ s.size) (hd : s.extract 1 s.size = d) (hpre : PreIs s true) (hcut : CutIs d a b false) (hsA : a.size ≤ maxLen) (hsB : b.size ≤ maxLen) (hA : digsB a 15 = true) (hsz : 1 < a.size) (hz : a[0].toNat ≠ 48)  (hA' : allDig a = true) (hAs : a.size ≤ 15) (hBs : b.size ≤ 4) (fr : ByteArray) (hfr : (b ++ ⟨#[48, 48, 48, 48]⟩).extract 0 4 = fr) (hfd : allDig fr = true) (hfs : fr.size ≤ 4) (hq : cnt a.data.toList < 1000000000000000) (hq2 : cnt fr.data.toList < 10000) (hp : (cnt a.data.toList : Int) * 10000 + (cnt fr.data.toList : Int) ≤ 9223372036854775807) (hp0 : 0 < (cnt a.data.toList : Int) * 10000 + (cnt fr.data.toList : Int)) : Calls Tryz.prog 126 #[.string s] w fun e w' => e = .returned (.tuple #[.int .i64 (-((cnt a.data.toList : Int) * 10000 + (cnt fr.data.toList : Int))), .bool true]) ∧ ∃ n, w' = w.drewN n := by
 have h1' : (1 : Int) ≤ s.size := by omega
 have hsz' : (1 : Int) < a.size := by omega
 go_enter Tryz.func126, Tryz.ntmps126
 go_wp2_with (first | (go_at_call 49; refine (hpre _).mono ?_; rintro e w' ⟨rfl, rfl⟩) | (go_at_call 161; refine (hcut _).mono ?_; rintro e w' ⟨rfl, n, rfl⟩) | (go_at_call 163; refine (isDigits_any _ _ _ zq15).mono ?_; rintro e w' ⟨rfl, rfl⟩))
 go_quiet ((go_at_call 164; exact quiet_plus (count_any _ _ zq17 zq15)))
 go_wp2_with (go_at_call 165; refine (signed_neg _ _ zq17 zq17).mono ?_; rintro e w' ⟨rfl, rfl⟩)
 go_ret2
 exact ⟨rfl, n + nq, rfl⟩
end Go.Proofs.YtcmjhjnpcogmgaaGreatDoor.Dc
namespace Go.Proofs.YtcmjhjnpcogmgaaGreatDoor.Dc
open Go.Shelf Go.RowKit
set_option linter.unusedVariables false
def lead0 (a : ByteArray) : Bool := if h : 1 < a.size then a[0].toNat == 48 else false
def fracB (d : ByteArray) : ByteArray := (cutB d ++ ⟨#[48, 48, 48, 48]⟩).extract 0 4
def partsN (d : ByteArray) : Nat := cnt (cutA d).data.toList * 10000 + cnt (fracB d).data.toList
def numOk (d : ByteArray) : Bool := digsB (cutA d) 15 && !lead0 (cutA d) && (!cutF d || digsB (cutB d) 4)
def dgS (s : ByteArray) : ByteArray := if negS s then s.extract 1 s.size else s
def parseOk (s : ByteArray) : Bool := numOk (dgS s) && decide (partsN (dgS s) ≤ 9223372036854775807) && !(negS s && decide (partsN (dgS s) = 0))
def parseV (s : ByteArray) : Int := if parseOk s then (if negS s then -(partsN (dgS s) : Int) else partsN (dgS s)) else 0
theorem digsB_t {s : ByteArray} {m : Int} (h : digsB s m = true) : 1 ≤ s.size ∧ (s.size : Int) ≤ m ∧ allDig s = true := by
 simp only [digsB, Bool.and_eq_true, decide_eq_true_eq] at h
 exact ⟨h.1.1, h.1.2, h.2⟩
theorem cutB_none {d : ByteArray} (h : cutF d = false) : cutB d = ⟨#[]⟩ := by
 unfold cutF at h; unfold cutB; rw [if_neg (by simpa using h)]
theorem frac_list (d : ByteArray) : (fracB d).data.toList = ((cutB d).data.toList ++ [48, 48, 48, 48]).take 4 := by
 unfold fracB
 rw [ByteArray.data_extract, Array.toList_extract, List.extract_eq_take_drop, ByteArray.data_append, Array.toList_append]
 simp
theorem frac_dig {d : ByteArray} (h : cutF d = false ∨ allDig (cutB d) = true) : allDig (fracB d) = true := by
 have hb : (cutB d).data.toList.all isDig = true := by
  rcases h with h | h
  ·rw [cutB_none h]; rfl
  ·exact h
 unfold allDig
 rw [frac_list, List.all_eq_true]
 intro x hx
 have hx := List.mem_of_mem_take hx
 rw [List.mem_append] at hx
 rcases hx with hx | hx
 ·exact List.all_eq_true.1 hb x hx
 ·have : x = 48 := by simpa using hx
  subst this; decide
theorem size_list (d : ByteArray) : d.data.toList.length = d.size := rfl
theorem frac_len (d : ByteArray) : (fracB d).size ≤ 4 := by
 rw [← size_list, frac_list, List.length_take]; omega
theorem cnt_le15 {a : ByteArray} (h : allDig a = true) (hs : a.size ≤ 15) : cnt a.data.toList < 1000000000000000 := by
 have h1 := cnt_lt a.data.toList h
 have h3 := Nat.pow_le_pow_right (n := 10) zq16 (show a.data.toList.length ≤ 15 from hs)
 exact Nat.lt_of_lt_of_le h1 h3
theorem cnt_le4 {a : ByteArray} (h : allDig a = true) (hs : a.size ≤ 4) : cnt a.data.toList < 10000 := by
 have h1 := cnt_lt a.data.toList h
 have h3 := Nat.pow_le_pow_right (n := 10) zq16 (show a.data.toList.length ≤ 4 from hs)
 exact Nat.lt_of_lt_of_le h1 h3
theorem neg_size {s : ByteArray} (h : negS s = true) : 1 ≤ s.size := by
 unfold negS Lib.hasPrefix at h
 rw [← size_list]
 cases hl : s.data.toList with
 | nil => rw [hl] at h; cases h
 | cons x l => simp
theorem preIs (s : ByteArray) {f : Bool} (h : negS s = f) : PreIs s f := by
 subst h; exact fun w => hasPre s w
theorem cutIs (d : ByteArray) {f : Bool} (hs : d.size ≤ maxLen) (h : cutF d = f) : CutIs d (cutA d) (cutB d) f := by
 subst h; exact fun w => cut_any d hs w
theorem parse_bad {s : ByteArray} {w : World} (h : parseOk s = false) (c : Calls Tryz.prog 126 #[.string s] w fun e w' => e = .returned (.tuple #[.int .i64 0, .bool false]) ∧ ∃ n, w' = w.drewN n) :
  Calls Tryz.prog 126 #[.string s] w fun e w' => e = .returned (.tuple #[.int .i64 (parseV s), .bool (parseOk s)]) ∧ ∃ n, w' = w.drewN n := by
 have e : parseV s = 0 := by unfold parseV; rw [h]; rfl
 rw [h, e]; exact c
theorem parse_good {s : ByteArray} {w : World} {x : Int} (h : parseOk s = true) (hx : x = if negS s then -(partsN (dgS s) : Int) else partsN (dgS s)) (c : Calls Tryz.prog 126 #[.string s] w fun e w' => e = .returned (.tuple #[.int .i64 x, .bool true]) ∧ ∃ n, w' = w.drewN n) :
  Calls Tryz.prog 126 #[.string s] w fun e w' => e = .returned (.tuple #[.int .i64 (parseV s), .bool (parseOk s)]) ∧ ∃ n, w' = w.drewN n := by
 have e : parseV s = x := by unfold parseV; rw [h, hx]; rfl
 rw [h, e]; exact c
theorem lead_t {a : ByteArray} (h : 1 < a.size) (h' : a[0].toNat = 48) : lead0 a = true := by unfold lead0; rw [dif_pos h]; simp [h']
theorem lead_f {a : ByteArray} (h : 1 < a.size) (h' : a[0].toNat ≠ 48) : lead0 a = false := by unfold lead0; rw [dif_pos h]; simp [h']
theorem lead_s {a : ByteArray} (h : ¬ 1 < a.size) : lead0 a = false := by unfold lead0; rw [dif_neg h]
theorem num_bad {s : ByteArray} (h : numOk (dgS s) = false) : parseOk s = false := by unfold parseOk; rw [h]; rfl
theorem parse_any (s : ByteArray) (w : World) (hs : s.size ≤ maxLen) : Calls Tryz.prog 126 #[.string s] w fun e w' => e = .returned (.tuple #[.int .i64 (parseV s), .bool (parseOk s)]) ∧ ∃ n, w' = w.drewN n := by
 cases hn : negS s with
 | false =>
  have hp := preIs s hn
  have hdg : dgS s = s := by unfold dgS; rw [hn]; rfl
  have hA := Nat.le_trans (cutA_le s) hs
  have hB := Nat.le_trans (cutB_le s) hs
  cases hdA : digsB (cutA s) 15 with
  | false =>
   cases hF : cutF s with
   | false => exact parse_bad (num_bad (by rw [hdg]; unfold numOk; rw [hdA]; simp)) (parse_w1f0_p s (cutA s) (cutB s) w hp (cutIs s hs hF) hA hB hdA)
   | true => exact parse_bad (num_bad (by rw [hdg]; unfold numOk; rw [hdA]; simp)) (parse_w1f1_p s (cutA s) (cutB s) w hp (cutIs s hs hF) hA hB hdA)
  | true =>
   obtain ⟨_, hA15, hAd⟩ := digsB_t hdA
   have hA15' : (cutA s).size ≤ 15 := by omega
   have hq := cnt_le15 hAd hA15'
   by_cases hsz : 1 < (cutA s).size
   ·by_cases hz : (cutA s)[0].toNat = 48
    ·cases hF : cutF s with
     | false => exact parse_bad (num_bad (by rw [hdg]; unfold numOk; rw [hdA, lead_t hsz hz]; simp)) (parse_w2f0_p s (cutA s) (cutB s) w hp (cutIs s hs hF) hA hB hdA hsz hz)
     | true => exact parse_bad (num_bad (by rw [hdg]; unfold numOk; rw [hdA, lead_t hsz hz]; simp)) (parse_w2f1_p s (cutA s) (cutB s) w hp (cutIs s hs hF) hA hB hdA hsz hz)
    ·cases hF : cutF s with
     | false =>
      have hB4 : (cutB s).size ≤ 4 := by rw [cutB_none hF]; exact Nat.zero_le _
      have hfd := frac_dig (d := s) (.inl hF)
      have hq2 := cnt_le4 hfd (frac_len s)
      have hnum : numOk s = true := by unfold numOk; rw [hdA, lead_f hsz hz, hF]; rfl
      have hP : (partsN s : Int) = (cnt (cutA s).data.toList : Int) * 10000 + (cnt (fracB s).data.toList : Int) := by unfold partsN; omega
      by_cases hbig : 9223372036854775807 < (cnt (cutA s).data.toList : Int) * 10000 + (cnt (fracB s).data.toList : Int)
      ·exact parse_bad (by unfold parseOk; rw [hdg, hnum]; simp; omega) (parse_g1fbig_p s (cutA s) (cutB s) w hp (cutIs s hs hF) hA hB hdA hsz hz hAd hA15' hB4 (fracB s) rfl hfd (frac_len s) hq hq2 hbig)
      exact parse_good (by unfold parseOk; rw [hdg, hnum, hn]; simp; omega) (by rw [hdg, hn, ← hP]; rfl) (parse_g1fok_p s (cutA s) (cutB s) w hp (cutIs s hs hF) hA hB hdA hsz hz hAd hA15' hB4 (fracB s) rfl hfd (frac_len s) hq hq2 zq17)
     | true =>
      cases hdB : digsB (cutB s) 4 with
      | false => exact parse_bad (num_bad (by rw [hdg]; unfold numOk; rw [hdA, hF, hdB]; simp)) (parse_w3b_p s (cutA s) (cutB s) w hp (cutIs s hs hF) hA hB hdA hsz hz hdB)
      | true =>
       obtain ⟨_, hB4', hBd⟩ := digsB_t hdB
       have hB4 : (cutB s).size ≤ 4 := by omega
       have hfd := frac_dig (d := s) (.inr hBd)
       have hq2 := cnt_le4 hfd (frac_len s)
       have hnum : numOk s = true := by unfold numOk; rw [hdA, lead_f hsz hz, hF, hdB]; rfl
       have hP : (partsN s : Int) = (cnt (cutA s).data.toList : Int) * 10000 + (cnt (fracB s).data.toList : Int) := by unfold partsN; omega
       by_cases hbig : 9223372036854775807 < (cnt (cutA s).data.toList : Int) * 10000 + (cnt (fracB s).data.toList : Int)
       ·exact parse_bad (by unfold parseOk; rw [hdg, hnum]; simp; omega) (parse_g1tbig_p s (cutA s) (cutB s) w hp (cutIs s hs hF) hA hB hdA hsz hz hdB hAd hA15' hB4 (fracB s) rfl hfd (frac_len s) hq hq2 hbig)
       exact parse_good (by unfold parseOk; rw [hdg, hnum, hn]; simp; omega) (by rw [hdg, hn, ← hP]; rfl) (parse_g1tok_p s (cutA s) (cutB s) w hp (cutIs s hs hF) hA hB hdA hsz hz hdB hAd hA15' hB4 (fracB s) rfl hfd (frac_len s) hq hq2 zq17)
   ·cases hF : cutF s with
    | false =>
     have hB4 : (cutB s).size ≤ 4 := by rw [cutB_none hF]; exact Nat.zero_le _
     have hfd := frac_dig (d := s) (.inl hF)
     have hq2 := cnt_le4 hfd (frac_len s)
     have hnum : numOk s = true := by unfold numOk; rw [hdA, lead_s hsz, hF]; rfl
     have hP : (partsN s : Int) = (cnt (cutA s).data.toList : Int) * 10000 + (cnt (fracB s).data.toList : Int) := by unfold partsN; omega
     by_cases hbig : 9223372036854775807 < (cnt (cutA s).data.toList : Int) * 10000 + (cnt (fracB s).data.toList : Int)
     ·exact parse_bad (by unfold parseOk; rw [hdg, hnum]; simp; omega) (parse_g0fbig_p s (cutA s) (cutB s) w hp (cutIs s hs hF) hA hB hdA hsz hAd hA15' hB4 (fracB s) rfl hfd (frac_len s) hq hq2 hbig)
     exact parse_good (by unfold parseOk; rw [hdg, hnum, hn]; simp; omega) (by rw [hdg, hn, ← hP]; rfl) (parse_g0fok_p s (cutA s) (cutB s) w hp (cutIs s hs hF) hA hB hdA hsz hAd hA15' hB4 (fracB s) rfl hfd (frac_len s) hq hq2 zq17)
    | true =>
     cases hdB : digsB (cutB s) 4 with
     | false => exact parse_bad (num_bad (by rw [hdg]; unfold numOk; rw [hdA, hF, hdB]; simp)) (parse_w3a_p s (cutA s) (cutB s) w hp (cutIs s hs hF) hA hB hdA hsz hdB)
     | true =>
      obtain ⟨_, hB4', hBd⟩ := digsB_t hdB
      have hB4 : (cutB s).size ≤ 4 := by omega
      have hfd := frac_dig (d := s) (.inr hBd)
      have hq2 := cnt_le4 hfd (frac_len s)
      have hnum : numOk s = true := by unfold numOk; rw [hdA, lead_s hsz, hF, hdB]; rfl
      have hP : (partsN s : Int) = (cnt (cutA s).data.toList : Int) * 10000 + (cnt (fracB s).data.toList : Int) := by unfold partsN; omega
      by_cases hbig : 9223372036854775807 < (cnt (cutA s).data.toList : Int) * 10000 + (cnt (fracB s).data.toList : Int)
      ·exact parse_bad (by unfold parseOk; rw [hdg, hnum]; simp; omega) (parse_g0tbig_p s (cutA s) (cutB s) w hp (cutIs s hs hF) hA hB hdA hsz hdB hAd hA15' hB4 (fracB s) rfl hfd (frac_len s) hq hq2 hbig)
      exact parse_good (by unfold parseOk; rw [hdg, hnum, hn]; simp; omega) (by rw [hdg, hn, ← hP]; rfl) (parse_g0tok_p s (cutA s) (cutB s) w hp (cutIs s hs hF) hA hB hdA hsz hdB hAd hA15' hB4 (fracB s) rfl hfd (frac_len s) hq hq2 zq17)
 | true =>
  have hp := preIs s hn
  have h1 := neg_size hn
  have hdg : dgS s = s.extract 1 s.size := by unfold dgS; rw [hn]; rfl
  generalize hd : s.extract 1 s.size = d at *
  have hds : d.size ≤ maxLen := by rw [← hd]; exact Nat.le_trans (extract_le _ _ _) hs
  have hA := Nat.le_trans (cutA_le d) hds
  have hB := Nat.le_trans (cutB_le d) hds
  cases hdA : digsB (cutA d) 15 with
  | false =>
   cases hF : cutF d with
   | false => exact parse_bad (num_bad (by rw [hdg]; unfold numOk; rw [hdA]; simp)) (parse_w1f0_n s d (cutA d) (cutB d) w h1 hd hp (cutIs d hds hF) hA hB hdA)
   | true => exact parse_bad (num_bad (by rw [hdg]; unfold numOk; rw [hdA]; simp)) (parse_w1f1_n s d (cutA d) (cutB d) w h1 hd hp (cutIs d hds hF) hA hB hdA)
  | true =>
   obtain ⟨_, hA15, hAd⟩ := digsB_t hdA
   have hA15' : (cutA d).size ≤ 15 := by omega
   have hq := cnt_le15 hAd hA15'
   by_cases hsz : 1 < (cutA d).size
   ·by_cases hz : (cutA d)[0].toNat = 48
    ·cases hF : cutF d with
     | false => exact parse_bad (num_bad (by rw [hdg]; unfold numOk; rw [hdA, lead_t hsz hz]; simp)) (parse_w2f0_n s d (cutA d) (cutB d) w h1 hd hp (cutIs d hds hF) hA hB hdA hsz hz)
     | true => exact parse_bad (num_bad (by rw [hdg]; unfold numOk; rw [hdA, lead_t hsz hz]; simp)) (parse_w2f1_n s d (cutA d) (cutB d) w h1 hd hp (cutIs d hds hF) hA hB hdA hsz hz)
    ·cases hF : cutF d with
     | false =>
      have hB4 : (cutB d).size ≤ 4 := by rw [cutB_none hF]; exact Nat.zero_le _
      have hfd := frac_dig (d := d) (.inl hF)
      have hq2 := cnt_le4 hfd (frac_len d)
      have hnum : numOk d = true := by unfold numOk; rw [hdA, lead_f hsz hz, hF]; rfl
      have hP : (partsN d : Int) = (cnt (cutA d).data.toList : Int) * 10000 + (cnt (fracB d).data.toList : Int) := by unfold partsN; omega
      by_cases hbig : 9223372036854775807 < (cnt (cutA d).data.toList : Int) * 10000 + (cnt (fracB d).data.toList : Int)
      ·exact parse_bad (by unfold parseOk; rw [hdg, hnum]; simp; omega) (parse_g1fbig_n s d (cutA d) (cutB d) w h1 hd hp (cutIs d hds hF) hA hB hdA hsz hz hAd hA15' hB4 (fracB d) rfl hfd (frac_len d) hq hq2 hbig)
      by_cases hz0 : (cnt (cutA d).data.toList : Int) * 10000 + (cnt (fracB d).data.toList : Int) = 0
      ·exact parse_bad (by unfold parseOk; rw [hdg, hnum, hn]; simp; omega) (parse_g1fzero_n s d (cutA d) (cutB d) w h1 hd hp (cutIs d hds hF) hA hB hdA hsz hz hAd hA15' hB4 (fracB d) rfl hfd (frac_len d) hq hq2 hz0)
      ·exact parse_good (by unfold parseOk; rw [hdg, hnum, hn]; simp; omega) (by rw [hdg, hn, ← hP]; rfl) (parse_g1fok_n s d (cutA d) (cutB d) w h1 hd hp (cutIs d hds hF) hA hB hdA hsz hz hAd hA15' hB4 (fracB d) rfl hfd (frac_len d) hq hq2 zq17 zq17)
     | true =>
      cases hdB : digsB (cutB d) 4 with
      | false => exact parse_bad (num_bad (by rw [hdg]; unfold numOk; rw [hdA, hF, hdB]; simp)) (parse_w3b_n s d (cutA d) (cutB d) w h1 hd hp (cutIs d hds hF) hA hB hdA hsz hz hdB)
      | true =>
       obtain ⟨_, hB4', hBd⟩ := digsB_t hdB
       have hB4 : (cutB d).size ≤ 4 := by omega
       have hfd := frac_dig (d := d) (.inr hBd)
       have hq2 := cnt_le4 hfd (frac_len d)
       have hnum : numOk d = true := by unfold numOk; rw [hdA, lead_f hsz hz, hF, hdB]; rfl
       have hP : (partsN d : Int) = (cnt (cutA d).data.toList : Int) * 10000 + (cnt (fracB d).data.toList : Int) := by unfold partsN; omega
       by_cases hbig : 9223372036854775807 < (cnt (cutA d).data.toList : Int) * 10000 + (cnt (fracB d).data.toList : Int)
       ·exact parse_bad (by unfold parseOk; rw [hdg, hnum]; simp; omega) (parse_g1tbig_n s d (cutA d) (cutB d) w h1 hd hp (cutIs d hds hF) hA hB hdA hsz hz hdB hAd hA15' hB4 (fracB d) rfl hfd (frac_len d) hq hq2 hbig)
       by_cases hz0 : (cnt (cutA d).data.toList : Int) * 10000 + (cnt (fracB d).data.toList : Int) = 0
       ·exact parse_bad (by unfold parseOk; rw [hdg, hnum, hn]; simp; omega) (parse_g1tzero_n s d (cutA d) (cutB d) w h1 hd hp (cutIs d hds hF) hA hB hdA hsz hz hdB hAd hA15' hB4 (fracB d) rfl hfd (frac_len d) hq hq2 hz0)
       ·exact parse_good (by unfold parseOk; rw [hdg, hnum, hn]; simp; omega) (by rw [hdg, hn, ← hP]; rfl) (parse_g1tok_n s d (cutA d) (cutB d) w h1 hd hp (cutIs d hds hF) hA hB hdA hsz hz hdB hAd hA15' hB4 (fracB d) rfl hfd (frac_len d) hq hq2 zq17 zq17)
   ·cases hF : cutF d with
    | false =>
     have hB4 : (cutB d).size ≤ 4 := by rw [cutB_none hF]; exact Nat.zero_le _
     have hfd := frac_dig (d := d) (.inl hF)
     have hq2 := cnt_le4 hfd (frac_len d)
     have hnum : numOk d = true := by unfold numOk; rw [hdA, lead_s hsz, hF]; rfl
     have hP : (partsN d : Int) = (cnt (cutA d).data.toList : Int) * 10000 + (cnt (fracB d).data.toList : Int) := by unfold partsN; omega
     by_cases hbig : 9223372036854775807 < (cnt (cutA d).data.toList : Int) * 10000 + (cnt (fracB d).data.toList : Int)
     ·exact parse_bad (by unfold parseOk; rw [hdg, hnum]; simp; omega) (parse_g0fbig_n s d (cutA d) (cutB d) w h1 hd hp (cutIs d hds hF) hA hB hdA hsz hAd hA15' hB4 (fracB d) rfl hfd (frac_len d) hq hq2 hbig)
     by_cases hz0 : (cnt (cutA d).data.toList : Int) * 10000 + (cnt (fracB d).data.toList : Int) = 0
     ·exact parse_bad (by unfold parseOk; rw [hdg, hnum, hn]; simp; omega) (parse_g0fzero_n s d (cutA d) (cutB d) w h1 hd hp (cutIs d hds hF) hA hB hdA hsz hAd hA15' hB4 (fracB d) rfl hfd (frac_len d) hq hq2 hz0)
     ·exact parse_good (by unfold parseOk; rw [hdg, hnum, hn]; simp; omega) (by rw [hdg, hn, ← hP]; rfl) (parse_g0fok_n s d (cutA d) (cutB d) w h1 hd hp (cutIs d hds hF) hA hB hdA hsz hAd hA15' hB4 (fracB d) rfl hfd (frac_len d) hq hq2 zq17 zq17)
    | true =>
     cases hdB : digsB (cutB d) 4 with
     | false => exact parse_bad (num_bad (by rw [hdg]; unfold numOk; rw [hdA, hF, hdB]; simp)) (parse_w3a_n s d (cutA d) (cutB d) w h1 hd hp (cutIs d hds hF) hA hB hdA hsz hdB)
     | true =>
      obtain ⟨_, hB4', hBd⟩ := digsB_t hdB
      have hB4 : (cutB d).size ≤ 4 := by omega
      have hfd := frac_dig (d := d) (.inr hBd)
      have hq2 := cnt_le4 hfd (frac_len d)
      have hnum : numOk d = true := by unfold numOk; rw [hdA, lead_s hsz, hF, hdB]; rfl
      have hP : (partsN d : Int) = (cnt (cutA d).data.toList : Int) * 10000 + (cnt (fracB d).data.toList : Int) := by unfold partsN; omega
      by_cases hbig : 9223372036854775807 < (cnt (cutA d).data.toList : Int) * 10000 + (cnt (fracB d).data.toList : Int)
      ·exact parse_bad (by unfold parseOk; rw [hdg, hnum]; simp; omega) (parse_g0tbig_n s d (cutA d) (cutB d) w h1 hd hp (cutIs d hds hF) hA hB hdA hsz hdB hAd hA15' hB4 (fracB d) rfl hfd (frac_len d) hq hq2 hbig)
      by_cases hz0 : (cnt (cutA d).data.toList : Int) * 10000 + (cnt (fracB d).data.toList : Int) = 0
      ·exact parse_bad (by unfold parseOk; rw [hdg, hnum, hn]; simp; omega) (parse_g0tzero_n s d (cutA d) (cutB d) w h1 hd hp (cutIs d hds hF) hA hB hdA hsz hdB hAd hA15' hB4 (fracB d) rfl hfd (frac_len d) hq hq2 hz0)
      ·exact parse_good (by unfold parseOk; rw [hdg, hnum, hn]; simp; omega) (by rw [hdg, hn, ← hP]; rfl) (parse_g0tok_n s d (cutA d) (cutB d) w h1 hd hp (cutIs d hds hF) hA hB hdA hsz hdB hAd hA15' hB4 (fracB d) rfl hfd (frac_len d) hq hq2 zq17 zq17)
end Go.Proofs.YtcmjhjnpcogmgaaGreatDoor.Dc
