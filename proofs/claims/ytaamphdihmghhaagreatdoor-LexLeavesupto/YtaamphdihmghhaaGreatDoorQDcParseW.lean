/- The contract of dec.Parse, for every text: the number that it tells, where it tells one; nothing is written (orders are drawn). -/
import Derived.Test.YtaamphdihmghhaaGreatDoorQDcDigitsDcCut
import Derived.Test.YtaamphdihmghhaaGreatDoorQDcSums
namespace Go.Proofs.YtaamphdihmghhaaGreatDoor.Dc
open Go.Shelf Go.RowKit
set_option linter.unusedVariables false
/-- Behind the sign: whether it is there. -/
def negS (s : ByteArray) : Bool := Lib.hasPrefix s.data.toList [45]
theorem hasPre (s : ByteArray) (w : World) : Calls Tryz.prog 12 #[.string s, .string ⟨#[45]⟩] w fun e w' => e = .returned (.bool (negS s)) ∧ w' = w :=
  Any.strings_HasPrefix Tryz.lays99 s ⟨#[45]⟩ w
theorem extract_le (s : ByteArray) (a b : Nat) : (s.extract a b).size ≤ s.size := by rw [ByteArray.size_extract]; omega
theorem cutA_le (d : ByteArray) : (cutA d).size ≤ d.size := by
  unfold cutA; split
  · exact extract_le _ _ _
  · exact Nat.le_refl _
theorem cutB_le (d : ByteArray) : (cutB d).size ≤ d.size := by
  unfold cutB; split
  · exact extract_le _ _ _
  · exact Nat.zero_le _

theorem signed_big (n : Int) (b : Bool) (w : World) (h : 9223372036854775807 < n) : Calls Tryz.prog 70 #[.int .u64 n, .bool b] w fun e w' => e = .returned (.tuple #[.int .i64 0, .int .i64 2]) ∧ w' = w := by
  go_enter Tryz.func70, Tryz.ntmps70
  go_wp2
  go_ret2
  exact ⟨rfl, rfl⟩
theorem signed_pos (n : Int) (w : World) (h0 : 0 ≤ n) (h : n ≤ 9223372036854775807) : Calls Tryz.prog 70 #[.int .u64 n, .bool false] w fun e w' => e = .returned (.tuple #[.int .i64 n, .int .i64 0]) ∧ w' = w := by
  go_enter Tryz.func70, Tryz.ntmps70
  go_wp2
  go_ret2
  exact ⟨rfl, rfl⟩
theorem signed_neg (n : Int) (w : World) (h0 : 0 ≤ n) (h : n ≤ 9223372036854775807) : Calls Tryz.prog 70 #[.int .u64 n, .bool true] w fun e w' => e = .returned (.tuple #[.int .i64 (-n), .int .i64 0]) ∧ w' = w := by
  go_enter Tryz.func70, Tryz.ntmps70
  go_wp2
  go_ret2
  exact ⟨rfl, rfl⟩

theorem quiet_plus {P : Program} {f : FuncId} {args : Array Value} {w : World} {n x : Nat} {v : Value} (h : Calls P f args (w.drewN (n + x)) fun e w' => e = .returned v ∧ w' = w.drewN (n + x)) :
    Calls P f args (w.drewN (n + x)) fun e w'' => e = .returned v ∧ ∃ m, w'' = w.drewN (n + m) := h.mono fun _ _ ⟨he, hm⟩ => ⟨he, x, hm⟩
/-- What Cut answers at a text. -/
def CutIs (d a b : ByteArray) (f : Bool) : Prop := ∀ w, Calls Tryz.prog 66 #[.string d, .string ⟨#[46]⟩] w fun e w' => e = .returned (.tuple #[.string a, .string b, .bool f]) ∧ ∃ n, w' = w.drewN n
/-- What HasPrefix answers at a text. -/
def PreIs (s : ByteArray) (f : Bool) : Prop := ∀ w, Calls Tryz.prog 12 #[.string s, .string ⟨#[45]⟩] w fun e w' => e = .returned (.bool f) ∧ w' = w
theorem parse_w1f1_p (s a b : ByteArray) (w : World) (hpre : PreIs s false) (hcut : CutIs s a b true) (hsA : a.size ≤ maxLen) (hsB : b.size ≤ maxLen) (hA : digsB a 15 = false) : Calls Tryz.prog 48 #[.string s] w fun e w' => e = .returned (.tuple #[.int .i64 0, .bool false]) ∧ ∃ n, w' = w.drewN n := by
  go_enter Tryz.func48, Tryz.ntmps48
  go_wp2_with (first | (go_at_call 12; refine (hpre _).mono ?_; rintro e w' ⟨rfl, rfl⟩) | (go_at_call 66; refine (hcut _).mono ?_; rintro e w' ⟨rfl, n, rfl⟩) | (go_at_call 68; refine (isDigits_any _ _ _ (by assumption)).mono ?_; rintro e w' ⟨rfl, rfl⟩))
  go_ret2
  exact ⟨rfl, n, rfl⟩
set_option maxRecDepth 10000 in
theorem parse_w2f1_p (s a b : ByteArray) (w : World) (hpre : PreIs s false) (hcut : CutIs s a b true) (hsA : a.size ≤ maxLen) (hsB : b.size ≤ maxLen) (hA : digsB a 15 = true) (hsz : 1 < a.size) (hz : a[0].toNat = 48) : Calls Tryz.prog 48 #[.string s] w fun e w' => e = .returned (.tuple #[.int .i64 0, .bool false]) ∧ ∃ n, w' = w.drewN n := by
  have hsz' : (1 : Int) < a.size := by omega
  go_enter Tryz.func48, Tryz.ntmps48
  go_wp2_with (first | (go_at_call 12; refine (hpre _).mono ?_; rintro e w' ⟨rfl, rfl⟩) | (go_at_call 66; refine (hcut _).mono ?_; rintro e w' ⟨rfl, n, rfl⟩) | (go_at_call 68; refine (isDigits_any _ _ _ (by assumption)).mono ?_; rintro e w' ⟨rfl, rfl⟩))
  go_ret2
  exact ⟨rfl, n, rfl⟩
theorem parse_w1f0_p (s a b : ByteArray) (w : World) (hpre : PreIs s false) (hcut : CutIs s a b false) (hsA : a.size ≤ maxLen) (hsB : b.size ≤ maxLen) (hA : digsB a 15 = false) : Calls Tryz.prog 48 #[.string s] w fun e w' => e = .returned (.tuple #[.int .i64 0, .bool false]) ∧ ∃ n, w' = w.drewN n := by
  go_enter Tryz.func48, Tryz.ntmps48
  go_wp2_with (first | (go_at_call 12; refine (hpre _).mono ?_; rintro e w' ⟨rfl, rfl⟩) | (go_at_call 66; refine (hcut _).mono ?_; rintro e w' ⟨rfl, n, rfl⟩) | (go_at_call 68; refine (isDigits_any _ _ _ (by assumption)).mono ?_; rintro e w' ⟨rfl, rfl⟩))
  go_ret2
  exact ⟨rfl, n, rfl⟩
set_option maxRecDepth 10000 in
theorem parse_w2f0_p (s a b : ByteArray) (w : World) (hpre : PreIs s false) (hcut : CutIs s a b false) (hsA : a.size ≤ maxLen) (hsB : b.size ≤ maxLen) (hA : digsB a 15 = true) (hsz : 1 < a.size) (hz : a[0].toNat = 48) : Calls Tryz.prog 48 #[.string s] w fun e w' => e = .returned (.tuple #[.int .i64 0, .bool false]) ∧ ∃ n, w' = w.drewN n := by
  have hsz' : (1 : Int) < a.size := by omega
  go_enter Tryz.func48, Tryz.ntmps48
  go_wp2_with (first | (go_at_call 12; refine (hpre _).mono ?_; rintro e w' ⟨rfl, rfl⟩) | (go_at_call 66; refine (hcut _).mono ?_; rintro e w' ⟨rfl, n, rfl⟩) | (go_at_call 68; refine (isDigits_any _ _ _ (by assumption)).mono ?_; rintro e w' ⟨rfl, rfl⟩))
  go_ret2
  exact ⟨rfl, n, rfl⟩
set_option maxRecDepth 10000 in
theorem parse_w3a_p (s a b : ByteArray) (w : World) (hpre : PreIs s false) (hcut : CutIs s a b true) (hsA : a.size ≤ maxLen) (hsB : b.size ≤ maxLen) (hA : digsB a 15 = true) (hsz : ¬ 1 < a.size) (hB : digsB b 4 = false) : Calls Tryz.prog 48 #[.string s] w fun e w' => e = .returned (.tuple #[.int .i64 0, .bool false]) ∧ ∃ n, w' = w.drewN n := by
  have hsz' : ¬ (1 : Int) < a.size := by omega
  go_enter Tryz.func48, Tryz.ntmps48
  go_wp2_with (first | (go_at_call 12; refine (hpre _).mono ?_; rintro e w' ⟨rfl, rfl⟩) | (go_at_call 66; refine (hcut _).mono ?_; rintro e w' ⟨rfl, n, rfl⟩) | (go_at_call 68; refine (isDigits_any _ _ _ (by assumption)).mono ?_; rintro e w' ⟨rfl, rfl⟩))
  go_ret2
  exact ⟨rfl, n, rfl⟩
set_option maxRecDepth 10000 in
theorem parse_w3b_p (s a b : ByteArray) (w : World) (hpre : PreIs s false) (hcut : CutIs s a b true) (hsA : a.size ≤ maxLen) (hsB : b.size ≤ maxLen) (hA : digsB a 15 = true) (hsz : 1 < a.size) (hz : a[0].toNat ≠ 48) (hB : digsB b 4 = false) : Calls Tryz.prog 48 #[.string s] w fun e w' => e = .returned (.tuple #[.int .i64 0, .bool false]) ∧ ∃ n, w' = w.drewN n := by
  have hsz' : (1 : Int) < a.size := by omega
  go_enter Tryz.func48, Tryz.ntmps48
  go_wp2_with (first | (go_at_call 12; refine (hpre _).mono ?_; rintro e w' ⟨rfl, rfl⟩) | (go_at_call 66; refine (hcut _).mono ?_; rintro e w' ⟨rfl, n, rfl⟩) | (go_at_call 68; refine (isDigits_any _ _ _ (by assumption)).mono ?_; rintro e w' ⟨rfl, rfl⟩))
  go_ret2
  exact ⟨rfl, n, rfl⟩
theorem parse_w1f1_n (s d a b : ByteArray) (w : World) (h1 : 1 ≤ s.size) (hd : s.extract 1 s.size = d) (hpre : PreIs s true) (hcut : CutIs d a b true) (hsA : a.size ≤ maxLen) (hsB : b.size ≤ maxLen) (hA : digsB a 15 = false) : Calls Tryz.prog 48 #[.string s] w fun e w' => e = .returned (.tuple #[.int .i64 0, .bool false]) ∧ ∃ n, w' = w.drewN n := by
  have h1' : (1 : Int) ≤ s.size := by omega
  go_enter Tryz.func48, Tryz.ntmps48
  go_wp2_with (first | (go_at_call 12; refine (hpre _).mono ?_; rintro e w' ⟨rfl, rfl⟩) | (go_at_call 66; refine (hcut _).mono ?_; rintro e w' ⟨rfl, n, rfl⟩) | (go_at_call 68; refine (isDigits_any _ _ _ (by assumption)).mono ?_; rintro e w' ⟨rfl, rfl⟩))
  go_ret2
  exact ⟨rfl, n, rfl⟩
set_option maxRecDepth 10000 in
theorem parse_w2f1_n (s d a b : ByteArray) (w : World) (h1 : 1 ≤ s.size) (hd : s.extract 1 s.size = d) (hpre : PreIs s true) (hcut : CutIs d a b true) (hsA : a.size ≤ maxLen) (hsB : b.size ≤ maxLen) (hA : digsB a 15 = true) (hsz : 1 < a.size) (hz : a[0].toNat = 48) : Calls Tryz.prog 48 #[.string s] w fun e w' => e = .returned (.tuple #[.int .i64 0, .bool false]) ∧ ∃ n, w' = w.drewN n := by
  have h1' : (1 : Int) ≤ s.size := by omega
  have hsz' : (1 : Int) < a.size := by omega
  go_enter Tryz.func48, Tryz.ntmps48
  go_wp2_with (first | (go_at_call 12; refine (hpre _).mono ?_; rintro e w' ⟨rfl, rfl⟩) | (go_at_call 66; refine (hcut _).mono ?_; rintro e w' ⟨rfl, n, rfl⟩) | (go_at_call 68; refine (isDigits_any _ _ _ (by assumption)).mono ?_; rintro e w' ⟨rfl, rfl⟩))
  go_ret2
  exact ⟨rfl, n, rfl⟩
theorem parse_w1f0_n (s d a b : ByteArray) (w : World) (h1 : 1 ≤ s.size) (hd : s.extract 1 s.size = d) (hpre : PreIs s true) (hcut : CutIs d a b false) (hsA : a.size ≤ maxLen) (hsB : b.size ≤ maxLen) (hA : digsB a 15 = false) : Calls Tryz.prog 48 #[.string s] w fun e w' => e = .returned (.tuple #[.int .i64 0, .bool false]) ∧ ∃ n, w' = w.drewN n := by
  have h1' : (1 : Int) ≤ s.size := by omega
  go_enter Tryz.func48, Tryz.ntmps48
  go_wp2_with (first | (go_at_call 12; refine (hpre _).mono ?_; rintro e w' ⟨rfl, rfl⟩) | (go_at_call 66; refine (hcut _).mono ?_; rintro e w' ⟨rfl, n, rfl⟩) | (go_at_call 68; refine (isDigits_any _ _ _ (by assumption)).mono ?_; rintro e w' ⟨rfl, rfl⟩))
  go_ret2
  exact ⟨rfl, n, rfl⟩
set_option maxRecDepth 10000 in
theorem parse_w2f0_n (s d a b : ByteArray) (w : World) (h1 : 1 ≤ s.size) (hd : s.extract 1 s.size = d) (hpre : PreIs s true) (hcut : CutIs d a b false) (hsA : a.size ≤ maxLen) (hsB : b.size ≤ maxLen) (hA : digsB a 15 = true) (hsz : 1 < a.size) (hz : a[0].toNat = 48) : Calls Tryz.prog 48 #[.string s] w fun e w' => e = .returned (.tuple #[.int .i64 0, .bool false]) ∧ ∃ n, w' = w.drewN n := by
  have h1' : (1 : Int) ≤ s.size := by omega
  have hsz' : (1 : Int) < a.size := by omega
  go_enter Tryz.func48, Tryz.ntmps48
  go_wp2_with (first | (go_at_call 12; refine (hpre _).mono ?_; rintro e w' ⟨rfl, rfl⟩) | (go_at_call 66; refine (hcut _).mono ?_; rintro e w' ⟨rfl, n, rfl⟩) | (go_at_call 68; refine (isDigits_any _ _ _ (by assumption)).mono ?_; rintro e w' ⟨rfl, rfl⟩))
  go_ret2
  exact ⟨rfl, n, rfl⟩
set_option maxRecDepth 10000 in
theorem parse_w3a_n (s d a b : ByteArray) (w : World) (h1 : 1 ≤ s.size) (hd : s.extract 1 s.size = d) (hpre : PreIs s true) (hcut : CutIs d a b true) (hsA : a.size ≤ maxLen) (hsB : b.size ≤ maxLen) (hA : digsB a 15 = true) (hsz : ¬ 1 < a.size) (hB : digsB b 4 = false) : Calls Tryz.prog 48 #[.string s] w fun e w' => e = .returned (.tuple #[.int .i64 0, .bool false]) ∧ ∃ n, w' = w.drewN n := by
  have h1' : (1 : Int) ≤ s.size := by omega
  have hsz' : ¬ (1 : Int) < a.size := by omega
  go_enter Tryz.func48, Tryz.ntmps48
  go_wp2_with (first | (go_at_call 12; refine (hpre _).mono ?_; rintro e w' ⟨rfl, rfl⟩) | (go_at_call 66; refine (hcut _).mono ?_; rintro e w' ⟨rfl, n, rfl⟩) | (go_at_call 68; refine (isDigits_any _ _ _ (by assumption)).mono ?_; rintro e w' ⟨rfl, rfl⟩))
  go_ret2
  exact ⟨rfl, n, rfl⟩
set_option maxRecDepth 10000 in
theorem parse_w3b_n (s d a b : ByteArray) (w : World) (h1 : 1 ≤ s.size) (hd : s.extract 1 s.size = d) (hpre : PreIs s true) (hcut : CutIs d a b true) (hsA : a.size ≤ maxLen) (hsB : b.size ≤ maxLen) (hA : digsB a 15 = true) (hsz : 1 < a.size) (hz : a[0].toNat ≠ 48) (hB : digsB b 4 = false) : Calls Tryz.prog 48 #[.string s] w fun e w' => e = .returned (.tuple #[.int .i64 0, .bool false]) ∧ ∃ n, w' = w.drewN n := by
  have h1' : (1 : Int) ≤ s.size := by omega
  have hsz' : (1 : Int) < a.size := by omega
  go_enter Tryz.func48, Tryz.ntmps48
  go_wp2_with (first | (go_at_call 12; refine (hpre _).mono ?_; rintro e w' ⟨rfl, rfl⟩) | (go_at_call 66; refine (hcut _).mono ?_; rintro e w' ⟨rfl, n, rfl⟩) | (go_at_call 68; refine (isDigits_any _ _ _ (by assumption)).mono ?_; rintro e w' ⟨rfl, rfl⟩))
  go_ret2
  exact ⟨rfl, n, rfl⟩
set_option maxHeartbeats 400000 in
set_option maxRecDepth 10000 in
theorem parse_g0tbig_p (s a b : ByteArray) (w : World) (hpre : PreIs s false) (hcut : CutIs s a b true) (hsA : a.size ≤ maxLen) (hsB : b.size ≤ maxLen) (hA : digsB a 15 = true) (hsz : ¬ 1 < a.size) (hB : digsB b 4 = true) (hA' : allDig a = true) (hAs : a.size ≤ 15) (hBs : b.size ≤ 4) (fr : ByteArray) (hfr : (b ++ ⟨#[48, 48, 48, 48]⟩).extract 0 4 = fr) (hfd : allDig fr = true) (hfs : fr.size ≤ 4) (hq : cnt a.data.toList < 1000000000000000) (hq2 : cnt fr.data.toList < 10000) (hp : 9223372036854775807 < (cnt a.data.toList : Int) * 10000 + (cnt fr.data.toList : Int)) : Calls Tryz.prog 48 #[.string s] w fun e w' => e = .returned (.tuple #[.int .i64 0, .bool false]) ∧ ∃ n, w' = w.drewN n := by
  have hsz' : ¬ (1 : Int) < a.size := by omega
  go_enter Tryz.func48, Tryz.ntmps48
  go_wp2_with (first | (go_at_call 12; refine (hpre _).mono ?_; rintro e w' ⟨rfl, rfl⟩) | (go_at_call 66; refine (hcut _).mono ?_; rintro e w' ⟨rfl, n, rfl⟩) | (go_at_call 68; refine (isDigits_any _ _ _ (by assumption)).mono ?_; rintro e w' ⟨rfl, rfl⟩))
  go_quiet ((go_at_call 69; exact quiet_plus (count_any _ _ (by omega) (by assumption))))
  go_wp2_with (go_at_call 70; refine (signed_big _ _ _ (by omega)).mono ?_; rintro e w' ⟨rfl, rfl⟩)
  go_ret2
  exact ⟨rfl, n + nq, rfl⟩
set_option maxHeartbeats 400000 in
set_option maxRecDepth 10000 in
theorem parse_g0tok_p (s a b : ByteArray) (w : World) (hpre : PreIs s false) (hcut : CutIs s a b true) (hsA : a.size ≤ maxLen) (hsB : b.size ≤ maxLen) (hA : digsB a 15 = true) (hsz : ¬ 1 < a.size) (hB : digsB b 4 = true) (hA' : allDig a = true) (hAs : a.size ≤ 15) (hBs : b.size ≤ 4) (fr : ByteArray) (hfr : (b ++ ⟨#[48, 48, 48, 48]⟩).extract 0 4 = fr) (hfd : allDig fr = true) (hfs : fr.size ≤ 4) (hq : cnt a.data.toList < 1000000000000000) (hq2 : cnt fr.data.toList < 10000) (hp : (cnt a.data.toList : Int) * 10000 + (cnt fr.data.toList : Int) ≤ 9223372036854775807) : Calls Tryz.prog 48 #[.string s] w fun e w' => e = .returned (.tuple #[.int .i64 ((cnt a.data.toList : Int) * 10000 + (cnt fr.data.toList : Int)), .bool true]) ∧ ∃ n, w' = w.drewN n := by
  have hsz' : ¬ (1 : Int) < a.size := by omega
  go_enter Tryz.func48, Tryz.ntmps48
  go_wp2_with (first | (go_at_call 12; refine (hpre _).mono ?_; rintro e w' ⟨rfl, rfl⟩) | (go_at_call 66; refine (hcut _).mono ?_; rintro e w' ⟨rfl, n, rfl⟩) | (go_at_call 68; refine (isDigits_any _ _ _ (by assumption)).mono ?_; rintro e w' ⟨rfl, rfl⟩))
  go_quiet ((go_at_call 69; exact quiet_plus (count_any _ _ (by omega) (by assumption))))
  go_wp2_with (go_at_call 70; refine (signed_pos _ _ (by omega) (by omega)).mono ?_; rintro e w' ⟨rfl, rfl⟩)
  go_ret2
  exact ⟨rfl, n + nq, rfl⟩
set_option maxHeartbeats 400000 in
set_option maxRecDepth 10000 in
theorem parse_g0fbig_p (s a b : ByteArray) (w : World) (hpre : PreIs s false) (hcut : CutIs s a b false) (hsA : a.size ≤ maxLen) (hsB : b.size ≤ maxLen) (hA : digsB a 15 = true) (hsz : ¬ 1 < a.size)  (hA' : allDig a = true) (hAs : a.size ≤ 15) (hBs : b.size ≤ 4) (fr : ByteArray) (hfr : (b ++ ⟨#[48, 48, 48, 48]⟩).extract 0 4 = fr) (hfd : allDig fr = true) (hfs : fr.size ≤ 4) (hq : cnt a.data.toList < 1000000000000000) (hq2 : cnt fr.data.toList < 10000) (hp : 9223372036854775807 < (cnt a.data.toList : Int) * 10000 + (cnt fr.data.toList : Int)) : Calls Tryz.prog 48 #[.string s] w fun e w' => e = .returned (.tuple #[.int .i64 0, .bool false]) ∧ ∃ n, w' = w.drewN n := by
  have hsz' : ¬ (1 : Int) < a.size := by omega
  go_enter Tryz.func48, Tryz.ntmps48
  go_wp2_with (first | (go_at_call 12; refine (hpre _).mono ?_; rintro e w' ⟨rfl, rfl⟩) | (go_at_call 66; refine (hcut _).mono ?_; rintro e w' ⟨rfl, n, rfl⟩) | (go_at_call 68; refine (isDigits_any _ _ _ (by assumption)).mono ?_; rintro e w' ⟨rfl, rfl⟩))
  go_quiet ((go_at_call 69; exact quiet_plus (count_any _ _ (by omega) (by assumption))))
  go_wp2_with (go_at_call 70; refine (signed_big _ _ _ (by omega)).mono ?_; rintro e w' ⟨rfl, rfl⟩)
  go_ret2
  exact ⟨rfl, n + nq, rfl⟩
set_option maxHeartbeats 400000 in
set_option maxRecDepth 10000 in
theorem parse_g0fok_p (s a b : ByteArray) (w : World) (hpre : PreIs s false) (hcut : CutIs s a b false) (hsA : a.size ≤ maxLen) (hsB : b.size ≤ maxLen) (hA : digsB a 15 = true) (hsz : ¬ 1 < a.size)  (hA' : allDig a = true) (hAs : a.size ≤ 15) (hBs : b.size ≤ 4) (fr : ByteArray) (hfr : (b ++ ⟨#[48, 48, 48, 48]⟩).extract 0 4 = fr) (hfd : allDig fr = true) (hfs : fr.size ≤ 4) (hq : cnt a.data.toList < 1000000000000000) (hq2 : cnt fr.data.toList < 10000) (hp : (cnt a.data.toList : Int) * 10000 + (cnt fr.data.toList : Int) ≤ 9223372036854775807) : Calls Tryz.prog 48 #[.string s] w fun e w' => e = .returned (.tuple #[.int .i64 ((cnt a.data.toList : Int) * 10000 + (cnt fr.data.toList : Int)), .bool true]) ∧ ∃ n, w' = w.drewN n := by
  have hsz' : ¬ (1 : Int) < a.size := by omega
  go_enter Tryz.func48, Tryz.ntmps48
  go_wp2_with (first | (go_at_call 12; refine (hpre _).mono ?_; rintro e w' ⟨rfl, rfl⟩) | (go_at_call 66; refine (hcut _).mono ?_; rintro e w' ⟨rfl, n, rfl⟩) | (go_at_call 68; refine (isDigits_any _ _ _ (by assumption)).mono ?_; rintro e w' ⟨rfl, rfl⟩))
  go_quiet ((go_at_call 69; exact quiet_plus (count_any _ _ (by omega) (by assumption))))
  go_wp2_with (go_at_call 70; refine (signed_pos _ _ (by omega) (by omega)).mono ?_; rintro e w' ⟨rfl, rfl⟩)
  go_ret2
  exact ⟨rfl, n + nq, rfl⟩
set_option maxHeartbeats 400000 in
set_option maxRecDepth 10000 in
theorem parse_g1tbig_p (s a b : ByteArray) (w : World) (hpre : PreIs s false) (hcut : CutIs s a b true) (hsA : a.size ≤ maxLen) (hsB : b.size ≤ maxLen) (hA : digsB a 15 = true) (hsz : 1 < a.size) (hz : a[0].toNat ≠ 48) (hB : digsB b 4 = true) (hA' : allDig a = true) (hAs : a.size ≤ 15) (hBs : b.size ≤ 4) (fr : ByteArray) (hfr : (b ++ ⟨#[48, 48, 48, 48]⟩).extract 0 4 = fr) (hfd : allDig fr = true) (hfs : fr.size ≤ 4) (hq : cnt a.data.toList < 1000000000000000) (hq2 : cnt fr.data.toList < 10000) (hp : 9223372036854775807 < (cnt a.data.toList : Int) * 10000 + (cnt fr.data.toList : Int)) : Calls Tryz.prog 48 #[.string s] w fun e w' => e = .returned (.tuple #[.int .i64 0, .bool false]) ∧ ∃ n, w' = w.drewN n := by
  have hsz' : (1 : Int) < a.size := by omega
  go_enter Tryz.func48, Tryz.ntmps48
  go_wp2_with (first | (go_at_call 12; refine (hpre _).mono ?_; rintro e w' ⟨rfl, rfl⟩) | (go_at_call 66; refine (hcut _).mono ?_; rintro e w' ⟨rfl, n, rfl⟩) | (go_at_call 68; refine (isDigits_any _ _ _ (by assumption)).mono ?_; rintro e w' ⟨rfl, rfl⟩))
  go_quiet ((go_at_call 69; exact quiet_plus (count_any _ _ (by omega) (by assumption))))
  go_wp2_with (go_at_call 70; refine (signed_big _ _ _ (by omega)).mono ?_; rintro e w' ⟨rfl, rfl⟩)
  go_ret2
  exact ⟨rfl, n + nq, rfl⟩
set_option maxHeartbeats 400000 in
set_option maxRecDepth 10000 in
theorem parse_g1tok_p (s a b : ByteArray) (w : World) (hpre : PreIs s false) (hcut : CutIs s a b true) (hsA : a.size ≤ maxLen) (hsB : b.size ≤ maxLen) (hA : digsB a 15 = true) (hsz : 1 < a.size) (hz : a[0].toNat ≠ 48) (hB : digsB b 4 = true) (hA' : allDig a = true) (hAs : a.size ≤ 15) (hBs : b.size ≤ 4) (fr : ByteArray) (hfr : (b ++ ⟨#[48, 48, 48, 48]⟩).extract 0 4 = fr) (hfd : allDig fr = true) (hfs : fr.size ≤ 4) (hq : cnt a.data.toList < 1000000000000000) (hq2 : cnt fr.data.toList < 10000) (hp : (cnt a.data.toList : Int) * 10000 + (cnt fr.data.toList : Int) ≤ 9223372036854775807) : Calls Tryz.prog 48 #[.string s] w fun e w' => e = .returned (.tuple #[.int .i64 ((cnt a.data.toList : Int) * 10000 + (cnt fr.data.toList : Int)), .bool true]) ∧ ∃ n, w' = w.drewN n := by
  have hsz' : (1 : Int) < a.size := by omega
  go_enter Tryz.func48, Tryz.ntmps48
  go_wp2_with (first | (go_at_call 12; refine (hpre _).mono ?_; rintro e w' ⟨rfl, rfl⟩) | (go_at_call 66; refine (hcut _).mono ?_; rintro e w' ⟨rfl, n, rfl⟩) | (go_at_call 68; refine (isDigits_any _ _ _ (by assumption)).mono ?_; rintro e w' ⟨rfl, rfl⟩))
  go_quiet ((go_at_call 69; exact quiet_plus (count_any _ _ (by omega) (by assumption))))
  go_wp2_with (go_at_call 70; refine (signed_pos _ _ (by omega) (by omega)).mono ?_; rintro e w' ⟨rfl, rfl⟩)
  go_ret2
  exact ⟨rfl, n + nq, rfl⟩
set_option maxHeartbeats 400000 in
set_option maxRecDepth 10000 in
theorem parse_g1fbig_p (s a b : ByteArray) (w : World) (hpre : PreIs s false) (hcut : CutIs s a b false) (hsA : a.size ≤ maxLen) (hsB : b.size ≤ maxLen) (hA : digsB a 15 = true) (hsz : 1 < a.size) (hz : a[0].toNat ≠ 48)  (hA' : allDig a = true) (hAs : a.size ≤ 15) (hBs : b.size ≤ 4) (fr : ByteArray) (hfr : (b ++ ⟨#[48, 48, 48, 48]⟩).extract 0 4 = fr) (hfd : allDig fr = true) (hfs : fr.size ≤ 4) (hq : cnt a.data.toList < 1000000000000000) (hq2 : cnt fr.data.toList < 10000) (hp : 9223372036854775807 < (cnt a.data.toList : Int) * 10000 + (cnt fr.data.toList : Int)) : Calls Tryz.prog 48 #[.string s] w fun e w' => e = .returned (.tuple #[.int .i64 0, .bool false]) ∧ ∃ n, w' = w.drewN n := by
  have hsz' : (1 : Int) < a.size := by omega
  go_enter Tryz.func48, Tryz.ntmps48
  go_wp2_with (first | (go_at_call 12; refine (hpre _).mono ?_; rintro e w' ⟨rfl, rfl⟩) | (go_at_call 66; refine (hcut _).mono ?_; rintro e w' ⟨rfl, n, rfl⟩) | (go_at_call 68; refine (isDigits_any _ _ _ (by assumption)).mono ?_; rintro e w' ⟨rfl, rfl⟩))
  go_quiet ((go_at_call 69; exact quiet_plus (count_any _ _ (by omega) (by assumption))))
  go_wp2_with (go_at_call 70; refine (signed_big _ _ _ (by omega)).mono ?_; rintro e w' ⟨rfl, rfl⟩)
  go_ret2
  exact ⟨rfl, n + nq, rfl⟩
set_option maxHeartbeats 400000 in
set_option maxRecDepth 10000 in
theorem parse_g1fok_p (s a b : ByteArray) (w : World) (hpre : PreIs s false) (hcut : CutIs s a b false) (hsA : a.size ≤ maxLen) (hsB : b.size ≤ maxLen) (hA : digsB a 15 = true) (hsz : 1 < a.size) (hz : a[0].toNat ≠ 48)  (hA' : allDig a = true) (hAs : a.size ≤ 15) (hBs : b.size ≤ 4) (fr : ByteArray) (hfr : (b ++ ⟨#[48, 48, 48, 48]⟩).extract 0 4 = fr) (hfd : allDig fr = true) (hfs : fr.size ≤ 4) (hq : cnt a.data.toList < 1000000000000000) (hq2 : cnt fr.data.toList < 10000) (hp : (cnt a.data.toList : Int) * 10000 + (cnt fr.data.toList : Int) ≤ 9223372036854775807) : Calls Tryz.prog 48 #[.string s] w fun e w' => e = .returned (.tuple #[.int .i64 ((cnt a.data.toList : Int) * 10000 + (cnt fr.data.toList : Int)), .bool true]) ∧ ∃ n, w' = w.drewN n := by
  have hsz' : (1 : Int) < a.size := by omega
  go_enter Tryz.func48, Tryz.ntmps48
  go_wp2_with (first | (go_at_call 12; refine (hpre _).mono ?_; rintro e w' ⟨rfl, rfl⟩) | (go_at_call 66; refine (hcut _).mono ?_; rintro e w' ⟨rfl, n, rfl⟩) | (go_at_call 68; refine (isDigits_any _ _ _ (by assumption)).mono ?_; rintro e w' ⟨rfl, rfl⟩))
  go_quiet ((go_at_call 69; exact quiet_plus (count_any _ _ (by omega) (by assumption))))
  go_wp2_with (go_at_call 70; refine (signed_pos _ _ (by omega) (by omega)).mono ?_; rintro e w' ⟨rfl, rfl⟩)
  go_ret2
  exact ⟨rfl, n + nq, rfl⟩
set_option maxHeartbeats 400000 in
set_option maxRecDepth 10000 in
theorem parse_g0tbig_n (s d a b : ByteArray) (w : World) (h1 : 1 ≤ s.size) (hd : s.extract 1 s.size = d) (hpre : PreIs s true) (hcut : CutIs d a b true) (hsA : a.size ≤ maxLen) (hsB : b.size ≤ maxLen) (hA : digsB a 15 = true) (hsz : ¬ 1 < a.size) (hB : digsB b 4 = true) (hA' : allDig a = true) (hAs : a.size ≤ 15) (hBs : b.size ≤ 4) (fr : ByteArray) (hfr : (b ++ ⟨#[48, 48, 48, 48]⟩).extract 0 4 = fr) (hfd : allDig fr = true) (hfs : fr.size ≤ 4) (hq : cnt a.data.toList < 1000000000000000) (hq2 : cnt fr.data.toList < 10000) (hp : 9223372036854775807 < (cnt a.data.toList : Int) * 10000 + (cnt fr.data.toList : Int)) : Calls Tryz.prog 48 #[.string s] w fun e w' => e = .returned (.tuple #[.int .i64 0, .bool false]) ∧ ∃ n, w' = w.drewN n := by
  have h1' : (1 : Int) ≤ s.size := by omega
  have hsz' : ¬ (1 : Int) < a.size := by omega
  go_enter Tryz.func48, Tryz.ntmps48
  go_wp2_with (first | (go_at_call 12; refine (hpre _).mono ?_; rintro e w' ⟨rfl, rfl⟩) | (go_at_call 66; refine (hcut _).mono ?_; rintro e w' ⟨rfl, n, rfl⟩) | (go_at_call 68; refine (isDigits_any _ _ _ (by assumption)).mono ?_; rintro e w' ⟨rfl, rfl⟩))
  go_quiet ((go_at_call 69; exact quiet_plus (count_any _ _ (by omega) (by assumption))))
  go_wp2_with (go_at_call 70; refine (signed_big _ _ _ (by omega)).mono ?_; rintro e w' ⟨rfl, rfl⟩)
  go_ret2
  exact ⟨rfl, n + nq, rfl⟩
set_option maxHeartbeats 400000 in
set_option maxRecDepth 10000 in
theorem parse_g0tzero_n (s d a b : ByteArray) (w : World) (h1 : 1 ≤ s.size) (hd : s.extract 1 s.size = d) (hpre : PreIs s true) (hcut : CutIs d a b true) (hsA : a.size ≤ maxLen) (hsB : b.size ≤ maxLen) (hA : digsB a 15 = true) (hsz : ¬ 1 < a.size) (hB : digsB b 4 = true) (hA' : allDig a = true) (hAs : a.size ≤ 15) (hBs : b.size ≤ 4) (fr : ByteArray) (hfr : (b ++ ⟨#[48, 48, 48, 48]⟩).extract 0 4 = fr) (hfd : allDig fr = true) (hfs : fr.size ≤ 4) (hq : cnt a.data.toList < 1000000000000000) (hq2 : cnt fr.data.toList < 10000) (hp : (cnt a.data.toList : Int) * 10000 + (cnt fr.data.toList : Int) = 0) : Calls Tryz.prog 48 #[.string s] w fun e w' => e = .returned (.tuple #[.int .i64 0, .bool false]) ∧ ∃ n, w' = w.drewN n := by
  have h1' : (1 : Int) ≤ s.size := by omega
  have hsz' : ¬ (1 : Int) < a.size := by omega
  go_enter Tryz.func48, Tryz.ntmps48
  go_wp2_with (first | (go_at_call 12; refine (hpre _).mono ?_; rintro e w' ⟨rfl, rfl⟩) | (go_at_call 66; refine (hcut _).mono ?_; rintro e w' ⟨rfl, n, rfl⟩) | (go_at_call 68; refine (isDigits_any _ _ _ (by assumption)).mono ?_; rintro e w' ⟨rfl, rfl⟩))
  go_quiet ((go_at_call 69; exact quiet_plus (count_any _ _ (by omega) (by assumption))))
  go_wp2_with (go_at_call 70; refine (signed_neg _ _ (by omega) (by omega)).mono ?_; rintro e w' ⟨rfl, rfl⟩)
  go_ret2
  exact ⟨rfl, n + nq, rfl⟩
set_option maxHeartbeats 400000 in
set_option maxRecDepth 10000 in
theorem parse_g0tok_n (s d a b : ByteArray) (w : World) (h1 : 1 ≤ s.size) (hd : s.extract 1 s.size = d) (hpre : PreIs s true) (hcut : CutIs d a b true) (hsA : a.size ≤ maxLen) (hsB : b.size ≤ maxLen) (hA : digsB a 15 = true) (hsz : ¬ 1 < a.size) (hB : digsB b 4 = true) (hA' : allDig a = true) (hAs : a.size ≤ 15) (hBs : b.size ≤ 4) (fr : ByteArray) (hfr : (b ++ ⟨#[48, 48, 48, 48]⟩).extract 0 4 = fr) (hfd : allDig fr = true) (hfs : fr.size ≤ 4) (hq : cnt a.data.toList < 1000000000000000) (hq2 : cnt fr.data.toList < 10000) (hp : (cnt a.data.toList : Int) * 10000 + (cnt fr.data.toList : Int) ≤ 9223372036854775807) (hp0 : 0 < (cnt a.data.toList : Int) * 10000 + (cnt fr.data.toList : Int)) : Calls Tryz.prog 48 #[.string s] w fun e w' => e = .returned (.tuple #[.int .i64 (-((cnt a.data.toList : Int) * 10000 + (cnt fr.data.toList : Int))), .bool true]) ∧ ∃ n, w' = w.drewN n := by
  have h1' : (1 : Int) ≤ s.size := by omega
  have hsz' : ¬ (1 : Int) < a.size := by omega
  go_enter Tryz.func48, Tryz.ntmps48
  go_wp2_with (first | (go_at_call 12; refine (hpre _).mono ?_; rintro e w' ⟨rfl, rfl⟩) | (go_at_call 66; refine (hcut _).mono ?_; rintro e w' ⟨rfl, n, rfl⟩) | (go_at_call 68; refine (isDigits_any _ _ _ (by assumption)).mono ?_; rintro e w' ⟨rfl, rfl⟩))
  go_quiet ((go_at_call 69; exact quiet_plus (count_any _ _ (by omega) (by assumption))))
  go_wp2_with (go_at_call 70; refine (signed_neg _ _ (by omega) (by omega)).mono ?_; rintro e w' ⟨rfl, rfl⟩)
  go_ret2
  exact ⟨rfl, n + nq, rfl⟩
set_option maxHeartbeats 400000 in
set_option maxRecDepth 10000 in
theorem parse_g0fbig_n (s d a b : ByteArray) (w : World) (h1 : 1 ≤ s.size) (hd : s.extract 1 s.size = d) (hpre : PreIs s true) (hcut : CutIs d a b false) (hsA : a.size ≤ maxLen) (hsB : b.size ≤ maxLen) (hA : digsB a 15 = true) (hsz : ¬ 1 < a.size)  (hA' : allDig a = true) (hAs : a.size ≤ 15) (hBs : b.size ≤ 4) (fr : ByteArray) (hfr : (b ++ ⟨#[48, 48, 48, 48]⟩).extract 0 4 = fr) (hfd : allDig fr = true) (hfs : fr.size ≤ 4) (hq : cnt a.data.toList < 1000000000000000) (hq2 : cnt fr.data.toList < 10000) (hp : 9223372036854775807 < (cnt a.data.toList : Int) * 10000 + (cnt fr.data.toList : Int)) : Calls Tryz.prog 48 #[.string s] w fun e w' => e = .returned (.tuple #[.int .i64 0, .bool false]) ∧ ∃ n, w' = w.drewN n := by
  have h1' : (1 : Int) ≤ s.size := by omega
  have hsz' : ¬ (1 : Int) < a.size := by omega
  go_enter Tryz.func48, Tryz.ntmps48
  go_wp2_with (first | (go_at_call 12; refine (hpre _).mono ?_; rintro e w' ⟨rfl, rfl⟩) | (go_at_call 66; refine (hcut _).mono ?_; rintro e w' ⟨rfl, n, rfl⟩) | (go_at_call 68; refine (isDigits_any _ _ _ (by assumption)).mono ?_; rintro e w' ⟨rfl, rfl⟩))
  go_quiet ((go_at_call 69; exact quiet_plus (count_any _ _ (by omega) (by assumption))))
  go_wp2_with (go_at_call 70; refine (signed_big _ _ _ (by omega)).mono ?_; rintro e w' ⟨rfl, rfl⟩)
  go_ret2
  exact ⟨rfl, n + nq, rfl⟩
set_option maxHeartbeats 400000 in
set_option maxRecDepth 10000 in
theorem parse_g0fzero_n (s d a b : ByteArray) (w : World) (h1 : 1 ≤ s.size) (hd : s.extract 1 s.size = d) (hpre : PreIs s true) (hcut : CutIs d a b false) (hsA : a.size ≤ maxLen) (hsB : b.size ≤ maxLen) (hA : digsB a 15 = true) (hsz : ¬ 1 < a.size)  (hA' : allDig a = true) (hAs : a.size ≤ 15) (hBs : b.size ≤ 4) (fr : ByteArray) (hfr : (b ++ ⟨#[48, 48, 48, 48]⟩).extract 0 4 = fr) (hfd : allDig fr = true) (hfs : fr.size ≤ 4) (hq : cnt a.data.toList < 1000000000000000) (hq2 : cnt fr.data.toList < 10000) (hp : (cnt a.data.toList : Int) * 10000 + (cnt fr.data.toList : Int) = 0) : Calls Tryz.prog 48 #[.string s] w fun e w' => e = .returned (.tuple #[.int .i64 0, .bool false]) ∧ ∃ n, w' = w.drewN n := by
  have h1' : (1 : Int) ≤ s.size := by omega
  have hsz' : ¬ (1 : Int) < a.size := by omega
  go_enter Tryz.func48, Tryz.ntmps48
  go_wp2_with (first | (go_at_call 12; refine (hpre _).mono ?_; rintro e w' ⟨rfl, rfl⟩) | (go_at_call 66; refine (hcut _).mono ?_; rintro e w' ⟨rfl, n, rfl⟩) | (go_at_call 68; refine (isDigits_any _ _ _ (by assumption)).mono ?_; rintro e w' ⟨rfl, rfl⟩))
  go_quiet ((go_at_call 69; exact quiet_plus (count_any _ _ (by omega) (by assumption))))
  go_wp2_with (go_at_call 70; refine (signed_neg _ _ (by omega) (by omega)).mono ?_; rintro e w' ⟨rfl, rfl⟩)
  go_ret2
  exact ⟨rfl, n + nq, rfl⟩
set_option maxHeartbeats 400000 in
set_option maxRecDepth 10000 in
theorem parse_g0fok_n (s d a b : ByteArray) (w : World) (h1 : 1 ≤ s.size) (hd : s.extract 1 s.size = d) (hpre : PreIs s true) (hcut : CutIs d a b false) (hsA : a.size ≤ maxLen) (hsB : b.size ≤ maxLen) (hA : digsB a 15 = true) (hsz : ¬ 1 < a.size)  (hA' : allDig a = true) (hAs : a.size ≤ 15) (hBs : b.size ≤ 4) (fr : ByteArray) (hfr : (b ++ ⟨#[48, 48, 48, 48]⟩).extract 0 4 = fr) (hfd : allDig fr = true) (hfs : fr.size ≤ 4) (hq : cnt a.data.toList < 1000000000000000) (hq2 : cnt fr.data.toList < 10000) (hp : (cnt a.data.toList : Int) * 10000 + (cnt fr.data.toList : Int) ≤ 9223372036854775807) (hp0 : 0 < (cnt a.data.toList : Int) * 10000 + (cnt fr.data.toList : Int)) : Calls Tryz.prog 48 #[.string s] w fun e w' => e = .returned (.tuple #[.int .i64 (-((cnt a.data.toList : Int) * 10000 + (cnt fr.data.toList : Int))), .bool true]) ∧ ∃ n, w' = w.drewN n := by
  have h1' : (1 : Int) ≤ s.size := by omega
  have hsz' : ¬ (1 : Int) < a.size := by omega
  go_enter Tryz.func48, Tryz.ntmps48
  go_wp2_with (first | (go_at_call 12; refine (hpre _).mono ?_; rintro e w' ⟨rfl, rfl⟩) | (go_at_call 66; refine (hcut _).mono ?_; rintro e w' ⟨rfl, n, rfl⟩) | (go_at_call 68; refine (isDigits_any _ _ _ (by assumption)).mono ?_; rintro e w' ⟨rfl, rfl⟩))
  go_quiet ((go_at_call 69; exact quiet_plus (count_any _ _ (by omega) (by assumption))))
  go_wp2_with (go_at_call 70; refine (signed_neg _ _ (by omega) (by omega)).mono ?_; rintro e w' ⟨rfl, rfl⟩)
  go_ret2
  exact ⟨rfl, n + nq, rfl⟩
set_option maxHeartbeats 400000 in
set_option maxRecDepth 10000 in
theorem parse_g1tbig_n (s d a b : ByteArray) (w : World) (h1 : 1 ≤ s.size) (hd : s.extract 1 s.size = d) (hpre : PreIs s true) (hcut : CutIs d a b true) (hsA : a.size ≤ maxLen) (hsB : b.size ≤ maxLen) (hA : digsB a 15 = true) (hsz : 1 < a.size) (hz : a[0].toNat ≠ 48) (hB : digsB b 4 = true) (hA' : allDig a = true) (hAs : a.size ≤ 15) (hBs : b.size ≤ 4) (fr : ByteArray) (hfr : (b ++ ⟨#[48, 48, 48, 48]⟩).extract 0 4 = fr) (hfd : allDig fr = true) (hfs : fr.size ≤ 4) (hq : cnt a.data.toList < 1000000000000000) (hq2 : cnt fr.data.toList < 10000) (hp : 9223372036854775807 < (cnt a.data.toList : Int) * 10000 + (cnt fr.data.toList : Int)) : Calls Tryz.prog 48 #[.string s] w fun e w' => e = .returned (.tuple #[.int .i64 0, .bool false]) ∧ ∃ n, w' = w.drewN n := by
  have h1' : (1 : Int) ≤ s.size := by omega
  have hsz' : (1 : Int) < a.size := by omega
  go_enter Tryz.func48, Tryz.ntmps48
  go_wp2_with (first | (go_at_call 12; refine (hpre _).mono ?_; rintro e w' ⟨rfl, rfl⟩) | (go_at_call 66; refine (hcut _).mono ?_; rintro e w' ⟨rfl, n, rfl⟩) | (go_at_call 68; refine (isDigits_any _ _ _ (by assumption)).mono ?_; rintro e w' ⟨rfl, rfl⟩))
  go_quiet ((go_at_call 69; exact quiet_plus (count_any _ _ (by omega) (by assumption))))
  go_wp2_with (go_at_call 70; refine (signed_big _ _ _ (by omega)).mono ?_; rintro e w' ⟨rfl, rfl⟩)
  go_ret2
  exact ⟨rfl, n + nq, rfl⟩
set_option maxHeartbeats 400000 in
set_option maxRecDepth 10000 in
theorem parse_g1tzero_n (s d a b : ByteArray) (w : World) (h1 : 1 ≤ s.size) (hd : s.extract 1 s.size = d) (hpre : PreIs s true) (hcut : CutIs d a b true) (hsA : a.size ≤ maxLen) (hsB : b.size ≤ maxLen) (hA : digsB a 15 = true) (hsz : 1 < a.size) (hz : a[0].toNat ≠ 48) (hB : digsB b 4 = true) (hA' : allDig a = true) (hAs : a.size ≤ 15) (hBs : b.size ≤ 4) (fr : ByteArray) (hfr : (b ++ ⟨#[48, 48, 48, 48]⟩).extract 0 4 = fr) (hfd : allDig fr = true) (hfs : fr.size ≤ 4) (hq : cnt a.data.toList < 1000000000000000) (hq2 : cnt fr.data.toList < 10000) (hp : (cnt a.data.toList : Int) * 10000 + (cnt fr.data.toList : Int) = 0) : Calls Tryz.prog 48 #[.string s] w fun e w' => e = .returned (.tuple #[.int .i64 0, .bool false]) ∧ ∃ n, w' = w.drewN n := by
  have h1' : (1 : Int) ≤ s.size := by omega
  have hsz' : (1 : Int) < a.size := by omega
  go_enter Tryz.func48, Tryz.ntmps48
  go_wp2_with (first | (go_at_call 12; refine (hpre _).mono ?_; rintro e w' ⟨rfl, rfl⟩) | (go_at_call 66; refine (hcut _).mono ?_; rintro e w' ⟨rfl, n, rfl⟩) | (go_at_call 68; refine (isDigits_any _ _ _ (by assumption)).mono ?_; rintro e w' ⟨rfl, rfl⟩))
  go_quiet ((go_at_call 69; exact quiet_plus (count_any _ _ (by omega) (by assumption))))
  go_wp2_with (go_at_call 70; refine (signed_neg _ _ (by omega) (by omega)).mono ?_; rintro e w' ⟨rfl, rfl⟩)
  go_ret2
  exact ⟨rfl, n + nq, rfl⟩
set_option maxHeartbeats 400000 in
set_option maxRecDepth 10000 in
theorem parse_g1tok_n (s d a b : ByteArray) (w : World) (h1 : 1 ≤ s.size) (hd : s.extract 1 s.size = d) (hpre : PreIs s true) (hcut : CutIs d a b true) (hsA : a.size ≤ maxLen) (hsB : b.size ≤ maxLen) (hA : digsB a 15 = true) (hsz : 1 < a.size) (hz : a[0].toNat ≠ 48) (hB : digsB b 4 = true) (hA' : allDig a = true) (hAs : a.size ≤ 15) (hBs : b.size ≤ 4) (fr : ByteArray) (hfr : (b ++ ⟨#[48, 48, 48, 48]⟩).extract 0 4 = fr) (hfd : allDig fr = true) (hfs : fr.size ≤ 4) (hq : cnt a.data.toList < 1000000000000000) (hq2 : cnt fr.data.toList < 10000) (hp : (cnt a.data.toList : Int) * 10000 + (cnt fr.data.toList : Int) ≤ 9223372036854775807) (hp0 : 0 < (cnt a.data.toList : Int) * 10000 + (cnt fr.data.toList : Int)) : Calls Tryz.prog 48 #[.string s] w fun e w' => e = .returned (.tuple #[.int .i64 (-((cnt a.data.toList : Int) * 10000 + (cnt fr.data.toList : Int))), .bool true]) ∧ ∃ n, w' = w.drewN n := by
  have h1' : (1 : Int) ≤ s.size := by omega
  have hsz' : (1 : Int) < a.size := by omega
  go_enter Tryz.func48, Tryz.ntmps48
  go_wp2_with (first | (go_at_call 12; refine (hpre _).mono ?_; rintro e w' ⟨rfl, rfl⟩) | (go_at_call 66; refine (hcut _).mono ?_; rintro e w' ⟨rfl, n, rfl⟩) | (go_at_call 68; refine (isDigits_any _ _ _ (by assumption)).mono ?_; rintro e w' ⟨rfl, rfl⟩))
  go_quiet ((go_at_call 69; exact quiet_plus (count_any _ _ (by omega) (by assumption))))
  go_wp2_with (go_at_call 70; refine (signed_neg _ _ (by omega) (by omega)).mono ?_; rintro e w' ⟨rfl, rfl⟩)
  go_ret2
  exact ⟨rfl, n + nq, rfl⟩
set_option maxHeartbeats 400000 in
set_option maxRecDepth 10000 in
theorem parse_g1fbig_n (s d a b : ByteArray) (w : World) (h1 : 1 ≤ s.size) (hd : s.extract 1 s.size = d) (hpre : PreIs s true) (hcut : CutIs d a b false) (hsA : a.size ≤ maxLen) (hsB : b.size ≤ maxLen) (hA : digsB a 15 = true) (hsz : 1 < a.size) (hz : a[0].toNat ≠ 48)  (hA' : allDig a = true) (hAs : a.size ≤ 15) (hBs : b.size ≤ 4) (fr : ByteArray) (hfr : (b ++ ⟨#[48, 48, 48, 48]⟩).extract 0 4 = fr) (hfd : allDig fr = true) (hfs : fr.size ≤ 4) (hq : cnt a.data.toList < 1000000000000000) (hq2 : cnt fr.data.toList < 10000) (hp : 9223372036854775807 < (cnt a.data.toList : Int) * 10000 + (cnt fr.data.toList : Int)) : Calls Tryz.prog 48 #[.string s] w fun e w' => e = .returned (.tuple #[.int .i64 0, .bool false]) ∧ ∃ n, w' = w.drewN n := by
  have h1' : (1 : Int) ≤ s.size := by omega
  have hsz' : (1 : Int) < a.size := by omega
  go_enter Tryz.func48, Tryz.ntmps48
  go_wp2_with (first | (go_at_call 12; refine (hpre _).mono ?_; rintro e w' ⟨rfl, rfl⟩) | (go_at_call 66; refine (hcut _).mono ?_; rintro e w' ⟨rfl, n, rfl⟩) | (go_at_call 68; refine (isDigits_any _ _ _ (by assumption)).mono ?_; rintro e w' ⟨rfl, rfl⟩))
  go_quiet ((go_at_call 69; exact quiet_plus (count_any _ _ (by omega) (by assumption))))
  go_wp2_with (go_at_call 70; refine (signed_big _ _ _ (by omega)).mono ?_; rintro e w' ⟨rfl, rfl⟩)
  go_ret2
  exact ⟨rfl, n + nq, rfl⟩
set_option maxHeartbeats 400000 in
set_option maxRecDepth 10000 in
theorem parse_g1fzero_n (s d a b : ByteArray) (w : World) (h1 : 1 ≤ s.size) (hd : s.extract 1 s.size = d) (hpre : PreIs s true) (hcut : CutIs d a b false) (hsA : a.size ≤ maxLen) (hsB : b.size ≤ maxLen) (hA : digsB a 15 = true) (hsz : 1 < a.size) (hz : a[0].toNat ≠ 48)  (hA' : allDig a = true) (hAs : a.size ≤ 15) (hBs : b.size ≤ 4) (fr : ByteArray) (hfr : (b ++ ⟨#[48, 48, 48, 48]⟩).extract 0 4 = fr) (hfd : allDig fr = true) (hfs : fr.size ≤ 4) (hq : cnt a.data.toList < 1000000000000000) (hq2 : cnt fr.data.toList < 10000) (hp : (cnt a.data.toList : Int) * 10000 + (cnt fr.data.toList : Int) = 0) : Calls Tryz.prog 48 #[.string s] w fun e w' => e = .returned (.tuple #[.int .i64 0, .bool false]) ∧ ∃ n, w' = w.drewN n := by
  have h1' : (1 : Int) ≤ s.size := by omega
  have hsz' : (1 : Int) < a.size := by omega
  go_enter Tryz.func48, Tryz.ntmps48
  go_wp2_with (first | (go_at_call 12; refine (hpre _).mono ?_; rintro e w' ⟨rfl, rfl⟩) | (go_at_call 66; refine (hcut _).mono ?_; rintro e w' ⟨rfl, n, rfl⟩) | (go_at_call 68; refine (isDigits_any _ _ _ (by assumption)).mono ?_; rintro e w' ⟨rfl, rfl⟩))
  go_quiet ((go_at_call 69; exact quiet_plus (count_any _ _ (by omega) (by assumption))))
  go_wp2_with (go_at_call 70; refine (signed_neg _ _ (by omega) (by omega)).mono ?_; rintro e w' ⟨rfl, rfl⟩)
  go_ret2
  exact ⟨rfl, n + nq, rfl⟩
set_option maxHeartbeats 400000 in
set_option maxRecDepth 10000 in
theorem parse_g1fok_n (s d a b : ByteArray) (w : World) (h1 : 1 ≤ s.size) (hd : s.extract 1 s.size = d) (hpre : PreIs s true) (hcut : CutIs d a b false) (hsA : a.size ≤ maxLen) (hsB : b.size ≤ maxLen) (hA : digsB a 15 = true) (hsz : 1 < a.size) (hz : a[0].toNat ≠ 48)  (hA' : allDig a = true) (hAs : a.size ≤ 15) (hBs : b.size ≤ 4) (fr : ByteArray) (hfr : (b ++ ⟨#[48, 48, 48, 48]⟩).extract 0 4 = fr) (hfd : allDig fr = true) (hfs : fr.size ≤ 4) (hq : cnt a.data.toList < 1000000000000000) (hq2 : cnt fr.data.toList < 10000) (hp : (cnt a.data.toList : Int) * 10000 + (cnt fr.data.toList : Int) ≤ 9223372036854775807) (hp0 : 0 < (cnt a.data.toList : Int) * 10000 + (cnt fr.data.toList : Int)) : Calls Tryz.prog 48 #[.string s] w fun e w' => e = .returned (.tuple #[.int .i64 (-((cnt a.data.toList : Int) * 10000 + (cnt fr.data.toList : Int))), .bool true]) ∧ ∃ n, w' = w.drewN n := by
  have h1' : (1 : Int) ≤ s.size := by omega
  have hsz' : (1 : Int) < a.size := by omega
  go_enter Tryz.func48, Tryz.ntmps48
  go_wp2_with (first | (go_at_call 12; refine (hpre _).mono ?_; rintro e w' ⟨rfl, rfl⟩) | (go_at_call 66; refine (hcut _).mono ?_; rintro e w' ⟨rfl, n, rfl⟩) | (go_at_call 68; refine (isDigits_any _ _ _ (by assumption)).mono ?_; rintro e w' ⟨rfl, rfl⟩))
  go_quiet ((go_at_call 69; exact quiet_plus (count_any _ _ (by omega) (by assumption))))
  go_wp2_with (go_at_call 70; refine (signed_neg _ _ (by omega) (by omega)).mono ?_; rintro e w' ⟨rfl, rfl⟩)
  go_ret2
  exact ⟨rfl, n + nq, rfl⟩
end Go.Proofs.YtaamphdihmghhaaGreatDoor.Dc
