/- The contract of the document's digits, for every text and every place in it or just behind it: how many digits stand from there on. Nothing is written. -/
import Derived.Test.YtimcdeibjiekpaaDoorDigits
namespace Go.Proofs.YtimcdeibjiekpaaDoor
open Go.Shelf Go.RowKit
set_option linter.unusedVariables false
theorem isDigit_any (c : Int) (w : World) (h0 : 0 ≤ c) (h1 : c < 256) : Calls Tryd.prog 72 #[.int .u8 c] w fun e w' => e = .returned (.bool (decide (48 ≤ c) && decide (c ≤ 57))) ∧ w' = w := by
  by_cases h : 48 ≤ c
  · by_cases h' : c ≤ 57
    · rw [decide_eq_true h, decide_eq_true h']
      go_enter Tryd.func72, Tryd.ntmps72
      go_wp2
      go_ret
      exact ⟨rfl, rfl⟩
    · rw [decide_eq_true h, decide_eq_false h']
      go_enter Tryd.func72, Tryd.ntmps72
      go_wp2
      go_ret
      exact ⟨rfl, rfl⟩
  · rw [decide_eq_false h]
    go_enter Tryd.func72, Tryd.ntmps72
    go_wp2
    go_ret
    exact ⟨rfl, rfl⟩
/-- From place 'at' on stand n digits, and no more. -/
structure DigRun (s : ByteArray) (at_ n : Nat) : Prop where
  le : at_ + n ≤ s.size
  all : ∀ k, (h : at_ + k < s.size) → k < n → isDig s[at_ + k] = true
  stop : (h : at_ + n < s.size) → isDig s[at_ + n] = false
theorem digits_walk (s : ByteArray) (at_ : Nat) (w : World) (hs : s.size ≤ maxLen) (hat : at_ ≤ s.size) :
    Calls Tryd.prog 59 #[.string s, .int .i64 at_] w fun e w' => (∃ n : Nat, e = .returned (.int .i64 n) ∧ DigRun s at_ n) ∧ w' = w := by
  unfold maxLen at hs
  go_enter Tryd.func59, Tryd.ntmps59
  go_wp2
  go_loop [5] (fun x => ∃ n : Nat, at_ + n ≤ s.size ∧ x = .int .i64 n ∧ ∀ k, (h : at_ + k < s.size) → k < n → isDig s[at_ + k] = true) (fun x => s.size - (intOf x).toNat)
  case atStart => exact ⟨0, by omega, rfl, fun k _ hk => absurd hk (by omega)⟩
  case round =>
    obtain ⟨n, hn, rfl, hall⟩ := hrel
    by_cases hlt : at_ + n < s.size
    · have hlt' : (at_ : Int) + n < s.size := by omega
      have htn : ((at_ : Int) + n).toNat = at_ + n := by omega
      by_cases hd : isDig s[at_ + n] = true
      · have hd' : 48 ≤ s[at_ + n].toNat ∧ s[at_ + n].toNat ≤ 57 := by simpa [isDig] using hd
        have HA := Lib.hid hall
        have HD := Lib.hid hd
        clear hall hd
        go_wp2_with (go_at_call 72; refine (isDigit_any _ _ (by omega) (by omega)).mono ?_; rintro e w' ⟨rfl, rfl⟩)
        go_round
        case rel => exact ⟨n + 1, by omega, by go_num, fun k hk hkn => by
          by_cases hkk : k < n
          · exact HA.out k hk hkk
          · obtain rfl : k = n := by omega
            exact HD.out⟩
        case measure => simp [intOf]; omega
      · have hd0 : isDig s[at_ + n] = false := by simpa using hd
        have hd' : s[at_ + n].toNat < 48 ∨ 57 < s[at_ + n].toNat := by simp [isDig] at hd0; omega
        have HA := Lib.hid hall
        have HD := Lib.hid hd0
        clear hall hd hd0
        have hb := UInt8.toNat_lt s[at_ + n]
        have t1 : (decide (48 ≤ (s[at_ + n].toNat : Int)) && decide ((s[at_ + n].toNat : Int) ≤ 57)) = false := by simp; omega
        go_wp2_with (go_at_call 72; refine (isDigit_any _ _ (by omega) (by omega)).mono ?_; rintro e w' ⟨rfl, rfl⟩)
        go_ret
        exact ⟨⟨n, rfl, ⟨hn, HA.out, fun _ => HD.out⟩⟩, rfl⟩
    · have HA := Lib.hid hall
      clear hall
      have hnlt : ¬ (at_ : Int) + n < s.size := by omega
      go_wp2
      go_ret
      exact ⟨⟨n, rfl, ⟨hn, HA.out, fun hc => absurd hc hlt⟩⟩, rfl⟩
end Go.Proofs.YtimcdeibjiekpaaDoor
