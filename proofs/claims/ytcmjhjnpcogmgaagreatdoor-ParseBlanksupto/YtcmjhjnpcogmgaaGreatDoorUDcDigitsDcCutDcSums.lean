/- Contracts of dec.isDigits, dec.count and strings.Cut at a point, for every text: what each -/
import Derived.Test.YtcmjhjnpcogmgaaGreatDoorUAuto
import Derived.Test.YtcmjhjnpcogmgaaGreatDoorUShelfX
import Derived.Lib.Hide
import Derived.Test.YtcmjhjnpcogmgaaGreatDoorRows
import Derived.WalkKit
import Derived.WalkSpells
import Derived.Outline
import Derived.Deep.QuietTactic
import Derived.BigQuiet
import Derived.Lib.IndexLaws
set_option linter.all false
set_option maxRecDepth 100000
set_option maxHeartbeats 4000000
namespace Go.Proofs.YtcmjhjnpcogmgaaGreatDoor.Dc
open Go.Shelf Go.RowKit
set_option linter.unusedVariables false
def isDig (c : UInt8) : Bool := decide (48 ≤ c.toNat) && decide (c.toNat ≤ 57)
def allDig (s : ByteArray) : Bool := s.data.toList.all isDig
def digsB (s : ByteArray) (most : Int) : Bool := decide (1 ≤ s.size) && decide ((s.size : Int) ≤ most) && allDig s
theorem take_snoc (s : ByteArray) (k : Nat) (h : k < s.size) : s.data.toList.take (k + 1) = s.data.toList.take k ++ [s[k]] := by
  rw [List.take_succ_eq_append_getElem (by simpa using h)]; rfl
theorem all_take {s : ByteArray} {k : Nat} (h : k < s.size) : (s.data.toList.take (k + 1)).all isDig = ((s.data.toList.take k).all isDig && isDig s[k]) := by
  rw [take_snoc s k h]; simp
theorem all_false {s : ByteArray} {k : Nat} (h : k < s.size) (hd : isDig s[k] = false) : allDig s = false := by
  unfold allDig
  rw [List.all_eq_false]
  refine ⟨s[k], ?_, by simp [hd]⟩
  have : s[k] = s.data.toList[k]'(by simpa using h) := rfl
  rw [this]; exact List.getElem_mem _
theorem retB {a b : Bool} (h : a = b) : Ending.returned (.bool a) = .returned (.bool b) := by rw [h]
theorem isDigits_no (s : ByteArray) (most : Int) (w : World) (hs : s.size ≤ maxLen) (h : s.size < 1 ∨ most < s.size) :
    Calls Tryz.prog 163 #[.string s, .int .i64 most] w fun e w' => e = .returned (.bool false) ∧ w' = w := by
  unfold maxLen at hs
  by_cases h1 : s.size < 1
  · go_enter Tryz.func163, Tryz.ntmps163
    go_wp2
    go_ret
    exact ⟨rfl, rfl⟩
  · have h2 : most < s.size := by omega
    go_enter Tryz.func163, Tryz.ntmps163
    go_wp2
    go_ret
    exact ⟨rfl, rfl⟩
theorem isDigits_yes (s : ByteArray) (most : Int) (w : World) (hs : s.size ≤ maxLen) (h : 1 ≤ s.size) (h' : s.size ≤ most) :
    Calls Tryz.prog 163 #[.string s, .int .i64 most] w fun e w' => e = .returned (.bool (allDig s)) ∧ w' = w := by
  unfold maxLen at hs
  go_enter Tryz.func163, Tryz.ntmps163
  go_wp2
  go_loop [17] (fun i => ∃ k : Nat, k ≤ s.size ∧ i = .int .i64 k ∧ (s.data.toList.take k).all isDig = true) (fun i => s.size - (intOf i).toNat)
  case atStart => exact ⟨0, Nat.zero_le _, rfl, by simp⟩
  case round =>
    obtain ⟨k, hk, rfl, hall⟩ := hrel
    by_cases hlt : k < s.size
    · have hat := all_take (s := s) hlt
      rw [hall, Bool.true_and] at hat
      by_cases hd : isDig s[k] = true
      · have hd' : 48 ≤ s[k].toNat ∧ s[k].toNat ≤ 57 := by simpa [isDig] using hd
        obtain ⟨d1, d2⟩ := hd'
        have H := Lib.hid (hat.trans hd)
        clear hat hd
        go_wp2
        go_round
        case rel => exact ⟨k + 1, zq17, by go_num, H.out⟩
        case measure => simp [intOf]; omega
      · have hd0 : isDig s[k] = false := by simpa using hd
        have hf := all_false hlt hd0
        have hd' : s[k].toNat < 48 ∨ 57 < s[k].toNat := by simp [isDig] at hd0; omega
        have HF := Lib.hid hf
        clear hat hd hd0 hall hf
        by_cases h48 : s[k].toNat < 48
        · go_wp2
          go_ret
          exact ⟨retB HF.out.symm, rfl⟩
        · have h57 : 57 < s[k].toNat := by omega
          go_wp2
          go_ret
          exact ⟨retB HF.out.symm, rfl⟩
    · have hf : allDig s = true := by
        unfold allDig
        rw [List.take_of_length_le (by simp; omega)] at hall; exact hall
      have HF := Lib.hid hf
      clear hall hf
      go_wp2
      go_ret
      exact ⟨retB HF.out.symm, rfl⟩
theorem isDigits_any (s : ByteArray) (most : Int) (w : World) (hs : s.size ≤ maxLen) :
    Calls Tryz.prog 163 #[.string s, .int .i64 most] w fun e w' => e = .returned (.bool (digsB s most)) ∧ w' = w := by
  by_cases h : s.size < 1 ∨ most < s.size
  · have e : digsB s most = false := by unfold digsB; rw [Bool.and_eq_false_iff]; left; simp; omega
    rw [e]; exact isDigits_no s most w hs h
  · have h1 : 1 ≤ s.size := by omega
    have h2 : (s.size : Int) ≤ most := by omega
    have e : digsB s most = allDig s := by unfold digsB; simp only [h1, h2, decide_true, Bool.true_and]
    rw [e]; exact isDigits_yes s most w hs h1 h2
def cnt (l : List UInt8) : Nat := l.foldl (fun n c => 10 * n + (c.toNat - 48)) 0
theorem cnt_snoc (l : List UInt8) (c : UInt8) : cnt (l ++ [c]) = 10 * cnt l + (c.toNat - 48) := by simp [cnt]
theorem cnt_lt_go : ∀ (l : List UInt8) (n : Nat), l.all isDig = true → l.foldl (fun n c => 10 * n + (c.toNat - 48)) n < (n + 1) * 10 ^ l.length
  | [], n, _ => by simp
  | c :: l, n, h => by
    simp only [List.all_cons, Bool.and_eq_true] at h
    have hc : c.toNat ≤ 57 := by have := h.1; simp [isDig] at this; omega
    have h1 := cnt_lt_go l (10 * n + (c.toNat - 48)) h.2
    have h2 : (10 * n + (c.toNat - 48) + 1) * 10 ^ l.length ≤ ((n + 1) * 10) * 10 ^ l.length := Nat.mul_le_mul_right _ zq17
    rw [List.foldl_cons, List.length_cons, Nat.pow_succ]
    have h3 : (n + 1) * (10 ^ l.length * 10) = ((n + 1) * 10) * 10 ^ l.length := by
      rw [Nat.mul_assoc, Nat.mul_comm (10 ^ l.length) 10]
    omega
theorem cnt_lt (l : List UInt8) (h : l.all isDig = true) : cnt l < 10 ^ l.length := by
  have := cnt_lt_go l 0 h
  simpa [cnt] using this
theorem count_any (s : ByteArray) (w : World) (hs : s.size ≤ 18) (hd : allDig s = true) :
    Calls Tryz.prog 164 #[.string s] w fun e w' => e = .returned (.int .u64 (cnt s.data.toList)) ∧ w' = w := by
  unfold allDig at hd
  go_enter Tryz.func164, Tryz.ntmps164
  go_wp2
  go_loop [3, 7] (fun n i => ∃ k : Nat, k ≤ s.size ∧ i = .int .i64 k ∧ n = .int .u64 (cnt (s.data.toList.take k) : Nat)) (fun _ i => s.size - (intOf i).toNat)
  case atStart => exact ⟨0, Nat.zero_le _, rfl, rfl⟩
  case round =>
    obtain ⟨k, hk, rfl, rfl⟩ := hrel
    by_cases hlt : k < s.size
    · have hdk : isDig s[k] = true := List.all_eq_true.1 hd s[k] (by have : s[k] = s.data.toList[k]'(by simpa using hlt) := rfl
                                                                     rw [this]; exact List.getElem_mem _)
      have hd' : 48 ≤ s[k].toNat ∧ s[k].toNat ≤ 57 := by simpa [isDig] using hdk
      obtain ⟨d1, d2⟩ := hd'
      have hb : cnt (s.data.toList.take k) < 100000000000000000 := by
        have h1 := cnt_lt (s.data.toList.take k) (by rw [List.all_eq_true] at hd ⊢; exact fun x hx => hd x (List.mem_of_mem_take hx))
        have h2 : (s.data.toList.take k).length ≤ 17 := by simp; omega
        have h3 := Nat.pow_le_pow_right (n := 10) zq16 h2
        exact Nat.lt_of_lt_of_le h1 h3
      have HS := Lib.hid (cnt_snoc (s.data.toList.take k) s[k])
      have HT := Lib.hid (take_snoc s k hlt)
      have hb' : (cnt (s.data.toList.take k) : Int) < 100000000000000000 := by omega
      clear hdk hd
      go_wp2
      go_round
      case rel => exact ⟨k + 1, zq17, by go_num, by rw [HT.out, HS.out]; go_num⟩
      case measure => simp [intOf]; omega
    · clear hd
      go_wp2
      go_ret
      exact ⟨by rw [List.take_of_length_le (by simp; omega)]; rfl, rfl⟩
end Go.Proofs.YtcmjhjnpcogmgaaGreatDoor.Dc
namespace Go.Proofs.YtcmjhjnpcogmgaaGreatDoor.Dc
open Go.Shelf Go.RowKit
set_option linter.unusedVariables false
def ptAt (d : ByteArray) : Int := Lib.indexByte d.data.toList 46
def cutF (d : ByteArray) : Bool := decide (0 ≤ ptAt d)
def cutA (d : ByteArray) : ByteArray := if 0 ≤ ptAt d then d.extract 0 (ptAt d).toNat else d
def cutB (d : ByteArray) : ByteArray := if 0 ≤ ptAt d then d.extract ((ptAt d).toNat + 1) d.size else ⟨#[]⟩
theorem ptAt_lt (d : ByteArray) (h : 0 ≤ ptAt d) : (ptAt d).toNat < d.size := by
  have e : Lib.indexByte d.data.toList 46 = ((ptAt d).toNat : Nat) := by show ptAt d = _; omega
  have h1 := (Lib.indexByte_some e).1
  have h2 := List.getElem?_eq_some_iff.1 h1
  obtain ⟨h3, _⟩ := h2
  simpa using h3
theorem ptAt_ge (d : ByteArray) : -1 ≤ ptAt d := Lib.indexByte_ge _ _
theorem index_pt (d : ByteArray) (i : Int) (hi : ptAt d = i) (w : World) :
    Calls Tryz.prog 187 #[.string d, .string ⟨#[46]⟩] w fun e w' => e = .returned (.int .i64 i) ∧ w' = w := by
  subst hi; exact Any.stringslite_Index_one Tryz.lays219 d 46 w
theorem lcut_yes (d : ByteArray) (k : Nat) (hk : ptAt d = k) (hlt : k < d.size) (hs : d.size ≤ maxLen) (w : World) :
    Calls Tryz.prog 185 #[.string d, .string ⟨#[46]⟩] w fun e w' => e = .returned (.tuple #[.string (d.extract 0 k), .string (d.extract (k + 1) d.size), .bool true]) ∧ ∃ n, w' = w.drewN n := by
  unfold maxLen at hs
  have hlt' : (k : Int) < d.size := by omega
  go_enter Tryz.func185, Tryz.ntmps185
  go_wp2_with (go_at_call 187; refine (index_pt d k hk _).mono ?_; rintro e w' ⟨rfl, rfl⟩)
  go_quiet (fail)
  go_wp2
  go_ret3
  exact ⟨rfl, nq, rfl⟩
theorem lcut_no (d : ByteArray) (hk : ptAt d = -1) (w : World) :
    Calls Tryz.prog 185 #[.string d, .string ⟨#[46]⟩] w fun e w' => e = .returned (.tuple #[.string d, .string ⟨#[]⟩, .bool false]) ∧ ∃ n, w' = w.drewN n := by
  go_enter Tryz.func185, Tryz.ntmps185
  go_wp2_with (go_at_call 187; refine (index_pt d (-1) hk _).mono ?_; rintro e w' ⟨rfl, rfl⟩)
  go_ret3
  exact ⟨rfl, 0, rfl⟩
theorem lcut_any (d : ByteArray) (hs : d.size ≤ maxLen) (w : World) :
    Calls Tryz.prog 185 #[.string d, .string ⟨#[46]⟩] w fun e w' => e = .returned (.tuple #[.string (cutA d), .string (cutB d), .bool (cutF d)]) ∧ ∃ n, w' = w.drewN n := by
  by_cases h : 0 ≤ ptAt d
  · have e1 : cutA d = d.extract 0 (ptAt d).toNat := by unfold cutA; rw [if_pos h]
    have e2 : cutB d = d.extract ((ptAt d).toNat + 1) d.size := by unfold cutB; rw [if_pos h]
    have e3 : cutF d = true := by unfold cutF; simp [h]
    rw [e1, e2, e3]
    exact lcut_yes d (ptAt d).toNat zq17 (ptAt_lt d h) hs w
  · have e1 : cutA d = d := by unfold cutA; rw [if_neg h]
    have e2 : cutB d = ⟨#[]⟩ := by unfold cutB; rw [if_neg h]
    have e3 : cutF d = false := by unfold cutF; simp; omega
    rw [e1, e2, e3]
    exact lcut_no d (by have := ptAt_ge d; omega) w
theorem cut_any (d : ByteArray) (hs : d.size ≤ maxLen) (w : World) :
    Calls Tryz.prog 161 #[.string d, .string ⟨#[46]⟩] w fun e w' => e = .returned (.tuple #[.string (cutA d), .string (cutB d), .bool (cutF d)]) ∧ ∃ n, w' = w.drewN n := by
  go_enter Tryz.func161, Tryz.ntmps161
  go_wp2_with (go_at_call 185; refine (lcut_any d hs _).mono ?_; rintro e w' ⟨rfl, n, rfl⟩)
  go_ret3
  exact ⟨rfl, n, rfl⟩
end Go.Proofs.YtcmjhjnpcogmgaaGreatDoor.Dc
namespace Go.Proofs.YtcmjhjnpcogmgaaGreatDoor.Dc
open Go.RowKit Go.Shelf
set_option linter.unusedVariables false
def I64 (x : Int) : Prop := -9223372036854775808 ≤ x ∧ x ≤ 9223372036854775807
theorem ret1 {k : IntKind} {a b : Int} (h : a = b) : Ending.returned (.int k a) = .returned (.int k b) := by rw [h]
theorem may_t (x : Int) (w : World) (h : -9223372036854775807 ≤ x) : Calls Tryz.prog 174 #[.int .i64 x] w fun e w' => e = .returned (.bool true) ∧ w' = w := by
  have hx : (x != -9223372036854775808) = true := by simp; omega
  go_enter Tryz.func174, Tryz.ntmps174
  go_wp2
  go_ret
  exact ⟨rfl, rfl⟩
theorem may_f (x : Int) (w : World) (h : x = -9223372036854775808) : Calls Tryz.prog 174 #[.int .i64 x] w fun e w' => e = .returned (.bool false) ∧ w' = w := by
  subst h
  go_enter Tryz.func174, Tryz.ntmps174
  go_wp2
  go_ret
  exact ⟨rfl, rfl⟩
def mayOk (x : Int) : Bool := decide (x ≠ -9223372036854775808)
theorem mayOk_t {x : Int} (h : -9223372036854775807 ≤ x) : mayOk x = true := by simp [mayOk]; omega
theorem mayOk_f {x : Int} (h : x = -9223372036854775808) : mayOk x = false := by simp [mayOk, h]
theorem mayAny (x : Int) (w : World) (hx : I64 x) : Calls Tryz.prog 174 #[.int .i64 x] w fun e w' => e = .returned (.bool (mayOk x)) ∧ w' = w := by
  obtain ⟨hx1, hx2⟩ := hx
  by_cases hB : x = -9223372036854775808
  · rw [mayOk_f hB]; exact may_f x w hB
  · rw [mayOk_t zq17]; exact may_t x w zq17
end Go.Proofs.YtcmjhjnpcogmgaaGreatDoor.Dc
