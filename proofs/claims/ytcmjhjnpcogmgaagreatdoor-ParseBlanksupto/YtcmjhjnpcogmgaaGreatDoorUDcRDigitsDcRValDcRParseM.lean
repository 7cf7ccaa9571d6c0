/- The contract of the document's digits, for every text and every place in it or just behind -/
import Derived.Test.YtcmjhjnpcogmgaaGreatDoorUAuto
import Derived.Test.YtcmjhjnpcogmgaaGreatDoorUDcDigitsDcCutDcSums
import Derived.Test.YtcmjhjnpcogmgaaGreatDoorUDcParseWDcParseAny
set_option linter.all false
set_option maxRecDepth 100000
set_option maxHeartbeats 4000000
namespace Go.Proofs.YtcmjhjnpcogmgaaGreatDoor.Dc
open Go.Shelf Go.RowKit
set_option linter.unusedVariables false
theorem isDigit_any (c : Int) (w : World) (h0 : 0 ≤ c) (h1 : c < 256) : Calls Tryz.prog 148 #[.int .u8 c] w fun e w' => e = .returned (.bool (decide (48 ≤ c) && decide (c ≤ 57))) ∧ w' = w := by
 by_cases h : 48 ≤ c
 ·by_cases h' : c ≤ 57
  ·rw [decide_eq_true h, decide_eq_true h']
   go_enter Tryz.func148, Tryz.ntmps148
   go_wp2
   go_ret
   exact ⟨rfl, rfl⟩
  ·rw [decide_eq_true h, decide_eq_false h']
   go_enter Tryz.func148, Tryz.ntmps148
   go_wp2
   go_ret
   exact ⟨rfl, rfl⟩
 ·rw [decide_eq_false h]
  go_enter Tryz.func148, Tryz.ntmps148
  go_wp2
  go_ret
  exact ⟨rfl, rfl⟩
structure DigRun (s : ByteArray) (at_ n : Nat) : Prop where
 le : at_ + n ≤ s.size
 all : ∀ k, (h : at_ + k < s.size) → k < n → isDig s[at_ + k] = true
 stop : (h : at_ + n < s.size) → isDig s[at_ + n] = false
theorem digits_walk (s : ByteArray) (at_ : Nat) (w : World) (hs : s.size ≤ maxLen) (hat : at_ ≤ s.size) :
  Calls Tryz.prog 104 #[.string s, .int .i64 at_] w fun e w' => (∃ n : Nat, e = .returned (.int .i64 n) ∧ DigRun s at_ n) ∧ w' = w := by
 unfold maxLen at hs
 go_enter Tryz.func104, Tryz.ntmps104
 go_wp2
 go_loop [5] (fun x => ∃ n : Nat, at_ + n ≤ s.size ∧ x = .int .i64 n ∧ ∀ k, (h : at_ + k < s.size) → k < n → isDig s[at_ + k] = true) (fun x => s.size - (intOf x).toNat)
 case atStart => exact ⟨0, zq17, rfl, fun k _ hk => absurd hk zq17⟩
 case round =>
  obtain ⟨n, hn, rfl, hall⟩ := hrel
  by_cases hlt : at_ + n < s.size
  ·have hlt' : (at_ : Int) + n < s.size := by omega
   have htn : ((at_ : Int) + n).toNat = at_ + n := by omega
   by_cases hd : isDig s[at_ + n] = true
   ·have hd' : 48 ≤ s[at_ + n].toNat ∧ s[at_ + n].toNat ≤ 57 := by simpa [isDig] using hd
    have HA := Lib.hid hall
    have HD := Lib.hid hd
    clear hall hd
    go_wp2_with (go_at_call 148; refine (isDigit_any _ _ zq17 zq17).mono ?_; rintro e w' ⟨rfl, rfl⟩)
    go_round
    case rel => exact ⟨n + 1, zq17, by go_num, fun k hk hkn => by
     by_cases hkk : k < n
     ·exact HA.out k hk hkk
     ·obtain rfl : k = n := by omega
      exact HD.out⟩
    case measure => simp [intOf]; omega
   ·have hd0 : isDig s[at_ + n] = false := by simpa using hd
    have hd' : s[at_ + n].toNat < 48 ∨ 57 < s[at_ + n].toNat := by simp [isDig] at hd0; omega
    have HA := Lib.hid hall
    have HD := Lib.hid hd0
    clear hall hd hd0
    have hb := UInt8.toNat_lt s[at_ + n]
    have t1 : (decide (48 ≤ (s[at_ + n].toNat : Int)) && decide ((s[at_ + n].toNat : Int) ≤ 57)) = false := by simp; omega
    go_wp2_with (go_at_call 148; refine (isDigit_any _ _ zq17 zq17).mono ?_; rintro e w' ⟨rfl, rfl⟩)
    go_ret
    exact ⟨⟨n, rfl, ⟨hn, HA.out, fun _ => HD.out⟩⟩, rfl⟩
  ·have HA := Lib.hid hall
   clear hall
   have hnlt : ¬ (at_ : Int) + n < s.size := by omega
   go_wp2
   go_ret
   exact ⟨⟨n, rfl, ⟨hn, HA.out, fun hc => absurd hc hlt⟩⟩, rfl⟩
end Go.Proofs.YtcmjhjnpcogmgaaGreatDoor.Dc
namespace Go.Proofs.YtcmjhjnpcogmgaaGreatDoor.Dc
open Go.Shelf Go.RowKit
set_option linter.unusedVariables false
def p10 (j : Nat) : Nat := 10 ^ j
theorem p10_zero : p10 0 = 1 := rfl
theorem p10_succ (j : Nat) : p10 (j + 1) = 10 * p10 j := by unfold p10; rw [Nat.pow_succ]; omega
theorem p10_le {j k : Nat} (h : j ≤ k) : p10 j ≤ p10 k := Nat.pow_le_pow_right zq16 h
theorem rsigned_pos (n : Int) (w : World) (h0 : 0 ≤ n) (h : n ≤ 9223372036854775807) : Calls Tryz.prog 105 #[.int .u64 n, .bool false] w fun e w' => e = .returned (.tuple #[.int .i64 n, .int .i64 0]) ∧ w' = w := by
 go_enter Tryz.func105, Tryz.ntmps105
 go_wp2
 go_ret2
 exact ⟨rfl, rfl⟩
theorem rsigned_neg (n : Int) (w : World) (h0 : 0 ≤ n) (h : n ≤ 9223372036854775807) : Calls Tryz.prog 105 #[.int .u64 n, .bool true] w fun e w' => e = .returned (.tuple #[.int .i64 (-n), .int .i64 0]) ∧ w' = w := by
 go_enter Tryz.func105, Tryz.ntmps105
 go_wp2
 go_ret2
 exact ⟨rfl, rfl⟩
def DigIs (s : ByteArray) (at_ n : Nat) : Prop := ∀ w, Calls Tryz.prog 104 #[.string s, .int .i64 at_] w fun e w' => e = .returned (.int .i64 n) ∧ w' = w
def DigAt (s : ByteArray) (x : Int) (n : Nat) : Prop := ∀ w, Calls Tryz.prog 104 #[.string s, .int .i64 x] w fun e w' => e = .returned (.int .i64 n) ∧ w' = w
def dgt (s : ByteArray) (i : Nat) : Nat := if h : i < s.size then s[i].toNat - 48 else 0
def val (s : ByteArray) (at_ : Nat) : Nat → Nat
 | 0 => 0
 | j + 1 => 10 * val s at_ j + dgt s (at_ + j)
theorem dgt_is {s : ByteArray} {i : Nat} (h : i < s.size) : dgt s i = s[i].toNat - 48 := by unfold dgt; rw [dif_pos h]
theorem val_lt (s : ByteArray) (at_ : Nat) (j : Nat) (h : ∀ k, (hk : at_ + k < s.size) → k < j → isDig s[at_ + k] = true) : val s at_ j < p10 j := by
 induction j with
 | zero => simp [val, p10_zero]
 | succ j ih =>
  have h1 := ih fun k hk hkj => h k hk zq17
  have h2 : dgt s (at_ + j) ≤ 9 := by
   unfold dgt; split
   ·rename_i hk
    have := h j hk zq17
    simp [isDig] at this; omega
   ·omega
  rw [p10_succ]; simp only [val]; omega
def fv (n0 : Nat) (s : ByteArray) (a r : Nat) : Nat → Nat
 | 0 => n0
 | i + 1 => 10 * fv n0 s a r i + (if i < r then dgt s (a + i) else 0)
theorem fv_lt (n0 : Nat) (s : ByteArray) (a r : Nat) (h : ∀ k, (hk : a + k < s.size) → k < r → isDig s[a + k] = true) (h0 : n0 < 1000000000000000) : ∀ i, i ≤ 4 → fv n0 s a r i < 1000000000000000 * p10 i
 | 0, _ => by rw [p10_zero]; simpa [fv] using h0
 | i + 1, hi => by
  have h1 := fv_lt n0 s a r h h0 i zq17
  have h2 : (if i < r then dgt s (a + i) else 0) ≤ 9 := by
   split
   ·rename_i hir
    unfold dgt; split
    ·rename_i hk
     have := h i hk hir
     simp [isDig] at this; omega
    ·omega
   ·omega
  rw [p10_succ]; simp only [fv]; omega
theorem ret2b {k : IntKind} {a b : Int} {o : Bool} (h : a = b) : Ending.returned (.tuple #[.int k a, .bool o]) = .returned (.tuple #[.int k b, .bool o]) := by rw [h]
end Go.Proofs.YtcmjhjnpcogmgaaGreatDoor.Dc
namespace Go.Proofs.YtcmjhjnpcogmgaaGreatDoor.Dc
open Go.Shelf Go.RowKit
set_option linter.unusedVariables false
theorem list_at {d : ByteArray} {i : Nat} (h : i < d.size) : d.data.toList[i]? = some d[i] := by
 rw [List.getElem?_eq_getElem (by simpa using h)]; rfl
structure Run (d : ByteArray) (k : Nat) : Prop where
 le : k ≤ d.size
 all : ∀ i, (h : i < d.size) → i < k → isDig d[i] = true
 stop : (h : k < d.size) → isDig d[k] = false
theorem dot_no : isDig 46 = false := by decide
theorem pt_cases (d : ByteArray) : (ptAt d = -1 ∧ ∀ i, (h : i < d.size) → d[i] ≠ 46) ∨ ∃ o : Nat, ptAt d = o ∧ ∃ h : o < d.size, d[o] = 46 ∧ ∀ i, (h : i < d.size) → i < o → d[i] ≠ 46 := by
 by_cases h : ptAt d = -1
 ·refine .inl ⟨h, fun i hi he => ?_⟩
  have := Lib.indexByte_none (l := d.data.toList) (c := 46) h i
  rw [list_at hi, he] at this
  exact this rfl
 ·have hge := ptAt_ge d
  obtain ⟨o, ho⟩ : ∃ o : Nat, ptAt d = o := ⟨(ptAt d).toNat, zq17⟩
  have hs := Lib.indexByte_some (l := d.data.toList) (c := 46) ho
  have hlt : o < d.size := by have := ptAt_lt d zq17; omega
  refine .inr ⟨o, ho, hlt, ?_, fun i hi hio he => ?_⟩
  ·have := hs.1; rw [list_at hlt] at this; exact Option.some.inj this
  ·have := hs.2 i hio; rw [list_at hi, he] at this; exact this rfl
theorem run_end {d : ByteArray} {k : Nat} (r : Run d k) (h : d.size ≤ k) : cutF d = false ∧ cutA d = d ∧ cutB d = ⟨#[]⟩ := by
 rcases pt_cases d with ⟨hp, _⟩ | ⟨o, ho, hlt, he, _⟩
 ·refine ⟨by unfold cutF; rw [hp]; rfl, by unfold cutA; rw [hp]; rfl, by unfold cutB; rw [hp]; rfl⟩
 ·have := r.all o hlt zq17
  rw [he, dot_no] at this; cases this
theorem run_dot {d : ByteArray} {k : Nat} (r : Run d k) (h : k < d.size) (hd : d[k].toNat = 46) : cutF d = true ∧ cutA d = d.extract 0 k ∧ cutB d = d.extract (k + 1) d.size := by
 have hd' : d[k] = 46 := UInt8.toNat_inj.1 hd
 rcases pt_cases d with ⟨hp, hn⟩ | ⟨o, ho, hlt, he, hn⟩
 ·exact absurd hd' (hn k h)
 ·have hk : o = k := by
   by_cases h1 : o < k
   ·have := r.all o hlt h1
    rw [he, dot_no] at this; cases this
   by_cases h2 : k < o
   ·exact absurd hd' (hn k h h2)
   ·omega
  subst hk
  have h0 : 0 ≤ ptAt d := by omega
  have ht : (ptAt d).toNat = o := by omega
  refine ⟨by unfold cutF; exact decide_eq_true h0, by unfold cutA; rw [if_pos h0, ht], by unfold cutB; rw [if_pos h0, ht]⟩
theorem size_extract0 (d : ByteArray) (o : Nat) (h : o ≤ d.size) : (d.extract 0 o).size = o := by rw [ByteArray.size_extract]; omega
theorem list_extract0 (d : ByteArray) (o : Nat) : (d.extract 0 o).data.toList = d.data.toList.take o := by
 rw [ByteArray.data_extract, Array.toList_extract, List.extract_eq_take_drop]; simp
theorem all_take_false {d : ByteArray} {k o : Nat} (h : k < d.size) (hd : isDig d[k] = false) (hko : k < o) : (d.data.toList.take o).all isDig = false := by
 rw [List.all_eq_false]
 refine ⟨d[k], ?_, by simp [hd]⟩
 have : (d.data.toList.take o)[k]? = some d[k] := by rw [List.getElem?_take, if_pos hko, list_at h]
 exact List.mem_of_getElem? this
theorem run_nd {d : ByteArray} {k : Nat} (r : Run d k) (h : k < d.size) (hd : d[k].toNat ≠ 46) : allDig (cutA d) = false := by
 have hst := r.stop h
 rcases pt_cases d with ⟨hp, hn⟩ | ⟨o, ho, hlt, he, hn⟩
 ·have e : cutA d = d := by unfold cutA; rw [hp]; rfl
  rw [e]; exact all_false h hst
 ·have hko : k < o := by
   by_cases h1 : o < k
   ·have := r.all o hlt h1
    rw [he, dot_no] at this; cases this
   by_cases h2 : o = k
   ·subst h2; exact absurd (by rw [he]; rfl) hd
   ·omega
  have e : cutA d = d.extract 0 o := by unfold cutA; rw [if_pos zq17, show (ptAt d).toNat = o by omega]
  rw [e]; unfold allDig
  rw [list_extract0]; exact all_take_false h hst hko
theorem run_all {d : ByteArray} {k : Nat} (r : Run d k) : (d.data.toList.take k).all isDig = true := by
 rw [List.all_eq_true]
 intro x hx
 obtain ⟨i, hi, rfl⟩ := List.mem_iff_getElem.1 hx
 have hik : i < k := by simp at hi; omega
 have hid : i < d.size := by have := r.le; omega
 have : (d.data.toList.take k)[i] = d[i] := by rw [List.getElem_take]; rfl
 rw [this]; exact r.all i hid hik
theorem cnt_val (d : ByteArray) : ∀ j, j ≤ d.size → cnt (d.data.toList.take j) = val d 0 j
 | 0, _ => by simp [cnt, val]
 | j + 1, h => by
  rw [take_snoc d j zq17, cnt_snoc, cnt_val d j zq17]
  simp only [val]; rw [dgt_is (show 0 + j < d.size by omega)]; simp
theorem val_shift {s d : ByteArray} {a : Nat} (hsz : d.size + a = s.size) (hat : ∀ i, (h : i < d.size) → (h' : a + i < s.size) → d[i] = s[a + i]) : ∀ j, j ≤ d.size → val d 0 j = val s a j
 | 0, _ => rfl
 | j + 1, h => by
  simp only [val]
  rw [val_shift hsz hat j zq17, dgt_is (show 0 + j < d.size by omega), dgt_is (show a + j < s.size by omega)]
  have := hat (0 + j) zq17 zq17
  simp only [Nat.zero_add] at this ⊢
  rw [this]
theorem cnt_four (x : List UInt8) (h : x.length = 4) : cnt x = 1000 * ((x.getD 0 48).toNat - 48) + 100 * ((x.getD 1 48).toNat - 48) + 10 * ((x.getD 2 48).toNat - 48) + ((x.getD 3 48).toNat - 48) := by
 match x, h with
 | [a, b, c, e], _ => simp [cnt]; omega
theorem frac_at (d : ByteArray) (i : Nat) (hi : i < 4) : ((fracB d).data.toList.getD i 48).toNat - 48 = dgt (cutB d) i := by
 rw [frac_list, List.getD_eq_getElem?_getD, List.getElem?_take, if_pos hi]
 unfold dgt
 by_cases h : i < (cutB d).size
 ·rw [dif_pos h, List.getElem?_append_left (by simpa using h), list_at h]; rfl
 ·rw [dif_neg h, List.getElem?_append_right (by simpa using h)]
  have hl : (cutB d).data.toList.length = (cutB d).size := rfl
  rw [hl]
  generalize hm : i - (cutB d).size = m
  have : m = 0 ∨ m = 1 ∨ m = 2 ∨ m = 3 := by omega
  rcases this with rfl | rfl | rfl | rfl <;> rfl
theorem frac_len4 (d : ByteArray) : (fracB d).data.toList.length = 4 := by rw [frac_list, List.length_take]; simp
theorem parts_fv {s d : ByteArray} {a k r : Nat} (hr : (cutB d).size = r) (hr4 : r ≤ 4) (hb : ∀ i, (h : i < (cutB d).size) → (h' : a + k + 1 + i < s.size) → (cutB d)[i] = s[a + k + 1 + i]) (hsz : r = 0 ∨ a + k + 1 + r ≤ s.size) (hv : cnt (cutA d).data.toList = val s a k) : partsN d = fv (val s a k) s (a + k + 1) r 4 := by
 have hd : ∀ i, i < 4 → dgt (cutB d) i = if i < r then dgt s (a + k + 1 + i) else 0 := fun i hi => by
  by_cases h : i < r
  ·rw [if_pos h, dgt_is (show i < (cutB d).size by omega), dgt_is (show a + k + 1 + i < s.size by omega), hb i zq17 zq17]
  ·rw [if_neg h]; unfold dgt; rw [dif_neg zq17]
 unfold partsN
 rw [hv, cnt_four _ (frac_len4 d), frac_at d 0 zq16, frac_at d 1 zq16, frac_at d 2 zq16, frac_at d 3 zq16, hd 0 zq16, hd 1 zq16, hd 2 zq16, hd 3 zq16]
 simp only [fv]
 omega
end Go.Proofs.YtcmjhjnpcogmgaaGreatDoor.Dc
