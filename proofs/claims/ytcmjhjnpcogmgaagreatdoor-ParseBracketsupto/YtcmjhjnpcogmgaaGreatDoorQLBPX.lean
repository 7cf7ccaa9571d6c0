/- Contracts of lex's small functions (begins, run, isMeantAsCell, quotedReach, faultReach, wordReach, reach) and of the library's that they call, for every text. New memory alone is made. The condition: texts no longer than a text may be. · The contract of strings.Cut at a exclamation mark, for every text: what stands ahead of the first exclamation mark, what behind it, whether there is one. Nothing is written (an order is drawn). -/
import Derived.Test.YtcmjhjnpcogmgaaGreatDoorQLX
import Derived.Test.YtcmjhjnpcogmgaaGreatDoorQShelfX
import Derived.LoopTactic
import Derived.Test.YtcmjhjnpcogmgaaGreatDoorQABA1AMP1P2
import Derived.Lib.IndexLaws
import Derived.Laws.Cover1
namespace Go.Proofs.YtcmjhjnpcogmgaaGreatDoor
open Go.Shelf Go.RowKit
set_option linter.all false

theorem idx_mem (c : UInt8) : ∀ l : List UInt8, 0 ≤ Lib.indexByte l c ↔ c ∈ l
  | [] => by simp [Lib.indexByte]
  | a :: t => by
    have ih := idx_mem c t
    have hg := Lib.indexByte_ge t c
    by_cases h : a = c
    · subst h; simp [Lib.indexByte]
    · have h' : (a == c) = false := by simpa using h
      have h2 : ¬ c = a := fun e => h e.symm
      by_cases h3 : Lib.indexByte t c = -1
      · have e : Lib.indexByte (a :: t) c = -1 := by simp [Lib.indexByte, h', h3]
        rw [e, List.mem_cons, ← ih, h3]; simp [h2]
      · have e : Lib.indexByte (a :: t) c = Lib.indexByte t c + 1 := by simp [Lib.indexByte, h, h3]
        rw [e, List.mem_cons, ← ih]
        constructor
        · intro _; right; omega
        · rintro (k | k); exact absurd k h2; omega
theorem contains_idx (l : List UInt8) (c : UInt8) : decide (0 ≤ Lib.indexByte l c) = l.contains c := by
  rw [List.contains_eq_mem]; exact decide_eq_decide.2 (idx_mem c l)
theorem toL (s : ByteArray) : s.toList = s.data.toList := ByteArray.toList_eq s
theorem size_len (s : ByteArray) : s.size = s.data.toList.length := by simp
theorem ext_to (s : ByteArray) (k : Nat) : (s.extract 0 k).data.toList = s.data.toList.take k := by
  rw [ByteArray.data_extract, Array.toList_extract, List.extract_eq_take_drop, Nat.sub_zero, List.drop_zero]
theorem ext_from (s : ByteArray) (k : Nat) : (s.extract k s.size).data.toList = s.data.toList.drop k := by
  rw [ByteArray.data_extract, Array.toList_extract, List.extract_eq_take_drop, List.take_of_length_le (by simp)]
theorem bgn_at {s : ByteArray} {cs : List UInt8} (h : 0 < s.size) : bgn s.data.toList cs = cs.contains s[0] := by
  rw [size_len] at h
  cases hl : s.data.toList with
  | nil => rw [hl] at h; simp at h
  | cons c t =>
    simp only [bgn]
    congr 1
    have : s[0] = s.data.toList[0] := rfl
    rw [this]; simp [hl]
theorem idxByte (these : ByteArray) (c : UInt8) (w : World) :
    Calls Tryz.prog 125 #[.string these, .int .u8 c.toNat] w fun e w' => e = .returned (.int .i64 (Lib.indexByte these.data.toList c)) ∧ Below w.heap.size w w' := by
  have h : Calls Tryz.prog 125 #[.string these, .int .u8 c.toNat] w fun e w' => e = .returned (.int .i64 (Lib.indexByte these.data.toList (c.toNat : Int).toNat.toUInt8)) ∧ w' = w := Any.strings_IndexByte Tryz.lays137 these c.toNat w
  have e : (c.toNat : Int).toNat.toUInt8 = c := by simp
  rw [e] at h
  exact h.mono fun e w' ⟨he, hw⟩ => ⟨he, by rw [hw]; exact Below.refl _ _⟩
theorem begins_any (s these : ByteArray) (w : World) :
    Calls Tryz.prog 83 #[.string s, .string these] w fun e w' => e = .returned (.bool (bgn s.data.toList these.data.toList)) ∧ Below w.heap.size w w' := by
  by_cases h : 0 < s.size
  · have hne : ¬ s.toList = [] := by rw [toL]; intro e; rw [size_len, e] at h; simp at h
    have he : s.toList.isEmpty = false := by cases hq : s.toList; exact absurd hq hne; rfl
    rw [bgn_at h, ← contains_idx]
    go_enter Tryz.func83, Tryz.ntmps83
    go_wp2_with (go_at_call 125; refine (idxByte _ _ _).mono ?_; rintro e w1 ⟨rfl, hb⟩; have hB : Below w.heap.size w w1 := bup (by with_reducible (repeat' first | assumption | exact Below.refl _ _ | refine Below.drew ?_ | refine Below.setCell ?_ (by first | exact Nat.le_refl _ | (simp; done) | (simp; omega) | omega) _ | refine Below.alloc ?_ (by first | exact Nat.le_refl _ | (simp; done) | (simp; omega) | omega) _)) hb; clear hb)
    go_ret
    exact ⟨rfl, by assumption⟩
  · have hn : s.toList = [] := by rw [toL]; rw [size_len] at h; exact List.length_eq_zero_iff.1 (by omega)
    have e : bgn s.data.toList these.data.toList = false := by rw [← toL, hn]; rfl
    rw [e]
    go_enter Tryz.func83, Tryz.ntmps83
    go_wp2
    go_ret
    exact ⟨rfl, Below.refl _ _⟩
theorem trimL (s these : ByteArray) (w : World) (hcs : these.size < 4294967281) (ha : ∀ (j : Nat) b, these.data.toList[j]? = some b → b.toNat < 128) :
    Calls Tryz.prog 81 #[.string s, .string these] w fun e w' => e = .returned (.string (bs (s.data.toList.dropWhile (these.data.toList.contains ·)))) ∧ Below w.heap.size w w' :=
  Any.strings_TrimLeft_laid Tryz.lays161 (by kernel_rfl) s these w hcs ha
theorem ascii_all {l : List UInt8} (h : l.all (fun b => decide (b.toNat < 128)) = true) : ∀ (j : Nat) b, l[j]? = some b → b.toNat < 128 := fun j b hj => by
  have := List.all_eq_true.1 h b (List.mem_of_getElem? hj)
  simpa using this
theorem run_any (s these : ByteArray) (w : World) (hs : s.size ≤ maxLen) (hcs : these.size < 4294967281) (ha : ∀ (j : Nat) b, these.data.toList[j]? = some b → b.toNat < 128) :
    Calls Tryz.prog 121 #[.string s, .string these] w fun e w' => e = .returned (.int .i64 (runL s.data.toList these.data.toList)) ∧ Below w.heap.size w w' := by
  unfold maxLen at hs
  have e1 := runL_drop s.data.toList these.data.toList
  have e2 : (s.data.toList.dropWhile (these.data.toList.contains ·)).length ≤ s.data.toList.length := (List.dropWhile_sublist _).length_le
  rw [← size_len] at e1 e2
  have e3 : (bs (s.data.toList.dropWhile (these.data.toList.contains ·))).size = (s.data.toList.dropWhile (these.data.toList.contains ·)).length := by simp [bs, ByteArray.size]
  rw [← e3] at e1 e2
  have hT := fun w => trimL s these w hcs ha
  revert e1 e2 hT
  generalize bs (s.data.toList.dropWhile (these.data.toList.contains ·)) = q
  generalize runL s.data.toList these.data.toList = r
  intro e1 e2 hT
  subst e1
  go_enter Tryz.func121, Tryz.ntmps121
  go_wp2_with (go_at_call 81; refine (hT _).mono ?_; rintro e w1 ⟨rfl, hb⟩; have hB : Below w.heap.size w w1 := bup (by with_reducible (repeat' first | assumption | exact Below.refl _ _ | refine Below.drew ?_ | refine Below.setCell ?_ (by first | exact Nat.le_refl _ | (simp; done) | (simp; omega) | omega) _ | refine Below.alloc ?_ (by first | exact Nat.le_refl _ | (simp; done) | (simp; omega) | omega) _)) hb; clear hb)
  go_ret
  exact ⟨by apply ret1; omega, by assumption⟩
end Go.Proofs.YtcmjhjnpcogmgaaGreatDoor
namespace Go.Proofs.YtcmjhjnpcogmgaaGreatDoor
open Go.Shelf Go.RowKit
set_option linter.all false

/-- Where the first exclamation mark stands; -1: nowhere. -/
def fxAt (d : ByteArray) : Int := Lib.indexByte d.data.toList 33
def fxF (d : ByteArray) : Bool := decide (0 ≤ fxAt d)
def fxA (d : ByteArray) : ByteArray := if 0 ≤ fxAt d then d.extract 0 (fxAt d).toNat else d
def fxB (d : ByteArray) : ByteArray := if 0 ≤ fxAt d then d.extract ((fxAt d).toNat + 1) d.size else ⟨#[]⟩
theorem fxAt_lt (d : ByteArray) (h : 0 ≤ fxAt d) : (fxAt d).toNat < d.size := by
  have e : Lib.indexByte d.data.toList 33 = ((fxAt d).toNat : Nat) := by show fxAt d = _; omega
  have h1 := (Lib.indexByte_some e).1
  have h2 := List.getElem?_eq_some_iff.1 h1
  obtain ⟨h3, _⟩ := h2
  simpa using h3
theorem fxAt_ge (d : ByteArray) : -1 ≤ fxAt d := Lib.indexByte_ge _ _
theorem index_fx (d : ByteArray) (i : Int) (hi : fxAt d = i) (w : World) :
    Calls Tryz.prog 187 #[.string d, .string ⟨#[33]⟩] w fun e w' => e = .returned (.int .i64 i) ∧ w' = w := by
  subst hi; exact Any.stringslite_Index_one Tryz.lays219 d 33 w
theorem lfx_yes (d : ByteArray) (k : Nat) (hk : fxAt d = k) (hlt : k < d.size) (hs : d.size ≤ maxLen) (w : World) :
    Calls Tryz.prog 185 #[.string d, .string ⟨#[33]⟩] w fun e w' => e = .returned (.tuple #[.string (d.extract 0 k), .string (d.extract (k + 1) d.size), .bool true]) ∧ ∃ n, w' = w.drewN n := by
  unfold maxLen at hs
  have hlt' : (k : Int) < d.size := by omega
  go_enter Tryz.func185, Tryz.ntmps185
  go_wp2_with (go_at_call 187; refine (index_fx d k hk _).mono ?_; rintro e w' ⟨rfl, rfl⟩)
  go_quiet (fail)
  go_wp2
  go_ret3
  exact ⟨rfl, nq, rfl⟩
theorem lfx_no (d : ByteArray) (hk : fxAt d = -1) (w : World) :
    Calls Tryz.prog 185 #[.string d, .string ⟨#[33]⟩] w fun e w' => e = .returned (.tuple #[.string d, .string ⟨#[]⟩, .bool false]) ∧ ∃ n, w' = w.drewN n := by
  go_enter Tryz.func185, Tryz.ntmps185
  go_wp2_with (go_at_call 187; refine (index_fx d (-1) hk _).mono ?_; rintro e w' ⟨rfl, rfl⟩)
  go_ret3
  exact ⟨rfl, 0, rfl⟩
theorem lfx_any (d : ByteArray) (hs : d.size ≤ maxLen) (w : World) :
    Calls Tryz.prog 185 #[.string d, .string ⟨#[33]⟩] w fun e w' => e = .returned (.tuple #[.string (fxA d), .string (fxB d), .bool (fxF d)]) ∧ ∃ n, w' = w.drewN n := by
  by_cases h : 0 ≤ fxAt d
  · have e1 : fxA d = d.extract 0 (fxAt d).toNat := by unfold fxA; rw [if_pos h]
    have e2 : fxB d = d.extract ((fxAt d).toNat + 1) d.size := by unfold fxB; rw [if_pos h]
    have e3 : fxF d = true := by unfold fxF; simp [h]
    rw [e1, e2, e3]
    exact lfx_yes d (fxAt d).toNat (by omega) (fxAt_lt d h) hs w
  · have e1 : fxA d = d := by unfold fxA; rw [if_neg h]
    have e2 : fxB d = ⟨#[]⟩ := by unfold fxB; rw [if_neg h]
    have e3 : fxF d = false := by unfold fxF; simp; omega
    rw [e1, e2, e3]
    exact lfx_no d (by have := fxAt_ge d; omega) w
/-- strings.Cut at a exclamation mark. -/
theorem fx_any (d : ByteArray) (hs : d.size ≤ maxLen) (w : World) :
    Calls Tryz.prog 161 #[.string d, .string ⟨#[33]⟩] w fun e w' => e = .returned (.tuple #[.string (fxA d), .string (fxB d), .bool (fxF d)]) ∧ ∃ n, w' = w.drewN n := by
  go_enter Tryz.func161, Tryz.ntmps161
  go_wp2_with (go_at_call 185; refine (lfx_any d hs _).mono ?_; rintro e w' ⟨rfl, n, rfl⟩)
  go_ret3
  exact ⟨rfl, n, rfl⟩
theorem fx_bel (d : ByteArray) (hs : d.size ≤ maxLen) (w : World) :
    Calls Tryz.prog 161 #[.string d, .string ⟨#[33]⟩] w fun e w' => e = .returned (.tuple #[.string (fxA d), .string (fxB d), .bool (fxF d)]) ∧ Below w.heap.size w w' :=
  (fx_any d hs w).mono fun e w' ⟨he, n, hn⟩ => ⟨he, by subst hn; exact bdrewN (Below.refl _ _) n⟩
end Go.Proofs.YtcmjhjnpcogmgaaGreatDoor
