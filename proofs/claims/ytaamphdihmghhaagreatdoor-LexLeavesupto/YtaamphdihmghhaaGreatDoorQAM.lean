/- Plain facts on names of cells: the letters of a column, the digits of a row, and a reader that goes from sign to sign; what it reads is just what a name names. No program in this text. -/
import Derived.Lib.ItoaNum
namespace Go.Proofs.YtaamphdihmghhaaGreatDoor
open Go.Lib
set_option linter.all false
/-- A column's letters (of 0: none). -/
def colL (c : Nat) : List UInt8 := if c = 0 then [] else if c ≤ 26 then [UInt8.ofNat (64 + c)] else [UInt8.ofNat (64 + (c - 1) / 26), UInt8.ofNat (65 + (c - 1) % 26)]
/-- A row's digits (of 0: none). -/
def rowL (r : Nat) : List UInt8 := if r = 0 then [] else decDigits r
/-- A row and a column that may be. -/
abbrev mayN (r c : Nat) : Prop := 1 ≤ r ∧ r ≤ 4096 ∧ 1 ≤ c ∧ c ≤ 256
/-- From sign to sign, with the column and the row that were read so far. -/
def pst : List UInt8 → Nat → Nat → Option (Nat × Nat)
  | [], c, r => if mayN r c then some (r, c) else none
  | x :: l, c, r =>
    if 65 ≤ x.toNat ∧ x.toNat ≤ 90 ∧ r = 0 then (if c * 26 + (x.toNat - 64) ≤ 256 then pst l (c * 26 + (x.toNat - 64)) r else none)
    else if 48 ≤ x.toNat ∧ x.toNat ≤ 57 ∧ ¬ (r = 0 ∧ x.toNat = 48) then (if r * 10 + (x.toNat - 48) ≤ 4096 then pst l c (r * 10 + (x.toNat - 48)) else none)
    else none
theorem pst_nil (c r : Nat) : pst [] c r = if mayN r c then some (r, c) else none := rfl
theorem pst_let (x : UInt8) (l : List UInt8) (c : Nat) (h1 : 65 ≤ x.toNat) (h2 : x.toNat ≤ 90) (h3 : c * 26 + (x.toNat - 64) ≤ 256) : pst (x :: l) c 0 = pst l (c * 26 + (x.toNat - 64)) 0 := by
  rw [pst, if_pos ⟨h1, h2, rfl⟩, if_pos h3]
theorem pst_let_no (x : UInt8) (l : List UInt8) (c : Nat) (h1 : 65 ≤ x.toNat) (h2 : x.toNat ≤ 90) (h3 : 256 < c * 26 + (x.toNat - 64)) : pst (x :: l) c 0 = none := by
  rw [pst, if_pos ⟨h1, h2, rfl⟩, if_neg (by omega)]
theorem pst_dig (x : UInt8) (l : List UInt8) (c r : Nat) (h1 : 48 ≤ x.toNat) (h2 : x.toNat ≤ 57) (h : r ≠ 0 ∨ x.toNat ≠ 48) (h3 : r * 10 + (x.toNat - 48) ≤ 4096) : pst (x :: l) c r = pst l c (r * 10 + (x.toNat - 48)) := by
  rw [pst, if_neg (by omega), if_pos (by omega), if_pos h3]
theorem pst_dig_no (x : UInt8) (l : List UInt8) (c r : Nat) (h1 : 48 ≤ x.toNat) (h2 : x.toNat ≤ 57) (h3 : 4096 < r * 10 + (x.toNat - 48)) : pst (x :: l) c r = none := by
  rw [pst, if_neg (by omega)]
  split
  · rw [if_neg (by omega)]
  · rfl
theorem pst_bad (x : UInt8) (l : List UInt8) (c r : Nat) (h1 : x.toNat < 65 ∨ 90 < x.toNat ∨ r ≠ 0) (h2 : x.toNat < 48 ∨ 57 < x.toNat ∨ (r = 0 ∧ x.toNat = 48)) : pst (x :: l) c r = none := by
  rw [pst, if_neg (by omega), if_neg (by omega)]
theorem ofn {n : Nat} (h : n < 256) : (UInt8.ofNat n).toNat = n := by simp [UInt8.toNat_ofNat']; omega
theorem nfo (x : UInt8) {n : Nat} (h : n = x.toNat) : UInt8.ofNat n = x := by subst h; simp
theorem pst_col (c : Nat) (l : List UInt8) (h1 : 1 ≤ c) (h2 : c ≤ 256) : pst (colL c ++ l) 0 0 = pst l c 0 := by
  unfold colL
  rw [if_neg (by omega)]
  by_cases h : c ≤ 26
  · rw [if_pos h]
    have e := ofn (n := 64 + c) (by omega)
    show pst (UInt8.ofNat (64 + c) :: l) 0 0 = _
    rw [pst_let _ _ _ (by omega) (by omega) (by omega), e]
    congr 1; omega
  · rw [if_neg h]
    have e1 := ofn (n := 64 + (c - 1) / 26) (by omega)
    have e2 := ofn (n := 65 + (c - 1) % 26) (by omega)
    show pst (UInt8.ofNat (64 + (c - 1) / 26) :: UInt8.ofNat (65 + (c - 1) % 26) :: l) 0 0 = _
    rw [pst_let _ _ _ (by omega) (by omega) (by omega), pst_let _ _ _ (by omega) (by omega) (by omega), e1, e2]
    congr 1; omega
theorem pst_row (c : Nat) : ∀ (r : Nat) (l : List UInt8), 1 ≤ r → r ≤ 4096 → pst (decDigits r ++ l) c 0 = pst l c r := by
  intro r
  induction r using Nat.strongRecOn with
  | _ r ih =>
    intro l h1 h2
    by_cases h : r < 10
    · rw [decDigits_one h]
      have e := ofn (n := 48 + r) (by omega)
      show pst (UInt8.ofNat (48 + r) :: l) c 0 = _
      rw [pst_dig _ _ _ _ (by omega) (by omega) (by omega) (by omega), e]
      congr 1; omega
    · rw [decDigits, dif_neg h, List.append_assoc, ih (r / 10) (by omega) _ (by omega) (by omega)]
      have e := ofn (n := 48 + r % 10) (by omega)
      show pst (UInt8.ofNat (48 + r % 10) :: l) c (r / 10) = _
      rw [pst_dig _ _ _ _ (by omega) (by omega) (by omega) (by omega), e]
      congr 1; omega
theorem rowL_pos {r : Nat} (h : 1 ≤ r) : rowL r = decDigits r := by unfold rowL; rw [if_neg (by omega)]
/-- What a name is read as. -/
theorem pst_name (r c : Nat) (h : mayN r c) : pst (colL c ++ rowL r) 0 0 = some (r, c) := by
  obtain ⟨h1, h2, h3, h4⟩ := h
  rw [pst_col c _ h3 h4, rowL_pos h1, ← List.append_nil (decDigits r), pst_row c r [] h1 h2, pst_nil, if_pos ⟨h1, h2, h3, h4⟩]
theorem col_snoc (c : Nat) (x : UInt8) (h1 : 65 ≤ x.toNat) (h2 : x.toNat ≤ 90) (h3 : c * 26 + (x.toNat - 64) ≤ 256) : colL (c * 26 + (x.toNat - 64)) = colL c ++ [x] := by
  unfold colL
  by_cases h0 : c = 0
  · rw [if_pos h0, if_neg (by omega), if_pos (by omega), nfo x (by omega)]; rfl
  · have hc : c ≤ 26 := by omega
    rw [if_neg (show ¬ c * 26 + (x.toNat - 64) = 0 by omega), if_neg (show ¬ c * 26 + (x.toNat - 64) ≤ 26 by omega), if_neg h0, if_pos hc, show 64 + (c * 26 + (x.toNat - 64) - 1) / 26 = 64 + c by omega, nfo x (show 65 + (c * 26 + (x.toNat - 64) - 1) % 26 = x.toNat by omega)]; rfl
theorem row_snoc (r : Nat) (x : UInt8) (h1 : 48 ≤ x.toNat) (h2 : x.toNat ≤ 57) (h : r ≠ 0 ∨ x.toNat ≠ 48) : rowL (r * 10 + (x.toNat - 48)) = rowL r ++ [x] := by
  rw [rowL_pos (by omega)]
  by_cases h0 : r = 0
  · rw [h0, decDigits_one (by omega), nfo x (by omega)]; rfl
  · rw [decDigits, dif_neg (by omega), rowL_pos (by omega), nfo x (by omega), show (r * 10 + (x.toNat - 48)) / 10 = r by omega]
theorem pst_back : ∀ (l : List UInt8) (c r c' r' : Nat), pst l c r = some (r', c') → mayN r' c' ∧ colL c' ++ rowL r' = colL c ++ rowL r ++ l := by
  intro l
  induction l with
  | nil =>
    intro c r c' r' h
    rw [pst_nil] at h
    split at h
    · cases h; exact ⟨by assumption, by simp⟩
    · cases h
  | cons x l ih =>
    intro c r c' r' h
    rw [pst] at h
    split at h
    · rename_i k
      obtain ⟨k1, k2, k3⟩ := k
      split at h
      · rename_i k4
        obtain ⟨m, e⟩ := ih _ _ _ _ h
        refine ⟨m, ?_⟩
        rw [e, col_snoc c x k1 k2 k4, k3]
        simp [rowL]
      · cases h
    · split at h
      · rename_i k
        obtain ⟨k1, k2, k3⟩ := k
        split at h
        · obtain ⟨m, e⟩ := ih _ _ _ _ h
          refine ⟨m, ?_⟩
          rw [e, row_snoc r x k1 k2 (by omega)]
          simp
        · cases h
      · cases h
/-- What is read out of a text is what has it for its name. -/
theorem pst_is (l : List UInt8) (r c : Nat) : pst l 0 0 = some (r, c) ↔ mayN r c ∧ colL c ++ rowL r = l := by
  constructor
  · intro h
    have := pst_back l 0 0 c r h
    simpa [colL, rowL] using this
  · rintro ⟨h, rfl⟩
    exact pst_name r c h
theorem pst_none_of (l : List UInt8) (h : pst l 0 0 = none) (r c : Nat) (hm : mayN r c) : colL c ++ rowL r ≠ l := by
  intro e
  have := (pst_is l r c).2 ⟨hm, e⟩
  rw [h] at this; cases this
/-- A name's signs are letters and digits. -/
theorem col_mem (c : Nat) (h1 : 1 ≤ c) (h2 : c ≤ 256) (x : UInt8) (hx : x ∈ colL c) : 65 ≤ x.toNat ∧ x.toNat ≤ 90 := by
  unfold colL at hx
  rw [if_neg (by omega)] at hx
  split at hx
  · have e := ofn (n := 64 + c) (by omega)
    rw [List.mem_singleton] at hx; subst hx; rw [e]; omega
  · have e1 := ofn (n := 64 + (c - 1) / 26) (by omega)
    have e2 := ofn (n := 65 + (c - 1) % 26) (by omega)
    simp only [List.mem_cons, List.not_mem_nil, or_false] at hx
    rcases hx with rfl | rfl
    · rw [e1]; omega
    · rw [e2]; omega
theorem dec_mem (r : Nat) : ∀ x ∈ decDigits r, 48 ≤ x.toNat ∧ x.toNat ≤ 57 := by
  induction r using Nat.strongRecOn with
  | _ r ih =>
    intro x hx
    by_cases h : r < 10
    · rw [decDigits_one h] at hx
      have e := ofn (n := 48 + r) (by omega)
      rw [List.mem_singleton] at hx; subst hx; rw [e]; omega
    · rw [decDigits, dif_neg h] at hx
      rcases List.mem_append.1 hx with hx | hx
      · exact ih _ (by omega) _ hx
      · have e := ofn (n := 48 + r % 10) (by omega)
        rw [List.mem_singleton] at hx; subst hx; rw [e]; omega
theorem name_mem (r c : Nat) (h : mayN r c) (x : UInt8) (hx : x ∈ colL c ++ rowL r) : x ≠ 58 := by
  obtain ⟨h1, h2, h3, h4⟩ := h
  rw [rowL_pos h1] at hx
  have : ¬ x.toNat = 58 := by
    rcases List.mem_append.1 hx with hx | hx
    · have := col_mem c h3 h4 x hx; omega
    · have := dec_mem r x hx; omega
  intro e; subst e; exact this rfl
theorem col_len (c : Nat) (h1 : 1 ≤ c) : (colL c).length = if c ≤ 26 then 1 else 2 := by
  unfold colL
  rw [if_neg (by omega)]
  split <;> rfl
theorem dec_len (r : Nat) (h1 : 1 ≤ r) (h2 : r ≤ 4096) : 1 ≤ (decDigits r).length ∧ (decDigits r).length ≤ 4 := by
  rw [decDigits_length]
  refine ⟨nDigits_pos r, ?_⟩
  by_cases a : r < 10
  · rw [nDigits_small a]; omega
  rw [nDigits_big a]
  by_cases b : r / 10 < 10
  · rw [nDigits_small b]; omega
  rw [nDigits_big b]
  by_cases c : r / 10 / 10 < 10
  · rw [nDigits_small c]; omega
  rw [nDigits_big c, nDigits_small (by omega)]
  omega
end Go.Proofs.YtaamphdihmghhaaGreatDoor
