/- The contract of the document's Named: of every text whether a call may have it as its name, in the words of the program's. Nothing is made. No condition but that a text's length is an int. -/
import Derived.Test.YtekpmdpmcbjkkaaDoorN1
namespace Go.Proofs.YtekpmdpmcbjkkaaDoor
open Go.Shelf Go.RowKit
set_option linter.all false
def upB (b : UInt8) : Bool := ltrs.data.toList.contains b
def dgB (b : UInt8) : Bool := digs.data.toList.contains b
def inB (b : UInt8) : Bool := inNm.data.toList.contains b
theorem up_iff (c : UInt8) : upB c = true ↔ 65 ≤ c.toNat ∧ c.toNat ≤ 90 := by
  simp [upB, ltrs, ← UInt8.toNat_inj]; omega
theorem dg_iff (c : UInt8) : dgB c = true ↔ 48 ≤ c.toNat ∧ c.toNat ≤ 57 := by
  simp [dgB, digs, ← UInt8.toNat_inj]; omega
theorem in_iff (c : UInt8) : inB c = true ↔ (48 ≤ c.toNat ∧ c.toNat ≤ 57) ∨ (65 ≤ c.toNat ∧ c.toNat ≤ 90) ∨ c.toNat = 95 := by
  simp [inB, inNm, ← UInt8.toNat_inj]; omega
theorem dropW (p : UInt8 → Bool) : ∀ l : List UInt8, l.dropWhile p = l.drop (l.takeWhile p).length
  | [] => rfl
  | a :: r => by
    by_cases h : p a = true
    · rw [List.dropWhile_cons_of_pos h, List.takeWhile_cons_of_pos h, dropW p r]; rfl
    · rw [List.dropWhile_cons_of_neg h, List.takeWhile_cons_of_neg h]; rfl
theorem dropW_nil (p : UInt8 → Bool) (l : List UInt8) : l.dropWhile p = [] ↔ ∀ x ∈ l, p x = true := by
  induction l with
  | nil => simp
  | cons a r ih =>
    by_cases h : p a = true
    · rw [List.dropWhile_cons_of_pos h, ih]; simp [h]
    · rw [List.dropWhile_cons_of_neg h]; simp [h]
/-- How many letters a text begins with. -/
def nLet (s : ByteArray) : Nat := (s.data.toList.takeWhile upB).length
theorem nLet_le (s : ByteArray) : nLet s ≤ s.data.toList.length := (List.takeWhile_sublist _).length_le
theorem bh_list (s : ByteArray) : (behind s ltrs).toList = s.data.toList.drop (nLet s) := by
  unfold behind; rw [bs_toL]; exact dropW upB _
theorem bh_data (s : ByteArray) : (behind s ltrs).data.toList = s.data.toList.drop (nLet s) := by rw [← toL, bh_list]
theorem nameOk_is (s : ByteArray) : nameOk s = true ↔ (nLet s ≠ 0 ∧ s.size ≤ 16 ∧ (∀ x ∈ s.data.toList.drop (nLet s), inB x = true) ∧ (s.toList == [84, 82, 85, 69]) = false ∧ (s.toList == [70, 65, 76, 83, 69]) = false ∧ (s.data.toList.drop (nLet s) = [] ∨ ¬ ∀ x ∈ s.data.toList.drop (nLet s), dgB x = true)) := by
  have h1 : ((behind s ltrs).toList == s.toList) = true ↔ nLet s = 0 := by
    rw [bh_list, toL, beq_iff_eq]
    constructor
    · intro h
      have := congrArg List.length h
      rw [List.length_drop] at this
      have h2 := nLet_le s
      by_cases h0 : s.data.toList.length = 0
      · omega
      · omega
    · intro h; rw [h]; rfl
  have h2 : ((behind (behind s ltrs) inNm).toList == []) = true ↔ ∀ x ∈ s.data.toList.drop (nLet s), inB x = true := by
    rw [beq_iff_eq]; unfold behind; rw [bs_toL]
    have e := dropW_nil inB (s.data.toList.drop (nLet s))
    rw [← e, ← bh_data]; rfl
  have h3 : ((behind (behind s ltrs) digs).toList == []) = true ↔ ∀ x ∈ s.data.toList.drop (nLet s), dgB x = true := by
    rw [beq_iff_eq]; unfold behind; rw [bs_toL]
    have e := dropW_nil dgB (s.data.toList.drop (nLet s))
    rw [← e, ← bh_data]; rfl
  have h4 : ((behind s ltrs).toList == []) = true ↔ s.data.toList.drop (nLet s) = [] := by rw [bh_list, beq_iff_eq]
  unfold nameOk
  by_cases k1 : nLet s = 0
  · rw [if_pos (h1.2 k1)]; simp [k1]
  rw [if_neg (fun h => k1 (h1.1 h))]
  by_cases k2 : 16 < s.size
  · rw [if_pos k2]; simp; omega
  rw [if_neg k2]
  by_cases k3 : ∀ x ∈ s.data.toList.drop (nLet s), inB x = true
  · rw [if_neg (by rw [h2.2 k3]; decide)]
    cases k4 : (s.toList == [84, 82, 85, 69])
    · rw [if_neg (by decide)]
      cases k5 : (s.toList == [70, 65, 76, 83, 69])
      · rw [if_neg (by decide)]
        by_cases k6 : s.data.toList.drop (nLet s) = []
        · rw [if_pos (h4.2 k6)]; exact ⟨fun _ => ⟨k1, by omega, k3, rfl, rfl, .inl k6⟩, fun _ => rfl⟩
        · rw [if_neg (fun h => k6 (h4.1 h))]
          constructor
          · intro h
            refine ⟨k1, by omega, k3, rfl, rfl, .inr fun q => ?_⟩
            rw [h3.2 q] at h; cases h
          · rintro ⟨_, _, _, _, _, q⟩
            rcases q with q | q
            · exact absurd q k6
            · cases hh : ((behind (behind s ltrs) digs).toList == [])
              · rfl
              · exact absurd (h3.1 hh) q
      · simp
    · simp
  · have hh : ((behind (behind s ltrs) inNm).toList == []) = false := by
      cases q : ((behind (behind s ltrs) inNm).toList == [])
      · rfl
      · exact absurd (h2.1 q) k3
    rw [if_pos hh]
    exact ⟨(fun h => by cases h), fun h => absurd h.2.2.1 k3⟩
theorem name_no {s : ByteArray} (h : ¬ (nLet s ≠ 0 ∧ s.size ≤ 16 ∧ (∀ x ∈ s.data.toList.drop (nLet s), inB x = true) ∧ (s.toList == [84, 82, 85, 69]) = false ∧ (s.toList == [70, 65, 76, 83, 69]) = false ∧ (s.data.toList.drop (nLet s) = [] ∨ ¬ ∀ x ∈ s.data.toList.drop (nLet s), dgB x = true))) : nameOk s = false := by
  cases e : nameOk s
  · rfl
  · exact absurd ((nameOk_is s).1 e) h
theorem byte_at (s : ByteArray) (i : Nat) (h : i < s.size) (h' : i < s.data.toList.length) : s.data.toList[i] = s[i] := rfl
/-- The first i bytes are letters. -/
def Lets (s : ByteArray) (i : Nat) : Prop := ∀ k (h : k < s.size), k < i → upB s[k] = true
theorem take_all (p : UInt8 → Bool) : ∀ (l : List UInt8) (i : Nat), i ≤ l.length → (∀ k (h : k < l.length), k < i → p l[k] = true) → i ≤ (l.takeWhile p).length
  | _, 0, _, _ => Nat.zero_le _
  | [], i + 1, h, _ => by simp at h
  | a :: r, i + 1, h, hp => by
    have h0 : p a = true := hp 0 (by simp) (by omega)
    rw [List.takeWhile_cons_of_pos h0, List.length_cons]
    have := take_all p r i (by simpa using h) (fun k hk hki => hp (k + 1) (by simp; omega) (by omega))
    omega
theorem take_stop (p : UInt8 → Bool) : ∀ (l : List UInt8) (i : Nat) (h : i < l.length), p l[i] = false → (l.takeWhile p).length ≤ i
  | a :: r, 0, h, hp => by
    have h0 : ¬ p a = true := by simpa using hp
    rw [List.takeWhile_cons_of_neg h0]; simp
  | a :: r, i + 1, h, hp => by
    have := take_stop p r i (by simpa using h) (by simpa using hp)
    by_cases h0 : p a = true
    · rw [List.takeWhile_cons_of_pos h0, List.length_cons]; omega
    · rw [List.takeWhile_cons_of_neg h0]; simp
  | [], i, h, _ => by simp at h
theorem lets_end {s : ByteArray} {i : Nat} (h : Lets s i) (hi : i = s.size ∨ ∃ h : i < s.size, upB s[i] = false) (hle : i ≤ s.size) : nLet s = i := by
  have h1 : i ≤ nLet s := take_all upB s.data.toList i (by rw [← size_len]; exact hle) (fun k hk hki => h k (by rw [size_len]; exact hk) hki)
  rcases hi with hi | ⟨hi, hs⟩
  · have := nLet_le s
    rw [← size_len] at this
    omega
  · have : nLet s ≤ i := take_stop upB s.data.toList i (by rw [← size_len]; exact hi) hs
    omega
theorem lets_next {s : ByteArray} {i : Nat} (hi : i < s.size) (h : Lets s i) (hu : upB s[i] = true) : Lets s (i + 1) := fun k hk hki => by
  by_cases e : k = i
  · subst e; exact hu
  · exact h k hk (by omega)
/-- From r to i: all are such as may stand in a name. -/
def Ins (p : UInt8 → Bool) (s : ByteArray) (r i : Nat) : Prop := ∀ k (h : k < s.size), r ≤ k → k < i → p s[k] = true
theorem ins_next {p : UInt8 → Bool} {s : ByteArray} {r i : Nat} (hi : i < s.size) (h : Ins p s r i) (hu : p s[i] = true) : Ins p s r (i + 1) := fun k hk hr hki => by
  by_cases e : k = i
  · subst e; exact hu
  · exact h k hk hr (by omega)
theorem ins_all {p : UInt8 → Bool} {s : ByteArray} {r : Nat} (h : Ins p s r s.size) : ∀ x ∈ s.data.toList.drop r, p x = true := fun x hx => by
  obtain ⟨i, hi, rfl⟩ := List.mem_iff_getElem.1 hx
  rw [List.length_drop] at hi
  rw [List.getElem_drop]
  exact h (r + i) (by rw [size_len]; omega) (by omega) (by rw [size_len]; omega)
theorem ins_not {p : UInt8 → Bool} {s : ByteArray} {r i : Nat} (hi : i < s.size) (hr : r ≤ i) (hp : p s[i] = false) : ¬ ∀ x ∈ s.data.toList.drop r, p x = true := fun h => by
  have hl : i < s.data.toList.length := by rw [← size_len]; exact hi
  have : p s[i] = true := h s[i] (List.mem_iff_getElem.2 ⟨i - r, by rw [List.length_drop]; omega, by rw [List.getElem_drop]; simp only [show r + (i - r) = i by omega]; rfl⟩)
  rw [hp] at this; cases this
end Go.Proofs.YtekpmdpmcbjkkaaDoor
