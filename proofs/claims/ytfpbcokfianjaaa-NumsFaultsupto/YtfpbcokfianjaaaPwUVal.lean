/- Numbers in words of 64 bits, the lowest first: plain facts on lists. -/
import Derived.Test.YtfpbcokfianjaaaPwPMem
import Derived.Test.YtfpbcokfianjaaaQuot
import Derived.Test.YtfpbcokfianjaaaNT1
import Derived.Laws.OwnMore
import Derived.Laws.MakeOwn
import Derived.Deep.QuietTactic
import Derived.BigQuiet
import Derived.Lib.Walk
import Derived.Lib.Hide
namespace Go.Proofs.Ytfpbcokfianjaaa.Pw
set_option linter.all false
/-- The number of a list of words. -/
def uv : List Nat → Nat
  | [] => 0
  | x :: l => x + 18446744073709551616 * uv l
/-- All words are words. -/
def Uds (l : List Nat) : Prop := ∀ x ∈ l, x < 18446744073709551616
/-- The last word is not nought. -/
def Uop (l : List Nat) : Prop := l.getLast? ≠ some 0
theorem uv_append (l m : List Nat) : uv (l ++ m) = uv l + 18446744073709551616 ^ l.length * uv m := by
  induction l with
  | nil => simp [uv]
  | cons x l ih => simp only [List.cons_append, uv, ih, List.length_cons, Nat.pow_succ]; rw [Nat.mul_add, ← Nat.mul_assoc, Nat.mul_comm 18446744073709551616 (18446744073709551616 ^ l.length)]; omega
theorem uv_lt (l : List Nat) (h : Uds l) : uv l < 18446744073709551616 ^ l.length := by
  induction l with
  | nil => simp [uv]
  | cons x l ih =>
    have h1 := ih fun y hy => h y (by simp [hy])
    have h2 := h x (by simp)
    simp only [uv, List.length_cons, Nat.pow_succ]
    omega
theorem uv_split (l : List Nat) (i : Nat) (h : i ≤ l.length) : uv l = uv (l.take i) + 18446744073709551616 ^ i * uv (l.drop i) := by
  have := uv_append (l.take i) (l.drop i)
  rw [List.take_append_drop, List.length_take, Nat.min_eq_left h] at this
  exact this
theorem Uds.take {l : List Nat} (h : Uds l) (i : Nat) : Uds (l.take i) := fun x hx => h x (List.mem_of_mem_take hx)
theorem Uds.drop {l : List Nat} (h : Uds l) (i : Nat) : Uds (l.drop i) := fun x hx => h x (List.mem_of_mem_drop hx)
theorem Uds.snoc {l : List Nat} (h : Uds l) {x : Nat} (hx : x < 18446744073709551616) : Uds (l ++ [x]) := fun y hy => by
  rcases List.mem_append.1 hy with hy | hy
  · exact h y hy
  · simp at hy; omega
theorem uv_at (l : List Nat) (i : Nat) (h : i < l.length) : uv l = uv (l.take i) + 18446744073709551616 ^ i * (l[i] + 18446744073709551616 * uv (l.drop (i + 1))) := by
  rw [uv_split l i (by omega), drop_at l i h]; rfl
/-- A list without noughts at the end has as many words as its number asks. -/
theorem uv_top (l : List Nat) (ht : Uop l) (h0 : l ≠ []) : 18446744073709551616 ^ (l.length - 1) ≤ uv l := by
  obtain ⟨m, x, rfl⟩ : ∃ m x, l = m ++ [x] := ⟨l.dropLast, l.getLast h0, (List.dropLast_concat_getLast h0).symm⟩
  have hx : x ≠ 0 := by
    intro h; apply ht; rw [h]; simp
  rw [uv_append, List.length_append, List.length_singleton, Nat.add_sub_cancel]
  have : 18446744073709551616 ^ m.length * 1 ≤ 18446744073709551616 ^ m.length * uv [x] := Nat.mul_le_mul_left _ (by simp [uv]; omega)
  omega
theorem uv_len_lt {l m : List Nat} (hl : Uds l) (hm : Uop m) (h : l.length < m.length) : uv l < uv m := by
  have h1 := uv_lt l hl
  have h2 := uv_top m hm (fun e => by rw [e] at h; simp at h)
  have h3 : 18446744073709551616 ^ l.length ≤ 18446744073709551616 ^ (m.length - 1) := Nat.pow_le_pow_right (by decide) (by omega)
  omega
/-- Two of one length that are the same above a word are as that word. -/
theorem uv_word_lt {l m : List Nat} (hl : Uds l) (hm : Uds m) (i : Nat) (h1 : i < l.length) (h2 : i < m.length) (he : l.drop (i + 1) = m.drop (i + 1)) (h : l[i] < m[i]) : uv l < uv m := by
  rw [uv_at l i h1, uv_at m i h2, he]
  have a := uv_lt _ (hl.take i)
  rw [List.length_take, Nat.min_eq_left (by omega)] at a
  have b : 18446744073709551616 ^ i * (l[i] + 1 + 18446744073709551616 * uv (m.drop (i + 1))) ≤ 18446744073709551616 ^ i * (m[i] + 18446744073709551616 * uv (m.drop (i + 1))) := Nat.mul_le_mul_left _ (by omega)
  have c : 18446744073709551616 ^ i * (l[i] + 1 + 18446744073709551616 * uv (m.drop (i + 1))) = 18446744073709551616 ^ i * (l[i] + 18446744073709551616 * uv (m.drop (i + 1))) + 18446744073709551616 ^ i := by
    rw [show l[i] + 1 + 18446744073709551616 * uv (m.drop (i + 1)) = l[i] + 18446744073709551616 * uv (m.drop (i + 1)) + 1 by omega, Nat.mul_add, Nat.mul_one]
  omega
theorem uv_set (l : List Nat) (i y : Nat) (h : i < l.length) : uv (l.set i y) + 18446744073709551616 ^ i * l[i] = uv l + 18446744073709551616 ^ i * y := by
  have h' : i < (l.set i y).length := by simpa using h
  rw [uv_at l i h, uv_at _ i h', List.take_set_of_le (Nat.le_refl i), List.drop_set_of_lt (by omega)]
  simp only [List.getElem_set_self, Nat.mul_add]
  omega
theorem Uds.set {l : List Nat} (h : Uds l) (i : Nat) {y : Nat} (hy : y < 18446744073709551616) : Uds (l.set i y) := fun x hx => by
  rcases List.mem_or_eq_of_mem_set hx with hx | hx
  · exact h x hx
  · omega
theorem Uds.getElem {l : List Nat} (h : Uds l) (i : Nat) (hi : i < l.length) : l[i] < 18446744073709551616 := h _ (List.getElem_mem hi)
theorem uv_zeros (n : Nat) : uv (List.replicate n 0) = 0 := by
  induction n with
  | zero => rfl
  | succ n ih => rw [List.replicate_succ]; simp [uv, ih]
theorem Uds.zeros (n : Nat) : Uds (List.replicate n 0) := fun x hx => by
  have := List.eq_of_mem_replicate hx; omega
/-- Noughts at the end count nothing. -/
theorem uv_cut (l : List Nat) (n : Nat) (hn : n ≤ l.length) (h : ∀ i, (hi : i < l.length) → n ≤ i → l[i] = 0) : uv (l.take n) = uv l := by
  rw [uv_split l n hn]
  have : l.drop n = List.replicate (l.length - n) 0 := by
    apply List.ext_getElem
    · simp
    · intro i h1 h2
      simp only [List.getElem_drop, List.getElem_replicate]
      exact h _ _ (by omega)
  rw [this, uv_zeros]; omega
theorem Uop.nil : Uop [] := by simp [Uop]
theorem Uop.take {l : List Nat} {n : Nat} (hn : n ≤ l.length) (h : n = 0 ∨ ∃ h : n - 1 < l.length, l[n - 1] ≠ 0) : Uop (l.take n) := by
  unfold Uop
  rcases h with rfl | ⟨h, hne⟩
  · simp
  · by_cases h0 : n = 0
    · subst h0; simp
    · rw [List.getLast?_eq_getElem?, List.length_take, Nat.min_eq_left hn, List.getElem?_take_of_lt (by omega), List.getElem?_eq_getElem h]
      intro e; exact hne (Option.some.inj e)
/-- A number has but one list. -/
theorem uv_inj {l m : List Nat} (hl : Uds l) (hm : Uds m) (tl : Uop l) (tm : Uop m) (h : uv l = uv m) : l = m := by
  have hlen : l.length = m.length := by
    rcases Nat.lt_trichotomy l.length m.length with k | k | k
    · have := uv_len_lt hl tm k; omega
    · exact k
    · have := uv_len_lt hm tl k; omega
  clear tl tm
  induction l generalizing m with
  | nil => cases m with | nil => rfl | cons _ _ => simp at hlen
  | cons x l ih =>
    cases m with
    | nil => simp at hlen
    | cons y m =>
      simp only [uv] at h
      have hx := hl x (by simp); have hy := hm y (by simp)
      have e1 : x = y := by omega
      have e2 : uv l = uv m := by omega
      rw [e1, ih (fun z hz => hl z (by simp [hz])) (fun z hz => hm z (by simp [hz])) e2 (by simpa using hlen)]
end Go.Proofs.Ytfpbcokfianjaaa.Pw
