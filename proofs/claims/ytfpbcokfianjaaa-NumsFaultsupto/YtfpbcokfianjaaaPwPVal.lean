/- Numbers in words of four digits, the lowest first: plain facts on lists. -/
import Derived.Test.YtfpbcokfianjaaaNT1
namespace Go.Proofs.Ytfpbcokfianjaaa.Pw
set_option linter.all false
/-- The number of a list of words. -/
def wv : List Nat → Nat
  | [] => 0
  | x :: l => x + 10000 * wv l
/-- All words are words. -/
def Wds (l : List Nat) : Prop := ∀ x ∈ l, x < 10000
/-- The last word is not nought. -/
def Top (l : List Nat) : Prop := l.getLast? ≠ some 0
theorem wv_append (l m : List Nat) : wv (l ++ m) = wv l + 10000 ^ l.length * wv m := by
  induction l with
  | nil => simp [wv]
  | cons x l ih => simp only [List.cons_append, wv, ih, List.length_cons, Nat.pow_succ]; rw [Nat.mul_add, ← Nat.mul_assoc, Nat.mul_comm 10000 (10000 ^ l.length)]; omega
theorem wv_lt (l : List Nat) (h : Wds l) : wv l < 10000 ^ l.length := by
  induction l with
  | nil => simp [wv]
  | cons x l ih =>
    have h1 := ih fun y hy => h y (by simp [hy])
    have h2 := h x (by simp)
    simp only [wv, List.length_cons, Nat.pow_succ]
    omega
theorem wv_split (l : List Nat) (i : Nat) (h : i ≤ l.length) : wv l = wv (l.take i) + 10000 ^ i * wv (l.drop i) := by
  have := wv_append (l.take i) (l.drop i)
  rw [List.take_append_drop, List.length_take, Nat.min_eq_left h] at this
  exact this
theorem Wds.take {l : List Nat} (h : Wds l) (i : Nat) : Wds (l.take i) := fun x hx => h x (List.mem_of_mem_take hx)
theorem Wds.drop {l : List Nat} (h : Wds l) (i : Nat) : Wds (l.drop i) := fun x hx => h x (List.mem_of_mem_drop hx)
theorem Wds.snoc {l : List Nat} (h : Wds l) {x : Nat} (hx : x < 10000) : Wds (l ++ [x]) := fun y hy => by
  rcases List.mem_append.1 hy with hy | hy
  · exact h y hy
  · simp at hy; omega
theorem drop_at (l : List Nat) (i : Nat) (h : i < l.length) : l.drop i = l[i] :: l.drop (i + 1) := List.drop_eq_getElem_cons h
theorem wv_at (l : List Nat) (i : Nat) (h : i < l.length) : wv l = wv (l.take i) + 10000 ^ i * (l[i] + 10000 * wv (l.drop (i + 1))) := by
  rw [wv_split l i (by omega), drop_at l i h]; rfl
/-- A list without noughts at the end has as many words as its number asks. -/
theorem wv_top (l : List Nat) (ht : Top l) (h0 : l ≠ []) : 10000 ^ (l.length - 1) ≤ wv l := by
  obtain ⟨m, x, rfl⟩ : ∃ m x, l = m ++ [x] := ⟨l.dropLast, l.getLast h0, (List.dropLast_concat_getLast h0).symm⟩
  have hx : x ≠ 0 := by
    intro h; apply ht; rw [h]; simp
  rw [wv_append, List.length_append, List.length_singleton, Nat.add_sub_cancel]
  have : 10000 ^ m.length * 1 ≤ 10000 ^ m.length * wv [x] := Nat.mul_le_mul_left _ (by simp [wv]; omega)
  omega
theorem wv_len_lt {l m : List Nat} (hl : Wds l) (hm : Top m) (h : l.length < m.length) : wv l < wv m := by
  have h1 := wv_lt l hl
  have h2 := wv_top m hm (fun e => by rw [e] at h; simp at h)
  have h3 : 10000 ^ l.length ≤ 10000 ^ (m.length - 1) := Nat.pow_le_pow_right (by decide) (by omega)
  omega
/-- Two of one length that are the same above a word are as that word. -/
theorem wv_word_lt {l m : List Nat} (hl : Wds l) (hm : Wds m) (i : Nat) (h1 : i < l.length) (h2 : i < m.length) (he : l.drop (i + 1) = m.drop (i + 1)) (h : l[i] < m[i]) : wv l < wv m := by
  rw [wv_at l i h1, wv_at m i h2, he]
  have a := wv_lt _ (hl.take i)
  rw [List.length_take, Nat.min_eq_left (by omega)] at a
  have b : 10000 ^ i * (l[i] + 1 + 10000 * wv (m.drop (i + 1))) ≤ 10000 ^ i * (m[i] + 10000 * wv (m.drop (i + 1))) := Nat.mul_le_mul_left _ (by omega)
  have c : 10000 ^ i * (l[i] + 1 + 10000 * wv (m.drop (i + 1))) = 10000 ^ i * (l[i] + 10000 * wv (m.drop (i + 1))) + 10000 ^ i := by
    rw [show l[i] + 1 + 10000 * wv (m.drop (i + 1)) = l[i] + 10000 * wv (m.drop (i + 1)) + 1 by omega, Nat.mul_add, Nat.mul_one]
  omega
theorem wv_set (l : List Nat) (i y : Nat) (h : i < l.length) : wv (l.set i y) + 10000 ^ i * l[i] = wv l + 10000 ^ i * y := by
  have h' : i < (l.set i y).length := by simpa using h
  rw [wv_at l i h, wv_at _ i h', List.take_set_of_le (Nat.le_refl i), List.drop_set_of_lt (by omega)]
  simp only [List.getElem_set_self, Nat.mul_add]
  omega
theorem Wds.set {l : List Nat} (h : Wds l) (i : Nat) {y : Nat} (hy : y < 10000) : Wds (l.set i y) := fun x hx => by
  rcases List.mem_or_eq_of_mem_set hx with hx | hx
  · exact h x hx
  · omega
theorem Wds.getElem {l : List Nat} (h : Wds l) (i : Nat) (hi : i < l.length) : l[i] < 10000 := h _ (List.getElem_mem hi)
theorem wv_zeros (n : Nat) : wv (List.replicate n 0) = 0 := by
  induction n with
  | zero => rfl
  | succ n ih => rw [List.replicate_succ]; simp [wv, ih]
theorem Wds.zeros (n : Nat) : Wds (List.replicate n 0) := fun x hx => by
  have := List.eq_of_mem_replicate hx; omega
/-- Noughts at the end count nothing. -/
theorem wv_cut (l : List Nat) (n : Nat) (hn : n ≤ l.length) (h : ∀ i, (hi : i < l.length) → n ≤ i → l[i] = 0) : wv (l.take n) = wv l := by
  rw [wv_split l n hn]
  have : l.drop n = List.replicate (l.length - n) 0 := by
    apply List.ext_getElem
    · simp
    · intro i h1 h2
      simp only [List.getElem_drop, List.getElem_replicate]
      exact h _ _ (by omega)
  rw [this, wv_zeros]; omega
theorem Top.nil : Top [] := by simp [Top]
theorem Top.take {l : List Nat} {n : Nat} (hn : n ≤ l.length) (h : n = 0 ∨ ∃ h : n - 1 < l.length, l[n - 1] ≠ 0) : Top (l.take n) := by
  unfold Top
  rcases h with rfl | ⟨h, hne⟩
  · simp
  · by_cases h0 : n = 0
    · subst h0; simp
    · rw [List.getLast?_eq_getElem?, List.length_take, Nat.min_eq_left hn, List.getElem?_take_of_lt (by omega), List.getElem?_eq_getElem h]
      intro e; exact hne (Option.some.inj e)
/-- A number has but one list. -/
theorem wv_inj {l m : List Nat} (hl : Wds l) (hm : Wds m) (tl : Top l) (tm : Top m) (h : wv l = wv m) : l = m := by
  have hlen : l.length = m.length := by
    rcases Nat.lt_trichotomy l.length m.length with k | k | k
    · have := wv_len_lt hl tm k; omega
    · exact k
    · have := wv_len_lt hm tl k; omega
  clear tl tm
  induction l generalizing m with
  | nil => cases m with | nil => rfl | cons _ _ => simp at hlen
  | cons x l ih =>
    cases m with
    | nil => simp at hlen
    | cons y m =>
      simp only [wv] at h
      have hx := hl x (by simp); have hy := hm y (by simp)
      have e1 : x = y := by omega
      have e2 : wv l = wv m := by omega
      rw [e1, ih (fun z hz => hl z (by simp [hz])) (fun z hz => hm z (by simp [hz])) e2 (by simpa using hlen)]
end Go.Proofs.Ytfpbcokfianjaaa.Pw
