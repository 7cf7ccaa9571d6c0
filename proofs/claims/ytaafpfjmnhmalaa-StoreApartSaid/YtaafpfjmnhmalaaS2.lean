/- The contracts of row.get and row.first: what stands at a column; the first column from one to another that has something. New memory alone is made. The condition: the spots stand in their order. -/
import Derived.Test.YtaafpfjmnhmalaaS1
namespace Go.Proofs.Ytaafpfjmnhmalaa
open Go.RowKit
set_option linter.all false
set_option maxRecDepth 100000 in
theorem rget_any (w : World) (v : Value) (l : List Sp) (k : Int) (hv : Hid (RowW w v l)) (hl : l.length ≤ 1099511627776) (hS : Hid (Srt l)) :
    Calls Try.prog 34 #[v, .int .i64 k] w fun e w' => e = .returned (.pointer (getS l k)) ∧ Below w.heap.size w w' := by
  have H := find_any w v l k hv hl hS
  cases hf : hasS l k
  · rw [get_no hf]
    rw [hf] at H
    obtain ⟨i, hi⟩ : ∃ i : Nat, i = idxS l k := ⟨_, rfl⟩
    rw [← hi] at H
    clear hi
    go_enter Try.func34, Try.ntmps34
    go_wp2_with (go_at_call 38; refine H.mono ?_; rintro e wa ⟨rfl, hbwa⟩; have zwa := hbwa.size)
    go_ret
    exact ⟨rfl, hbwa⟩
  · rw [hf] at H
    have ha := at_idx hS.out hf
    have hlt := idx_lt hS.out hf
    rcases hv.out.two with ⟨rfl, rfl⟩ | ⟨g, cap, cur, rfl, h1, h2, h3, h4, h5, h6⟩
    · simp at hlt
    · have hc := row_cells h2 h6 _ _ ha
      obtain ⟨i, hi⟩ : ∃ i : Nat, i = idxS l k := ⟨_, rfl⟩
      obtain ⟨n, hn⟩ : ∃ n : Nat, n = l.length := ⟨_, rfl⟩
      obtain ⟨p, hp⟩ : ∃ p : Option Addr, p = getS l k := ⟨_, rfl⟩
      rw [← hi, ← hn] at H
      rw [← hi, ← hn] at hlt
      rw [← hi, ← hp] at hc
      rw [← hn] at hl h3
      rw [← hn, ← hp]
      have hlt' : (i : Int) < n := by omega
      have hc2 := hc.2
      unfold maxLen at h4
      clear hi hn hp ha hf h2 h6 hv hS hc h5
      go_enter Try.func34, Try.ntmps34
      go_wp2_with (go_at_call 38; refine H.mono ?_; rintro e wa ⟨rfl, hbwa⟩; have zwa := hbwa.size; have y1 := (hbwa.cell (p := ⟨g, i * 2 + 1, none⟩) h1).trans hc2)
      go_ret
      exact ⟨rfl, hbwa⟩
/-- The first column from a to b that has something. -/
def firstS (l : List Sp) (a b : Int) : Option Int := match l[idxS l a]? with | some x => if x.c ≤ b then some x.c else none | none => none
set_option maxRecDepth 100000 in
set_option maxHeartbeats 1000000 in
theorem first_no (w : World) (v : Value) (l : List Sp) (a b : Int) (hv : Hid (RowW w v l)) (hl : l.length ≤ 1099511627776) (hS : Hid (Srt l)) (hf : firstS l a b = none) :
    Calls Try.prog 32 #[v, .int .i64 a, .int .i64 b] w fun e w' => e = .returned (.tuple #[.int .i64 0, .bool false]) ∧ Below w.heap.size w w' := by
  have H := find_any w v l a hv hl hS
  obtain ⟨f, hf'⟩ : ∃ f : Bool, f = hasS l a := ⟨_, rfl⟩
  rw [← hf'] at H
  clear hf'
  have hle := idx_le l a
  have hfix : ∀ (i n : Nat) (p : Option Addr) (cp : Nat), (H : Calls Try.prog 38 #[.slice p n cp, .int .i64 a] w fun e w' => e = .returned (.tuple #[.int .i64 i, .bool f]) ∧ Below w.heap.size w w') → i = n → Calls Try.prog 32 #[.slice p n cp, .int .i64 a, .int .i64 b] w fun e w' => e = .returned (.tuple #[.int .i64 0, .bool false]) ∧ Below w.heap.size w w' := by
    intro i n p cp H e
    subst e
    clear hf hle hS hl hv
    go_enter Try.func32, Try.ntmps32
    go_wp2_with (go_at_call 38; refine H.mono ?_; rintro e wa ⟨rfl, hbwa⟩; have zwa := hbwa.size)
    exact bodyPost_ret (v := .tuple #[.int .i64 0, .bool false]) (by simp [results, Try.results32, go_sem]) rfl ⟨rfl, hbwa⟩
  rcases hv.out.two with ⟨rfl, rfl⟩ | ⟨g, cap, cur, rfl, h1, h2, h3, h4, h5, h6⟩
  · exact hfix _ _ _ _ H rfl
  · by_cases e : idxS l a = l.length
    · exact hfix _ _ _ _ H e
    · have hlt : idxS l a < l.length := by omega
      have ha : l[idxS l a]? = some (l[idxS l a]'hlt) := List.getElem?_eq_getElem hlt
      unfold firstS at hf
      rw [ha] at hf
      have hc := row_cells h2 h6 _ _ ha
      revert hf hc
      clear ha
      generalize (l[idxS l a]'hlt) = x
      intro hf hc
      have hgt : b < x.c := by
        by_cases q : x.c ≤ b
        · simp [q] at hf
        · omega
      obtain ⟨i, hi⟩ : ∃ i : Nat, i = idxS l a := ⟨_, rfl⟩
      obtain ⟨n, hn⟩ : ∃ n : Nat, n = l.length := ⟨_, rfl⟩
      rw [← hi, ← hn] at H
      rw [← hi, ← hn] at hlt
      rw [← hi] at hc
      rw [← hn] at hl h3
      rw [← hn]
      have hlt' : (i : Int) < n := by omega
      have hne : ((i : Int) == n) = false := by simp; omega
      have hc1 := hc.1
      unfold maxLen at h4
      clear hi hn hf h2 h6 hv hS hc h5 hfix e hle
      go_enter Try.func32, Try.ntmps32
      go_wp2_with (go_at_call 38; refine H.mono ?_; rintro e wa ⟨rfl, hbwa⟩; have zwa := hbwa.size; have y1 := (hbwa.cell (p := ⟨g, i * 2, none⟩) h1).trans hc1)
      exact bodyPost_ret (v := .tuple #[.int .i64 0, .bool false]) (by simp [results, Try.results32, go_sem]) rfl ⟨rfl, hbwa⟩
set_option maxRecDepth 100000 in
set_option maxHeartbeats 1000000 in
theorem first_yes (w : World) (v : Value) (l : List Sp) (a b c : Int) (hv : Hid (RowW w v l)) (hl : l.length ≤ 1099511627776) (hS : Hid (Srt l)) (hf : firstS l a b = some c) :
    Calls Try.prog 32 #[v, .int .i64 a, .int .i64 b] w fun e w' => e = .returned (.tuple #[.int .i64 c, .bool true]) ∧ Below w.heap.size w w' := by
  have H := find_any w v l a hv hl hS
  obtain ⟨f, hf'⟩ : ∃ f : Bool, f = hasS l a := ⟨_, rfl⟩
  rw [← hf'] at H
  clear hf'
  unfold firstS at hf
  have hlt : idxS l a < l.length := by
    by_cases q : idxS l a < l.length
    · exact q
    · rw [List.getElem?_eq_none (by omega)] at hf; cases hf
  have ha : l[idxS l a]? = some (l[idxS l a]'hlt) := List.getElem?_eq_getElem hlt
  rw [ha] at hf
  rcases hv.out.two with ⟨rfl, rfl⟩ | ⟨g, cap, cur, rfl, h1, h2, h3, h4, h5, h6⟩
  · simp at hlt
  · have hc := row_cells h2 h6 _ _ ha
    revert hf hc
    clear ha
    generalize (l[idxS l a]'hlt) = x
    intro hf hc
    have hle : x.c ≤ b ∧ x.c = c := by
      by_cases q : x.c ≤ b
      · simp [q] at hf; exact ⟨q, hf⟩
      · simp [q] at hf
    obtain ⟨i, hi⟩ : ∃ i : Nat, i = idxS l a := ⟨_, rfl⟩
    obtain ⟨n, hn⟩ : ∃ n : Nat, n = l.length := ⟨_, rfl⟩
    rw [← hi, ← hn] at H
    rw [← hi, ← hn] at hlt
    rw [← hi, hle.2] at hc
    rw [← hn] at hl h3
    rw [← hn]
    have hlt' : (i : Int) < n := by omega
    have hne : ((i : Int) == n) = false := by simp; omega
    have hcb : c ≤ b := by omega
    have hc1 := hc.1
    unfold maxLen at h4
    clear hi hn hf h2 h6 hv hS hc h5 hle
    go_enter Try.func32, Try.ntmps32
    go_wp2_with (go_at_call 38; refine H.mono ?_; rintro e wa ⟨rfl, hbwa⟩; have zwa := hbwa.size; have y1 := (hbwa.cell (p := ⟨g, i * 2, none⟩) h1).trans hc1)
    exact bodyPost_ret (v := .tuple #[.int .i64 c, .bool true]) (by simp [results, Try.results32, go_sem]) rfl ⟨rfl, hbwa⟩
end Go.Proofs.Ytaafpfjmnhmalaa
