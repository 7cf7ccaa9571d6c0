/- The contract of the laws' own collector: the tokens that Lex tells, as a list, at most so many. New memory alone is made. The conditions: a text of at most 1048576 bytes; what package value lays (the names), and that a variable of the library holds a number. · Contracts of the laws' own known and same: both answer true, the latter at two lists of the same tokens. New memory alone is made. The conditions: what package value lays (the names), and that a variable of the library holds a number. · What follows of the tokens' places, in plain lists: they rise, stand in the text, and just the last token is an end or wrong. No walk. -/
import Derived.Test.YtcmjhjnpcogmgaaGreatDoorQMore
import Derived.Test.YtcmjhjnpcogmgaaGreatDoorQLIpLI2p
import Derived.Test.YtcmjhjnpcogmgaaGreatDoorQRfN5RfN6
import Derived.Maps.OwnIn
import Derived.Maps.AppendAt
namespace Go.Proofs.YtcmjhjnpcogmgaaGreatDoor
open Go.Shelf Go.RowKit
set_option linter.all false
attribute [local go_sem] Oper.semAt_some
def flat (ts : List Tk) : List Value := ts.flatMap (fun t => t.cells.toList)
theorem cells_len (t : Tk) : t.cells.toList.length = 11 := rfl
theorem flat_at : ∀ (ts : List Tk) (i j : Nat) (t : Tk), ts[i]? = some t → j < 11 → (flat ts)[i * 11 + j]? = t.cells[j]?
  | [], i, j, t, h, _ => by simp at h
  | u :: r, 0, j, t, h, hj => by
    simp at h; subst h
    have e : flat (u :: r) = u.cells.toList ++ flat r := rfl
    rw [e, Nat.zero_mul, Nat.zero_add, List.getElem?_append_left (by rw [cells_len]; exact hj)]
    simp
  | u :: r, i + 1, j, t, h, hj => by
    have ih := flat_at r i j t (by simpa using h) hj
    have e : flat (u :: r) = u.cells.toList ++ flat r := rfl
    rw [e, List.getElem?_append_right (by rw [cells_len]; omega), cells_len, ← ih]
    congr 1; omega
/-- The value v is a list of just these tokens, in a block of its own from base on. -/
def IsTs (w : World) (base : Nat) (v : Value) (ts : List Tk) : Prop := w.ownsRow base 43 11 v ts.length (flat ts)
theorem IsTs.of_block {w w' : World} {base : Nat} {v : Value} {ts : List Tk} (h : IsTs w base v ts) (hb : ∀ g, v.ownBlock = some g → w'.heap[g]? = w.heap[g]?) : IsTs w' base v ts := by
  obtain ⟨h1, h2⟩ := h
  refine ⟨h1, ?_⟩
  rcases h2 with h2 | ⟨g, cap, cur, e, r1, r2, r3⟩
  · exact .inl h2
  · exact .inr ⟨g, cap, cur, e, r1, (hb g (by rw [e]; rfl)).trans r2, r3⟩
theorem IsTs.lt {w : World} {base : Nat} {v : Value} {ts : List Tk} (h : IsTs w base v ts) : ∀ g, v.ownBlock = some g → base ≤ g ∧ g < w.heap.size := World.ownsRow.lt h
theorem IsTs.keep {w w' : World} {base : Nat} {v : Value} {ts : List Tk} (h : IsTs w base v ts) (hb : Below w.heap.size w w') : IsTs w' base v ts :=
  h.of_block fun g hg => hb.block g (h.lt g hg).2
theorem IsTs.form {w : World} {base : Nat} {v : Value} {ts : List Tk} (h : IsTs w base v ts) (hn : 0 < ts.length) : ∃ g cap, v = .slice (some ⟨g, 0, none⟩) ts.length cap ∧ base ≤ g ∧ g < w.heap.size ∧
    (∀ i t, ts[i]? = some t → ∀ j, j < 11 → w.cell? ⟨g, i * 11 + j, none⟩ = t.cells[j]?) ∧ (∀ o, w.frozen? ⟨g, o, none⟩ = false) ∧ ts.length ≤ cap := by
  have hh := h
  obtain ⟨h1, h2⟩ := h
  rcases h2 with ⟨_, e⟩ | ⟨g, cap, cur, rfl, r1, r2, r3⟩
  · omega
  · refine ⟨g, cap, rfl, r1, (Array.getElem?_eq_some_iff.1 r2).1, fun i t hi j hj => ?_, fun o => World.ownsRow.frozenAt hh o, r3.1⟩
    have hil := (List.getElem?_eq_some_iff.1 hi).1
    rw [World.ownsRow.cellAt hh (i * 11 + j) (by omega), flat_at ts i j t hi hj]
/-- How many are told. -/
def nAll (most : Int) (n : Nat) : Nat := if 0 < most ∧ most ≤ n then most.toNat else n
end Go.Proofs.YtcmjhjnpcogmgaaGreatDoor
namespace Go.Proofs.YtcmjhjnpcogmgaaGreatDoor
open Go.Shelf Go.RowKit
set_option linter.all false
theorem all_take {s : ByteArray} : (toks s).take (nAll (-1) (toks s).length) = toks s := by
  have e : nAll (-1) (toks s).length = (toks s).length := by unfold nAll; rw [if_neg (by omega)]
  rw [e, List.take_length]
end Go.Proofs.YtcmjhjnpcogmgaaGreatDoor
namespace Go.Proofs.YtcmjhjnpcogmgaaGreatDoor
open Go.RowKit
set_option linter.all false
theorem kind0 (s : ByteArray) : (rdT s).kind = 0 ↔ s.data.toList = [] := by
  unfold rdT rdNum rdQ rdF rdW rdCell rdRect tk0 tkNum tkStr tkCell tkRect tkCode
  by_cases h : s.data.toList = []
  · simp [h]
  · rw [if_neg h]
    constructor
    · intro h2
      exfalso
      revert h2
      repeat' split
      all_goals simp
    · intro h2; exact absurd h2 h
/-- Places rise from lo on, stand within n; just the last is an end, at n, or wrong. -/
def Good (n : Nat) : Int → List Tk → Prop
  | _, [] => False
  | lo, t :: r => lo ≤ t.at' ∧ t.at' ≤ n ∧ ((r = [] ∧ (t.kind = 8 ∨ (t.kind = 0 ∧ t.at' = n))) ∨ (r ≠ [] ∧ t.kind ≠ 8 ∧ t.kind ≠ 0 ∧ Good n (t.at' + 1) r))
theorem Good.ne {n : Nat} {lo : Int} {l : List Tk} (h : Good n lo l) : l ≠ [] := by rintro rfl; exact h
theorem Good.low {n : Nat} {lo lo' : Int} {l : List Tk} (h : Good n lo l) (hl : lo' ≤ lo) : Good n lo' l := by
  cases l with
  | nil => exact h
  | cons t r => exact ⟨by have := h.1; omega, h.2⟩
theorem Good.pos {n : Nat} {lo : Int} {l : List Tk} (h : Good n lo l) : 0 < l.length := by
  cases l with
  | nil => exact h.elim
  | cons t r => simp
theorem Good.at : ∀ {l : List Tk} {n : Nat} {lo : Int} {i : Nat} {t : Tk}, Good n lo l → l[i]? = some t →
    lo ≤ t.at' ∧ t.at' ≤ n ∧ ((i + 1 = l.length ∧ (t.kind = 8 ∨ (t.kind = 0 ∧ t.at' = n))) ∨ (i + 1 < l.length ∧ t.kind ≠ 8 ∧ t.kind ≠ 0))
  | [], _, _, _, _, h, _ => h.elim
  | u :: r, n, lo, 0, t, h, hi => by
    simp at hi; subst hi
    refine ⟨h.1, h.2.1, ?_⟩
    rcases h.2.2 with ⟨h1, h2⟩ | ⟨h1, h2, h3, _⟩
    · subst h1; exact .inl ⟨rfl, h2⟩
    · refine .inr ⟨?_, h2, h3⟩
      cases r with
      | nil => exact absurd rfl h1
      | cons a b => simp
  | u :: r, n, lo, i + 1, t, h, hi => by
    have hi' : r[i]? = some t := by simpa using hi
    rcases h.2.2 with ⟨h1, h2⟩ | ⟨h1, h2, h3, h4⟩
    · subst h1; simp at hi'
    · have ih := Good.at h4 hi'
      refine ⟨by have := h.1; have := ih.1; omega, ih.2.1, ?_⟩
      simp only [List.length_cons]
      rcases ih.2.2 with ⟨k1, k2⟩ | ⟨k1, k2⟩
      · exact .inl ⟨by omega, k2⟩
      · exact .inr ⟨by omega, k2⟩
theorem Good.next : ∀ {l : List Tk} {n : Nat} {lo : Int} {i : Nat} {t u : Tk}, Good n lo l → l[i]? = some t → l[i + 1]? = some u → t.at' < u.at'
  | [], _, _, _, _, _, h, _, _ => h.elim
  | v :: r, n, lo, 0, t, u, h, ht, hu => by
    simp at ht; subst ht
    have hu' : r[0]? = some u := by simpa using hu
    rcases h.2.2 with ⟨h1, _⟩ | ⟨_, _, _, h4⟩
    · subst h1; simp at hu'
    · have := (Good.at h4 hu').1; omega
  | v :: r, n, lo, i + 1, t, u, h, ht, hu => by
    rcases h.2.2 with ⟨h1, _⟩ | ⟨_, _, _, h4⟩
    · subst h1; simp at ht
    · exact Good.next h4 (by simpa using ht) (by simpa using hu)
theorem kindAt (x : Nat × List UInt8) : (tkAt x).kind = (rdT (bs x.2)).kind := rfl
theorem atAt (x : Nat × List UInt8) : (tkAt x).at' = (x.1 : Int) := rfl
theorem good_pcs : ∀ (f : Nat) (rest : List UInt8) (n : Nat), rest.length < f → rest.length ≤ n → Good n ((n : Int) - (rest.length : Int)) (cutW ((pcs f rest n).map tkAt))
  | 0, rest, n, h, _ => absurd h (by omega)
  | f + 1, rest, n, h, hn => by
    rw [pcs_succ, List.map_cons, cutW]
    have h1 := dropB_le rest
    have hk := kind0 (bs ((dropB rest).take (reachL (dropB rest))))
    rw [bs_data, take_nil_iff] at hk
    by_cases hr : dropB rest = []
    · have hk0 := hk.2 hr
      rw [if_pos ((take_nil_iff _).2 hr), List.map_nil]
      refine ⟨?_, ?_, .inl ⟨?_, .inr ⟨?_, ?_⟩⟩⟩
      · rw [atAt]; dsimp only; omega
      · rw [atAt]; dsimp only; omega
      · split <;> rfl
      · rw [kindAt]; exact hk0
      · rw [atAt]; dsimp only; rw [hr]; simp
    · have hp := len_pos hr
      have hq := reachL_pos hr
      have hle := reachL_le (dropB rest)
      have hk0 : (rdT (bs ((dropB rest).take (reachL (dropB rest))))).kind ≠ 0 := fun e => hr (hk.1 e)
      rw [if_neg (fun e => hr ((take_nil_iff _).1 e))]
      have ih := good_pcs f ((dropB rest).drop (reachL (dropB rest))) n (by rw [List.length_drop]; omega) (by rw [List.length_drop]; omega)
      rw [List.length_drop] at ih
      refine ⟨?_, ?_, ?_⟩
      · rw [atAt]; dsimp only; omega
      · rw [atAt]; dsimp only; omega
      · by_cases h8 : (tkAt (n - (dropB rest).length, (dropB rest).take (reachL (dropB rest)))).kind = 8
        · rw [if_pos h8]; exact .inl ⟨rfl, .inl h8⟩
        · rw [if_neg h8]
          refine .inr ⟨ih.ne, h8, by rw [kindAt]; exact hk0, ih.low ?_⟩
          rw [atAt]; dsimp only; omega
theorem good_toks (s : ByteArray) : Good s.size 0 (toks s) := by
  unfold toks
  cases hF : isF s
  · exact ⟨by decide, by show (0 : Int) ≤ _; omega, .inl ⟨rfl, .inl rfl⟩⟩
  · have h1 : 1 ≤ s.size := by
      rw [size_len]
      cases hl : s.data.toList with
      | nil => unfold isF at hF; rw [hl] at hF; simp at hF
      | cons c t => simp
    have h := good_pcs s.size (s.data.toList.drop 1) s.size (by rw [List.length_drop, ← size_len]; omega) (by rw [List.length_drop, ← size_len]; omega)
    exact h.low (by rw [List.length_drop, ← size_len]; omega)
end Go.Proofs.YtcmjhjnpcogmgaaGreatDoor
