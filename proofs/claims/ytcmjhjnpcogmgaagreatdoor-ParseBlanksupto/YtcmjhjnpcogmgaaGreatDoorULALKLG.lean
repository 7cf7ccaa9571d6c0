/- The contract of the laws' own collector: the tokens that Lex tells, as a list, at most so  -/
import Derived.Test.YtcmjhjnpcogmgaaGreatDoorUAuto
import Derived.Test.YtcmjhjnpcogmgaaGreatDoorULIpLI2p
import Derived.Test.YtcmjhjnpcogmgaaGreatDoorURfN3RfN5RfN6
import Derived.Maps.OwnIn
import Derived.Maps.AppendAt
set_option linter.all false
set_option maxRecDepth 100000
set_option maxHeartbeats 4000000
namespace Go.Proofs.YtcmjhjnpcogmgaaGreatDoor
open Go.Shelf Go.RowKit
attribute [local go_sem] Oper.semAt_some
def flat (ts : List Tk) : List Value := ts.flatMap (fun t => t.cells.toList)
theorem cells_len (t : Tk) : t.cells.toList.length = 11 := rfl
theorem flat_snoc (ts : List Tk) (t : Tk) : flat (ts ++ [t]) = flat ts ++ t.cells.toList := by unfold flat; simp
theorem flat_at : ∀ (ts : List Tk) (i j : Nat) (t : Tk), ts[i]? = some t → j < 11 → (flat ts)[i * 11 + j]? = t.cells[j]?
 | [], i, j, t, h, _ => by simp at h
 | u :: r, 0, j, t, h, hj => by
  simp at h; subst h
  have e : flat (u :: r) = u.cells.toList ++ flat r := rfl
  rw [e, Nat.zero_mul, Nat.zero_add, List.getElem?_append_left (by rw [cells_len]; exact hj)]
  simp
 | u :: r, i + 1, j, t, h, hj => by
  have ih := flat_at r i j t (by simpa using h) hj
  have e : flat (u :: r) = u.cells.toList ++ flat r := rfl
  rw [e, List.getElem?_append_right (by rw [cells_len]; omega), cells_len, ← ih]
  congr 1; omega
def IsTs (w : World) (base : Nat) (v : Value) (ts : List Tk) : Prop := w.ownsRow base 43 11 v ts.length (flat ts)
theorem IsTs.of_block {w w' : World} {base : Nat} {v : Value} {ts : List Tk} (h : IsTs w base v ts) (hb : ∀ g, v.ownBlock = some g → w'.heap[g]? = w.heap[g]?) : IsTs w' base v ts := by
 obtain ⟨h1, h2⟩ := h
 refine ⟨h1, ?_⟩
 rcases h2 with h2 | ⟨g, cap, cur, e, r1, r2, r3⟩
 ·exact .inl h2
 ·exact .inr ⟨g, cap, cur, e, r1, (hb g (by rw [e]; rfl)).trans r2, r3⟩
theorem IsTs.lt {w : World} {base : Nat} {v : Value} {ts : List Tk} (h : IsTs w base v ts) : ∀ g, v.ownBlock = some g → base ≤ g ∧ g < w.heap.size := World.ownsRow.lt h
theorem IsTs.keep {w w' : World} {base : Nat} {v : Value} {ts : List Tk} (h : IsTs w base v ts) (hb : Below w.heap.size w w') : IsTs w' base v ts :=
 h.of_block fun g hg => hb.block g (h.lt g hg).2
theorem IsTs.form {w : World} {base : Nat} {v : Value} {ts : List Tk} (h : IsTs w base v ts) (hn : 0 < ts.length) : ∃ g cap, v = .slice (some ⟨g, 0, none⟩) ts.length cap ∧ base ≤ g ∧ g < w.heap.size ∧
  (∀ i t, ts[i]? = some t → ∀ j, j < 11 → w.cell? ⟨g, i * 11 + j, none⟩ = t.cells[j]?) ∧ (∀ o, w.frozen? ⟨g, o, none⟩ = false) ∧ ts.length ≤ cap := by
 have hh := h
 obtain ⟨h1, h2⟩ := h
 rcases h2 with ⟨_, e⟩ | ⟨g, cap, cur, rfl, r1, r2, r3⟩
 ·omega
 ·refine ⟨g, cap, rfl, r1, (Array.getElem?_eq_some_iff.1 r2).1, fun i t hi j hj => ?_, fun o => World.ownsRow.frozenAt hh o, r3.1⟩
  have hil := (List.getElem?_eq_some_iff.1 hi).1
  rw [World.ownsRow.cellAt hh (i * 11 + j) zq17, flat_at ts i j t hi hj]
def nAll (most : Int) (n : Nat) : Nat := if 0 < most ∧ most ≤ n then most.toNat else n
end Go.Proofs.YtcmjhjnpcogmgaaGreatDoor
namespace Go.Proofs.YtcmjhjnpcogmgaaGreatDoor
open Go.Shelf Go.RowKit
theorem all_take {s : ByteArray} : (toks s).take (nAll (-1) (toks s).length) = toks s := by
 have e : nAll (-1) (toks s).length = (toks s).length := by unfold nAll; rw [if_neg zq17]
 rw [e, List.take_length]
end Go.Proofs.YtcmjhjnpcogmgaaGreatDoor
namespace Go.Proofs.YtcmjhjnpcogmgaaGreatDoor
open Go.RowKit
theorem kind0 (s : ByteArray) : (rdT s).kind = 0 ↔ s.data.toList = [] := by
 unfold rdT rdNum rdQ rdF rdW rdCell rdRect tk0 tkNum tkStr tkCell tkRect tkCode
 by_cases h : s.data.toList = []
 ·simp [h]
 ·rw [if_neg h]
  constructor
  ·intro h2
   exfalso
   revert h2
   repeat' split
   all_goals simp
  ·intro h2; exact absurd h2 h
def Good (n : Nat) : Int → List Tk → Prop
 | _, [] => False
 | lo, t :: r => lo ≤ t.at' ∧ t.at' ≤ n ∧ ((r = [] ∧ (t.kind = 8 ∨ (t.kind = 0 ∧ t.at' = n))) ∨ (r ≠ [] ∧ t.kind ≠ 8 ∧ t.kind ≠ 0 ∧ Good n (t.at' + 1) r))
theorem Good.ne {n : Nat} {lo : Int} {l : List Tk} (h : Good n lo l) : l ≠ [] := by rintro rfl; exact h
theorem Good.low {n : Nat} {lo lo' : Int} {l : List Tk} (h : Good n lo l) (hl : lo' ≤ lo) : Good n lo' l := by
 cases l with
 | nil => exact h
 | cons t r => exact ⟨by have := h.1; omega, h.2⟩
theorem Good.pos {n : Nat} {lo : Int} {l : List Tk} (h : Good n lo l) : 0 < l.length := by
 cases l with
 | nil => exact h.elim
 | cons t r => simp
theorem Good.at : ∀ {l : List Tk} {n : Nat} {lo : Int} {i : Nat} {t : Tk}, Good n lo l → l[i]? = some t →
  lo ≤ t.at' ∧ t.at' ≤ n ∧ ((i + 1 = l.length ∧ (t.kind = 8 ∨ (t.kind = 0 ∧ t.at' = n))) ∨ (i + 1 < l.length ∧ t.kind ≠ 8 ∧ t.kind ≠ 0))
 | [], _, _, _, _, h, _ => h.elim
 | u :: r, n, lo, 0, t, h, hi => by
  simp at hi; subst hi
  refine ⟨h.1, h.2.1, ?_⟩
  rcases h.2.2 with ⟨h1, h2⟩ | ⟨h1, h2, h3, _⟩
  ·subst h1; exact .inl ⟨rfl, h2⟩
  ·refine .inr ⟨?_, h2, h3⟩
   cases r with
   | nil => exact absurd rfl h1
   | cons a b => simp
 | u :: r, n, lo, i + 1, t, h, hi => by
  have hi' : r[i]? = some t := by simpa using hi
  rcases h.2.2 with ⟨h1, h2⟩ | ⟨h1, h2, h3, h4⟩
  ·subst h1; simp at hi'
  ·have ih := Good.at h4 hi'
   refine ⟨by have := h.1; have := ih.1; omega, ih.2.1, ?_⟩
   simp only [List.length_cons]
   rcases ih.2.2 with ⟨k1, k2⟩ | ⟨k1, k2⟩
   ·exact .inl ⟨zq17, k2⟩
   ·exact .inr ⟨zq17, k2⟩
theorem kindAt (x : Nat × List UInt8) : (tkAt x).kind = (rdT (bs x.2)).kind := rfl
theorem atAt (x : Nat × List UInt8) : (tkAt x).at' = (x.1 : Int) := rfl
theorem good_pcs : ∀ (f : Nat) (rest : List UInt8) (n : Nat), rest.length < f → rest.length ≤ n → Good n ((n : Int) - (rest.length : Int)) (cutW ((pcs f rest n).map tkAt))
 | 0, rest, n, h, _ => absurd h zq17
 | f + 1, rest, n, h, hn => by
  rw [pcs_succ, List.map_cons, cutW]
  have h1 := dropB_le rest
  have hk := kind0 (bs ((dropB rest).take (reachL (dropB rest))))
  rw [bs_data, take_nil_iff] at hk
  by_cases hr : dropB rest = []
  ·have hk0 := hk.2 hr
   rw [if_pos ((take_nil_iff _).2 hr), List.map_nil]
   refine ⟨?_, ?_, .inl ⟨?_, .inr ⟨?_, ?_⟩⟩⟩
   ·rw [atAt]; dsimp only; omega
   ·rw [atAt]; dsimp only; omega
   ·split <;> rfl
   ·rw [kindAt]; exact hk0
   ·rw [atAt]; dsimp only; rw [hr]; simp
  ·have hp := len_pos hr
   have hq := reachL_pos hr
   have hle := reachL_le (dropB rest)
   have hk0 : (rdT (bs ((dropB rest).take (reachL (dropB rest))))).kind ≠ 0 := fun e => hr (hk.1 e)
   rw [if_neg (fun e => hr ((take_nil_iff _).1 e))]
   have ih := good_pcs f ((dropB rest).drop (reachL (dropB rest))) n (by rw [List.length_drop]; omega) (by rw [List.length_drop]; omega)
   rw [List.length_drop] at ih
   refine ⟨?_, ?_, ?_⟩
   ·rw [atAt]; dsimp only; omega
   ·rw [atAt]; dsimp only; omega
   ·by_cases h8 : (tkAt (n - (dropB rest).length, (dropB rest).take (reachL (dropB rest)))).kind = 8
    ·rw [if_pos h8]; exact .inl ⟨rfl, .inl h8⟩
    ·rw [if_neg h8]
     refine .inr ⟨ih.ne, h8, by rw [kindAt]; exact hk0, ih.low ?_⟩
     rw [atAt]; dsimp only; omega
theorem good_toks (s : ByteArray) : Good s.size 0 (toks s) := by
 unfold toks
 cases hF : isF s
 ·exact ⟨zq16, by show (0 : Int) ≤ _; omega, .inl ⟨rfl, .inl rfl⟩⟩
 ·have h1 : 1 ≤ s.size := by
   rw [size_len]
   cases hl : s.data.toList with
   | nil => unfold isF at hF; rw [hl] at hF; simp at hF
   | cons c t => simp
  have h := good_pcs s.size (s.data.toList.drop 1) s.size (by rw [List.length_drop, ← size_len]; omega) (by rw [List.length_drop, ← size_len]; omega)
  exact h.low (by rw [List.length_drop, ← size_len]; omega)
end Go.Proofs.YtcmjhjnpcogmgaaGreatDoor
