/- The law's pick, same and walks. -/
import Derived.Test.YtaafpfjmnhmalaaS23
namespace Go.Proofs.Ytaafpfjmnhmalaa
open Go.RowKit
set_option linter.all false
theorem it_srt {k : Bx} {R : List Im} (h : SrtR R) : SrtI (itL k R) := by
  unfold SrtI itL
  rw [List.pairwise_map]
  exact h
theorem it_next (k : Bx) (R : List Im) (t l b rr ar ac : Int) : nextV (itL k R) t l b rr ar ac = nextR R t l b rr ar ac := by
  unfold nextV nextR itL
  rw [List.find?_map]
  have e : (pN t l b rr ar ac ∘ fun m : Im => (⟨m.r, m.c, some ⟨k.x m.k.toNat, 0, none⟩⟩ : It)) = pI t l b rr ar ac := rfl
  rw [e]
  cases R.find? (pI t l b rr ar ac) <;> rfl
theorem it_len (k : Bx) (R : List Im) : (itL k R).length = R.length := by simp [itL]
theorem get_mem' {L : List It} (hs : SrtI L) {y : It} (hy : y ∈ L) : getL L y.r y.c = y.v := by
  have hr : (⟨y.c, y.v⟩ : Sp) ∈ rowL L y.r := mem_row.2 hy
  have hS := row_srt hs y.r
  unfold getL
  have hh : hasS (rowL L y.r) y.c = true := by unfold hasS; rw [List.any_eq_true]; exact ⟨_, hr, by simp⟩
  have h1 := at_idx hS hh
  obtain ⟨i, hi⟩ := List.getElem?_of_mem hr
  have h2 := idx_below (a := y.c) hS hi (Int.le_refl _)
  by_cases e : idxS (rowL L y.r) y.c = i
  · rw [e, hi] at h1; injection h1 with h1; injection h1 with _ h1; exact h1.symm
  · obtain ⟨l1, e1⟩ := List.getElem?_eq_some_iff.1 h1
    obtain ⟨l2, e2⟩ := List.getElem?_eq_some_iff.1 hi
    have := List.pairwise_iff_getElem.1 hS _ i l1 l2 (by omega)
    rw [e1, e2] at this
    simp at this
/-- What both tell of a cell. -/
theorem it_get (k : Bx) {R : List Im} (hs : SrtR R) (hr : ∀ m ∈ R, 0 ≤ m.k ∧ m.k < 8) (r c : Int) : (getR R r c = -1 ∧ getL (itL k R) r c = none) ∨ ∃ j : Nat, j < 8 ∧ getR R r c = j ∧ getL (itL k R) r c = some ⟨k.x j, 0, none⟩ := by
  unfold getR
  cases h : R.find? (fun x => sameC x.r x.c r c) with
  | none =>
    refine .inl ⟨rfl, get_no ?_⟩
    unfold hasS
    rw [List.any_eq_false]
    intro s hsm e
    have e' : s.c = c := by simpa using e
    obtain ⟨m, hm, he⟩ := List.mem_map.1 (mem_row.1 hsm)
    have h1 := List.find?_eq_none.1 h m hm
    have e1 : m.r = r := congrArg It.r he
    have e2 : m.c = s.c := congrArg It.c he
    exact h1 (by rw [e1, e2, e']; exact sameC_refl _ _)
  | some m =>
    have hm := List.mem_of_find?_eq_some h
    have hsm : sameC m.r m.c r c = true := by have q := List.find?_some h; exact q
    have he : m.r = r ∧ m.c = c := of_decide_eq_true hsm
    have hk := hr m hm
    refine .inr ⟨m.k.toNat, by omega, by simp; omega, ?_⟩
    have := get_mem' (it_srt (k := k) hs) (List.mem_map.2 ⟨m, hm, rfl⟩)
    dsimp only at this
    rw [he.1, he.2] at this
    exact this
/-- One of n. -/
def pkI (c n : Int) : Int := if c < 0 then (-(c + 1)) % n else c % n
theorem pk_in (c : Int) {n : Int} (hn : 0 < n) : 0 ≤ pkI c n ∧ pkI c n < n := by
  unfold pkI
  split
  · exact ⟨Int.emod_nonneg _ (by omega), Int.emod_lt_of_pos _ hn⟩
  · exact ⟨Int.emod_nonneg _ (by omega), Int.emod_lt_of_pos _ hn⟩
theorem pick_any (w : World) (c n : Int) (hc : I64 c) (hn : 0 < n) (hn2 : n ≤ 100) : Calls Try.prog 21 #[.int .i64 c, .int .i64 n] w fun e w' => e = .returned (.int .i64 (pkI c n)) ∧ w' = w := by
  obtain ⟨h1, h2⟩ := hc
  have hz : ¬ n = 0 := by omega
  by_cases h : c < 0
  · have e : pkI c n = (-(c + 1)) % n := if_pos h
    have e2 : (-(c + 1)).tmod n = (-(c + 1)) % n := Int.tmod_eq_emod_of_nonneg (by omega)
    rw [e]
    have hl : 0 ≤ (-(c + 1)) % n := Int.emod_nonneg _ (by omega)
    have hu : (-(c + 1)) % n < n := Int.emod_lt_of_pos _ hn
    go_enter Try.func21, Try.ntmps21
    go_wp2
    all_goals go_ret
    all_goals refine ⟨ret1 ?_, rfl⟩
    all_goals first | omega | simp_all
  · have e : pkI c n = c % n := if_neg h
    have e2 : c.tmod n = c % n := Int.tmod_eq_emod_of_nonneg (by omega)
    rw [e]
    go_enter Try.func21, Try.ntmps21
    go_wp2
    all_goals go_ret
    all_goals refine ⟨ret1 ?_, rfl⟩
    all_goals first | omega | simp_all
theorem same_nil (w : World) (q : Nat) : Calls Try.prog 24 #[.pointer (some ⟨q, 0, none⟩), .pointer none, .int .i64 (-1)] w fun e w' => e = .returned (.bool true) ∧ w' = w := by
  go_enter Try.func24, Try.ntmps24
  go_wp2
  go_ret
  exact ⟨rfl, rfl⟩
theorem same_eq (w : World) (F : Nat → Prop) (k : Bx) (L : List It) (R : List Im) (j : Nat) (hj : j < 8) (h : BW w F k L R) : Calls Try.prog 24 #[.pointer (some ⟨k.q, 0, none⟩), .pointer (some ⟨k.x j, 0, none⟩), .int .i64 j] w fun e w' => e = .returned (.bool true) ∧ w' = w := by
  have hq := h.q.cell 2
  have hp := h.p j hj
  have hpc := h.pc
  have hj' : (j : Int) < 8 := by omega
  have hpe := eqP_same
  have hq2 : w.cell? ⟨k.q, 2, none⟩ = some (.slice (some ⟨k.p, 0, none⟩) 8 k.pc) := hq
  clear hq h
  obtain ⟨q, s, y, p, pc, x⟩ := k
  dsimp only at *
  generalize x j = xj at *
  go_enter Try.func24, Try.ntmps24
  go_wp2
  go_ret
  exact ⟨rfl, rfl⟩
end Go.Proofs.Ytaafpfjmnhmalaa
