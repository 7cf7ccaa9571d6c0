/- A slice of uint64 that holds a list of words; the contract of dec's atMost. Nothing is written. -/
import Derived.Test.YtfpbcokfianjaaaPwUVal
namespace Go.Proofs.Ytfpbcokfianjaaa.Pw
open Go.Shelf Go.RowKit
set_option linter.all false
def uints (l : List Nat) : List Value := l.map fun (n : Nat) => Value.int .u64 (n : Int)
/-- The slice holds these words. -/
def IsU (w : World) (v : Value) (l : List Nat) : Prop := w.ownsRow 0 92 1 v l.length (uints l)
theorem IsU.keep {w w' : World} {v : Value} {l : List Nat} (h : IsU w v l) (hb : Below w.heap.size w w') : IsU w' v l :=
  World.ownsRow.kept h (grown_below hb) (by cases e : v.ownBlock with | none => exact .inl rfl | some k => exact .inr (by simp))
theorem IsU.drewN {w : World} {v : Value} {l : List Nat} (h : IsU w v l) (k : Nat) : IsU (w.drewN k) v l := h.keep ⟨rfl, rfl, rfl, Nat.le_refl _, fun _ _ => rfl⟩
theorem IsU.nil (w : World) : IsU w (.slice none 0 0) [] := World.ownsRow_nil _ _ _ _
theorem uints_at (l : List Nat) (i : Nat) (h : i < l.length) : (uints l)[i]? = some (.int .u64 (l[i] : Nat)) := by
  unfold uints; rw [List.getElem?_map, List.getElem?_eq_getElem h]; rfl
/-- Where the words lie. -/
theorem IsU.lies {w : World} {v : Value} {l : List Nat} (h : IsU w v l) : (v = .slice none 0 0 ∧ l = []) ∨
    ∃ g cap, v = .slice (some ⟨g, 0, none⟩) l.length cap ∧ l.length ≤ cap ∧ cap ≤ maxLen ∧ ∀ i, (hi : i < l.length) → w.cell? ⟨g, i, none⟩ = some (.int .u64 (l[i] : Nat)) := by
  have h' := h
  rcases h.2 with ⟨hv, hn⟩ | ⟨g, cap, cur, hv, _, hg, h1, h2, h3, h4⟩
  · exact .inl ⟨hv, List.length_eq_zero_iff.1 hn⟩
  · refine .inr ⟨g, cap, hv, h1, h2, fun i hi => ?_⟩
    subst hv
    rw [World.ownsRow.cellAt h' i (by omega), uints_at l i hi]
theorem IsU.len {w : World} {v : Value} {l : List Nat} (h : IsU w v l) : l.length ≤ maxLen := by
  rcases h.lies with ⟨_, rfl⟩ | ⟨g, cap, _, h1, h2, _⟩
  · simp
  · omega
theorem IsU.form {w : World} {v : Value} {l : List Nat} (h : IsU w v l) : ∃ (p : Option Addr) (cap : Nat), v = .slice p l.length cap := by
  rcases h.lies with ⟨rfl, rfl⟩ | ⟨g, cap, rfl, _⟩
  · exact ⟨none, 0, rfl⟩
  · exact ⟨_, cap, rfl⟩
theorem IsU.some {w : World} {v : Value} {l : List Nat} (h : IsU w v l) (h0 : l ≠ []) : ∃ g cap, v = .slice (some ⟨g, 0, none⟩) l.length cap ∧ l.length ≤ cap ∧ ∀ i, (hi : i < l.length) → w.cell? ⟨g, i, none⟩ = some (.int .u64 (l[i] : Nat)) := by
  rcases h.lies with ⟨rfl, rfl⟩ | ⟨g, cap, rfl, h1, h2, hc⟩
  · exact absurd rfl h0
  · exact ⟨g, cap, rfl, h1, hc⟩
theorem atmost_ne (va vb : Value) (la lb : List Nat) (w : World) (ha : IsU w va la) (hb : IsU w vb lb) (hne : la.length ≠ lb.length) : Calls Try.prog 93 #[va, vb] w fun e w' => e = .returned (.bool (decide (la.length < lb.length))) ∧ w' = w := by
  have hA := ha.len
  have hB := hb.len
  unfold maxLen at hA hB
  obtain ⟨p, cap, rfl⟩ := ha.form
  obtain ⟨p', cap', rfl⟩ := hb.form
  clear ha hb
  generalize la.length = m at *
  generalize lb.length = n at *
  have q : (((m : Nat) : Int) != ((n : Nat) : Int)) = true := by simp; omega
  go_enter Try.func93, Try.ntmps93
  go_wp2
  go_ret
  exact ⟨retB' (by simp), rfl⟩
theorem atmost_eq (va vb : Value) (la lb : List Nat) (w : World) (ha : IsU w va la) (hb : IsU w vb lb) (wa : Uds la) (wb : Uds lb) (he : la.length = lb.length) : Calls Try.prog 93 #[va, vb] w fun e w' => e = .returned (.bool (decide (uv la ≤ uv lb))) ∧ ∃ k, w' = w.drewN k := by
  have hA := ha.len
  unfold maxLen at hA
  by_cases h0 : la = []
  · subst h0
    obtain rfl : lb = [] := List.length_eq_zero_iff.1 he.symm
    obtain ⟨p, cap, rfl⟩ := ha.form
    obtain ⟨p', cap', rfl⟩ := hb.form
    clear ha hb
    go_enter Try.func93, Try.ntmps93
    go_wp2
    go_loop [5] (fun x => x = .int .i64 (-1)) (fun x => 0)
    case atStart => rfl
    case round =>
      obtain rfl := hrel
      go_wp2
      go_ret
      exact ⟨rfl, 0, rfl⟩
  · have h0' : lb ≠ [] := fun h => h0 (List.length_eq_zero_iff.1 (by rw [he, h]; rfl))
    obtain ⟨g, cap, rfl, _, hc⟩ := ha.some h0
    obtain ⟨g', cap', rfl, _, hc'⟩ := hb.some h0'
    have HC := Lib.hid hc
    have HC' := Lib.hid hc'
    have WA := Lib.hid wa
    have WB := Lib.hid wb
    have HE := Lib.hid he
    clear ha hb hc hc' wa wb h0 h0'
    rw [← he]
    clear he
    go_enter Try.func93, Try.ntmps93
    go_wp2
    go_loopw [5] (fun x wr => ∃ n k : Nat, n ≤ la.length ∧ x = .int .i64 ((n : Int) - 1) ∧ wr = w.drewN k ∧ la.drop n = lb.drop n) (fun x _ => (intOf x + 1).toNat)
    case atStart => exact ⟨la.length, 0, Nat.le_refl _, rfl, rfl, by rw [List.drop_length, HE.out, List.drop_length]⟩
    case round =>
      obtain ⟨n, k, hn, rfl, rfl, hd⟩ := hrel
      have HD := Lib.hid hd
      clear hd
      by_cases hz : n = 0
      · subst hz
        go_wp2
        go_ret
        exact ⟨retB' (by have e := HD.out; simp only [List.drop_zero] at e; rw [e]; simp), k, rfl⟩
      · have hlt : n - 1 < la.length := by omega
        have hlt' : n - 1 < lb.length := by have := HE.out; omega
        have hca := HC.out (n - 1) hlt
        have hcb := HC'.out (n - 1) hlt'
        have e1 : ((n : Int) - 1).toNat = n - 1 := by omega
        have b0 : (0 : Int) ≤ (n : Int) - 1 := by omega
        have b1 : (n : Int) - 1 < la.length := by omega
        have hdd : la.drop (n - 1 + 1) = lb.drop (n - 1 + 1) := by rw [show n - 1 + 1 = n by omega]; exact HD.out
        rcases Nat.lt_trichotomy la[n - 1] lb[n - 1] with hq | hq | hq
        · have q1 : (((la[n - 1] : Nat) : Int) != ((lb[n - 1] : Nat) : Int)) = true := by simp; omega
          have HR := Lib.hid (uv_word_lt WA.out WB.out (n - 1) hlt hlt' hdd hq)
          have q2 : ((la[n - 1] : Nat) : Int) < ((lb[n - 1] : Nat) : Int) := by omega
          clear hq hdd
          go_wp2_with fail
          go_quiet (fail)
          go_wp2_with fail
          go_quiet (fail)
          go_wp2
          go_ret
          exact ⟨retB' (by have := HR.out; simp; omega), by simp only [World.drewN_drewN]; exact ⟨_, rfl⟩⟩
        · have q1 : (((la[n - 1] : Nat) : Int) != ((lb[n - 1] : Nat) : Int)) = false := by simp; omega
          have HQ := Lib.hid hq
          have HDD := Lib.hid hdd
          clear hq hdd
          go_wp2_with fail
          go_quiet (fail)
          go_wp2
          go_roundw
          case rel => exact ⟨n - 1, _, by omega, by go_num, rfl, by rw [drop_at la (n - 1) hlt, drop_at lb (n - 1) hlt', HQ.out, HDD.out]⟩
          case measure => simp [intOf]; omega
        · have q1 : (((la[n - 1] : Nat) : Int) != ((lb[n - 1] : Nat) : Int)) = true := by simp; omega
          have HR := Lib.hid (uv_word_lt WB.out WA.out (n - 1) hlt' hlt hdd.symm hq)
          have q2 : ¬ ((la[n - 1] : Nat) : Int) < ((lb[n - 1] : Nat) : Int) := by omega
          clear hq hdd
          go_wp2_with fail
          go_quiet (fail)
          go_wp2_with fail
          go_quiet (fail)
          go_wp2
          go_ret
          exact ⟨retB' (by have := HR.out; simp; omega), by simp only [World.drewN_drewN]; exact ⟨_, rfl⟩⟩
/-- below: of two numbers, whether one is less. -/
theorem atmost_any (va vb : Value) (la lb : List Nat) (w : World) (ha : IsU w va la) (hb : IsU w vb lb) (wa : Uds la) (wb : Uds lb) (ta : Uop la) (tb : Uop lb) : Calls Try.prog 93 #[va, vb] w fun e w' => e = .returned (.bool (decide (uv la ≤ uv lb))) ∧ ∃ k, w' = w.drewN k := by
  by_cases he : la.length = lb.length
  · exact atmost_eq va vb la lb w ha hb wa wb he
  · refine (atmost_ne va vb la lb w ha hb he).mono fun e w' ⟨h1, h2⟩ => ⟨h1.trans (retB' ?_), 0, h2⟩
    by_cases hl : la.length < lb.length
    · have := uv_len_lt wa tb hl; simp [hl]; omega
    · have := uv_len_lt wb ta (by omega); simp [hl]; omega
end Go.Proofs.Ytfpbcokfianjaaa.Pw
