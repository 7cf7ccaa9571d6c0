/- Numbers in words of 64 bits, the lowest first: plain facts on lists. · A slice of uint64 that holds a list of words; the contract of dec's atMost. Nothing is written. -/
import Derived.Test.YtfpbcokfianjaaaGreatQPwPValPwPMem
import Derived.Test.YtfpbcokfianjaaaGreatQParseWQuot
import Derived.Test.YtfpbcokfianjaaaGreatQNT1V2
import Derived.Laws.OwnMore
import Derived.Laws.MakeOwn
import Derived.Deep.QuietTactic
import Derived.BigQuiet
import Derived.Lib.Walk
import Derived.Lib.Hide
namespace Go.Proofs.YtfpbcokfianjaaaGreat.Pw
set_option linter.all false
/-- The number of a list of words. -/
def uv : List Nat → Nat
  | [] => 0
  | x :: l => x + 18446744073709551616 * uv l
/-- All words are words. -/
def Uds (l : List Nat) : Prop := ∀ x ∈ l, x < 18446744073709551616
/-- The last word is not nought. -/
def Uop (l : List Nat) : Prop := l.getLast? ≠ some 0
theorem uv_append (l m : List Nat) : uv (l ++ m) = uv l + 18446744073709551616 ^ l.length * uv m := by
  induction l with
  | nil => simp [uv]
  | cons x l ih => simp only [List.cons_append, uv, ih, List.length_cons, Nat.pow_succ]; rw [Nat.mul_add, ← Nat.mul_assoc, Nat.mul_comm 18446744073709551616 (18446744073709551616 ^ l.length)]; omega
theorem uv_lt (l : List Nat) (h : Uds l) : uv l < 18446744073709551616 ^ l.length := by
  induction l with
  | nil => simp [uv]
  | cons x l ih =>
    have h1 := ih fun y hy => h y (by simp [hy])
    have h2 := h x (by simp)
    simp only [uv, List.length_cons, Nat.pow_succ]
    omega
theorem uv_split (l : List Nat) (i : Nat) (h : i ≤ l.length) : uv l = uv (l.take i) + 18446744073709551616 ^ i * uv (l.drop i) := by
  have := uv_append (l.take i) (l.drop i)
  rw [List.take_append_drop, List.length_take, Nat.min_eq_left h] at this
  exact this
theorem Uds.take {l : List Nat} (h : Uds l) (i : Nat) : Uds (l.take i) := fun x hx => h x (List.mem_of_mem_take hx)
theorem Uds.drop {l : List Nat} (h : Uds l) (i : Nat) : Uds (l.drop i) := fun x hx => h x (List.mem_of_mem_drop hx)
theorem Uds.snoc {l : List Nat} (h : Uds l) {x : Nat} (hx : x < 18446744073709551616) : Uds (l ++ [x]) := fun y hy => by
  rcases List.mem_append.1 hy with hy | hy
  · exact h y hy
  · simp at hy; omega
theorem uv_at (l : List Nat) (i : Nat) (h : i < l.length) : uv l = uv (l.take i) + 18446744073709551616 ^ i * (l[i] + 18446744073709551616 * uv (l.drop (i + 1))) := by
  rw [uv_split l i (by omega), drop_at l i h]; rfl
/-- A list without noughts at the end has as many words as its number asks. -/
theorem uv_top (l : List Nat) (ht : Uop l) (h0 : l ≠ []) : 18446744073709551616 ^ (l.length - 1) ≤ uv l := by
  obtain ⟨m, x, rfl⟩ : ∃ m x, l = m ++ [x] := ⟨l.dropLast, l.getLast h0, (List.dropLast_concat_getLast h0).symm⟩
  have hx : x ≠ 0 := by
    intro h; apply ht; rw [h]; simp
  rw [uv_append, List.length_append, List.length_singleton, Nat.add_sub_cancel]
  have : 18446744073709551616 ^ m.length * 1 ≤ 18446744073709551616 ^ m.length * uv [x] := Nat.mul_le_mul_left _ (by simp [uv]; omega)
  omega
theorem uv_len_lt {l m : List Nat} (hl : Uds l) (hm : Uop m) (h : l.length < m.length) : uv l < uv m := by
  have h1 := uv_lt l hl
  have h2 := uv_top m hm (fun e => by rw [e] at h; simp at h)
  have h3 : 18446744073709551616 ^ l.length ≤ 18446744073709551616 ^ (m.length - 1) := Nat.pow_le_pow_right (by decide) (by omega)
  omega
/-- Two of one length that are the same above a word are as that word. -/
theorem uv_word_lt {l m : List Nat} (hl : Uds l) (hm : Uds m) (i : Nat) (h1 : i < l.length) (h2 : i < m.length) (he : l.drop (i + 1) = m.drop (i + 1)) (h : l[i] < m[i]) : uv l < uv m := by
  rw [uv_at l i h1, uv_at m i h2, he]
  have a := uv_lt _ (hl.take i)
  rw [List.length_take, Nat.min_eq_left (by omega)] at a
  have b : 18446744073709551616 ^ i * (l[i] + 1 + 18446744073709551616 * uv (m.drop (i + 1))) ≤ 18446744073709551616 ^ i * (m[i] + 18446744073709551616 * uv (m.drop (i + 1))) := Nat.mul_le_mul_left _ (by omega)
  have c : 18446744073709551616 ^ i * (l[i] + 1 + 18446744073709551616 * uv (m.drop (i + 1))) = 18446744073709551616 ^ i * (l[i] + 18446744073709551616 * uv (m.drop (i + 1))) + 18446744073709551616 ^ i := by
    rw [show l[i] + 1 + 18446744073709551616 * uv (m.drop (i + 1)) = l[i] + 18446744073709551616 * uv (m.drop (i + 1)) + 1 by omega, Nat.mul_add, Nat.mul_one]
  omega
theorem Uds.set {l : List Nat} (h : Uds l) (i : Nat) {y : Nat} (hy : y < 18446744073709551616) : Uds (l.set i y) := fun x hx => by
  rcases List.mem_or_eq_of_mem_set hx with hx | hx
  · exact h x hx
  · omega
theorem Uds.getElem {l : List Nat} (h : Uds l) (i : Nat) (hi : i < l.length) : l[i] < 18446744073709551616 := h _ (List.getElem_mem hi)
theorem Uds.zeros (n : Nat) : Uds (List.replicate n 0) := fun x hx => by
  have := List.eq_of_mem_replicate hx; omega
theorem Uop.nil : Uop [] := by simp [Uop]
theorem Uop.take {l : List Nat} {n : Nat} (hn : n ≤ l.length) (h : n = 0 ∨ ∃ h : n - 1 < l.length, l[n - 1] ≠ 0) : Uop (l.take n) := by
  unfold Uop
  rcases h with rfl | ⟨h, hne⟩
  · simp
  · by_cases h0 : n = 0
    · subst h0; simp
    · rw [List.getLast?_eq_getElem?, List.length_take, Nat.min_eq_left hn, List.getElem?_take_of_lt (by omega), List.getElem?_eq_getElem h]
      intro e; exact hne (Option.some.inj e)
end Go.Proofs.YtfpbcokfianjaaaGreat.Pw
namespace Go.Proofs.YtfpbcokfianjaaaGreat.Pw
open Go.Shelf Go.RowKit
set_option linter.all false
def uints (l : List Nat) : List Value := l.map fun (n : Nat) => Value.int .u64 (n : Int)
/-- The slice holds these words. -/
def IsU (w : World) (v : Value) (l : List Nat) : Prop := w.ownsRow 0 71 1 v l.length (uints l)
theorem IsU.keep {w w' : World} {v : Value} {l : List Nat} (h : IsU w v l) (hb : Below w.heap.size w w') : IsU w' v l :=
  World.ownsRow.kept h (grown_below hb) (by cases e : v.ownBlock with | none => exact .inl rfl | some k => exact .inr (by simp))
theorem IsU.drewN {w : World} {v : Value} {l : List Nat} (h : IsU w v l) (k : Nat) : IsU (w.drewN k) v l := h.keep ⟨rfl, rfl, rfl, Nat.le_refl _, fun _ _ => rfl⟩
theorem IsU.nil (w : World) : IsU w (.slice none 0 0) [] := World.ownsRow_nil _ _ _ _
theorem uints_at (l : List Nat) (i : Nat) (h : i < l.length) : (uints l)[i]? = some (.int .u64 (l[i] : Nat)) := by
  unfold uints; rw [List.getElem?_map, List.getElem?_eq_getElem h]; rfl
/-- Where the words lie. -/
theorem IsU.lies {w : World} {v : Value} {l : List Nat} (h : IsU w v l) : (v = .slice none 0 0 ∧ l = []) ∨
    ∃ g cap, v = .slice (some ⟨g, 0, none⟩) l.length cap ∧ l.length ≤ cap ∧ cap ≤ maxLen ∧ ∀ i, (hi : i < l.length) → w.cell? ⟨g, i, none⟩ = some (.int .u64 (l[i] : Nat)) := by
  have h' := h
  rcases h.2 with ⟨hv, hn⟩ | ⟨g, cap, cur, hv, _, hg, h1, h2, h3, h4⟩
  · exact .inl ⟨hv, List.length_eq_zero_iff.1 hn⟩
  · refine .inr ⟨g, cap, hv, h1, h2, fun i hi => ?_⟩
    subst hv
    rw [World.ownsRow.cellAt h' i (by omega), uints_at l i hi]
theorem IsU.len {w : World} {v : Value} {l : List Nat} (h : IsU w v l) : l.length ≤ maxLen := by
  rcases h.lies with ⟨_, rfl⟩ | ⟨g, cap, _, h1, h2, _⟩
  · simp
  · omega
theorem IsU.form {w : World} {v : Value} {l : List Nat} (h : IsU w v l) : ∃ (p : Option Addr) (cap : Nat), v = .slice p l.length cap := by
  rcases h.lies with ⟨rfl, rfl⟩ | ⟨g, cap, rfl, _⟩
  · exact ⟨none, 0, rfl⟩
  · exact ⟨_, cap, rfl⟩
theorem IsU.some {w : World} {v : Value} {l : List Nat} (h : IsU w v l) (h0 : l ≠ []) : ∃ g cap, v = .slice (some ⟨g, 0, none⟩) l.length cap ∧ l.length ≤ cap ∧ ∀ i, (hi : i < l.length) → w.cell? ⟨g, i, none⟩ = some (.int .u64 (l[i] : Nat)) := by
  rcases h.lies with ⟨rfl, rfl⟩ | ⟨g, cap, rfl, h1, h2, hc⟩
  · exact absurd rfl h0
  · exact ⟨g, cap, rfl, h1, hc⟩
theorem atmost_ne (va vb : Value) (la lb : List Nat) (w : World) (ha : IsU w va la) (hb : IsU w vb lb) (hne : la.length ≠ lb.length) : Calls Tryz.prog 128 #[va, vb] w fun e w' => e = .returned (.bool (decide (la.length < lb.length))) ∧ w' = w := by
  have hA := ha.len
  have hB := hb.len
  unfold maxLen at hA hB
  obtain ⟨p, cap, rfl⟩ := ha.form
  obtain ⟨p', cap', rfl⟩ := hb.form
  clear ha hb
  generalize la.length = m at *
  generalize lb.length = n at *
  have q : (((m : Nat) : Int) != ((n : Nat) : Int)) = true := by simp; omega
  go_enter Tryz.func128, Tryz.ntmps128
  go_wp2
  go_ret
  exact ⟨retB' (by simp), rfl⟩
theorem atmost_eq (va vb : Value) (la lb : List Nat) (w : World) (ha : IsU w va la) (hb : IsU w vb lb) (wa : Uds la) (wb : Uds lb) (he : la.length = lb.length) : Calls Tryz.prog 128 #[va, vb] w fun e w' => e = .returned (.bool (decide (uv la ≤ uv lb))) ∧ ∃ k, w' = w.drewN k := by
  have hA := ha.len
  unfold maxLen at hA
  by_cases h0 : la = []
  · subst h0
    obtain rfl : lb = [] := List.length_eq_zero_iff.1 he.symm
    obtain ⟨p, cap, rfl⟩ := ha.form
    obtain ⟨p', cap', rfl⟩ := hb.form
    clear ha hb
    go_enter Tryz.func128, Tryz.ntmps128
    go_wp2
    go_loop [5] (fun x => x = .int .i64 (-1)) (fun x => 0)
    case atStart => rfl
    case round =>
      obtain rfl := hrel
      go_wp2
      go_ret
      exact ⟨rfl, 0, rfl⟩
  · have h0' : lb ≠ [] := fun h => h0 (List.length_eq_zero_iff.1 (by rw [he, h]; rfl))
    obtain ⟨g, cap, rfl, _, hc⟩ := ha.some h0
    obtain ⟨g', cap', rfl, _, hc'⟩ := hb.some h0'
    have HC := Lib.hid hc
    have HC' := Lib.hid hc'
    have WA := Lib.hid wa
    have WB := Lib.hid wb
    have HE := Lib.hid he
    clear ha hb hc hc' wa wb h0 h0'
    rw [← he]
    clear he
    go_enter Tryz.func128, Tryz.ntmps128
    go_wp2
    go_loopw [5] (fun x wr => ∃ n k : Nat, n ≤ la.length ∧ x = .int .i64 ((n : Int) - 1) ∧ wr = w.drewN k ∧ la.drop n = lb.drop n) (fun x _ => (intOf x + 1).toNat)
    case atStart => exact ⟨la.length, 0, Nat.le_refl _, rfl, rfl, by rw [List.drop_length, HE.out, List.drop_length]⟩
    case round =>
      obtain ⟨n, k, hn, rfl, rfl, hd⟩ := hrel
      have HD := Lib.hid hd
      clear hd
      by_cases hz : n = 0
      · subst hz
        go_wp2
        go_ret
        exact ⟨retB' (by have e := HD.out; simp only [List.drop_zero] at e; rw [e]; simp), k, rfl⟩
      · have hlt : n - 1 < la.length := by omega
        have hlt' : n - 1 < lb.length := by have := HE.out; omega
        have hca := HC.out (n - 1) hlt
        have hcb := HC'.out (n - 1) hlt'
        have e1 : ((n : Int) - 1).toNat = n - 1 := by omega
        have b0 : (0 : Int) ≤ (n : Int) - 1 := by omega
        have b1 : (n : Int) - 1 < la.length := by omega
        have hdd : la.drop (n - 1 + 1) = lb.drop (n - 1 + 1) := by rw [show n - 1 + 1 = n by omega]; exact HD.out
        rcases Nat.lt_trichotomy la[n - 1] lb[n - 1] with hq | hq | hq
        · have q1 : (((la[n - 1] : Nat) : Int) != ((lb[n - 1] : Nat) : Int)) = true := by simp; omega
          have HR := Lib.hid (uv_word_lt WA.out WB.out (n - 1) hlt hlt' hdd hq)
          have q2 : ((la[n - 1] : Nat) : Int) < ((lb[n - 1] : Nat) : Int) := by omega
          clear hq hdd
          go_wp2_with fail
          go_quiet (fail)
          go_wp2_with fail
          go_quiet (fail)
          go_wp2
          go_ret
          exact ⟨retB' (by have := HR.out; simp; omega), by simp only [World.drewN_drewN]; exact ⟨_, rfl⟩⟩
        · have q1 : (((la[n - 1] : Nat) : Int) != ((lb[n - 1] : Nat) : Int)) = false := by simp; omega
          have HQ := Lib.hid hq
          have HDD := Lib.hid hdd
          clear hq hdd
          go_wp2_with fail
          go_quiet (fail)
          go_wp2
          go_roundw
          case rel => exact ⟨n - 1, _, by omega, by go_num, rfl, by rw [drop_at la (n - 1) hlt, drop_at lb (n - 1) hlt', HQ.out, HDD.out]⟩
          case measure => simp [intOf]; omega
        · have q1 : (((la[n - 1] : Nat) : Int) != ((lb[n - 1] : Nat) : Int)) = true := by simp; omega
          have HR := Lib.hid (uv_word_lt WB.out WA.out (n - 1) hlt' hlt hdd.symm hq)
          have q2 : ¬ ((la[n - 1] : Nat) : Int) < ((lb[n - 1] : Nat) : Int) := by omega
          clear hq hdd
          go_wp2_with fail
          go_quiet (fail)
          go_wp2_with fail
          go_quiet (fail)
          go_wp2
          go_ret
          exact ⟨retB' (by have := HR.out; simp; omega), by simp only [World.drewN_drewN]; exact ⟨_, rfl⟩⟩
/-- below: of two numbers, whether one is less. -/
theorem atmost_any (va vb : Value) (la lb : List Nat) (w : World) (ha : IsU w va la) (hb : IsU w vb lb) (wa : Uds la) (wb : Uds lb) (ta : Uop la) (tb : Uop lb) : Calls Tryz.prog 128 #[va, vb] w fun e w' => e = .returned (.bool (decide (uv la ≤ uv lb))) ∧ ∃ k, w' = w.drewN k := by
  by_cases he : la.length = lb.length
  · exact atmost_eq va vb la lb w ha hb wa wb he
  · refine (atmost_ne va vb la lb w ha hb he).mono fun e w' ⟨h1, h2⟩ => ⟨h1.trans (retB' ?_), 0, h2⟩
    by_cases hl : la.length < lb.length
    · have := uv_len_lt wa tb hl; simp [hl]; omega
    · have := uv_len_lt wb ta (by omega); simp [hl]; omega
end Go.Proofs.YtfpbcokfianjaaaGreat.Pw
