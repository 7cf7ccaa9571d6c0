/- Numbers in words of four digits, the lowest first: plain facts on lists. · A slice of ints that holds a list of words; the contracts of the document's cut, below and small. Nothing is written. -/
import Derived.Test.YtfpbcokfianjaaaGreatQNT1V2
import Derived.Test.YtfpbcokfianjaaaGreatQParseWQuot
import Derived.Laws.OwnMore
import Derived.Laws.MakeOwn
import Derived.Deep.QuietTactic
import Derived.BigQuiet
import Derived.Lib.Walk
import Derived.Lib.Hide
namespace Go.Proofs.YtfpbcokfianjaaaGreat.Pw
set_option linter.all false
/-- The number of a list of words. -/
def wv : List Nat → Nat
  | [] => 0
  | x :: l => x + 10000 * wv l
/-- All words are words. -/
def Wds (l : List Nat) : Prop := ∀ x ∈ l, x < 10000
/-- The last word is not nought. -/
def Top (l : List Nat) : Prop := l.getLast? ≠ some 0
theorem wv_append (l m : List Nat) : wv (l ++ m) = wv l + 10000 ^ l.length * wv m := by
  induction l with
  | nil => simp [wv]
  | cons x l ih => simp only [List.cons_append, wv, ih, List.length_cons, Nat.pow_succ]; rw [Nat.mul_add, ← Nat.mul_assoc, Nat.mul_comm 10000 (10000 ^ l.length)]; omega
theorem wv_lt (l : List Nat) (h : Wds l) : wv l < 10000 ^ l.length := by
  induction l with
  | nil => simp [wv]
  | cons x l ih =>
    have h1 := ih fun y hy => h y (by simp [hy])
    have h2 := h x (by simp)
    simp only [wv, List.length_cons, Nat.pow_succ]
    omega
theorem wv_split (l : List Nat) (i : Nat) (h : i ≤ l.length) : wv l = wv (l.take i) + 10000 ^ i * wv (l.drop i) := by
  have := wv_append (l.take i) (l.drop i)
  rw [List.take_append_drop, List.length_take, Nat.min_eq_left h] at this
  exact this
theorem Wds.take {l : List Nat} (h : Wds l) (i : Nat) : Wds (l.take i) := fun x hx => h x (List.mem_of_mem_take hx)
theorem Wds.drop {l : List Nat} (h : Wds l) (i : Nat) : Wds (l.drop i) := fun x hx => h x (List.mem_of_mem_drop hx)
theorem Wds.snoc {l : List Nat} (h : Wds l) {x : Nat} (hx : x < 10000) : Wds (l ++ [x]) := fun y hy => by
  rcases List.mem_append.1 hy with hy | hy
  · exact h y hy
  · simp at hy; omega
theorem drop_at (l : List Nat) (i : Nat) (h : i < l.length) : l.drop i = l[i] :: l.drop (i + 1) := List.drop_eq_getElem_cons h
theorem wv_at (l : List Nat) (i : Nat) (h : i < l.length) : wv l = wv (l.take i) + 10000 ^ i * (l[i] + 10000 * wv (l.drop (i + 1))) := by
  rw [wv_split l i (by omega), drop_at l i h]; rfl
/-- A list without noughts at the end has as many words as its number asks. -/
theorem wv_top (l : List Nat) (ht : Top l) (h0 : l ≠ []) : 10000 ^ (l.length - 1) ≤ wv l := by
  obtain ⟨m, x, rfl⟩ : ∃ m x, l = m ++ [x] := ⟨l.dropLast, l.getLast h0, (List.dropLast_concat_getLast h0).symm⟩
  have hx : x ≠ 0 := by
    intro h; apply ht; rw [h]; simp
  rw [wv_append, List.length_append, List.length_singleton, Nat.add_sub_cancel]
  have : 10000 ^ m.length * 1 ≤ 10000 ^ m.length * wv [x] := Nat.mul_le_mul_left _ (by simp [wv]; omega)
  omega
theorem wv_len_lt {l m : List Nat} (hl : Wds l) (hm : Top m) (h : l.length < m.length) : wv l < wv m := by
  have h1 := wv_lt l hl
  have h2 := wv_top m hm (fun e => by rw [e] at h; simp at h)
  have h3 : 10000 ^ l.length ≤ 10000 ^ (m.length - 1) := Nat.pow_le_pow_right (by decide) (by omega)
  omega
/-- Two of one length that are the same above a word are as that word. -/
theorem wv_word_lt {l m : List Nat} (hl : Wds l) (hm : Wds m) (i : Nat) (h1 : i < l.length) (h2 : i < m.length) (he : l.drop (i + 1) = m.drop (i + 1)) (h : l[i] < m[i]) : wv l < wv m := by
  rw [wv_at l i h1, wv_at m i h2, he]
  have a := wv_lt _ (hl.take i)
  rw [List.length_take, Nat.min_eq_left (by omega)] at a
  have b : 10000 ^ i * (l[i] + 1 + 10000 * wv (m.drop (i + 1))) ≤ 10000 ^ i * (m[i] + 10000 * wv (m.drop (i + 1))) := Nat.mul_le_mul_left _ (by omega)
  have c : 10000 ^ i * (l[i] + 1 + 10000 * wv (m.drop (i + 1))) = 10000 ^ i * (l[i] + 10000 * wv (m.drop (i + 1))) + 10000 ^ i := by
    rw [show l[i] + 1 + 10000 * wv (m.drop (i + 1)) = l[i] + 10000 * wv (m.drop (i + 1)) + 1 by omega, Nat.mul_add, Nat.mul_one]
  omega
theorem wv_set (l : List Nat) (i y : Nat) (h : i < l.length) : wv (l.set i y) + 10000 ^ i * l[i] = wv l + 10000 ^ i * y := by
  have h' : i < (l.set i y).length := by simpa using h
  rw [wv_at l i h, wv_at _ i h', List.take_set_of_le (Nat.le_refl i), List.drop_set_of_lt (by omega)]
  simp only [List.getElem_set_self, Nat.mul_add]
  omega
theorem Wds.set {l : List Nat} (h : Wds l) (i : Nat) {y : Nat} (hy : y < 10000) : Wds (l.set i y) := fun x hx => by
  rcases List.mem_or_eq_of_mem_set hx with hx | hx
  · exact h x hx
  · omega
theorem Wds.getElem {l : List Nat} (h : Wds l) (i : Nat) (hi : i < l.length) : l[i] < 10000 := h _ (List.getElem_mem hi)
theorem wv_zeros (n : Nat) : wv (List.replicate n 0) = 0 := by
  induction n with
  | zero => rfl
  | succ n ih => rw [List.replicate_succ]; simp [wv, ih]
theorem Wds.zeros (n : Nat) : Wds (List.replicate n 0) := fun x hx => by
  have := List.eq_of_mem_replicate hx; omega
/-- Noughts at the end count nothing. -/
theorem wv_cut (l : List Nat) (n : Nat) (hn : n ≤ l.length) (h : ∀ i, (hi : i < l.length) → n ≤ i → l[i] = 0) : wv (l.take n) = wv l := by
  rw [wv_split l n hn]
  have : l.drop n = List.replicate (l.length - n) 0 := by
    apply List.ext_getElem
    · simp
    · intro i h1 h2
      simp only [List.getElem_drop, List.getElem_replicate]
      exact h _ _ (by omega)
  rw [this, wv_zeros]; omega
theorem Top.nil : Top [] := by simp [Top]
theorem Top.take {l : List Nat} {n : Nat} (hn : n ≤ l.length) (h : n = 0 ∨ ∃ h : n - 1 < l.length, l[n - 1] ≠ 0) : Top (l.take n) := by
  unfold Top
  rcases h with rfl | ⟨h, hne⟩
  · simp
  · by_cases h0 : n = 0
    · subst h0; simp
    · rw [List.getLast?_eq_getElem?, List.length_take, Nat.min_eq_left hn, List.getElem?_take_of_lt (by omega), List.getElem?_eq_getElem h]
      intro e; exact hne (Option.some.inj e)
end Go.Proofs.YtfpbcokfianjaaaGreat.Pw
namespace Go.Proofs.YtfpbcokfianjaaaGreat.Pw
open Go.Shelf Go.RowKit
set_option linter.all false
def ints (l : List Nat) : List Value := l.map fun (n : Nat) => Value.int .i64 (n : Int)
/-- The slice holds these words. -/
def IsW (w : World) (v : Value) (l : List Nat) : Prop := w.ownsRow 0 3 1 v l.length (ints l)
theorem grown_below {w w' : World} (hb : Below w.heap.size w w') : w.grownBy w' none := ⟨hb.os, hb.tape, hb.output, hb.size, fun k hk _ => hb.block k hk⟩
theorem IsW.keep {w w' : World} {v : Value} {l : List Nat} (h : IsW w v l) (hb : Below w.heap.size w w') : IsW w' v l :=
  World.ownsRow.kept h (grown_below hb) (by cases e : v.ownBlock with | none => exact .inl rfl | some k => exact .inr (by simp))
theorem IsW.drewN {w : World} {v : Value} {l : List Nat} (h : IsW w v l) (k : Nat) : IsW (w.drewN k) v l := h.keep ⟨rfl, rfl, rfl, Nat.le_refl _, fun _ _ => rfl⟩
theorem IsW.nil (w : World) : IsW w (.slice none 0 0) [] := World.ownsRow_nil _ _ _ _
theorem ints_at (l : List Nat) (i : Nat) (h : i < l.length) : (ints l)[i]? = some (.int .i64 (l[i] : Nat)) := by
  unfold ints; rw [List.getElem?_map, List.getElem?_eq_getElem h]; rfl
/-- Where the words lie. -/
theorem IsW.lies {w : World} {v : Value} {l : List Nat} (h : IsW w v l) : (v = .slice none 0 0 ∧ l = []) ∨
    ∃ g cap, v = .slice (some ⟨g, 0, none⟩) l.length cap ∧ l.length ≤ cap ∧ cap ≤ maxLen ∧ ∀ i, (hi : i < l.length) → w.cell? ⟨g, i, none⟩ = some (.int .i64 (l[i] : Nat)) := by
  have h' := h
  rcases h.2 with ⟨hv, hn⟩ | ⟨g, cap, cur, hv, _, hg, h1, h2, h3, h4⟩
  · exact .inl ⟨hv, List.length_eq_zero_iff.1 hn⟩
  · refine .inr ⟨g, cap, hv, h1, h2, fun i hi => ?_⟩
    subst hv
    rw [World.ownsRow.cellAt h' i (by omega), ints_at l i hi]
theorem IsW.len {w : World} {v : Value} {l : List Nat} (h : IsW w v l) : l.length ≤ maxLen := by
  rcases h.lies with ⟨_, rfl⟩ | ⟨g, cap, _, h1, h2, _⟩
  · simp
  · omega
/-- The first n words. -/
theorem IsW.pre {w : World} {g cap : Nat} {l : List Nat} (h : IsW w (.slice (some ⟨g, 0, none⟩) l.length cap) l) (n : Nat) (hn : n ≤ l.length) : IsW w (.slice (some ⟨g, 0, none⟩) n cap) (l.take n) := by
  have hl : (l.take n).length = n := by rw [List.length_take]; omega
  rcases h.2 with ⟨hv, _⟩ | ⟨g', cap', cur, hv, hb, hg, h1, h2, h3, h4⟩
  · cases hv
  · cases hv
    refine ⟨by simp [ints], .inr ⟨g, cap, cur, by rw [hl], hb, hg, by omega, h2, h3, ?_⟩⟩
    rw [hl, Nat.mul_one]
    have := congrArg (List.take n) h4
    rw [List.take_take, Nat.mul_one, Nat.min_eq_left hn] at this
    rw [this]; unfold ints; rw [List.map_take]
theorem retB' {x y : Bool} (h : x = y) : Ending.returned (.bool x) = .returned (.bool y) := by rw [h]
theorem cut_walk (v : Value) (l : List Nat) (w : World) (h : IsW w v l) : Calls Tryz.prog 106 #[v] w fun e w' => (∃ (n : Nat) (v' : Value), e = .returned v' ∧ IsW w v' (l.take n) ∧ n ≤ l.length ∧ (∀ i, (hi : i < l.length) → n ≤ i → l[i] = 0) ∧ (n = 0 ∨ ∃ h : n - 1 < l.length, l[n - 1] ≠ 0)) ∧ w' = w := by
  have hlen := h.len
  unfold maxLen at hlen
  rcases h.lies with ⟨rfl, rfl⟩ | ⟨g, cap, rfl, h1, h2, hc⟩
  · go_enter Tryz.func106, Tryz.ntmps106
    go_wp2
    go_loop [3] (fun x => x = .int .i64 0) (fun x => 0)
    case atStart => rfl
    case round =>
      obtain rfl := hrel
      go_wp2
      go_ret
      refine ⟨⟨0, .slice none 0 0, rfl, IsW.nil _, ?_⟩, rfl⟩
      simp
  · go_enter Tryz.func106, Tryz.ntmps106
    go_wp2
    go_loop [3] (fun x => ∃ n : Nat, n ≤ l.length ∧ x = .int .i64 n ∧ ∀ i, (hi : i < l.length) → n ≤ i → l[i] = 0) (fun x => (intOf x).toNat)
    case atStart => exact ⟨l.length, Nat.le_refl _, rfl, fun i hi hn => absurd hn (by omega)⟩
    case round =>
      obtain ⟨n, hn, rfl, hz⟩ := hrel
      have HZ := Lib.hid hz
      clear hz
      by_cases h0 : n = 0
      · subst h0
        have H := Lib.hid h
        have HC := Lib.hid hc
        clear h hc
        go_wp2
        go_ret
        exact ⟨⟨0, _, rfl, H.out.pre 0 (by omega), by omega, HZ.out, .inl rfl⟩, rfl⟩
      · have hn0 : (0 : Int) < n := by omega
        have hlt : n - 1 < l.length := by omega
        have hci := hc (n - 1) hlt
        have e1 : ((n : Int) - 1).toNat = n - 1 := by omega
        have hlt' : (n : Int) - 1 < l.length := by omega
        have H := Lib.hid h
        have HC := Lib.hid hc
        clear h hc
        by_cases hq : l[n - 1] = 0
        · have hq1 : (((l[n - 1] : Nat) : Int) == 0) = true := by simp; exact hq
          have HQ := Lib.hid hq
          clear hq
          go_wp2
          go_round
          case rel => exact ⟨n - 1, by omega, by go_num, fun i hi hni => by
            by_cases hin : n ≤ i
            · exact HZ.out i hi hin
            · obtain rfl : i = n - 1 := by omega
              exact HQ.out⟩
          case measure => simp [intOf]; omega
        · have hq1 : (((l[n - 1] : Nat) : Int) == 0) = false := by simp; exact hq
          have HQ := Lib.hid hq
          clear hq
          go_wp2
          go_ret
          exact ⟨⟨n, _, rfl, H.out.pre n hn, hn, HZ.out, .inr ⟨hlt, HQ.out⟩⟩, rfl⟩
/-- cut: the same number, no nought at the end. -/
theorem pcut_any (v : Value) (l : List Nat) (w : World) (h : IsW w v l) (hl : Wds l) : Calls Tryz.prog 106 #[v] w fun e w' => (∃ (m : List Nat) (v' : Value), e = .returned v' ∧ IsW w v' m ∧ Wds m ∧ Top m ∧ wv m = wv l ∧ m.length ≤ l.length) ∧ w' = w :=
  (cut_walk v l w h).mono fun e w' ⟨⟨n, v', he, hv, hn, hz, ht⟩, hw⟩ => ⟨⟨l.take n, v', he, hv, hl.take n, Top.take hn ht, wv_cut l n hn hz, by simp; omega⟩, hw⟩
theorem IsW.form {w : World} {v : Value} {l : List Nat} (h : IsW w v l) : ∃ (p : Option Addr) (cap : Nat), v = .slice p l.length cap := by
  rcases h.lies with ⟨rfl, rfl⟩ | ⟨g, cap, rfl, _⟩
  · exact ⟨none, 0, rfl⟩
  · exact ⟨_, cap, rfl⟩
theorem IsW.some {w : World} {v : Value} {l : List Nat} (h : IsW w v l) (h0 : l ≠ []) : ∃ g cap, v = .slice (some ⟨g, 0, none⟩) l.length cap ∧ l.length ≤ cap ∧ ∀ i, (hi : i < l.length) → w.cell? ⟨g, i, none⟩ = some (.int .i64 (l[i] : Nat)) := by
  rcases h.lies with ⟨rfl, rfl⟩ | ⟨g, cap, rfl, h1, h2, hc⟩
  · exact absurd rfl h0
  · exact ⟨g, cap, rfl, h1, hc⟩
theorem below_ne (va vb : Value) (la lb : List Nat) (w : World) (ha : IsW w va la) (hb : IsW w vb lb) (hne : la.length ≠ lb.length) : Calls Tryz.prog 76 #[va, vb] w fun e w' => e = .returned (.bool (decide (la.length < lb.length))) ∧ w' = w := by
  have hA := ha.len
  have hB := hb.len
  unfold maxLen at hA hB
  obtain ⟨p, cap, rfl⟩ := ha.form
  obtain ⟨p', cap', rfl⟩ := hb.form
  clear ha hb
  generalize la.length = m at *
  generalize lb.length = n at *
  have q : (((m : Nat) : Int) != ((n : Nat) : Int)) = true := by simp; omega
  go_enter Tryz.func76, Tryz.ntmps76
  go_wp2
  go_ret
  exact ⟨retB' (by simp), rfl⟩
theorem below_eq (va vb : Value) (la lb : List Nat) (w : World) (ha : IsW w va la) (hb : IsW w vb lb) (wa : Wds la) (wb : Wds lb) (he : la.length = lb.length) : Calls Tryz.prog 76 #[va, vb] w fun e w' => e = .returned (.bool (decide (wv la < wv lb))) ∧ ∃ k, w' = w.drewN k := by
  have hA := ha.len
  unfold maxLen at hA
  by_cases h0 : la = []
  · subst h0
    obtain rfl : lb = [] := List.length_eq_zero_iff.1 he.symm
    obtain ⟨p, cap, rfl⟩ := ha.form
    obtain ⟨p', cap', rfl⟩ := hb.form
    clear ha hb
    go_enter Tryz.func76, Tryz.ntmps76
    go_wp2
    go_loop [5] (fun x => x = .int .i64 (-1)) (fun x => 0)
    case atStart => rfl
    case round =>
      obtain rfl := hrel
      go_wp2
      go_ret
      exact ⟨rfl, 0, rfl⟩
  · have h0' : lb ≠ [] := fun h => h0 (List.length_eq_zero_iff.1 (by rw [he, h]; rfl))
    obtain ⟨g, cap, rfl, _, hc⟩ := ha.some h0
    obtain ⟨g', cap', rfl, _, hc'⟩ := hb.some h0'
    have HC := Lib.hid hc
    have HC' := Lib.hid hc'
    have WA := Lib.hid wa
    have WB := Lib.hid wb
    have HE := Lib.hid he
    clear ha hb hc hc' wa wb h0 h0'
    rw [← he]
    clear he
    go_enter Tryz.func76, Tryz.ntmps76
    go_wp2
    go_loopw [5] (fun x wr => ∃ n k : Nat, n ≤ la.length ∧ x = .int .i64 ((n : Int) - 1) ∧ wr = w.drewN k ∧ la.drop n = lb.drop n) (fun x _ => (intOf x + 1).toNat)
    case atStart => exact ⟨la.length, 0, Nat.le_refl _, rfl, rfl, by rw [List.drop_length, HE.out, List.drop_length]⟩
    case round =>
      obtain ⟨n, k, hn, rfl, rfl, hd⟩ := hrel
      have HD := Lib.hid hd
      clear hd
      by_cases hz : n = 0
      · subst hz
        go_wp2
        go_ret
        exact ⟨retB' (by have e := HD.out; simp only [List.drop_zero] at e; rw [e]; simp), k, rfl⟩
      · have hlt : n - 1 < la.length := by omega
        have hlt' : n - 1 < lb.length := by have := HE.out; omega
        have hca := HC.out (n - 1) hlt
        have hcb := HC'.out (n - 1) hlt'
        have e1 : ((n : Int) - 1).toNat = n - 1 := by omega
        have b0 : (0 : Int) ≤ (n : Int) - 1 := by omega
        have b1 : (n : Int) - 1 < la.length := by omega
        have hdd : la.drop (n - 1 + 1) = lb.drop (n - 1 + 1) := by rw [show n - 1 + 1 = n by omega]; exact HD.out
        rcases Nat.lt_trichotomy la[n - 1] lb[n - 1] with hq | hq | hq
        · have q1 : (((la[n - 1] : Nat) : Int) != ((lb[n - 1] : Nat) : Int)) = true := by simp; omega
          have HR := Lib.hid (wv_word_lt WA.out WB.out (n - 1) hlt hlt' hdd hq)
          have q2 : ((la[n - 1] : Nat) : Int) < ((lb[n - 1] : Nat) : Int) := by omega
          clear hq hdd
          go_wp2_with fail
          go_quiet (fail)
          go_wp2_with fail
          go_quiet (fail)
          go_wp2
          go_ret
          exact ⟨retB' (by have := HR.out; simp; omega), by simp only [World.drewN_drewN]; exact ⟨_, rfl⟩⟩
        · have q1 : (((la[n - 1] : Nat) : Int) != ((lb[n - 1] : Nat) : Int)) = false := by simp; omega
          have HQ := Lib.hid hq
          have HDD := Lib.hid hdd
          clear hq hdd
          go_wp2_with fail
          go_quiet (fail)
          go_wp2
          go_roundw
          case rel => exact ⟨n - 1, _, by omega, by go_num, rfl, by rw [drop_at la (n - 1) hlt, drop_at lb (n - 1) hlt', HQ.out, HDD.out]⟩
          case measure => simp [intOf]; omega
        · have q1 : (((la[n - 1] : Nat) : Int) != ((lb[n - 1] : Nat) : Int)) = true := by simp; omega
          have HR := Lib.hid (wv_word_lt WB.out WA.out (n - 1) hlt' hlt hdd.symm hq)
          have q2 : ¬ ((la[n - 1] : Nat) : Int) < ((lb[n - 1] : Nat) : Int) := by omega
          clear hq hdd
          go_wp2_with fail
          go_quiet (fail)
          go_wp2_with fail
          go_quiet (fail)
          go_wp2
          go_ret
          exact ⟨retB' (by have := HR.out; simp; omega), by simp only [World.drewN_drewN]; exact ⟨_, rfl⟩⟩
/-- below: of two numbers, whether one is less. -/
theorem below_any (va vb : Value) (la lb : List Nat) (w : World) (ha : IsW w va la) (hb : IsW w vb lb) (wa : Wds la) (wb : Wds lb) (ta : Top la) (tb : Top lb) : Calls Tryz.prog 76 #[va, vb] w fun e w' => e = .returned (.bool (decide (wv la < wv lb))) ∧ ∃ k, w' = w.drewN k := by
  by_cases he : la.length = lb.length
  · exact below_eq va vb la lb w ha hb wa wb he
  · refine (below_ne va vb la lb w ha hb he).mono fun e w' ⟨h1, h2⟩ => ⟨h1.trans (retB' ?_), 0, h2⟩
    by_cases hl : la.length < lb.length
    · have := wv_len_lt wa tb hl; simp [hl, this]
    · have := wv_len_lt wb ta (by omega); simp [hl]; omega
end Go.Proofs.YtfpbcokfianjaaaGreat.Pw
