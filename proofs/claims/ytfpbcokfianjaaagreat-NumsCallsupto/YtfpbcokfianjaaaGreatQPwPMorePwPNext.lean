/- The contracts of the document's small, next and raised over numbers in words of four digits. New memory alone is made. · The contracts of the document's raised, next and less over numbers in words of four digits. New memory alone is made. -/
import Derived.Test.YtfpbcokfianjaaaGreatQPwPGreatPwPProd
namespace Go.Proofs.YtfpbcokfianjaaaGreat.Pw
open Go.Shelf Go.RowKit
set_option linter.all false
theorem wv_drop_le (l : List Nat) (j : Nat) : wv (l.drop j) ≤ wv l := by
  by_cases h : j ≤ l.length
  · rw [wv_split l j h]
    have : 1 * wv (l.drop j) ≤ 10000 ^ j * wv (l.drop j) := Nat.mul_le_mul_right _ (Nat.pow_pos (by decide))
    omega
  · rw [List.drop_eq_nil_of_le (by omega)]; simp [wv]
theorem retUB {a b : Int} {x y : Bool} (h : a = b) (h' : x = y) : Ending.returned (.tuple #[.int .u64 a, .bool x]) = .returned (.tuple #[.int .u64 b, .bool y]) := by rw [h, h']
/-- A number of words, where it may be; else 0. -/
def smV (n : Nat) : Nat := if n ≤ 9223372036854775807 then n else 0
theorem small_long (v : Value) (l : List Nat) (w : World) (h : IsW w v l) (hl : 5 < l.length) : Calls Tryz.prog 81 #[v] w fun e w' => e = .returned (.tuple #[.int .u64 0, .bool false]) ∧ w' = w := by
  have hlen := h.len
  unfold maxLen at hlen
  obtain ⟨p, cap, rfl⟩ := h.form
  clear h
  have hl' : (5 : Int) < (l.length : Int) := by omega
  go_enter Tryz.func81, Tryz.ntmps81
  go_wp2
  go_ret2
  exact ⟨rfl, rfl⟩
set_option maxRecDepth 100000 in
set_option maxHeartbeats 1000000 in
theorem small_short (v : Value) (l : List Nat) (w : World) (h : IsW w v l) (wl : Wds l) (hl : l.length ≤ 5) : Calls Tryz.prog 81 #[v] w fun e w' => e = .returned (.tuple #[.int .u64 (smV (wv l) : Nat), .bool (decide (wv l ≤ 9223372036854775807))]) ∧ w' = w := by
  obtain ⟨p, cap, rfl, _, hc⟩ := isW_at h
  have HC := Lib.hid hc
  have WL := Lib.hid wl
  clear h hc wl
  have hl' : ¬ (5 : Int) < (l.length : Int) := by omega
  go_enter Tryz.func81, Tryz.ntmps81
  go_wp2
  go_loop [4, 5] (fun s x => ∃ (n j : Nat), j ≤ l.length ∧ s = .int .u64 n ∧ x = .int .i64 ((j : Int) - 1) ∧ n = wv (l.drop j) ∧ n ≤ 9223372036854775807) (fun _ x => (intOf x + 1).toNat)
  case atStart => exact ⟨0, l.length, Nat.le_refl _, rfl, rfl, by rw [List.drop_length]; rfl, by decide⟩
  case round =>
    obtain ⟨n, j, hj, rfl, rfl, hn, hm⟩ := hrel
    have HN := Lib.hid hn
    clear hn
    by_cases hz : j = 0
    · subst hz
      go_wp2
      go_ret2
      have e := HN.out
      rw [List.drop_zero] at e
      exact ⟨retUB (by unfold smV; rw [if_pos (by omega), ← e]) (by rw [← e]; simp; omega), rfl⟩
    · have hlt : j - 1 < l.length := by omega
      obtain ⟨g, rfl, hg, hcj⟩ := HC.out (j - 1) hlt
      have HW := Lib.hid (WL.out.getElem (j - 1) hlt)
      have hd : wv (l.drop (j - 1)) = l[j - 1] + 10000 * n := by
        rw [drop_at l (j - 1) hlt, show j - 1 + 1 = j by omega, HN.out]; rfl
      have HD := Lib.hid hd
      have b0 : (0 : Int) ≤ (j : Int) - 1 := by omega
      have e1 : ((j : Int) - 1).toNat = j - 1 := by omega
      have b1 : (j : Int) - 1 < (l.length : Int) := by omega
      clear hd
      generalize hx : l[j - 1] = x at *
      have hxw := HW.out
      have x1 : IntKind.u64.wrap (x : Int) = (x : Int) := by rw [wrapU]; omega
      have x2 : IntKind.u64.wrap (9223372036854775807 - (x : Int)) = 9223372036854775807 - (x : Int) := by rw [wrapU]; omega
      have x3 : (9223372036854775807 - (x : Int)).tdiv 10000 = (9223372036854775807 - (x : Int)) / 10000 := Int.tdiv_eq_ediv_of_nonneg (by omega)
      have x4 : IntKind.u64.wrap ((9223372036854775807 - (x : Int)) / 10000) = (9223372036854775807 - (x : Int)) / 10000 := by rw [wrapU]; omega
      by_cases hq : x + 10000 * n ≤ 9223372036854775807
      · have y1 : ¬ (9223372036854775807 - (x : Int)) / 10000 < (n : Int) := by omega
        have y2 : IntKind.u64.wrap ((n : Int) * 10000) = (n : Int) * 10000 := by rw [wrapU]; omega
        have y3 : IntKind.u64.wrap ((n : Int) * 10000 + (x : Int)) = ((x + 10000 * n : Nat) : Int) := by rw [wrapU]; omega
        have HQ := Lib.hid hq
        clear hxw hq hm
        go_wp2
        go_round
        case rel => exact ⟨x + 10000 * n, j - 1, by omega, by go_num, by go_num, HD.out.symm, HQ.out⟩
        case measure => simp [intOf]; omega
      · have y1 : (9223372036854775807 - (x : Int)) / 10000 < (n : Int) := by omega
        have HQ := Lib.hid hq
        clear hxw hq hm
        go_wp2
        go_ret2
        have hb := wv_drop_le l (j - 1)
        have e := HD.out
        have q := HQ.out
        exact ⟨retUB (by unfold smV; rw [if_neg (by omega)]; rfl) (by simp; omega), rfl⟩
theorem small_any (v : Value) (l : List Nat) (w : World) (h : IsW w v l) (wl : Wds l) (tl : Top l) : Calls Tryz.prog 81 #[v] w fun e w' => e = .returned (.tuple #[.int .u64 (smV (wv l) : Nat), .bool (decide (wv l ≤ 9223372036854775807))]) ∧ w' = w := by
  by_cases hl : l.length ≤ 5
  · exact small_short v l w h wl hl
  · refine (small_long v l w h (by omega)).mono fun e w' ⟨h1, h2⟩ => ⟨h1.trans ?_, h2⟩
    have a := wv_top l tl (fun e => by rw [e] at hl; simp at hl)
    have b : 10000 ^ 5 ≤ 10000 ^ (l.length - 1) := Nat.pow_le_pow_right (by decide) (by omega)
    have c : (10000 : Nat) ^ 5 = 100000000000000000000 := by decide
    exact retUB (by unfold smV; rw [if_neg (by omega)]; rfl) (by simp; omega)
end Go.Proofs.YtfpbcokfianjaaaGreat.Pw
namespace Go.Proofs.YtfpbcokfianjaaaGreat.Pw
open Go.Shelf Go.RowKit
set_option linter.all false
theorem isW_one (w : World) (x : Nat) : IsW (w.alloc (.cells #[.int .i64 (x : Int)] 3)) (.slice (some ⟨w.heap.size, 0, none⟩) 1 1) [x] := by
  have h := World.ownsRow_lit (base := 0) (e := 3) (size := 1) w #[.int .i64 (x : Int)] 1 (Nat.zero_le _) (by unfold maxLen; decide) rfl
  exact h
theorem Top.one (x : Nat) (h : x ≠ 0) : Top [x] := Top.snoc [] x h
set_option maxRecDepth 100000 in
set_option maxHeartbeats 1000000 in
theorem raised_any (v : Value) (l : List Nat) (n : Nat) (w : World) (h : IsW w v l) (wl : Wds l) (hl : l.length ≤ 5) (hn : n ≤ 64) :
    Calls Tryz.prog 80 #[v, .int .i64 n] w fun e w' => ∃ (m : List Nat) (v' : Value), e = .returned v' ∧ IsW w' v' m ∧ Wds m ∧ Top m ∧ wv m = wv l ^ n ∧ m.length ≤ 1 + 5 * n ∧ Below w.heap.size w w' := by
  have H := Lib.hid h
  have WL := Lib.hid wl
  clear h wl
  go_enter Tryz.func80, Tryz.ntmps80
  go_wp2
  go_loopw [5, 6] (fun s x wr => ∃ (j : Nat) (m : List Nat), j ≤ n ∧ x = .int .i64 j ∧ IsW wr s m ∧ Wds m ∧ Top m ∧ wv m = wv l ^ j ∧ m.length ≤ 1 + 5 * j ∧ Below w.heap.size w wr) (fun _ x _ => n - (intOf x).toNat)
  case atStart => exact ⟨0, [1], Nat.zero_le _, rfl, isW_one w 1, fun x hx => by simp at hx; omega, Top.one 1 (by decide), by simp [wv], by simp, bal _ _⟩
  case round =>
    obtain ⟨j, m, hj, rfl, hm, wm, tm, vm, lm, hB⟩ := hrel
    have HM := Lib.hid hm
    have WM := Lib.hid wm
    have TM := Lib.hid tm
    have VM := Lib.hid vm
    clear hm wm tm vm
    by_cases hlt : j < n
    · have hlt' : (j : Int) < n := by omega
      go_wp2_with (go_at_call 74; refine (product_any _ _ m l _ HM.out (H.out.keep hB) WM.out WL.out (by omega)).mono ?_; rintro e w2 ⟨m2, v2, rfl, q1, q2, q3, q4, q5, q6⟩)
      have Q1 := Lib.hid q1
      have Q2 := Lib.hid q2
      have Q3 := Lib.hid q3
      have Q4 := Lib.hid q4
      clear q1 q2 q3 q4
      go_roundw
      case rel => exact ⟨j + 1, m2, by omega, by go_num, Q1.out, Q2.out, Q3.out, by rw [Q4.out, VM.out, Nat.pow_succ], by omega, bup hB q6⟩
      case measure => simp [intOf]; omega
    · obtain rfl : j = n := by omega
      have hlt' : ¬ ((j : Nat) : Int) < j := by omega
      go_wp2
      go_ret
      exact ⟨m, _, rfl, HM.out, WM.out, TM.out, VM.out, lm, hB⟩
end Go.Proofs.YtfpbcokfianjaaaGreat.Pw
