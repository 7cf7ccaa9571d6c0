/- The contracts of the document's raised, next and less over numbers in words of four digits. New memory alone is made. -/
import Derived.Test.YtkbpjomkbelaaaaDoorPMore
namespace Go.Proofs.YtkbpjomkbelaaaaDoor
open Go.Shelf Go.RowKit
set_option linter.all false
theorem isW_one (w : World) (x : Nat) : IsW (w.alloc (.cells #[.int .i64 (x : Int)] 3)) (.slice (some ⟨w.heap.size, 0, none⟩) 1 1) [x] := by
  have h := World.ownsRow_lit (base := 0) (e := 3) (size := 1) w #[.int .i64 (x : Int)] 1 (Nat.zero_le _) (by unfold maxLen; decide) rfl
  exact h
theorem Top.one (x : Nat) (h : x ≠ 0) : Top [x] := Top.snoc [] x h
set_option maxRecDepth 100000 in
set_option maxHeartbeats 1000000 in
theorem raised_any (v : Value) (l : List Nat) (n : Nat) (w : World) (h : IsW w v l) (wl : Wds l) (hl : l.length ≤ 5) (hn : n ≤ 64) :
    Calls Tryd.prog 20 #[v, .int .i64 n] w fun e w' => ∃ (m : List Nat) (v' : Value), e = .returned v' ∧ IsW w' v' m ∧ Wds m ∧ Top m ∧ wv m = wv l ^ n ∧ m.length ≤ 1 + 5 * n ∧ Below w.heap.size w w' := by
  have H := Lib.hid h
  have WL := Lib.hid wl
  clear h wl
  go_enter Tryd.func20, Tryd.ntmps20
  go_wp2
  go_loopw [5, 6] (fun s x wr => ∃ (j : Nat) (m : List Nat), j ≤ n ∧ x = .int .i64 j ∧ IsW wr s m ∧ Wds m ∧ Top m ∧ wv m = wv l ^ j ∧ m.length ≤ 1 + 5 * j ∧ Below w.heap.size w wr) (fun _ x _ => n - (intOf x).toNat)
  case atStart => exact ⟨0, [1], Nat.zero_le _, rfl, isW_one w 1, fun x hx => by simp at hx; omega, Top.one 1 (by decide), by simp [wv], by simp, bal _ _⟩
  case round =>
    obtain ⟨j, m, hj, rfl, hm, wm, tm, vm, lm, hB⟩ := hrel
    have HM := Lib.hid hm
    have WM := Lib.hid wm
    have TM := Lib.hid tm
    have VM := Lib.hid vm
    clear hm wm tm vm
    by_cases hlt : j < n
    · have hlt' : (j : Int) < n := by omega
      go_wp2_with (go_at_call 27; refine (product_any _ _ m l _ HM.out (H.out.keep hB) WM.out WL.out (by omega)).mono ?_; rintro e w2 ⟨m2, v2, rfl, q1, q2, q3, q4, q5, q6⟩)
      have Q1 := Lib.hid q1
      have Q2 := Lib.hid q2
      have Q3 := Lib.hid q3
      have Q4 := Lib.hid q4
      clear q1 q2 q3 q4
      go_roundw
      case rel => exact ⟨j + 1, m2, by omega, by go_num, Q1.out, Q2.out, Q3.out, by rw [Q4.out, VM.out, Nat.pow_succ], by omega, bup hB q6⟩
      case measure => simp [intOf]; omega
    · obtain rfl : j = n := by omega
      have hlt' : ¬ ((j : Nat) : Int) < j := by omega
      go_wp2
      go_ret
      exact ⟨m, _, rfl, HM.out, WM.out, TM.out, VM.out, lm, hB⟩
end Go.Proofs.YtkbpjomkbelaaaaDoor
