/- The contract of the document's next: one more. New memory alone is made. -/
import Derived.Test.YtkbpjomkbelaaaaDoorPNext
namespace Go.Proofs.YtkbpjomkbelaaaaDoor
open Go.Shelf Go.RowKit
set_option linter.all false
/-- What next holds behind i words. -/
structure Nxt (l o : List Nat) (i over : Nat) : Prop where
  len : o.length = i
  wds : Wds o
  ov : over ≤ 1
  val : wv o + 10000 ^ i * over = wv (l.take i) + 1
theorem Nxt.step {l o : List Nat} {i over : Nat} (h : Nxt l o i over) (hi : i < l.length) (hx : l[i] < 10000) : Nxt l (o ++ [(l[i] + over) % 10000]) (i + 1) ((l[i] + over) / 10000) := by
  have hv := h.val; have ho := h.ov; have hl := h.len
  refine ⟨by rw [List.length_append]; simp; omega, h.wds.snoc (Nat.mod_lt _ (by decide)), by omega, ?_⟩
  rw [wv_append, take_succ_wv l i hi, hl, Nat.pow_succ]
  simp only [wv, Nat.mul_zero, Nat.add_zero]
  generalize 10000 ^ i = P at *
  have e : P * (l[i] + over) = P * ((l[i] + over) % 10000) + P * 10000 * ((l[i] + over) / 10000) := by
    rw [Nat.mul_assoc, ← Nat.mul_add, Nat.mod_add_div]
  rw [Nat.mul_add] at e
  omega
set_option maxRecDepth 100000 in
set_option maxHeartbeats 1000000 in
theorem next_any (v : Value) (l : List Nat) (w : World) (h : IsW w v l) (wl : Wds l) (hl : l.length ≤ 2000) :
    Calls Tryd.prog 24 #[v] w fun e w' => ∃ (m : List Nat) (v' : Value), e = .returned v' ∧ IsW w' v' m ∧ Wds m ∧ Top m ∧ wv m = wv l + 1 ∧ Below w.heap.size w w' := by
  obtain ⟨i0, hi, hz0, hz1, hz2⟩ := info_parts infoInt
  obtain ⟨p, cap, rfl, _, hc⟩ := isW_at h
  have HI := Lib.hid hi
  have HZ0 := Lib.hid hz0
  have HZ1 := Lib.hid hz1
  have HZ2 := Lib.hid hz2
  have HC := Lib.hid hc
  have WL := Lib.hid wl
  clear hi hz0 hz1 hz2 h hc wl
  go_enter Tryd.func24, Tryd.ntmps24
  go_wp2
  go_loopw [3, 4, 5] (fun s o x wr => ∃ (i over : Nat) (r : List Nat), i ≤ l.length ∧ x = .int .i64 i ∧ o = .int .i64 over ∧ wr.ownsRow w.heap.size 3 1 s r.length (ints r) ∧ Nxt l r i over ∧ Below w.heap.size w wr) (fun _ _ x _ => l.length - (intOf x).toNat)
  case atStart => exact ⟨0, 1, [], Nat.zero_le _, rfl, rfl, World.ownsRow_nil _ _ _ _, ⟨rfl, fun x hx => by simp at hx, by decide, by simp [wv]⟩, Below.refl _ _⟩
  case round =>
    obtain ⟨i, over, r, hi, rfl, rfl, hown, hin, hB⟩ := hrel
    have HO := Lib.hid hown
    have HN := Lib.hid hin
    have hov := hin.ov
    have hrl := hin.len
    clear hown hin
    by_cases hlt : i < l.length
    · have hlt' : (i : Int) < l.length := by omega
      obtain ⟨g, rfl, hg, hci⟩ := HC.out i hlt
      have c1 := (hB.cell (p := ⟨g, i, none⟩) hg).trans hci
      have HW := Lib.hid (WL.out.getElem i hlt)
      have hxw := HW.out
      have ST := Lib.hid (HN.out.step hlt HW.out)
      clear hci
      generalize hx : l[i] = x at *
      obtain ⟨S, hS⟩ : ∃ S : Nat, S = x + over := ⟨_, rfl⟩
      rw [← hS] at ST
      have m0 : (x : Int) + (over : Int) = (S : Int) := by omega
      have hSb' : S ≤ 10000 := by omega
      have d1 : (S : Int).tmod 10000 = (S : Int) % 10000 := Int.tmod_eq_emod_of_nonneg (by omega)
      have x5 : ((S % 10000 : Nat) : Int) = (S : Int) % 10000 := by omega
      have HSB := Lib.hid (show S ≤ 10000 by omega)
      have hrl5 : r.length ≤ 2000 := by omega
      have HRL := Lib.hid hrl
      clear hS hrl
      go_wp2_with (at_builtin; refine wpList_append_own _ rfl _ _ 38 rfl w.heap.size 3 i0 (.int .i64 0) 1 8 Tryd.underlying38 HI.out HZ0.out HZ1.out HZ2.out rfl (by decide) _ _ _ rfl (HO.out.alloc _) ⟨wr.heap.size, 0, none⟩ 1 1 [.int .i64 ((S : Int) % 10000)] rfl rfl (app_c1 _ _ _) (app_c2 _) (by unfold maxLen; omega) (by omega) (by have := hB.size; simp; omega) ?_; intro v' w1 hown' hgrow _)
      have R := app_rel (x := S % 10000) hB HO.out (by rw [x5]; exact hown') hgrow
      clear hown' hgrow
      go_wp2
      go_roundw
      case rel => exact ⟨i + 1, S / 10000, r ++ [S % 10000], by omega, by go_num, congrArg (Value.int .i64) (by first | rfl | (have := HSB.out; unfold wrap64; omega) | omega), R.1, ST.out, R.2⟩
      case measure => simp [intOf]; omega
    · obtain rfl : i = l.length := by omega
      have hlt' : ¬ ((l.length : Nat) : Int) < l.length := by omega
      have hrl5 : r.length ≤ 2000 := by omega
      have HRL := Lib.hid hrl
      have HOV := Lib.hid hov
      clear hrl hov
      go_wp2_with (at_builtin; refine wpList_append_own _ rfl _ _ 38 rfl w.heap.size 3 i0 (.int .i64 0) 1 8 Tryd.underlying38 HI.out HZ0.out HZ1.out HZ2.out rfl (by decide) _ _ _ rfl (HO.out.alloc _) ⟨wr.heap.size, 0, none⟩ 1 1 [.int .i64 (over : Int)] rfl rfl (app_c1 _ _ _) (app_c2 _) (by unfold maxLen; omega) (by omega) (by have := hB.size; simp; omega) ?_; intro v' w1 hown' hgrow _)
      have R := app_rel (x := over) hB HO.out hown' hgrow
      have hI : IsW w1 v' (r ++ [over]) := IsW.of_own R.1
      have hWd : Wds (r ++ [over]) := HN.out.wds.snoc (by have := HOV.out; omega)
      have HI2 := Lib.hid hI
      have HWD := Lib.hid hWd
      have RB := R.2
      have HV := Lib.hid HN.out.val
      clear hown' hgrow R hI hWd
      go_wp2_with (go_at_call 41; refine (pcut_any _ (r ++ [over]) _ HI2.out HWD.out).mono ?_; rintro e w2 ⟨⟨m, v3, rfl, q1, q2, q3, q4, q5⟩, rfl⟩)
      go_ret
      exact ⟨m, v3, rfl, q1, q2, q3, by rw [q4, wv_append, HRL.out]; have := HV.out; rw [List.take_length] at this; simp [wv]; omega, RB⟩
end Go.Proofs.YtkbpjomkbelaaaaDoor
