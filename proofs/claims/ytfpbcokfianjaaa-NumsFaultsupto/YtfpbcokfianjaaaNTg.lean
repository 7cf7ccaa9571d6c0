/- The contracts of slices.Index and slices.Contains at numbers, asked for 0; of dec.Mul where the product is exact. New memory alone is made. -/
import Derived.Test.YtfpbcokfianjaaaNT8
import Derived.Test.YtfpbcokfianjaaaMul
namespace Go.Proofs.Ytfpbcokfianjaaa
open Go.RowKit
set_option linter.all false
def zro (x : Int) : Bool := (0 == x)
set_option maxRecDepth 100000 in
theorem ixz_any (w : World) (b n : Nat) (l : List Int) (hb : NB w b l) (hn : l.length = n) (h16 : n ≤ 16) : Calls Try.prog 83 #[.slice (some ⟨b, 0, none⟩) n n, .int .i64 0] w fun e w' => (∃ r : Int, e = .returned (.int .i64 r) ∧ decide (0 ≤ r) = l.any zro) ∧ Below w.heap.size w w' := by
  have mixed : Try.prog.follows .mixedOrders = true := by kernel_rfl
  have hla := hb.lt
  have HB : Hid _ := hb
  have HL : Hid (l.length = n) := hn
  clear hb hn
  go_enter Try.func83, Try.ntmps83
  go_wp2
  go_loopw [8] (fun v w' => ∃ i : Nat, v = .int .i64 i ∧ i ≤ n ∧ Hid ((l.take i).any zro = false) ∧ ∃ m, w' = w.drewN m) (fun v _ => n - (intOf v).toNat)
  case atStart => exact ⟨0, rfl, by omega, rfl, 0, rfl⟩
  case round =>
    obtain ⟨i, rfl, hi, htk, m, rfl⟩ := hrel
    by_cases hlt : i < n
    · have hlt' : (i : Int) < n := by omega
      have hai : l[i]? = some (l[i]'(by rw [HL.out]; exact hlt)) := List.getElem?_eq_getElem _
      have HAi : Hid _ := hai
      revert HAi
      generalize (l[i]'(by rw [HL.out]; exact hlt)) = x
      intro HAi
      clear hai
      have x0 := HB.out.at HAi.out
      cases hs : ((0 : Int) == x)
      · have HS : Hid (zro x = false) := hs
        go_wp2
        exact ⟨⟨i + 1, by go_num, by omega, any_take HAi.out htk.out HS.out, _, rfl⟩, by simp [intOf]; omega⟩
      · have HS : Hid (zro x = true) := hs
        go_wp2
        go_ret
        exact ⟨⟨_, rfl, by rw [any_at HAi.out HS.out]; simp⟩, by with_reducible (repeat' first | assumption | exact Below.refl _ _ | refine Below.drew ?_ | refine bdrewN ?_ _ | refine Below.setCell ?_ (by first | exact Nat.le_refl _ | (simp; done) | (simp; omega) | omega) _ | refine Below.alloc ?_ (by first | exact Nat.le_refl _ | (simp; done) | (simp; omega) | omega) _)⟩
    · have hlt' : ¬ (i : Int) < n := by omega
      go_wp2
      go_ret
      exact ⟨⟨_, rfl, by rw [any_all (by rw [HL.out]; omega) htk.out]; rfl⟩, by with_reducible (repeat' first | assumption | exact Below.refl _ _ | refine Below.drew ?_ | refine bdrewN ?_ _ | refine Below.setCell ?_ (by first | exact Nat.le_refl _ | (simp; done) | (simp; omega) | omega) _ | refine Below.alloc ?_ (by first | exact Nat.le_refl _ | (simp; done) | (simp; omega) | omega) _)⟩
theorem contz_any (w : World) (b n : Nat) (l : List Int) (hb : NB w b l) (hn : l.length = n) (h16 : n ≤ 16) : Calls Try.prog 70 #[.slice (some ⟨b, 0, none⟩) n n, .int .i64 0] w fun e w' => e = .returned (.bool (l.any zro)) ∧ Below w.heap.size w w' := by
  go_enter Try.func70, Try.ntmps70
  go_wp2_with (go_at_call 83; refine (ixz_any _ _ _ _ hb hn h16).mono ?_; rintro e w1 ⟨⟨r, rfl, hr⟩, hb1⟩)
  go_ret
  exact ⟨retBl (by first | exact hr | (rw [← hr])), hb1⟩
/-- A product of so many times 10000 by a number that is not below 0. -/
theorem mulQ_ex {t B : Int} (ht : 0 ≤ t) (hB : 0 ≤ B) (hp : t * B ≤ 9223372036854775807) : mulQ (t * 10000) B = t * B := by
  unfold mulQ
  rw [sizeV_pos (x := t * 10000) (by omega), sizeV_pos hB]
  have e0 : t * 10000 * B = t * B * 10000 := by rw [Int.mul_assoc, Int.mul_comm 10000 B, ← Int.mul_assoc]
  have h0 : 0 ≤ t * B := Int.mul_nonneg ht hB
  rw [e0]
  generalize t * B = P at *
  have e1 : P * 10000 / 10000 = P := by omega
  have e2 : P * 10000 % 10000 = 0 := by omega
  unfold qr
  rw [e1, e2, if_neg (by omega), if_neg (by omega), Int.add_zero]
theorem mulQ_big {t B : Int} (ht : 0 ≤ t) (hB : 0 ≤ B) (hp : ¬ t * B ≤ 9223372036854775807) : ¬ mulQ (t * 10000) B ≤ 9223372036854775807 := by
  unfold mulQ
  rw [sizeV_pos (x := t * 10000) (by omega), sizeV_pos hB]
  have e0 : t * 10000 * B = t * B * 10000 := by rw [Int.mul_assoc, Int.mul_comm 10000 B, ← Int.mul_assoc]
  rw [e0]
  generalize t * B = P at *
  have e1 : P * 10000 / 10000 = P := by omega
  unfold qr
  rw [e1, if_pos (by omega)]
  decide
theorem mul_ex (t B : Int) (w : World) (ht : 0 ≤ t) (hA : t * 10000 ≤ 9223372036854775807) (hB : 0 ≤ B) (hB2 : B ≤ 9223372036854775807) (hp : t * B ≤ 9223372036854775807) : Calls Try.prog 63 #[.int .i64 (t * 10000), .int .i64 B] w fun e w' => e = .returned (.tuple #[.int .i64 (t * B), .int .i64 0]) ∧ Below w.heap.size w w' := by
  have h := mul_any (t * 10000) B w ⟨by omega, hA⟩ ⟨by omega, hB2⟩
  have ok : mulOk (t * 10000) B = true := by
    unfold mulOk; rw [mayOk_t (by omega), mayOk_t (by omega), mulQ_ex ht hB hp, decide_eq_true hp]; rfl
  rw [okV_t ok, okC_t ok, mulQ_ex ht hB hp, sgn_same (by rw [decide_eq_false (by omega), decide_eq_false (by omega)])] at h
  refine h.mono ?_
  rintro e w' ⟨rfl, n, rfl⟩
  exact ⟨rfl, bdrewN (Below.refl _ _) n⟩
theorem mul_exb (t B : Int) (w : World) (ht : 0 ≤ t) (hA : t * 10000 ≤ 9223372036854775807) (hB : 0 ≤ B) (hB2 : B ≤ 9223372036854775807) (hp : ¬ t * B ≤ 9223372036854775807) : Calls Try.prog 63 #[.int .i64 (t * 10000), .int .i64 B] w fun e w' => e = .returned (.tuple #[.int .i64 0, .int .i64 2]) ∧ Below w.heap.size w w' := by
  have h := mul_any (t * 10000) B w ⟨by omega, hA⟩ ⟨by omega, hB2⟩
  have ok : mulOk (t * 10000) B = false := by
    unfold mulOk; rw [decide_eq_false (mulQ_big ht hB hp)]; simp
  rw [okV_f ok, okC_f ok] at h
  refine h.mono ?_
  rintro e w' ⟨rfl, n, rfl⟩
  exact ⟨rfl, bdrewN (Below.refl _ _) n⟩
end Go.Proofs.Ytfpbcokfianjaaa
