/- The contracts of the document's whole, floor, gcd and trunc (package orielref08), of numbers that may be, in the words of the code's side. New memory alone is made. · The contracts of the document's trunc and fact (package orielref08), of numbers that may be, in the words of the code's side. New memory alone is made. -/
import Derived.Test.YtfpbcokfianjaaaGreatQNTwNOg
namespace Go.Proofs.YtfpbcokfianjaaaGreat
open Go.RowKit
set_option linter.all false
theorem dwhole_no (n : Int) (low : Bool) (w : World) (h : 922337203685477 < n) : Calls Tryz.prog 36 #[.int .u64 n, .bool low] w fun e w' => e = .returned (.agg #[.int .i64 (4), .int .i64 (0), .string ⟨#[]⟩, .bool false, .int .i64 (2)]) ∧ Below w.heap.size w w' := by
  go_enter Tryz.func36, Tryz.ntmps36
  go_wp2_with (go_at_call 14; refine (derr_ok _ _ (by decide) (by decide)).mono ?_; rintro e wa ⟨rfl, hbwa⟩; have hBwa : Below w.heap.size w wa := bup (by with_reducible (repeat' first | assumption | exact Below.refl _ _ | refine Below.drew ?_ | refine bdrewN ?_ _ | refine Below.setCell ?_ (by first | exact Nat.le_refl _ | (simp; done) | (simp; omega) | omega) _ | refine Below.alloc ?_ (by first | exact Nat.le_refl _ | (simp; done) | (simp; omega) | omega) _)) hbwa; have zwa := hBwa.size; have o0wa : Own wa (w.heap.size) #[.int .i64 0, .int .i64 0, .string ⟨#[]⟩, .bool false, .int .i64 0] := Own.keep (by with_reducible (repeat' first | assumption | refine Own.drew ?_ | refine Own.drewN ?_ _ | (refine Own.at ?_; first | rfl | (simp; done)) | refine Own.past ?_ _)) hbwa; have c0 := o0wa.cell; have f0 := o0wa.fro; have l0 := o0wa.lt)
  exact bodyPost_ret (v := (.agg #[.int .i64 (4), .int .i64 (0), .string ⟨#[]⟩, .bool false, .int .i64 (2)])) (by simp [results, Tryz.results36, go_sem, c0, f0, l0]) rfl ⟨rfl, by with_reducible (repeat' first | assumption | exact Below.refl _ _ | refine Below.drew ?_ | refine bdrewN ?_ _ | refine Below.setCell ?_ (by first | exact Nat.le_refl _ | (simp; done) | (simp; omega) | omega) _ | refine Below.alloc ?_ (by first | exact Nat.le_refl _ | (simp; done) | (simp; omega) | omega) _)⟩
theorem dwhole_f (n : Int) (w : World) (h0 : 0 ≤ n) (h : n ≤ 922337203685477) : Calls Tryz.prog 36 #[.int .u64 n, .bool false] w fun e w' => e = .returned (.agg #[.int .i64 (1), .int .i64 (n * 10000), .string ⟨#[]⟩, .bool false, .int .i64 (0)]) ∧ Below w.heap.size w w' := by
  have e1 : wrap64 n = n := by unfold wrap64; omega
  have e2 : wrap64 (n * 10000) = n * 10000 := by unfold wrap64; omega
  have hi : In (n * 10000) := ⟨by omega, by omega⟩
  go_enter Tryz.func36, Tryz.ntmps36
  go_wp2_with (go_at_call 18; refine (dnum_ok _ _ hi).mono ?_; rintro e wa ⟨rfl, hbwa⟩; have hBwa : Below w.heap.size w wa := bup (by with_reducible (repeat' first | assumption | exact Below.refl _ _ | refine Below.drew ?_ | refine bdrewN ?_ _ | refine Below.setCell ?_ (by first | exact Nat.le_refl _ | (simp; done) | (simp; omega) | omega) _ | refine Below.alloc ?_ (by first | exact Nat.le_refl _ | (simp; done) | (simp; omega) | omega) _)) hbwa; have zwa := hBwa.size; have o0wa : Own wa (w.heap.size) #[.int .i64 0, .int .i64 0, .string ⟨#[]⟩, .bool false, .int .i64 0] := Own.keep (by with_reducible (repeat' first | assumption | refine Own.drew ?_ | refine Own.drewN ?_ _ | (refine Own.at ?_; first | rfl | (simp; done)) | refine Own.past ?_ _)) hbwa; have c0 := o0wa.cell; have f0 := o0wa.fro; have l0 := o0wa.lt)
  exact bodyPost_ret (v := (.agg #[.int .i64 (1), .int .i64 (n * 10000), .string ⟨#[]⟩, .bool false, .int .i64 (0)])) (by simp [results, Tryz.results36, go_sem, c0, f0, l0]) rfl ⟨rfl, by with_reducible (repeat' first | assumption | exact Below.refl _ _ | refine Below.drew ?_ | refine bdrewN ?_ _ | refine Below.setCell ?_ (by first | exact Nat.le_refl _ | (simp; done) | (simp; omega) | omega) _ | refine Below.alloc ?_ (by first | exact Nat.le_refl _ | (simp; done) | (simp; omega) | omega) _)⟩
theorem dwhole_t (n : Int) (w : World) (h0 : 0 ≤ n) (h : n ≤ 922337203685477) : Calls Tryz.prog 36 #[.int .u64 n, .bool true] w fun e w' => e = .returned (.agg #[.int .i64 (1), .int .i64 (-n * 10000), .string ⟨#[]⟩, .bool false, .int .i64 (0)]) ∧ Below w.heap.size w w' := by
  have e1 : wrap64 n = n := by unfold wrap64; omega
  have e3 : wrap64 (-n) = -n := by unfold wrap64; omega
  have e2 : wrap64 (-n * 10000) = -n * 10000 := by unfold wrap64; omega
  have hi : In (-n * 10000) := ⟨by omega, by omega⟩
  go_enter Tryz.func36, Tryz.ntmps36
  go_wp2_with (go_at_call 18; refine (dnum_ok _ _ hi).mono ?_; rintro e wa ⟨rfl, hbwa⟩; have hBwa : Below w.heap.size w wa := bup (by with_reducible (repeat' first | assumption | exact Below.refl _ _ | refine Below.drew ?_ | refine bdrewN ?_ _ | refine Below.setCell ?_ (by first | exact Nat.le_refl _ | (simp; done) | (simp; omega) | omega) _ | refine Below.alloc ?_ (by first | exact Nat.le_refl _ | (simp; done) | (simp; omega) | omega) _)) hbwa; have zwa := hBwa.size; have o0wa : Own wa (w.heap.size) #[.int .i64 0, .int .i64 0, .string ⟨#[]⟩, .bool false, .int .i64 0] := Own.keep (by with_reducible (repeat' first | assumption | refine Own.drew ?_ | refine Own.drewN ?_ _ | (refine Own.at ?_; first | rfl | (simp; done)) | refine Own.past ?_ _)) hbwa; have c0 := o0wa.cell; have f0 := o0wa.fro; have l0 := o0wa.lt)
  exact bodyPost_ret (v := (.agg #[.int .i64 (1), .int .i64 (-n * 10000), .string ⟨#[]⟩, .bool false, .int .i64 (0)])) (by simp [results, Tryz.results36, go_sem, c0, f0, l0]) rfl ⟨rfl, by with_reducible (repeat' first | assumption | exact Below.refl _ _ | refine Below.drew ?_ | refine bdrewN ?_ _ | refine Below.setCell ?_ (by first | exact Nat.le_refl _ | (simp; done) | (simp; omega) | omega) _ | refine Below.alloc ?_ (by first | exact Nat.le_refl _ | (simp; done) | (simp; omega) | omega) _)⟩
theorem dfloor_no (x s : Int) (w : World) (hs : s ≤ 0) : Calls Tryz.prog 46 #[.int .i64 x, .int .i64 s] w fun e w' => e = .returned (.tuple #[.int .i64 0, .int .i64 8]) ∧ w' = w := by
  go_enter Tryz.func46, Tryz.ntmps46
  go_wp2
  go_ret2
  exact ⟨rfl, rfl⟩
theorem dfloor_ok (x s : Int) (w : World) (hs : 0 < s) (hx : In x) (hs2 : In s) : Calls Tryz.prog 46 #[.int .i64 x, .int .i64 s] w fun e w' => e = .returned (.tuple #[.int .i64 (okV (subOk x (modV x s)) (x - modV x s)), .int .i64 (okC (subOk x (modV x s)))]) ∧ w' = w := by
  have h1 := fun w1 => rmod_ok x s w1 hx.1 hx.2 hs2.1 hs2.2 (by omega)
  have hm := modV_in (a := x) hs2 (by omega)
  generalize modV x s = m at h1 hm ⊢
  have h2 := fun w1 => rsub_any x m w1 hx.i64 hm.i64
  generalize okV (subOk x m) (x - m) = r at h2 ⊢
  generalize okC (subOk x m) = c at h2 ⊢
  go_enter Tryz.func46, Tryz.ntmps46
  go_wp2_with (first | (go_at_call 47; refine (h1 _).mono ?_; rintro e w5 ⟨rfl, e5⟩; rw [e5]; clear e5 w5) | (go_at_call 73; refine (h2 _).mono ?_; rintro e w5 ⟨rfl, e5⟩; rw [e5]; clear e5 w5))
  go_ret2
  exact ⟨rfl, rfl⟩
def U6 (x : Int) : Prop := 0 ≤ x ∧ x < 18446744073709551616
theorem u6_mod {x y : Int} (hx : U6 x) (hy : U6 y) (h0 : y ≠ 0) : x.tmod y = x % y ∧ U6 (x % y) ∧ x % y < y := by
  obtain ⟨a1, a2⟩ := hx; obtain ⟨b1, b2⟩ := hy
  have h1 := Int.emod_nonneg x h0; have h2 := Int.emod_lt_of_pos x (b := y) (by omega)
  exact ⟨Int.tmod_eq_emod_of_nonneg a1, ⟨h1, by omega⟩, h2⟩
theorem dgcd_any (a b : Int) (w : World) (ha : Hid (U6 a)) (hb : Hid (U6 b)) : Calls Tryz.prog 34 #[.int .u64 a, .int .u64 b] w fun e w' => e = .returned (.int .u64 (gcdI a b)) ∧ w' = w := by
  go_enter Tryz.func34, Tryz.ntmps34
  go_wp2
  go_loop [0, 1] (fun v u => ∃ x y : Int, v = .int .u64 x ∧ u = .int .u64 y ∧ Hid (U6 x) ∧ Hid (U6 y) ∧ Hid (gcdI x y = gcdI a b)) (fun _ u => (intOf u).toNat)
  case atStart => exact ⟨a, b, rfl, rfl, ha, hb, rfl⟩
  case round =>
    obtain ⟨x, y, rfl, rfl, hx, hy, hg⟩ := hrel
    by_cases h0 : y = 0
    · subst h0
      have e : x = gcdI a b := by have := hx.out.1; rw [← hg.out, gcd_zero]; unfold sz; omega
      go_wp2
      go_ret
      exact ⟨ret1 (by first | rfl | exact e), rfl⟩
    · have hp : 0 < y := by have := hy.out.1; omega
      have hz : (y == 0) = false := by simp; exact h0
      have hr : Hid _ := u6_mod hx.out hy.out h0
      have hst : Hid (gcdI y (x % y) = gcdI x y) := by rw [← hr.out.1]; exact gcd_step x y
      have ht := hr.out.1
      have hw2 : x % y % 18446744073709551616 = x % y := by have h := hr.out.2.1; obtain ⟨h1, h2⟩ := h; omega
      go_wp2
      go_round
      case rel => exact ⟨y, x % y, rfl, by go_num, hy, hr.out.2.1, hst.out.trans hg.out⟩
      case measure => have := hr.out.2.2; have := hr.out.2.1.1; simp [intOf]; omega
end Go.Proofs.YtfpbcokfianjaaaGreat
namespace Go.Proofs.YtfpbcokfianjaaaGreat
open Go.RowKit
set_option linter.all false
theorem dtrunc_hi (x p : Int) (w : World) (hx : In x) (h : 3 < p) : Calls Tryz.prog 43 #[.int .i64 x, .int .i64 p] w fun e w' => e = .returned (.agg #[.int .i64 (1), .int .i64 (x), .string ⟨#[]⟩, .bool false, .int .i64 (0)]) ∧ Below w.heap.size w w' := by
  go_enter Tryz.func43, Tryz.ntmps43
  go_wp2_with (go_at_call 18; refine (dnum_ok _ _ hx).mono ?_; rintro e wa ⟨rfl, hbwa⟩; have hBwa : Below w.heap.size w wa := bup (by with_reducible (repeat' first | assumption | exact Below.refl _ _ | refine Below.drew ?_ | refine bdrewN ?_ _ | refine Below.setCell ?_ (by first | exact Nat.le_refl _ | (simp; done) | (simp; omega) | omega) _ | refine Below.alloc ?_ (by first | exact Nat.le_refl _ | (simp; done) | (simp; omega) | omega) _)) hbwa; have zwa := hBwa.size; have o0wa : Own wa (w.heap.size) #[.int .i64 0, .int .i64 0, .string ⟨#[]⟩, .bool false, .int .i64 0] := Own.keep (by with_reducible (repeat' first | assumption | refine Own.drew ?_ | refine Own.drewN ?_ _ | (refine Own.at ?_; first | rfl | (simp; done)) | refine Own.past ?_ _)) hbwa; have c0 := o0wa.cell; have f0 := o0wa.fro; have l0 := o0wa.lt)
  exact bodyPost_ret (v := (.agg #[.int .i64 (1), .int .i64 (x), .string ⟨#[]⟩, .bool false, .int .i64 (0)])) (by simp [results, Tryz.results43, go_sem, c0, f0, l0]) rfl ⟨rfl, by with_reducible (repeat' first | assumption | exact Below.refl _ _ | refine Below.drew ?_ | refine bdrewN ?_ _ | refine Below.setCell ?_ (by first | exact Nat.le_refl _ | (simp; done) | (simp; omega) | omega) _ | refine Below.alloc ?_ (by first | exact Nat.le_refl _ | (simp; done) | (simp; omega) | omega) _)⟩
theorem dtrunc_lo (x p : Int) (w : World) (h : p < -14) : Calls Tryz.prog 43 #[.int .i64 x, .int .i64 p] w fun e w' => e = .returned (.agg #[.int .i64 (1), .int .i64 (0), .string ⟨#[]⟩, .bool false, .int .i64 (0)]) ∧ Below w.heap.size w w' := by
  have h2 : ¬ 3 < p := by omega
  go_enter Tryz.func43, Tryz.ntmps43
  go_wp2_with (go_at_call 18; refine (dnum_ok _ _ in0).mono ?_; rintro e wa ⟨rfl, hbwa⟩; have hBwa : Below w.heap.size w wa := bup (by with_reducible (repeat' first | assumption | exact Below.refl _ _ | refine Below.drew ?_ | refine bdrewN ?_ _ | refine Below.setCell ?_ (by first | exact Nat.le_refl _ | (simp; done) | (simp; omega) | omega) _ | refine Below.alloc ?_ (by first | exact Nat.le_refl _ | (simp; done) | (simp; omega) | omega) _)) hbwa; have zwa := hBwa.size; have o0wa : Own wa (w.heap.size) #[.int .i64 0, .int .i64 0, .string ⟨#[]⟩, .bool false, .int .i64 0] := Own.keep (by with_reducible (repeat' first | assumption | refine Own.drew ?_ | refine Own.drewN ?_ _ | (refine Own.at ?_; first | rfl | (simp; done)) | refine Own.past ?_ _)) hbwa; have c0 := o0wa.cell; have f0 := o0wa.fro; have l0 := o0wa.lt)
  exact bodyPost_ret (v := (.agg #[.int .i64 (1), .int .i64 (0), .string ⟨#[]⟩, .bool false, .int .i64 (0)])) (by simp [results, Tryz.results43, go_sem, c0, f0, l0]) rfl ⟨rfl, by with_reducible (repeat' first | assumption | exact Below.refl _ _ | refine Below.drew ?_ | refine bdrewN ?_ _ | refine Below.setCell ?_ (by first | exact Nat.le_refl _ | (simp; done) | (simp; omega) | omega) _ | refine Below.alloc ?_ (by first | exact Nat.le_refl _ | (simp; done) | (simp; omega) | omega) _)⟩
set_option maxRecDepth 100000 in
theorem dtrunc_in (x p : Int) (k : Nat) (w : World) (hx : In x) (h3 : p = 4 - (k : Int)) (hk1 : 1 ≤ k) (hk2 : k ≤ 18) : Calls Tryz.prog 43 #[.int .i64 x, .int .i64 p] w fun e w' => e = .returned (.agg #[.int .i64 (1), .int .i64 (x - x.tmod ((10 ^ k : Nat) : Int)), .string ⟨#[]⟩, .bool false, .int .i64 (0)]) ∧ Below w.heap.size w w' := by
  subst h3
  have hd1 : ¬ (3 : Int) < 4 - (k : Int) := by omega
  have hd2 : ¬ 4 - (k : Int) < -14 := by omega
  obtain ⟨P, hP, h1, h2⟩ := tenp k hk2
  rw [hP]
  have HP : Hid _ := hP
  clear hP
  have hz' : ¬ P = 0 := by omega
  have hz : (P == 0) = false := by simp; exact hz'
  have hti := trunc_in hx h1
  have hmb := tmod_bd x P hz'
  revert hti hmb
  generalize hr : x.tmod P = r
  have HR : Hid _ := hr
  intro hti hmb
  have hrl : -1000000000000000000 ≤ r := by clear hti hr hx; omega
  have hrh : r ≤ 1000000000000000000 := by clear hti hr hx; omega
  clear hmb
  have hn := fun w1 => dnum_ok (x - r) w1 hti
  generalize hv : x - r = v at hti hn ⊢
  have HV : Hid _ := hv
  obtain ⟨a1, a2⟩ := hti
  have hw1 : wrap64 r = r := by clear hv hr hn hx; unfold wrap64; omega
  have hw2 : wrap64 v = v := by clear hv hr hn hx hw1; unfold wrap64; omega
  have hw3 : IntKind.i64.wrap r = r := by rw [IntKind.wrap_i64]; unfold wrap64 at hw1; exact hw1
  have hw4 : IntKind.i64.wrap v = v := by rw [IntKind.wrap_i64]; unfold wrap64 at hw2; exact hw2
  clear h1 h2 hrl hrh a1 a2
  have H1 : Hid _ := hw1
  have H2 : Hid _ := hw2
  have H3 : Hid _ := hw3
  have H4 : Hid _ := hw4
  clear hw1 hw2 hw3 hw4 hr hv
  go_enter Tryz.func43, Tryz.ntmps43
  go_wp2
  go_loopw [5, 6] (fun u v w' => ∃ i : Nat, v = .int .i64 (4 - (i : Int)) ∧ i ≤ k ∧ u = .int .i64 ((10 ^ i : Nat) : Int) ∧ w' = w.alloc (.cells #[.int .i64 0, .int .i64 0, .string ⟨#[]⟩, .bool false, .int .i64 0] 26)) (fun _ v _ => k + 100 - (100 - intOf v).toNat)
  case atStart => exact ⟨0, rfl, by omega, rfl, rfl⟩
  case round =>
    obtain ⟨i, rfl, hi, rfl, rfl⟩ := hrel
    by_cases hik : i < k
    · have hik' : 4 - (k : Int) < 4 - (i : Int) := by omega
      obtain ⟨p0, p1, hp0, hp1, hwi⟩ := tenp_s i (by omega)
      have hwj : wrap64 (10 * p0) = wrap64 (p0 * 10) := by rw [Int.mul_comm]
      have hwk : wrap64 (4 - (i : Int) - 1) = 4 - (i : Int) - 1 := by clear hwi hwj; unfold wrap64; omega
      rw [hp0]
      have HP1 : Hid _ := hp1
      have HW : Hid _ := hwi
      have HJ : Hid _ := hwj
      clear hp1 hp0 hwi hwj
      go_wp2
      exact ⟨⟨i + 1, congrArg (Value.int IntKind.i64) (by omega), by omega, by first | rw [HP1.out, HJ.out, HW.out] | rw [HP1.out, HW.out], trivial⟩, by simp [intOf]; omega⟩
    · have hik2 : i = k := by omega
      subst hik2
      have hik' : ¬ 4 - (i : Int) < 4 - (i : Int) := by omega
      rw [HP.out]
      have hw1 := H1.out
      have hw2 := H2.out
      have hw3 := H3.out
      have hw4 := H4.out
      have hr := HR.out
      have hv := HV.out
      go_wp2_with (go_at_call 18; refine (hn _).mono ?_; rintro e wa ⟨rfl, hbwa⟩; have hBwa : Below w.heap.size w wa := bup (by with_reducible (repeat' first | assumption | exact Below.refl _ _ | refine Below.drew ?_ | refine bdrewN ?_ _ | refine Below.setCell ?_ (by first | exact Nat.le_refl _ | (simp; done) | (simp; omega) | omega) _ | refine Below.alloc ?_ (by first | exact Nat.le_refl _ | (simp; done) | (simp; omega) | omega) _)) hbwa; have zwa := hBwa.size; have o0wa : Own wa (w.heap.size) #[.int .i64 0, .int .i64 0, .string ⟨#[]⟩, .bool false, .int .i64 0] := Own.keep (by with_reducible (repeat' first | assumption | refine Own.drew ?_ | refine Own.drewN ?_ _ | (refine Own.at ?_; first | rfl | (simp; done)) | refine Own.past ?_ _)) hbwa; have c0 := o0wa.cell; have f0 := o0wa.fro; have l0 := o0wa.lt)
      exact bodyPost_ret (v := (.agg #[.int .i64 (1), .int .i64 (v), .string ⟨#[]⟩, .bool false, .int .i64 (0)])) (by simp [results, Tryz.results43, go_sem, c0, f0, l0]) rfl ⟨rfl, by with_reducible (repeat' first | assumption | exact Below.refl _ _ | refine Below.drew ?_ | refine bdrewN ?_ _ | refine Below.setCell ?_ (by first | exact Nat.le_refl _ | (simp; done) | (simp; omega) | omega) _ | refine Below.alloc ?_ (by first | exact Nat.le_refl _ | (simp; done) | (simp; omega) | omega) _)⟩
end Go.Proofs.YtfpbcokfianjaaaGreat
