/- The library's contract of math/bits.Sub64, laid at this program: the table of numbers and that the program bears that very body. No condition. The contracts of aggs.average and of total's by and negative: the sum by how many, rounded, halves away from 0. New memory alone is made. -/
import Derived.Ground.Names7Prog
import Derived.Shelf.Spec.BitsCarry
import Derived.Test.YtcgcnpcimfaecaaGreatDoorProg
import Derived.Test.YtcgcnpcimfaecaaGreatDoorQGB
import Derived.Test.YtcgcnpcimfaecaaGreatDoorQDiv64
namespace Go.Proofs
open Go.Shelf
def Tryz.lays7x26_ren : Go.Shelf.Ren := ⟨fun | 26 => 159 | n => n, fun | 22 => 123 | n => n, fun | n => n⟩
theorem Tryz.lays7x26 : Go.Proofs.Lays7.n26 Tryz.prog Tryz.lays7x26_ren := {
  mixed := by kernel_rfl
  f26 := Tryz.func159.trans (congrArg some (by kernel_rfl))
  t22 := Tryz.underlying123
  a22 := Tryz.isAgg123
  z22 := Tryz.sizeOf123
  v22 := Tryz.zeroValue123
  i22 := by kernel_rfl }
end Go.Proofs
namespace Go.Proofs.YtcgcnpcimfaecaaGreatDoor
open Go.RowKit
set_option linter.all false
theorem rdn_pos {s n : Int} (hs : 0 ≤ s) (hn : 0 < n) : rdn s n = if n ≤ 2 * (s % n) then s / n + 1 else s / n := by
  have e := Int.mul_ediv_add_emod s n
  have h1 := Int.emod_nonneg s (show n ≠ 0 by omega)
  have h2 := Int.emod_lt_of_pos s hn
  unfold rdn
  rw [if_neg (by omega)]
  have e2 : 2 * s + n = (2 * (s % n) + n) + 2 * n * (s / n) := by rw [Int.mul_assoc]; omega
  rw [e2, Int.add_mul_ediv_left _ _ (by omega)]
  split
  · rw [show (2 * (s % n) + n) / (2 * n) = 1 by
      have a1 : 1 ≤ (2 * (s % n) + n) / (2 * n) := le_div_of (by omega) (by omega)
      have a2 : (2 * (s % n) + n) / (2 * n) ≤ 1 := div_le_of (by omega) (by omega)
      omega]
    omega
  · rw [Int.ediv_eq_zero_of_lt (by omega) (by omega)]; omega
theorem rdn_neg {s n : Int} (hs : s < 0) : rdn s n = -(rdn (-s) n) := by
  unfold rdn
  rw [if_pos hs, if_neg (by omega)]
theorem sub64_r (y bb r c : Int) (hy : 0 ≤ y) (hb : bb = 0 ∨ bb = 1) (hr : r = (18446744073709551616 - y - bb) % 18446744073709551616) (hy1 : y < 18446744073709551616) (hc : c = if 0 < y + bb then 1 else 0) (w : World) : (callFunc 159 #[.int .u64 0, .int .u64 y, .int .u64 bb]).run Tryz.prog w =
    .ok (.value (.tuple #[.int .u64 r, .int .u64 c])) w := by
  obtain ⟨y, rfl⟩ := Int.eq_ofNat_of_zero_le hy
  obtain ⟨bb, rfl⟩ := Int.eq_ofNat_of_zero_le (show 0 ≤ bb by omega)
  have k := Any7.bits_Sub64 Tryz.lays7x26 0 y bb (by omega) w
  rw [show (((0 + 18446744073709551616 - y - bb) % 18446744073709551616 : Nat) : Int) = r by omega, show ((if 0 < y + bb then 1 else 0 : Nat) : Int) = c by rw [hc]; split <;> split <;> first | rfl | omega] at k
  exact k
set_option maxRecDepth 100000 in
theorem neg_any (hh ll h2 l2 c : Int) (w : World) (a0 : 0 ≤ hh) (a1 : hh < 18446744073709551616) (b0 : 0 ≤ ll) (b1 : ll < 18446744073709551616) (hc : c = if 0 < ll then 1 else 0) (hl : l2 = (18446744073709551616 - ll) % 18446744073709551616) (hh2 : h2 = (18446744073709551616 - hh - c) % 18446744073709551616) : Calls Tryz.prog 149 #[.agg #[.int .u64 hh, .int .u64 ll]] w fun e w' => e = .returned (.agg #[.int .u64 h2, .int .u64 l2]) ∧ Below w.heap.size w w' := by
  have s1 := fun W => sub64_r ll 0 l2 c b0 (.inl rfl) (by rw [hl]; omega) b1 (by rw [hc, Int.add_zero]) W
  obtain ⟨c2, hc2⟩ : ∃ c2 : Int, c2 = if 0 < hh + c then 1 else 0 := ⟨_, rfl⟩
  have s2 := fun W => sub64_r hh c h2 c2 a0 (by rw [hc]; split <;> simp) hh2 a1 hc2 W
  clear hc hl hh2 hc2
  go_enter Tryz.func149, Tryz.ntmps149
  go_wp2
  exact bodyPost_ret (v := .agg #[.int .u64 h2, .int .u64 l2]) (by simp [results, Tryz.results149, go_sem]) rfl ⟨rfl, by with_reducible (repeat' first | assumption | exact Below.refl _ _ | refine Below.drew ?_ | refine bdrewN ?_ _ | refine Below.setCell ?_ (by first | exact Nat.le_refl _ | (simp; done) | (simp; omega) | omega) _ | refine Below.alloc ?_ (by first | exact Nat.le_refl _ | (simp; done) | (simp; omega) | omega) _)⟩
set_option maxRecDepth 100000 in
set_option maxHeartbeats 2000000 in
theorem by_pu (hh ll hv q r : Int) (n : Nat) (w : World) (hw : IntKind.i64.wrap hh = hv) (hI : I64 hv) (hne : (sgW hv != 0) = false) (hd : DivIs hh ll n q r) (hn : 0 < (n : Int)) (hn1 : (n : Int) ≤ 1099511627776) (hr0 : 0 ≤ r) (hr1 : r < n) (hq0 : 0 ≤ q) (hq1 : (q + 1) ≤ 9223372036854775807) (hup : (n : Int) ≤ 2 * r) : Calls Tryz.prog 119 #[.agg #[.int .u64 hh, .int .u64 ll], .int .i64 n] w fun e w' => e = .returned (.agg #[.int .i64 (1), .int .i64 ((q + 1)), .string ⟨#[]⟩, .bool false, .int .i64 (0)]) ∧ Below w.heap.size w w' := by
  have mixed : Tryz.prog.follows .mixedOrders = true := by kernel_rfl
  have hx : Hid (In (q + 1)) := (show In (q + 1) from ⟨by omega, by omega⟩)
  have hu1 : (n : Int) % 18446744073709551616 = n := by omega
  have hu2 : ((n : Int) - r) % 18446744073709551616 = n - r := by omega
  have hu3 : IntKind.u64.wrap (n : Int) = n := by rw [IntKind.wrap_u64]; exact hu1
  have hu4 : IntKind.u64.wrap ((n : Int) - r) = n - r := by rw [IntKind.wrap_u64]; exact hu2
  have hge : (n : Int) - r ≤ r := by omega
  have hq2 : (q + 1) % 18446744073709551616 = q + 1 := by omega
  have hq3 : wrap64 (q + 1) = (q + 1) := by unfold wrap64; omega
  have hq4 : IntKind.i64.wrap (q + 1) = (q + 1) := by rw [IntKind.wrap_i64]; unfold wrap64 at hq3; exact hq3
  go_enter Tryz.func119, Tryz.ntmps119
  go_wp2_with (first | (go_at_call 144; refine (sgw_any _ _ hI).mono ?_; rintro e w5 ⟨rfl, e5⟩; rw [e5]; clear e5 w5) | (go_at_call 150; refine (hd _).mono ?_; rintro e wd ⟨rfl, nd, hwd⟩; subst hwd) | (go_at_call 115; refine (num_t _ _ hx.out.i64 (by have := hx.out.1; omega)).mono ?_; rintro e wa ⟨rfl, hbwa⟩; have hBwa : Below w.heap.size w wa := bup (by with_reducible (repeat' first | assumption | exact Below.refl _ _ | refine Below.drew ?_ | refine bdrewN ?_ _ | refine Below.setCell ?_ (by first | exact Nat.le_refl _ | (simp; done) | (simp; omega) | omega) _ | refine Below.alloc ?_ (by first | exact Nat.le_refl _ | (simp; done) | (simp; omega) | omega) _)) hbwa; have zwa := hBwa.size; have o0wa : Own wa (w.heap.size + 1) #[.int .i64 0, .int .i64 0, .string ⟨#[]⟩, .bool false, .int .i64 0] := Own.keep (by with_reducible (repeat' first | assumption | refine Own.drew ?_ | refine Own.drewN ?_ _ | (refine Own.at ?_; first | rfl | (simp; done)) | refine Own.past ?_ _ | refine Own.aside ?_ (by first | (simp; done) | (simp; omega)) _)) hbwa; have c0 := o0wa.cell; have f0 := o0wa.fro; have l0 := o0wa.lt))
  exact bodyPost_ret (v := (.agg #[.int .i64 (1), .int .i64 ((q + 1)), .string ⟨#[]⟩, .bool false, .int .i64 (0)])) (by simp [results, Tryz.results119, go_sem, c0, f0, l0]) rfl ⟨rfl, by with_reducible (repeat' first | assumption | exact Below.refl _ _ | refine Below.drew ?_ | refine bdrewN ?_ _ | refine Below.setCell ?_ (by first | exact Nat.le_refl _ | (simp; done) | (simp; omega) | omega) _ | refine Below.alloc ?_ (by first | exact Nat.le_refl _ | (simp; done) | (simp; omega) | omega) _)⟩
set_option maxRecDepth 100000 in
set_option maxHeartbeats 2000000 in
theorem by_pd (hh ll hv q r : Int) (n : Nat) (w : World) (hw : IntKind.i64.wrap hh = hv) (hI : I64 hv) (hne : (sgW hv != 0) = false) (hd : DivIs hh ll n q r) (hn : 0 < (n : Int)) (hn1 : (n : Int) ≤ 1099511627776) (hr0 : 0 ≤ r) (hr1 : r < n) (hq0 : 0 ≤ q) (hq1 : q ≤ 9223372036854775807) (hup : 2 * r < (n : Int)) : Calls Tryz.prog 119 #[.agg #[.int .u64 hh, .int .u64 ll], .int .i64 n] w fun e w' => e = .returned (.agg #[.int .i64 (1), .int .i64 (q), .string ⟨#[]⟩, .bool false, .int .i64 (0)]) ∧ Below w.heap.size w w' := by
  have mixed : Tryz.prog.follows .mixedOrders = true := by kernel_rfl
  have hx : Hid (In q) := (show In q from ⟨by omega, by omega⟩)
  have hu1 : (n : Int) % 18446744073709551616 = n := by omega
  have hu2 : ((n : Int) - r) % 18446744073709551616 = n - r := by omega
  have hu3 : IntKind.u64.wrap (n : Int) = n := by rw [IntKind.wrap_u64]; exact hu1
  have hu4 : IntKind.u64.wrap ((n : Int) - r) = n - r := by rw [IntKind.wrap_u64]; exact hu2
  have hge : ¬ (n : Int) - r ≤ r := by omega
  have hq2 : (q + 1) % 18446744073709551616 = q + 1 := by omega
  have hq3 : wrap64 q = q := by unfold wrap64; omega
  have hq4 : IntKind.i64.wrap q = q := by rw [IntKind.wrap_i64]; unfold wrap64 at hq3; exact hq3
  go_enter Tryz.func119, Tryz.ntmps119
  go_wp2_with (first | (go_at_call 144; refine (sgw_any _ _ hI).mono ?_; rintro e w5 ⟨rfl, e5⟩; rw [e5]; clear e5 w5) | (go_at_call 150; refine (hd _).mono ?_; rintro e wd ⟨rfl, nd, hwd⟩; subst hwd) | (go_at_call 115; refine (num_t _ _ hx.out.i64 (by have := hx.out.1; omega)).mono ?_; rintro e wa ⟨rfl, hbwa⟩; have hBwa : Below w.heap.size w wa := bup (by with_reducible (repeat' first | assumption | exact Below.refl _ _ | refine Below.drew ?_ | refine bdrewN ?_ _ | refine Below.setCell ?_ (by first | exact Nat.le_refl _ | (simp; done) | (simp; omega) | omega) _ | refine Below.alloc ?_ (by first | exact Nat.le_refl _ | (simp; done) | (simp; omega) | omega) _)) hbwa; have zwa := hBwa.size; have o0wa : Own wa (w.heap.size + 1) #[.int .i64 0, .int .i64 0, .string ⟨#[]⟩, .bool false, .int .i64 0] := Own.keep (by with_reducible (repeat' first | assumption | refine Own.drew ?_ | refine Own.drewN ?_ _ | (refine Own.at ?_; first | rfl | (simp; done)) | refine Own.past ?_ _ | refine Own.aside ?_ (by first | (simp; done) | (simp; omega)) _)) hbwa; have c0 := o0wa.cell; have f0 := o0wa.fro; have l0 := o0wa.lt))
  exact bodyPost_ret (v := (.agg #[.int .i64 (1), .int .i64 (q), .string ⟨#[]⟩, .bool false, .int .i64 (0)])) (by simp [results, Tryz.results119, go_sem, c0, f0, l0]) rfl ⟨rfl, by with_reducible (repeat' first | assumption | exact Below.refl _ _ | refine Below.drew ?_ | refine bdrewN ?_ _ | refine Below.setCell ?_ (by first | exact Nat.le_refl _ | (simp; done) | (simp; omega) | omega) _ | refine Below.alloc ?_ (by first | exact Nat.le_refl _ | (simp; done) | (simp; omega) | omega) _)⟩
set_option maxRecDepth 100000 in
set_option maxHeartbeats 2000000 in
theorem by_nu (hh ll hv q r : Int) (n : Nat) (w : World) (hw : IntKind.i64.wrap hh = hv) (hI : I64 hv) (hne : (sgW hv != 0) = true) (h2 l2 : Int) (HN : Hid (∀ W : World, Calls Tryz.prog 149 #[.agg #[.int .u64 hh, .int .u64 ll]] W fun e w' => e = .returned (.agg #[.int .u64 h2, .int .u64 l2]) ∧ Below W.heap.size W w')) (hd : DivIs h2 l2 n q r) (hn : 0 < (n : Int)) (hn1 : (n : Int) ≤ 1099511627776) (hr0 : 0 ≤ r) (hr1 : r < n) (hq0 : 0 ≤ q) (hq1 : (q + 1) ≤ 9223372036854775807) (hup : (n : Int) ≤ 2 * r) : Calls Tryz.prog 119 #[.agg #[.int .u64 hh, .int .u64 ll], .int .i64 n] w fun e w' => e = .returned (.agg #[.int .i64 (1), .int .i64 ((-(q + 1))), .string ⟨#[]⟩, .bool false, .int .i64 (0)]) ∧ Below w.heap.size w w' := by
  have mixed : Tryz.prog.follows .mixedOrders = true := by kernel_rfl
  have hx : Hid (In (-(q + 1))) := (show In (-(q + 1)) from ⟨by omega, by omega⟩)
  have hu1 : (n : Int) % 18446744073709551616 = n := by omega
  have hu2 : ((n : Int) - r) % 18446744073709551616 = n - r := by omega
  have hu3 : IntKind.u64.wrap (n : Int) = n := by rw [IntKind.wrap_u64]; exact hu1
  have hu4 : IntKind.u64.wrap ((n : Int) - r) = n - r := by rw [IntKind.wrap_u64]; exact hu2
  have hge : (n : Int) - r ≤ r := by omega
  have hq2 : (q + 1) % 18446744073709551616 = q + 1 := by omega
  have hq3 : wrap64 (q + 1) = (q + 1) := by unfold wrap64; omega
  have hq4 : IntKind.i64.wrap (q + 1) = (q + 1) := by rw [IntKind.wrap_i64]; unfold wrap64 at hq3; exact hq3
  have hng : wrap64 (-(q + 1)) = -(q + 1) := by unfold wrap64; omega
  go_enter Tryz.func119, Tryz.ntmps119
  go_wp2_with (first | (go_at_call 144; refine (sgw_any _ _ hI).mono ?_; rintro e w5 ⟨rfl, e5⟩; rw [e5]; clear e5 w5) | (go_at_call 149; refine (HN.out _).mono ?_; rintro e wn ⟨rfl, hbwn⟩; have hBwn : Below w.heap.size w wn := bup (by with_reducible (repeat' first | assumption | exact Below.refl _ _ | refine Below.drew ?_ | refine bdrewN ?_ _ | refine Below.setCell ?_ (by first | exact Nat.le_refl _ | (simp; done) | (simp; omega) | omega) _ | refine Below.alloc ?_ (by first | exact Nat.le_refl _ | (simp; done) | (simp; omega) | omega) _)) hbwn; have zwn := hBwn.size; have o0wn : Own wn (w.heap.size) #[.int .u64 hh, .int .u64 ll] := Own.keep (by with_reducible (repeat' first | assumption | refine Own.drew ?_ | refine Own.drewN ?_ _ | (refine Own.at ?_; first | rfl | (simp; done)) | refine Own.past ?_ _)) hbwn; have c0 := o0wn.cell; have f0 := o0wn.fro; have l0 := o0wn.lt; have o1wn : Own wn (w.heap.size + 1) #[.int .i64 0, .int .i64 0, .string ⟨#[]⟩, .bool false, .int .i64 0] := Own.keep (by with_reducible (repeat' first | assumption | refine Own.drew ?_ | refine Own.drewN ?_ _ | (refine Own.at ?_; first | rfl | (simp; done)) | refine Own.past ?_ _)) hbwn; have c1 := o1wn.cell; have f1 := o1wn.fro; have l1 := o1wn.lt) | (go_at_call 150; refine (hd _).mono ?_; rintro e wd ⟨rfl, nd, hwd⟩; subst hwd) | (go_at_call 115; refine (num_t _ _ hx.out.i64 (by have := hx.out.1; omega)).mono ?_; rintro e wa ⟨rfl, hbwa⟩; have hBwa : Below w.heap.size w wa := bup (by with_reducible (repeat' first | assumption | exact Below.refl _ _ | refine Below.drew ?_ | refine bdrewN ?_ _ | refine Below.setCell ?_ (by first | exact Nat.le_refl _ | (simp; done) | (simp; omega) | omega) _ | refine Below.alloc ?_ (by first | exact Nat.le_refl _ | (simp; done) | (simp; omega) | omega) _)) hbwa; have zwa := hBwa.size; have o0wa : Own wa (w.heap.size + 1) #[.int .i64 0, .int .i64 0, .string ⟨#[]⟩, .bool false, .int .i64 0] := Own.keep (by with_reducible (repeat' first | assumption | refine Own.drew ?_ | refine Own.drewN ?_ _ | (refine Own.at ?_; first | rfl | (simp; done)) | refine Own.past ?_ _ | refine Own.aside ?_ (by first | (simp; done) | (simp; omega)) _)) hbwa; have c0 := o0wa.cell; have f0 := o0wa.fro; have l0 := o0wa.lt))
  exact bodyPost_ret (v := (.agg #[.int .i64 (1), .int .i64 ((-(q + 1))), .string ⟨#[]⟩, .bool false, .int .i64 (0)])) (by simp [results, Tryz.results119, go_sem, c0, f0, l0]) rfl ⟨rfl, by with_reducible (repeat' first | assumption | exact Below.refl _ _ | refine Below.drew ?_ | refine bdrewN ?_ _ | refine Below.setCell ?_ (by first | exact Nat.le_refl _ | (simp; done) | (simp; omega) | omega) _ | refine Below.alloc ?_ (by first | exact Nat.le_refl _ | (simp; done) | (simp; omega) | omega) _)⟩
set_option maxRecDepth 100000 in
set_option maxHeartbeats 2000000 in
theorem by_nd (hh ll hv q r : Int) (n : Nat) (w : World) (hw : IntKind.i64.wrap hh = hv) (hI : I64 hv) (hne : (sgW hv != 0) = true) (h2 l2 : Int) (HN : Hid (∀ W : World, Calls Tryz.prog 149 #[.agg #[.int .u64 hh, .int .u64 ll]] W fun e w' => e = .returned (.agg #[.int .u64 h2, .int .u64 l2]) ∧ Below W.heap.size W w')) (hd : DivIs h2 l2 n q r) (hn : 0 < (n : Int)) (hn1 : (n : Int) ≤ 1099511627776) (hr0 : 0 ≤ r) (hr1 : r < n) (hq0 : 0 ≤ q) (hq1 : q ≤ 9223372036854775807) (hup : 2 * r < (n : Int)) : Calls Tryz.prog 119 #[.agg #[.int .u64 hh, .int .u64 ll], .int .i64 n] w fun e w' => e = .returned (.agg #[.int .i64 (1), .int .i64 ((-q)), .string ⟨#[]⟩, .bool false, .int .i64 (0)]) ∧ Below w.heap.size w w' := by
  have mixed : Tryz.prog.follows .mixedOrders = true := by kernel_rfl
  have hx : Hid (In (-q)) := (show In (-q) from ⟨by omega, by omega⟩)
  have hu1 : (n : Int) % 18446744073709551616 = n := by omega
  have hu2 : ((n : Int) - r) % 18446744073709551616 = n - r := by omega
  have hu3 : IntKind.u64.wrap (n : Int) = n := by rw [IntKind.wrap_u64]; exact hu1
  have hu4 : IntKind.u64.wrap ((n : Int) - r) = n - r := by rw [IntKind.wrap_u64]; exact hu2
  have hge : ¬ (n : Int) - r ≤ r := by omega
  have hq2 : (q + 1) % 18446744073709551616 = q + 1 := by omega
  have hq3 : wrap64 q = q := by unfold wrap64; omega
  have hq4 : IntKind.i64.wrap q = q := by rw [IntKind.wrap_i64]; unfold wrap64 at hq3; exact hq3
  have hng : wrap64 (-q) = -q := by unfold wrap64; omega
  go_enter Tryz.func119, Tryz.ntmps119
  go_wp2_with (first | (go_at_call 144; refine (sgw_any _ _ hI).mono ?_; rintro e w5 ⟨rfl, e5⟩; rw [e5]; clear e5 w5) | (go_at_call 149; refine (HN.out _).mono ?_; rintro e wn ⟨rfl, hbwn⟩; have hBwn : Below w.heap.size w wn := bup (by with_reducible (repeat' first | assumption | exact Below.refl _ _ | refine Below.drew ?_ | refine bdrewN ?_ _ | refine Below.setCell ?_ (by first | exact Nat.le_refl _ | (simp; done) | (simp; omega) | omega) _ | refine Below.alloc ?_ (by first | exact Nat.le_refl _ | (simp; done) | (simp; omega) | omega) _)) hbwn; have zwn := hBwn.size; have o0wn : Own wn (w.heap.size) #[.int .u64 hh, .int .u64 ll] := Own.keep (by with_reducible (repeat' first | assumption | refine Own.drew ?_ | refine Own.drewN ?_ _ | (refine Own.at ?_; first | rfl | (simp; done)) | refine Own.past ?_ _)) hbwn; have c0 := o0wn.cell; have f0 := o0wn.fro; have l0 := o0wn.lt; have o1wn : Own wn (w.heap.size + 1) #[.int .i64 0, .int .i64 0, .string ⟨#[]⟩, .bool false, .int .i64 0] := Own.keep (by with_reducible (repeat' first | assumption | refine Own.drew ?_ | refine Own.drewN ?_ _ | (refine Own.at ?_; first | rfl | (simp; done)) | refine Own.past ?_ _)) hbwn; have c1 := o1wn.cell; have f1 := o1wn.fro; have l1 := o1wn.lt) | (go_at_call 150; refine (hd _).mono ?_; rintro e wd ⟨rfl, nd, hwd⟩; subst hwd) | (go_at_call 115; refine (num_t _ _ hx.out.i64 (by have := hx.out.1; omega)).mono ?_; rintro e wa ⟨rfl, hbwa⟩; have hBwa : Below w.heap.size w wa := bup (by with_reducible (repeat' first | assumption | exact Below.refl _ _ | refine Below.drew ?_ | refine bdrewN ?_ _ | refine Below.setCell ?_ (by first | exact Nat.le_refl _ | (simp; done) | (simp; omega) | omega) _ | refine Below.alloc ?_ (by first | exact Nat.le_refl _ | (simp; done) | (simp; omega) | omega) _)) hbwa; have zwa := hBwa.size; have o0wa : Own wa (w.heap.size + 1) #[.int .i64 0, .int .i64 0, .string ⟨#[]⟩, .bool false, .int .i64 0] := Own.keep (by with_reducible (repeat' first | assumption | refine Own.drew ?_ | refine Own.drewN ?_ _ | (refine Own.at ?_; first | rfl | (simp; done)) | refine Own.past ?_ _ | refine Own.aside ?_ (by first | (simp; done) | (simp; omega)) _)) hbwa; have c0 := o0wa.cell; have f0 := o0wa.fro; have l0 := o0wa.lt))
  exact bodyPost_ret (v := (.agg #[.int .i64 (1), .int .i64 ((-q)), .string ⟨#[]⟩, .bool false, .int .i64 (0)])) (by simp [results, Tryz.results119, go_sem, c0, f0, l0]) rfl ⟨rfl, by with_reducible (repeat' first | assumption | exact Below.refl _ _ | refine Below.drew ?_ | refine bdrewN ?_ _ | refine Below.setCell ?_ (by first | exact Nat.le_refl _ | (simp; done) | (simp; omega) | omega) _ | refine Below.alloc ?_ (by first | exact Nat.le_refl _ | (simp; done) | (simp; omega) | omega) _)⟩
end Go.Proofs.YtcgcnpcimfaecaaGreatDoor
