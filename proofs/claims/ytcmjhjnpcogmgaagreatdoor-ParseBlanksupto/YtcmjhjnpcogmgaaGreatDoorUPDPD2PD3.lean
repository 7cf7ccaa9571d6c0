/- The contract of the reader's takeEnding: what ends an argument, what stands in brackets, o -/
import Derived.Test.YtcmjhjnpcogmgaaGreatDoorUAuto
import Derived.Test.YtcmjhjnpcogmgaaGreatDoorUPV3
import Derived.Test.YtcmjhjnpcogmgaaGreatDoorUPKPK2
import Derived.Test.YtcmjhjnpcogmgaaGreatDoorUPSPS2
set_option linter.all false
set_option maxRecDepth 100000
set_option maxHeartbeats 4000000
namespace Go.Proofs.YtcmjhjnpcogmgaaGreatDoor
open Go.Shelf Go.RowKit
theorem ending_cr (w : World) (R : Nat) (tb vn vo vr : Value) (pl : Int) (nm : Tk) (ct : Nat) (t : Tk) (hR : Own w R #[tb, .int .i64 pl, .int .i64 nm.kind, .int .i64 nm.at', .int .i64 nm.num, .string nm.str, .int .i64 nm.c0, .int .i64 nm.c1, .int .i64 nm.r0, .int .i64 nm.r1, .int .i64 nm.r2, .int .i64 nm.r3, .int .i64 nm.code, vn, vo, vr, .int .i64 (ct : Nat)]) (Q : World → Prop) (h1 : sgB t ⟨#[44]⟩ = true) (hC : ∀ w1, Below w.heap.size w w1 → Calls Tryz.prog 98 #[.pointer (some ⟨R, 0, none⟩), .int .i64 t.at'] w1 fun e w' => (∃ v, e = .returned v) ∧ Q w') :
  Calls Tryz.prog 59 #[.pointer (some ⟨R, 0, none⟩), .agg #[.int .i64 t.kind, .int .i64 t.at', .int .i64 t.num, .string t.str, .int .i64 t.c0, .int .i64 t.c1, .int .i64 t.r0, .int .i64 t.r1, .int .i64 t.r2, .int .i64 t.r3, .int .i64 t.code]] w fun e w' => (∃ v, e = .returned v) ∧ Q w' := by
 have HC : Hid _ := hC
 clear hC
 have H1 : Hid _ := h1
 clear h1
 have c := hR.cell
 have fz := hR.fro
 have lt := hR.lt
 go_enter Tryz.func59, Tryz.ntmps59
 go_wp2_with (first | (go_at_call 53; refine (isSign_any t _ _).mono ?_; (first | rw [H1.out]); rintro e w1 ⟨rfl, hb1⟩; have hB1 := bux w zq1 hb1; have oT1 := keepT t (w.heap.size) zq4 hb1; have cT1 := oT1.cell; have lT1 := oT1.lt; have oR1 := keepN tb pl nm vn vo vr ct (R) zq4 hb1; have cR1 := oR1.cell; have lR1 := oR1.lt) | (go_at_call 98; refine (HC.out _ zq1).mono ?_; rintro e w9 ⟨⟨v9, rfl⟩, q9⟩))
 exact ⟨rfl, _, results_none rfl _ _ _, ⟨_, rfl⟩, q9⟩
theorem ending_cp (w : World) (R : Nat) (tb vn vo vr : Value) (pl : Int) (nm : Tk) (ct : Nat) (t : Tk) (hR : Own w R #[tb, .int .i64 pl, .int .i64 nm.kind, .int .i64 nm.at', .int .i64 nm.num, .string nm.str, .int .i64 nm.c0, .int .i64 nm.c1, .int .i64 nm.r0, .int .i64 nm.r1, .int .i64 nm.r2, .int .i64 nm.r3, .int .i64 nm.code, vn, vo, vr, .int .i64 (ct : Nat)]) (ch : List PanicEntry) (Q : World → Prop) (h1 : sgB t ⟨#[44]⟩ = true) (hC : ∀ w1, Below w.heap.size w w1 → Calls Tryz.prog 98 #[.pointer (some ⟨R, 0, none⟩), .int .i64 t.at'] w1 fun e w' => e = .panicked ch ∧ Q w') :
  Calls Tryz.prog 59 #[.pointer (some ⟨R, 0, none⟩), .agg #[.int .i64 t.kind, .int .i64 t.at', .int .i64 t.num, .string t.str, .int .i64 t.c0, .int .i64 t.c1, .int .i64 t.r0, .int .i64 t.r1, .int .i64 t.r2, .int .i64 t.r3, .int .i64 t.code]] w fun e w' => e = .panicked ch ∧ Q w' := by
 have HC : Hid _ := hC
 clear hC
 have H1 : Hid _ := h1
 clear h1
 have c := hR.cell
 have fz := hR.fro
 have lt := hR.lt
 go_enter Tryz.func59, Tryz.ntmps59
 go_wp2_with (first | (go_at_call 53; refine (isSign_any t _ _).mono ?_; (first | rw [H1.out]); rintro e w1 ⟨rfl, hb1⟩; have hB1 := bux w zq1 hb1; have oT1 := keepT t (w.heap.size) zq4 hb1; have cT1 := oT1.cell; have lT1 := oT1.lt; have oR1 := keepN tb pl nm vn vo vr ct (R) zq4 hb1; have cR1 := oR1.cell; have lR1 := oR1.lt) | (go_at_call 98; refine (HC.out _ zq1).mono ?_; rintro e w9 ⟨rfl, q9⟩))
 exact ⟨rfl, rfl, q9⟩
theorem ending_br (w : World) (R : Nat) (tb vn vo vr : Value) (pl : Int) (nm : Tk) (ct : Nat) (t : Tk) (hR : Own w R #[tb, .int .i64 pl, .int .i64 nm.kind, .int .i64 nm.at', .int .i64 nm.num, .string nm.str, .int .i64 nm.c0, .int .i64 nm.c1, .int .i64 nm.r0, .int .i64 nm.r1, .int .i64 nm.r2, .int .i64 nm.r3, .int .i64 nm.code, vn, vo, vr, .int .i64 (ct : Nat)]) (Q : World → Prop) (h1 : sgB t ⟨#[44]⟩ = false) (h2 : sgB t ⟨#[41]⟩ = true) (hC : ∀ w1, Below w.heap.size w w1 → Calls Tryz.prog 54 #[.pointer (some ⟨R, 0, none⟩), .int .i64 t.at'] w1 fun e w' => (∃ v, e = .returned v) ∧ Q w') :
  Calls Tryz.prog 59 #[.pointer (some ⟨R, 0, none⟩), .agg #[.int .i64 t.kind, .int .i64 t.at', .int .i64 t.num, .string t.str, .int .i64 t.c0, .int .i64 t.c1, .int .i64 t.r0, .int .i64 t.r1, .int .i64 t.r2, .int .i64 t.r3, .int .i64 t.code]] w fun e w' => (∃ v, e = .returned v) ∧ Q w' := by
 have HC : Hid _ := hC
 clear hC
 have H1 : Hid _ := h1
 have H2 : Hid _ := h2
 clear h1
 clear h2
 have c := hR.cell
 have fz := hR.fro
 have lt := hR.lt
 go_enter Tryz.func59, Tryz.ntmps59
 go_wp2_with (first | (go_at_call 53; refine (isSign_any t _ _).mono ?_; (first | rw [H1.out] | rw [H2.out]); rintro e w1 ⟨rfl, hb1⟩; have hB1 := bux w zq1 hb1; have oT1 := keepT t (w.heap.size) zq4 hb1; have cT1 := oT1.cell; have lT1 := oT1.lt; have oR1 := keepN tb pl nm vn vo vr ct (R) zq4 hb1; have cR1 := oR1.cell; have lR1 := oR1.lt) | (go_at_call 54; refine (HC.out _ zq1).mono ?_; rintro e w9 ⟨⟨v9, rfl⟩, q9⟩))
 exact ⟨rfl, _, results_none rfl _ _ _, ⟨_, rfl⟩, q9⟩
theorem ending_bp (w : World) (R : Nat) (tb vn vo vr : Value) (pl : Int) (nm : Tk) (ct : Nat) (t : Tk) (hR : Own w R #[tb, .int .i64 pl, .int .i64 nm.kind, .int .i64 nm.at', .int .i64 nm.num, .string nm.str, .int .i64 nm.c0, .int .i64 nm.c1, .int .i64 nm.r0, .int .i64 nm.r1, .int .i64 nm.r2, .int .i64 nm.r3, .int .i64 nm.code, vn, vo, vr, .int .i64 (ct : Nat)]) (ch : List PanicEntry) (Q : World → Prop) (h1 : sgB t ⟨#[44]⟩ = false) (h2 : sgB t ⟨#[41]⟩ = true) (hC : ∀ w1, Below w.heap.size w w1 → Calls Tryz.prog 54 #[.pointer (some ⟨R, 0, none⟩), .int .i64 t.at'] w1 fun e w' => e = .panicked ch ∧ Q w') :
  Calls Tryz.prog 59 #[.pointer (some ⟨R, 0, none⟩), .agg #[.int .i64 t.kind, .int .i64 t.at', .int .i64 t.num, .string t.str, .int .i64 t.c0, .int .i64 t.c1, .int .i64 t.r0, .int .i64 t.r1, .int .i64 t.r2, .int .i64 t.r3, .int .i64 t.code]] w fun e w' => e = .panicked ch ∧ Q w' := by
 have HC : Hid _ := hC
 clear hC
 have H1 : Hid _ := h1
 have H2 : Hid _ := h2
 clear h1
 clear h2
 have c := hR.cell
 have fz := hR.fro
 have lt := hR.lt
 go_enter Tryz.func59, Tryz.ntmps59
 go_wp2_with (first | (go_at_call 53; refine (isSign_any t _ _).mono ?_; (first | rw [H1.out] | rw [H2.out]); rintro e w1 ⟨rfl, hb1⟩; have hB1 := bux w zq1 hb1; have oT1 := keepT t (w.heap.size) zq4 hb1; have cT1 := oT1.cell; have lT1 := oT1.lt; have oR1 := keepN tb pl nm vn vo vr ct (R) zq4 hb1; have cR1 := oR1.cell; have lR1 := oR1.lt) | (go_at_call 54; refine (HC.out _ zq1).mono ?_; rintro e w9 ⟨rfl, q9⟩))
 exact ⟨rfl, rfl, q9⟩
theorem ending_k (w : World) (R : Nat) (tb vn vo vr : Value) (pl : Int) (nm : Tk) (ct : Nat) (t : Tk) (hR : Own w R #[tb, .int .i64 pl, .int .i64 nm.kind, .int .i64 nm.at', .int .i64 nm.num, .string nm.str, .int .i64 nm.c0, .int .i64 nm.c1, .int .i64 nm.r0, .int .i64 nm.r1, .int .i64 nm.r2, .int .i64 nm.r3, .int .i64 nm.code, vn, vo, vr, .int .i64 (ct : Nat)]) (h1 : sgB t ⟨#[44]⟩ = false) (h2 : sgB t ⟨#[41]⟩ = false) (hk : (t.kind != 0) = true) :
  Calls Tryz.prog 59 #[.pointer (some ⟨R, 0, none⟩), .agg #[.int .i64 t.kind, .int .i64 t.at', .int .i64 t.num, .string t.str, .int .i64 t.c0, .int .i64 t.c1, .int .i64 t.r0, .int .i64 t.r1, .int .i64 t.r2, .int .i64 t.r3, .int .i64 t.code]] w fun e w' => e = .panicked (refC 8 t.at') ∧ Below w.heap.size w w' := by
 have H1 : Hid _ := h1
 have H2 : Hid _ := h2
 clear h1 h2
 have c := hR.cell
 have fz := hR.fro
 have lt := hR.lt
 go_enter Tryz.func59, Tryz.ntmps59
 go_wp2_with (first | (go_at_call 53; refine (isSign_any t _ _).mono ?_; (first | rw [H1.out] | rw [H2.out]); rintro e w1 ⟨rfl, hb1⟩; have hB1 := bux w zq1 hb1; have oT1 := keepT t (w.heap.size) zq4 hb1; have cT1 := oT1.cell; have lT1 := oT1.lt; have oR1 := keepN tb pl nm vn vo vr ct (R) zq4 hb1; have cR1 := oR1.cell; have lR1 := oR1.lt) | (go_at_call 88; refine (refuse_any 8 t.at' _).mono ?_; rintro e w5 ⟨rfl, hb5⟩; have hB5 := bux w zq1 hb5))
 exact ⟨rfl, rfl, hB5⟩
theorem ending_o (w : World) (R : Nat) (tb vn vo vr : Value) (pl : Int) (nm : Tk) (ct : Nat) (t : Tk) (hR : Own w R #[tb, .int .i64 pl, .int .i64 nm.kind, .int .i64 nm.at', .int .i64 nm.num, .string nm.str, .int .i64 nm.c0, .int .i64 nm.c1, .int .i64 nm.r0, .int .i64 nm.r1, .int .i64 nm.r2, .int .i64 nm.r3, .int .i64 nm.code, vn, vo, vr, .int .i64 (ct : Nat)]) (p : Option Addr) (n cap : Nat) (hvo : vo = .slice p (n + 1) cap) (h1 : sgB t ⟨#[44]⟩ = false) (h2 : sgB t ⟨#[41]⟩ = false) (hk : (t.kind != 0) = false) :
  Calls Tryz.prog 59 #[.pointer (some ⟨R, 0, none⟩), .agg #[.int .i64 t.kind, .int .i64 t.at', .int .i64 t.num, .string t.str, .int .i64 t.c0, .int .i64 t.c1, .int .i64 t.r0, .int .i64 t.r1, .int .i64 t.r2, .int .i64 t.r3, .int .i64 t.code]] w fun e w' => e = .panicked (refC 8 t.at') ∧ Below w.heap.size w w' := by
 have H1 : Hid _ := h1
 have H2 : Hid _ := h2
 clear h1 h2
 subst hvo
 have hn1 : 0 < (n : Int) + 1 := by omega
 have c := hR.cell
 have fz := hR.fro
 have lt := hR.lt
 go_enter Tryz.func59, Tryz.ntmps59
 go_wp2_with (first | (go_at_call 53; refine (isSign_any t _ _).mono ?_; (first | rw [H1.out] | rw [H2.out]); rintro e w1 ⟨rfl, hb1⟩; have hB1 := bux w zq1 hb1; have oT1 := keepT t (w.heap.size) zq4 hb1; have cT1 := oT1.cell; have lT1 := oT1.lt; have oR1 : Own w1 R #[tb, .int .i64 pl, .int .i64 nm.kind, .int .i64 nm.at', .int .i64 nm.num, .string nm.str, .int .i64 nm.c0, .int .i64 nm.c1, .int .i64 nm.r0, .int .i64 nm.r1, .int .i64 nm.r2, .int .i64 nm.r3, .int .i64 nm.code, vn, .slice p (n + 1) cap, vr, .int .i64 (ct : Nat)] := Own.keep zq4 hb1; have cR1 := oR1.cell; have lR1 := oR1.lt) | (go_at_call 88; refine (refuse_any 8 t.at' _).mono ?_; rintro e w5 ⟨rfl, hb5⟩; have hB5 := bux w zq1 hb5))
 exact ⟨rfl, rfl, hB5⟩
theorem ending_y (w : World) (R : Nat) (tb vn vo vr : Value) (pl : Int) (nm : Tk) (ct : Nat) (t : Tk) (hR : Own w R #[tb, .int .i64 pl, .int .i64 nm.kind, .int .i64 nm.at', .int .i64 nm.num, .string nm.str, .int .i64 nm.c0, .int .i64 nm.c1, .int .i64 nm.r0, .int .i64 nm.r1, .int .i64 nm.r2, .int .i64 nm.r3, .int .i64 nm.code, vn, vo, vr, .int .i64 (ct : Nat)]) (p : Option Addr) (cap : Nat) (hvo : vo = .slice p 0 cap) (h1 : sgB t ⟨#[44]⟩ = false) (h2 : sgB t ⟨#[41]⟩ = false) (hk : (t.kind != 0) = false) :
  Calls Tryz.prog 59 #[.pointer (some ⟨R, 0, none⟩), .agg #[.int .i64 t.kind, .int .i64 t.at', .int .i64 t.num, .string t.str, .int .i64 t.c0, .int .i64 t.c1, .int .i64 t.r0, .int .i64 t.r1, .int .i64 t.r2, .int .i64 t.r3, .int .i64 t.code]] w fun e w' => (∃ v, e = .returned v) ∧ Below w.heap.size w w' := by
 have H1 : Hid _ := h1
 have H2 : Hid _ := h2
 clear h1 h2
 subst hvo
 have c := hR.cell
 have fz := hR.fro
 have lt := hR.lt
 go_enter Tryz.func59, Tryz.ntmps59
 go_wp2_with (first | (go_at_call 53; refine (isSign_any t _ _).mono ?_; (first | rw [H1.out] | rw [H2.out]); rintro e w1 ⟨rfl, hb1⟩; have hB1 := bux w zq1 hb1; have oT1 := keepT t (w.heap.size) zq4 hb1; have cT1 := oT1.cell; have lT1 := oT1.lt; have oR1 : Own w1 R #[tb, .int .i64 pl, .int .i64 nm.kind, .int .i64 nm.at', .int .i64 nm.num, .string nm.str, .int .i64 nm.c0, .int .i64 nm.c1, .int .i64 nm.r0, .int .i64 nm.r1, .int .i64 nm.r2, .int .i64 nm.r3, .int .i64 nm.code, vn, .slice p 0 cap, vr, .int .i64 (ct : Nat)] := Own.keep zq4 hb1; have cR1 := oR1.cell; have lR1 := oR1.lt))
 exact ⟨rfl, _, results_none rfl _ _ _, ⟨_, rfl⟩, zq1⟩
end Go.Proofs.YtcmjhjnpcogmgaaGreatDoor
namespace Go.Proofs.YtcmjhjnpcogmgaaGreatDoor
open Go.Shelf Go.RowKit
theorem opening_n (w : World) (R : Nat) (tb vn vo vr : Value) (pl : Int) (nm : Tk) (ct : Nat) (t : Tk) (hR : Own w R #[tb, .int .i64 pl, .int .i64 nm.kind, .int .i64 nm.at', .int .i64 nm.num, .string nm.str, .int .i64 nm.c0, .int .i64 nm.c1, .int .i64 nm.r0, .int .i64 nm.r1, .int .i64 nm.r2, .int .i64 nm.r3, .int .i64 nm.code, vn, vo, vr, .int .i64 (ct : Nat)]) (h1 : sgB t ⟨#[40]⟩ = false) :
  Calls Tryz.prog 57 #[.pointer (some ⟨R, 0, none⟩), .agg #[.int .i64 t.kind, .int .i64 t.at', .int .i64 t.num, .string t.str, .int .i64 t.c0, .int .i64 t.c1, .int .i64 t.r0, .int .i64 t.r1, .int .i64 t.r2, .int .i64 t.r3, .int .i64 t.code]] w fun e w' => e = .panicked (refC 8 t.at') ∧ Below w.heap.size w w' := by
 have mixed : Tryz.prog.follows .mixedOrders = true := by kernel_rfl
 have H1 : Hid _ := h1
 clear h1
 have c := hR.cell
 have fz := hR.fro
 have lt := hR.lt
 go_enter Tryz.func57, Tryz.ntmps57
 go_wp2_with (first | (go_at_call 53; refine (isSign_any t _ _).mono ?_; (first | rw [H1.out]); rintro e w1 ⟨rfl, hb1⟩; have hB1 := bux w zq1 hb1; have oT1 := keepT t (w.heap.size) zq4 hb1; have cT1 := oT1.cell; have lT1 := oT1.lt; have oR1 := keepN tb pl nm vn vo vr ct (R) zq4 hb1; have cR1 := oR1.cell; have lR1 := oR1.lt) | (go_at_call 88; refine (refuse_any 8 t.at' _).mono ?_; rintro e w5 ⟨rfl, hb5⟩; have hB5 := bux w zq1 hb5))
 exact ⟨rfl, rfl, hB5⟩
theorem opening_r (w : World) (R : Nat) (tb vn vo vr : Value) (pl : Int) (nm : Tk) (ct : Nat) (t : Tk) (hR : Own w R #[tb, .int .i64 pl, .int .i64 nm.kind, .int .i64 nm.at', .int .i64 nm.num, .string nm.str, .int .i64 nm.c0, .int .i64 nm.c1, .int .i64 nm.r0, .int .i64 nm.r1, .int .i64 nm.r2, .int .i64 nm.r3, .int .i64 nm.code, vn, vo, vr, .int .i64 (ct : Nat)]) (Q : Value → World → Prop) (h1 : sgB t ⟨#[40]⟩ = true) (hC : ∀ w1, Below w.heap.size w w1 → Calls Tryz.prog 93 #[.pointer (some ⟨R, 0, none⟩), .int .i64 t.at', .agg #[.int .i64 nm.kind, .int .i64 nm.at', .int .i64 nm.num, .string nm.str, .int .i64 nm.c0, .int .i64 nm.c1, .int .i64 nm.r0, .int .i64 nm.r1, .int .i64 nm.r2, .int .i64 nm.r3, .int .i64 nm.code]] w1 fun e w' => (∃ v, e = .returned v) ∧ ∃ vo', Own w' R #[tb, .int .i64 pl, .int .i64 nm.kind, .int .i64 nm.at', .int .i64 nm.num, .string nm.str, .int .i64 nm.c0, .int .i64 nm.c1, .int .i64 nm.r0, .int .i64 nm.r1, .int .i64 nm.r2, .int .i64 nm.r3, .int .i64 nm.code, vn, vo', vr, .int .i64 (ct : Nat)] ∧ Q vo' w') :
  Calls Tryz.prog 57 #[.pointer (some ⟨R, 0, none⟩), .agg #[.int .i64 t.kind, .int .i64 t.at', .int .i64 t.num, .string t.str, .int .i64 t.c0, .int .i64 t.c1, .int .i64 t.r0, .int .i64 t.r1, .int .i64 t.r2, .int .i64 t.r3, .int .i64 t.code]] w fun e w' => (∃ v, e = .returned v) ∧ ∃ vo' w5, Q vo' w5 ∧ w' = w5.setCell ⟨R, 1, none⟩ (.int .i64 2) ∧ Own w' R #[tb, .int .i64 2, .int .i64 nm.kind, .int .i64 nm.at', .int .i64 nm.num, .string nm.str, .int .i64 nm.c0, .int .i64 nm.c1, .int .i64 nm.r0, .int .i64 nm.r1, .int .i64 nm.r2, .int .i64 nm.r3, .int .i64 nm.code, vn, vo', vr, .int .i64 (ct : Nat)] := by
 have HC : Hid _ := hC
 clear hC
 have mixed : Tryz.prog.follows .mixedOrders = true := by kernel_rfl
 have H1 : Hid _ := h1
 clear h1
 have c := hR.cell
 have fz := hR.fro
 have lt := hR.lt
 go_enter Tryz.func57, Tryz.ntmps57
 go_wp2_with (go_at_call 53; refine (isSign_any t _ _).mono ?_; (first | rw [H1.out]); rintro e w1 ⟨rfl, hb1⟩; have hB1 := bux w zq1 hb1; have oT1 := keepT t (w.heap.size) zq4 hb1; have cT1 := oT1.cell; have lT1 := oT1.lt; have oR1 := keepN tb pl nm vn vo vr ct (R) zq4 hb1; have cR1 := oR1.cell; have lR1 := oR1.lt)
 go_region_with (go_at_call 93; refine (HC.out _ zq1).mono ?_; rintro e w9 ⟨⟨v9, rfl⟩, vo9, q1, q2⟩; have c9 := q1.cell; have f9 := q1.fro; have l9 := q1.lt)
 all_goals go_wp2
 all_goals exact ⟨rfl, _, results_none rfl _ _ _, ⟨_, rfl⟩, vo9, w9, q2, rfl, own_p1 q1⟩
theorem opening_p (w : World) (R : Nat) (tb vn vo vr : Value) (pl : Int) (nm : Tk) (ct : Nat) (t : Tk) (hR : Own w R #[tb, .int .i64 pl, .int .i64 nm.kind, .int .i64 nm.at', .int .i64 nm.num, .string nm.str, .int .i64 nm.c0, .int .i64 nm.c1, .int .i64 nm.r0, .int .i64 nm.r1, .int .i64 nm.r2, .int .i64 nm.r3, .int .i64 nm.code, vn, vo, vr, .int .i64 (ct : Nat)]) (ch : List PanicEntry) (Q : World → Prop) (h1 : sgB t ⟨#[40]⟩ = true) (hC : ∀ w1, Below w.heap.size w w1 → Calls Tryz.prog 93 #[.pointer (some ⟨R, 0, none⟩), .int .i64 t.at', .agg #[.int .i64 nm.kind, .int .i64 nm.at', .int .i64 nm.num, .string nm.str, .int .i64 nm.c0, .int .i64 nm.c1, .int .i64 nm.r0, .int .i64 nm.r1, .int .i64 nm.r2, .int .i64 nm.r3, .int .i64 nm.code]] w1 fun e w' => e = .panicked ch ∧ Q w') :
  Calls Tryz.prog 57 #[.pointer (some ⟨R, 0, none⟩), .agg #[.int .i64 t.kind, .int .i64 t.at', .int .i64 t.num, .string t.str, .int .i64 t.c0, .int .i64 t.c1, .int .i64 t.r0, .int .i64 t.r1, .int .i64 t.r2, .int .i64 t.r3, .int .i64 t.code]] w fun e w' => e = .panicked ch ∧ Q w' := by
 have HC : Hid _ := hC
 clear hC
 have mixed : Tryz.prog.follows .mixedOrders = true := by kernel_rfl
 have H1 : Hid _ := h1
 clear h1
 have c := hR.cell
 have fz := hR.fro
 have lt := hR.lt
 go_enter Tryz.func57, Tryz.ntmps57
 go_wp2_with (go_at_call 53; refine (isSign_any t _ _).mono ?_; (first | rw [H1.out]); rintro e w1 ⟨rfl, hb1⟩; have hB1 := bux w zq1 hb1; have oT1 := keepT t (w.heap.size) zq4 hb1; have cT1 := oT1.cell; have lT1 := oT1.lt; have oR1 := keepN tb pl nm vn vo vr ct (R) zq4 hb1; have cR1 := oR1.cell; have lR1 := oR1.lt)
 refine wp_region_held_drew (S := (fun w' => w'.cell? ⟨w.heap.size, 1, none⟩ = some (.int .i64 t.at') ∧ w'.cell? ⟨R, 2, none⟩ = some (.int .i64 nm.kind) ∧ w'.cell? ⟨R, 3, none⟩ = some (.int .i64 nm.at') ∧ w'.cell? ⟨R, 4, none⟩ = some (.int .i64 nm.num) ∧ w'.cell? ⟨R, 5, none⟩ = some (.string nm.str) ∧ w'.cell? ⟨R, 6, none⟩ = some (.int .i64 nm.c0) ∧ w'.cell? ⟨R, 7, none⟩ = some (.int .i64 nm.c1) ∧ w'.cell? ⟨R, 8, none⟩ = some (.int .i64 nm.r0) ∧ w'.cell? ⟨R, 9, none⟩ = some (.int .i64 nm.r1) ∧ w'.cell? ⟨R, 10, none⟩ = some (.int .i64 nm.r2) ∧ w'.cell? ⟨R, 11, none⟩ = some (.int .i64 nm.r3) ∧ w'.cell? ⟨R, 12, none⟩ = some (.int .i64 nm.code))) zq14 (by (try dsimp only); ((repeat' apply And.intro) <;> (first | (go_keep; done) | (go_simp; done)))) (fun hHeld => ?_)
 refine wpAnyH_take (i := 0) (v := .pointer (some ⟨R, 0, none⟩)) rfl zq14 zq14 zq14 (fun _ _ _ h => h) (Or.inl ⟨by rfl, by intro wz hSw; (try dsimp only at hSw); go_simp⟩) zq15 ?_
 (try simp only [Act.put, List.setIfInBounds_toArray, List.set_cons_zero, List.set_cons_succ])
 refine wpAnyH_take (i := 1) (v := .pointer (some ⟨w.heap.size, 1, none⟩)) rfl zq14 zq14 zq14 (fun _ _ _ h => h) (Or.inl ⟨by rfl, by intro wz hSw; (try dsimp only at hSw); go_simp⟩) zq15 ?_
 (try simp only [Act.put, List.setIfInBounds_toArray, List.set_cons_zero, List.set_cons_succ])
 refine wpAnyH_take (i := 2) (v := .int .i64 t.at') rfl zq14 zq14 zq14 (fun _ _ _ h => h) (Or.inl ⟨by rfl, by intro wz hSw; (try dsimp only at hSw); go_simp⟩) zq15 ?_
 (try simp only [Act.put, List.setIfInBounds_toArray, List.set_cons_zero, List.set_cons_succ])
 refine wpAnyH_take (i := 3) (v := .pointer (some ⟨R, 0, none⟩)) rfl zq14 zq14 zq14 (fun _ _ _ h => h) (Or.inl ⟨by rfl, by intro wz hSw; (try dsimp only at hSw); go_simp⟩) zq15 ?_
 (try simp only [Act.put, List.setIfInBounds_toArray, List.set_cons_zero, List.set_cons_succ])
 refine wpAnyH_take (i := 4) (v := .pointer (some ⟨R, 0, none⟩)) rfl zq14 zq14 zq14 (fun _ _ _ h => h) (Or.inl ⟨by rfl, by intro wz hSw; (try dsimp only at hSw); go_simp⟩) zq15 ?_
 (try simp only [Act.put, List.setIfInBounds_toArray, List.set_cons_zero, List.set_cons_succ])
 refine wpAnyH_take (i := 5) (v := .pointer (some ⟨R, 2, none⟩)) rfl zq14 zq14 zq14 (fun _ _ _ h => h) (Or.inl ⟨by rfl, by intro wz hSw; (try dsimp only at hSw); go_simp⟩) zq15 ?_
 (try simp only [Act.put, List.setIfInBounds_toArray, List.set_cons_zero, List.set_cons_succ])
 refine wpAnyH_take (i := 6) (v := .agg #[.int .i64 nm.kind, .int .i64 nm.at', .int .i64 nm.num, .string nm.str, .int .i64 nm.c0, .int .i64 nm.c1, .int .i64 nm.r0, .int .i64 nm.r1, .int .i64 nm.r2, .int .i64 nm.r3, .int .i64 nm.code]) rfl zq14 zq14 zq14 (fun _ _ _ h => h) (Or.inl ⟨by rfl, by intro wz hSw; (try dsimp only at hSw); go_simp⟩) zq15 ?_
 (try simp only [Act.put, List.setIfInBounds_toArray, List.set_cons_zero, List.set_cons_succ])
 refine wpAnyH_ready (rs := [7]) zq14 (by simp) ?_
 refine AllReadyH.cons rfl (fun K hK => ?_) ?_
 ·go_simp
  (go_at_call 93; refine (HC.out _ zq1).mono ?_; rintro e w9 ⟨rfl, q9⟩)
  exact ⟨rfl, rfl, q9⟩
 exact AllReadyH.nil
end Go.Proofs.YtcmjhjnpcogmgaaGreatDoor
namespace Go.Proofs.YtcmjhjnpcogmgaaGreatDoor
open Go.Shelf Go.RowKit
theorem own_nm {W : World} {R : Nat} {x0 x1 x2 x3 x4 x5 x6 x7 x8 x9 x10 x11 x12 x13 x14 x15 x16 y0 y1 y2 y3 y4 y5 y6 y7 y8 y9 y10 : Value} (h : Own W R #[x0, x1, x2, x3, x4, x5, x6, x7, x8, x9, x10, x11, x12, x13, x14, x15, x16]) : Own (((((((((((W.setCell ⟨R, 2, none⟩ y0).setCell ⟨R, 3, none⟩ y1).setCell ⟨R, 4, none⟩ y2).setCell ⟨R, 5, none⟩ y3).setCell ⟨R, 6, none⟩ y4).setCell ⟨R, 7, none⟩ y5).setCell ⟨R, 8, none⟩ y6).setCell ⟨R, 9, none⟩ y7).setCell ⟨R, 10, none⟩ y8).setCell ⟨R, 11, none⟩ y9).setCell ⟨R, 12, none⟩ y10) R #[x0, x1, y0, y1, y2, y3, y4, y5, y6, y7, y8, y9, y10, x13, x14, x15, x16] := (Rf.own_put (k := 12) (Rf.own_put (k := 11) (Rf.own_put (k := 10) (Rf.own_put (k := 9) (Rf.own_put (k := 8) (Rf.own_put (k := 7) (Rf.own_put (k := 6) (Rf.own_put (k := 5) (Rf.own_put (k := 4) (Rf.own_put (k := 3) (Rf.own_put (k := 2) h (by simp)) (by simp)) (by simp)) (by simp)) (by simp)) (by simp)) (by simp)) (by simp)) (by simp)) (by simp)) (by simp))
theorem name_n (w : World) (R : Nat) (tb vn vo vr : Value) (pl : Int) (nm : Tk) (ct : Nat) (fp : Option Addr) (fn fc : Nat) (t : Tk) (hR : Own w R #[.iface 29 (.slice fp fn fc), .int .i64 pl, .int .i64 nm.kind, .int .i64 nm.at', .int .i64 nm.num, .string nm.str, .int .i64 nm.c0, .int .i64 nm.c1, .int .i64 nm.r0, .int .i64 nm.r1, .int .i64 nm.r2, .int .i64 nm.r3, .int .i64 nm.code, vn, vo, vr, .int .i64 (ct : Nat)]) (h1 : mayNm t.str = true) (hK : ∀ w1, Below w.heap.size w w1 → Calls Tryz.prog 142 #[.slice fp fn fc, .string t.str] w1 fun e w' => e = .returned (.bool false) ∧ Below w1.heap.size w1 w') :
  Calls Tryz.prog 92 #[.pointer (some ⟨R, 0, none⟩), .agg #[.int .i64 t.kind, .int .i64 t.at', .int .i64 t.num, .string t.str, .int .i64 t.c0, .int .i64 t.c1, .int .i64 t.r0, .int .i64 t.r1, .int .i64 t.r2, .int .i64 t.r3, .int .i64 t.code]] w fun e w' => e = .panicked (refC 8 t.at') ∧ Below w.heap.size w w' := by
 have HK : Hid _ := hK
 clear hK
 have mixed : Tryz.prog.follows .mixedOrders = true := by kernel_rfl
 have H1 : Hid _ := h1
 clear h1
 have hmk := method_known fp fn fc
 have c := hR.cell
 have fz := hR.fro
 have lt := hR.lt
 go_enter Tryz.func92, Tryz.ntmps92
 go_wp2
 go_region_held3 (fun w' => w'.cell? ⟨w.heap.size, 3, none⟩ = some (.string t.str) ∧ w'.cell? ⟨R, 0, none⟩ = some (.iface 29 (.slice fp fn fc))) ((repeat' apply And.intro) <;> (first | (go_keep; done) | (go_simp; done))) (first | (go_at_call 138; refine (mayName_any t.str _).mono ?_; rw [H1.out]; rintro e w1 ⟨rfl, hb1⟩; have hB1 := bux w zq1 hb1; have oT1 := keepT t (w.heap.size) zq4 hb1; have cT1 := oT1.cell; have lT1 := oT1.lt; have oR1 : Own w1 R #[.iface 29 (.slice fp fn fc), .int .i64 pl, .int .i64 nm.kind, .int .i64 nm.at', .int .i64 nm.num, .string nm.str, .int .i64 nm.c0, .int .i64 nm.c1, .int .i64 nm.r0, .int .i64 nm.r1, .int .i64 nm.r2, .int .i64 nm.r3, .int .i64 nm.code, vn, vo, vr, .int .i64 (ct : Nat)] := Own.keep zq4 hb1; have cR1 := oR1.cell; have fR1 := oR1.fro; have lR1 := oR1.lt) | (go_at_call 142; refine (HK.out _ zq1).mono ?_; rintro e w2 ⟨rfl, hb2⟩; have hB2 := bux w zq1 hb2; have oT2 := keepT t (w.heap.size) zq4 hb2; have cT2 := oT2.cell; have lT2 := oT2.lt; have oR2 : Own w2 R #[.iface 29 (.slice fp fn fc), .int .i64 pl, .int .i64 nm.kind, .int .i64 nm.at', .int .i64 nm.num, .string nm.str, .int .i64 nm.c0, .int .i64 nm.c1, .int .i64 nm.r0, .int .i64 nm.r1, .int .i64 nm.r2, .int .i64 nm.r3, .int .i64 nm.code, vn, vo, vr, .int .i64 (ct : Nat)] := Own.keep zq4 hb2; have cR2 := oR2.cell; have fR2 := oR2.fro; have lR2 := oR2.lt))
 all_goals go_wp2_with (go_at_call 88; refine (refuse_any 8 t.at' _).mono ?_; rintro e w5 ⟨rfl, hb5⟩; have hB5 := bux w zq1 hb5)
 all_goals exact ⟨rfl, rfl, hB5⟩
theorem name_y (w : World) (R : Nat) (tb vn vo vr : Value) (pl : Int) (nm : Tk) (ct : Nat) (fp : Option Addr) (fn fc : Nat) (t : Tk) (hR : Own w R #[.iface 29 (.slice fp fn fc), .int .i64 pl, .int .i64 nm.kind, .int .i64 nm.at', .int .i64 nm.num, .string nm.str, .int .i64 nm.c0, .int .i64 nm.c1, .int .i64 nm.r0, .int .i64 nm.r1, .int .i64 nm.r2, .int .i64 nm.r3, .int .i64 nm.code, vn, vo, vr, .int .i64 (ct : Nat)]) (h1 : mayNm t.str = true) (hK : ∀ w1, Below w.heap.size w w1 → Calls Tryz.prog 142 #[.slice fp fn fc, .string t.str] w1 fun e w' => e = .returned (.bool true) ∧ Below w1.heap.size w1 w') :
  Calls Tryz.prog 92 #[.pointer (some ⟨R, 0, none⟩), .agg #[.int .i64 t.kind, .int .i64 t.at', .int .i64 t.num, .string t.str, .int .i64 t.c0, .int .i64 t.c1, .int .i64 t.r0, .int .i64 t.r1, .int .i64 t.r2, .int .i64 t.r3, .int .i64 t.code]] w fun e w' => (∃ v, e = .returned v) ∧ Own w' R #[.iface 29 (.slice fp fn fc), .int .i64 3, .int .i64 t.kind, .int .i64 t.at', .int .i64 t.num, .string t.str, .int .i64 t.c0, .int .i64 t.c1, .int .i64 t.r0, .int .i64 t.r1, .int .i64 t.r2, .int .i64 t.r3, .int .i64 t.code, vn, vo, vr, .int .i64 (ct : Nat)] ∧ Mut (fun b => b = R) w w' := by
 have HK : Hid _ := hK
 clear hK
 have mixed : Tryz.prog.follows .mixedOrders = true := by kernel_rfl
 have H1 : Hid _ := h1
 clear h1
 have hmk := method_known fp fn fc
 have c := hR.cell
 have fz := hR.fro
 have lt := hR.lt
 go_enter Tryz.func92, Tryz.ntmps92
 go_wp2
 go_region_held3 (fun w' => w'.cell? ⟨w.heap.size, 3, none⟩ = some (.string t.str) ∧ w'.cell? ⟨R, 0, none⟩ = some (.iface 29 (.slice fp fn fc))) ((repeat' apply And.intro) <;> (first | (go_keep; done) | (go_simp; done))) (first | (go_at_call 138; refine (mayName_any t.str _).mono ?_; rw [H1.out]; rintro e w1 ⟨rfl, hb1⟩; have hB1 := bux w zq1 hb1; have oT1 := keepT t (w.heap.size) zq4 hb1; have cT1 := oT1.cell; have lT1 := oT1.lt; have oR1 : Own w1 R #[.iface 29 (.slice fp fn fc), .int .i64 pl, .int .i64 nm.kind, .int .i64 nm.at', .int .i64 nm.num, .string nm.str, .int .i64 nm.c0, .int .i64 nm.c1, .int .i64 nm.r0, .int .i64 nm.r1, .int .i64 nm.r2, .int .i64 nm.r3, .int .i64 nm.code, vn, vo, vr, .int .i64 (ct : Nat)] := Own.keep zq4 hb1; have cR1 := oR1.cell; have fR1 := oR1.fro; have lR1 := oR1.lt) | (go_at_call 142; refine (HK.out _ zq1).mono ?_; rintro e w2 ⟨rfl, hb2⟩; have hB2 := bux w zq1 hb2; have oT2 := keepT t (w.heap.size) zq4 hb2; have cT2 := oT2.cell; have lT2 := oT2.lt; have oR2 : Own w2 R #[.iface 29 (.slice fp fn fc), .int .i64 pl, .int .i64 nm.kind, .int .i64 nm.at', .int .i64 nm.num, .string nm.str, .int .i64 nm.c0, .int .i64 nm.c1, .int .i64 nm.r0, .int .i64 nm.r1, .int .i64 nm.r2, .int .i64 nm.r3, .int .i64 nm.code, vn, vo, vr, .int .i64 (ct : Nat)] := Own.keep zq4 hb2; have cR2 := oR2.cell; have fR2 := oR2.fro; have lR2 := oR2.lt))
 all_goals go_wp2
 all_goals have hM2 : Mut (fun b => b = R) w w2 := Mut.below (Mut.refl _ _) hB2
 all_goals exact ⟨rfl, _, results_none rfl _ _ _, ⟨_, rfl⟩, own_p1 (own_nm oR2), zq3⟩
end Go.Proofs.YtcmjhjnpcogmgaaGreatDoor
