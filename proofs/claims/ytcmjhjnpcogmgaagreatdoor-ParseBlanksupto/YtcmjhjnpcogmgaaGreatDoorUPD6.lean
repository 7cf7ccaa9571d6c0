/- The contract of the reader's take: the next token, by where the reading stands -/
import Derived.Test.YtcmjhjnpcogmgaaGreatDoorUAuto
import Derived.Test.YtcmjhjnpcogmgaaGreatDoorUPD5
set_option linter.all false
set_option maxRecDepth 100000
set_option maxHeartbeats 4000000
namespace Go.Proofs.YtcmjhjnpcogmgaaGreatDoor
open Go.Shelf Go.RowKit
theorem take_cr (w : World) (R : Nat) (tb vn vo vr : Value) (nm : Tk) (ct : Nat) (t : Tk) (hR : Own w R #[tb, .int .i64 2, .int .i64 nm.kind, .int .i64 nm.at', .int .i64 nm.num, .string nm.str, .int .i64 nm.c0, .int .i64 nm.c1, .int .i64 nm.r0, .int .i64 nm.r1, .int .i64 nm.r2, .int .i64 nm.r3, .int .i64 nm.code, vn, vo, vr, .int .i64 (ct : Nat)]) (Q : World → Prop) (h1 : sgB t ⟨#[41]⟩ = true) (hC : ∀ w1, Below w.heap.size w w1 → Calls Tryz.prog 54 #[.pointer (some ⟨R, 0, none⟩), .int .i64 t.at'] w1 fun e w' => (∃ v, e = .returned v) ∧ Q w') :
  Calls Tryz.prog 30 #[.pointer (some ⟨R, 0, none⟩), .agg #[.int .i64 t.kind, .int .i64 t.at', .int .i64 t.num, .string t.str, .int .i64 t.c0, .int .i64 t.c1, .int .i64 t.r0, .int .i64 t.r1, .int .i64 t.r2, .int .i64 t.r3, .int .i64 t.code]] w fun e w' => (∃ v, e = .returned v) ∧ Q w' := by
 have HC : Hid _ := hC
 clear hC
 have H1 : Hid _ := h1
 clear h1
 have c := hR.cell
 have fz := hR.fro
 have lt := hR.lt
 go_enter Tryz.func30, Tryz.ntmps30
 go_wp2_with (first | (go_at_call 53; refine (isSign_any t _ _).mono ?_; rw [H1.out]; rintro e w1 ⟨rfl, hb1⟩; have hB1 := bux w zq1 hb1; have oT1 := keepT t (w.heap.size) zq4 hb1; have cT1 := oT1.cell; have lT1 := oT1.lt; have oR1 : Own w1 R #[tb, .int .i64 2, .int .i64 nm.kind, .int .i64 nm.at', .int .i64 nm.num, .string nm.str, .int .i64 nm.c0, .int .i64 nm.c1, .int .i64 nm.r0, .int .i64 nm.r1, .int .i64 nm.r2, .int .i64 nm.r3, .int .i64 nm.code, vn, vo, vr, .int .i64 (ct : Nat)] := Own.keep zq4 hb1; have cR1 := oR1.cell; have fR1 := oR1.fro; have lR1 := oR1.lt) | (go_at_call 54; refine (HC.out _ zq1).mono ?_; rintro e w9 ⟨⟨v9, rfl⟩, q9⟩))
 exact ⟨rfl, _, results_none rfl _ _ _, ⟨_, rfl⟩, q9⟩
theorem take_cp (w : World) (R : Nat) (tb vn vo vr : Value) (nm : Tk) (ct : Nat) (t : Tk) (hR : Own w R #[tb, .int .i64 2, .int .i64 nm.kind, .int .i64 nm.at', .int .i64 nm.num, .string nm.str, .int .i64 nm.c0, .int .i64 nm.c1, .int .i64 nm.r0, .int .i64 nm.r1, .int .i64 nm.r2, .int .i64 nm.r3, .int .i64 nm.code, vn, vo, vr, .int .i64 (ct : Nat)]) (ch : List PanicEntry) (Q : World → Prop) (h1 : sgB t ⟨#[41]⟩ = true) (hC : ∀ w1, Below w.heap.size w w1 → Calls Tryz.prog 54 #[.pointer (some ⟨R, 0, none⟩), .int .i64 t.at'] w1 fun e w' => e = .panicked ch ∧ Q w') :
  Calls Tryz.prog 30 #[.pointer (some ⟨R, 0, none⟩), .agg #[.int .i64 t.kind, .int .i64 t.at', .int .i64 t.num, .string t.str, .int .i64 t.c0, .int .i64 t.c1, .int .i64 t.r0, .int .i64 t.r1, .int .i64 t.r2, .int .i64 t.r3, .int .i64 t.code]] w fun e w' => e = .panicked ch ∧ Q w' := by
 have HC : Hid _ := hC
 clear hC
 have H1 : Hid _ := h1
 clear h1
 have c := hR.cell
 have fz := hR.fro
 have lt := hR.lt
 go_enter Tryz.func30, Tryz.ntmps30
 go_wp2_with (first | (go_at_call 53; refine (isSign_any t _ _).mono ?_; rw [H1.out]; rintro e w1 ⟨rfl, hb1⟩; have hB1 := bux w zq1 hb1; have oT1 := keepT t (w.heap.size) zq4 hb1; have cT1 := oT1.cell; have lT1 := oT1.lt; have oR1 : Own w1 R #[tb, .int .i64 2, .int .i64 nm.kind, .int .i64 nm.at', .int .i64 nm.num, .string nm.str, .int .i64 nm.c0, .int .i64 nm.c1, .int .i64 nm.r0, .int .i64 nm.r1, .int .i64 nm.r2, .int .i64 nm.r3, .int .i64 nm.code, vn, vo, vr, .int .i64 (ct : Nat)] := Own.keep zq4 hb1; have cR1 := oR1.cell; have fR1 := oR1.fro; have lR1 := oR1.lt) | (go_at_call 54; refine (HC.out _ zq1).mono ?_; rintro e w9 ⟨rfl, q9⟩))
 exact ⟨rfl, rfl, q9⟩
theorem take_2tr (w : World) (R : Nat) (tb vn vo vr : Value) (nm : Tk) (ct : Nat) (t : Tk) (hR : Own w R #[tb, .int .i64 2, .int .i64 nm.kind, .int .i64 nm.at', .int .i64 nm.num, .string nm.str, .int .i64 nm.c0, .int .i64 nm.c1, .int .i64 nm.r0, .int .i64 nm.r1, .int .i64 nm.r2, .int .i64 nm.r3, .int .i64 nm.code, vn, vo, vr, .int .i64 (ct : Nat)]) (Q : World → Prop) (h1 : sgB t ⟨#[41]⟩ = false) (hk : (t.kind == 5) = false) (hC : ∀ w1, Below w.heap.size w w1 → Calls Tryz.prog 56 #[.pointer (some ⟨R, 0, none⟩), .agg #[.int .i64 t.kind, .int .i64 t.at', .int .i64 t.num, .string t.str, .int .i64 t.c0, .int .i64 t.c1, .int .i64 t.r0, .int .i64 t.r1, .int .i64 t.r2, .int .i64 t.r3, .int .i64 t.code]] w1 fun e w' => (∃ v, e = .returned v) ∧ Q w') :
  Calls Tryz.prog 30 #[.pointer (some ⟨R, 0, none⟩), .agg #[.int .i64 t.kind, .int .i64 t.at', .int .i64 t.num, .string t.str, .int .i64 t.c0, .int .i64 t.c1, .int .i64 t.r0, .int .i64 t.r1, .int .i64 t.r2, .int .i64 t.r3, .int .i64 t.code]] w fun e w' => (∃ v, e = .returned v) ∧ Q w' := by
 have HC : Hid _ := hC
 clear hC
 have H1 : Hid _ := h1
 clear h1
 have c := hR.cell
 have fz := hR.fro
 have lt := hR.lt
 go_enter Tryz.func30, Tryz.ntmps30
 go_wp2_with (first | (go_at_call 53; refine (isSign_any t _ _).mono ?_; rw [H1.out]; rintro e w1 ⟨rfl, hb1⟩; have hB1 := bux w zq1 hb1; have oT1 := keepT t (w.heap.size) zq4 hb1; have cT1 := oT1.cell; have lT1 := oT1.lt; have oR1 : Own w1 R #[tb, .int .i64 2, .int .i64 nm.kind, .int .i64 nm.at', .int .i64 nm.num, .string nm.str, .int .i64 nm.c0, .int .i64 nm.c1, .int .i64 nm.r0, .int .i64 nm.r1, .int .i64 nm.r2, .int .i64 nm.r3, .int .i64 nm.code, vn, vo, vr, .int .i64 (ct : Nat)] := Own.keep zq4 hb1; have cR1 := oR1.cell; have fR1 := oR1.fro; have lR1 := oR1.lt) | (go_at_call 56; refine (HC.out _ zq1).mono ?_; rintro e w9 ⟨⟨v9, rfl⟩, q9⟩))
 exact ⟨rfl, _, results_none rfl _ _ _, ⟨_, rfl⟩, q9⟩
theorem take_2tp (w : World) (R : Nat) (tb vn vo vr : Value) (nm : Tk) (ct : Nat) (t : Tk) (hR : Own w R #[tb, .int .i64 2, .int .i64 nm.kind, .int .i64 nm.at', .int .i64 nm.num, .string nm.str, .int .i64 nm.c0, .int .i64 nm.c1, .int .i64 nm.r0, .int .i64 nm.r1, .int .i64 nm.r2, .int .i64 nm.r3, .int .i64 nm.code, vn, vo, vr, .int .i64 (ct : Nat)]) (ch : List PanicEntry) (Q : World → Prop) (h1 : sgB t ⟨#[41]⟩ = false) (hk : (t.kind == 5) = false) (hC : ∀ w1, Below w.heap.size w w1 → Calls Tryz.prog 56 #[.pointer (some ⟨R, 0, none⟩), .agg #[.int .i64 t.kind, .int .i64 t.at', .int .i64 t.num, .string t.str, .int .i64 t.c0, .int .i64 t.c1, .int .i64 t.r0, .int .i64 t.r1, .int .i64 t.r2, .int .i64 t.r3, .int .i64 t.code]] w1 fun e w' => e = .panicked ch ∧ Q w') :
  Calls Tryz.prog 30 #[.pointer (some ⟨R, 0, none⟩), .agg #[.int .i64 t.kind, .int .i64 t.at', .int .i64 t.num, .string t.str, .int .i64 t.c0, .int .i64 t.c1, .int .i64 t.r0, .int .i64 t.r1, .int .i64 t.r2, .int .i64 t.r3, .int .i64 t.code]] w fun e w' => e = .panicked ch ∧ Q w' := by
 have HC : Hid _ := hC
 clear hC
 have H1 : Hid _ := h1
 clear h1
 have c := hR.cell
 have fz := hR.fro
 have lt := hR.lt
 go_enter Tryz.func30, Tryz.ntmps30
 go_wp2_with (first | (go_at_call 53; refine (isSign_any t _ _).mono ?_; rw [H1.out]; rintro e w1 ⟨rfl, hb1⟩; have hB1 := bux w zq1 hb1; have oT1 := keepT t (w.heap.size) zq4 hb1; have cT1 := oT1.cell; have lT1 := oT1.lt; have oR1 : Own w1 R #[tb, .int .i64 2, .int .i64 nm.kind, .int .i64 nm.at', .int .i64 nm.num, .string nm.str, .int .i64 nm.c0, .int .i64 nm.c1, .int .i64 nm.r0, .int .i64 nm.r1, .int .i64 nm.r2, .int .i64 nm.r3, .int .i64 nm.code, vn, vo, vr, .int .i64 (ct : Nat)] := Own.keep zq4 hb1; have cR1 := oR1.cell; have fR1 := oR1.fro; have lR1 := oR1.lt) | (go_at_call 56; refine (HC.out _ zq1).mono ?_; rintro e w9 ⟨rfl, q9⟩))
 exact ⟨rfl, rfl, q9⟩
theorem take_1tr (w : World) (R : Nat) (tb vn vo vr : Value) (nm : Tk) (ct : Nat) (t : Tk) (hR : Own w R #[tb, .int .i64 1, .int .i64 nm.kind, .int .i64 nm.at', .int .i64 nm.num, .string nm.str, .int .i64 nm.c0, .int .i64 nm.c1, .int .i64 nm.r0, .int .i64 nm.r1, .int .i64 nm.r2, .int .i64 nm.r3, .int .i64 nm.code, vn, vo, vr, .int .i64 (ct : Nat)]) (Q : World → Prop) (hk : (t.kind == 5) = false) (hC : ∀ w1, Below w.heap.size w w1 → Calls Tryz.prog 56 #[.pointer (some ⟨R, 0, none⟩), .agg #[.int .i64 t.kind, .int .i64 t.at', .int .i64 t.num, .string t.str, .int .i64 t.c0, .int .i64 t.c1, .int .i64 t.r0, .int .i64 t.r1, .int .i64 t.r2, .int .i64 t.r3, .int .i64 t.code]] w1 fun e w' => (∃ v, e = .returned v) ∧ Q w') :
  Calls Tryz.prog 30 #[.pointer (some ⟨R, 0, none⟩), .agg #[.int .i64 t.kind, .int .i64 t.at', .int .i64 t.num, .string t.str, .int .i64 t.c0, .int .i64 t.c1, .int .i64 t.r0, .int .i64 t.r1, .int .i64 t.r2, .int .i64 t.r3, .int .i64 t.code]] w fun e w' => (∃ v, e = .returned v) ∧ Q w' := by
 have HC : Hid _ := hC
 clear hC
 have c := hR.cell
 have fz := hR.fro
 have lt := hR.lt
 go_enter Tryz.func30, Tryz.ntmps30
 go_wp2_with (go_at_call 56; refine (HC.out _ zq1).mono ?_; rintro e w9 ⟨⟨v9, rfl⟩, q9⟩)
 exact ⟨rfl, _, results_none rfl _ _ _, ⟨_, rfl⟩, q9⟩
theorem take_1tp (w : World) (R : Nat) (tb vn vo vr : Value) (nm : Tk) (ct : Nat) (t : Tk) (hR : Own w R #[tb, .int .i64 1, .int .i64 nm.kind, .int .i64 nm.at', .int .i64 nm.num, .string nm.str, .int .i64 nm.c0, .int .i64 nm.c1, .int .i64 nm.r0, .int .i64 nm.r1, .int .i64 nm.r2, .int .i64 nm.r3, .int .i64 nm.code, vn, vo, vr, .int .i64 (ct : Nat)]) (ch : List PanicEntry) (Q : World → Prop) (hk : (t.kind == 5) = false) (hC : ∀ w1, Below w.heap.size w w1 → Calls Tryz.prog 56 #[.pointer (some ⟨R, 0, none⟩), .agg #[.int .i64 t.kind, .int .i64 t.at', .int .i64 t.num, .string t.str, .int .i64 t.c0, .int .i64 t.c1, .int .i64 t.r0, .int .i64 t.r1, .int .i64 t.r2, .int .i64 t.r3, .int .i64 t.code]] w1 fun e w' => e = .panicked ch ∧ Q w') :
  Calls Tryz.prog 30 #[.pointer (some ⟨R, 0, none⟩), .agg #[.int .i64 t.kind, .int .i64 t.at', .int .i64 t.num, .string t.str, .int .i64 t.c0, .int .i64 t.c1, .int .i64 t.r0, .int .i64 t.r1, .int .i64 t.r2, .int .i64 t.r3, .int .i64 t.code]] w fun e w' => e = .panicked ch ∧ Q w' := by
 have HC : Hid _ := hC
 clear hC
 have c := hR.cell
 have fz := hR.fro
 have lt := hR.lt
 go_enter Tryz.func30, Tryz.ntmps30
 go_wp2_with (go_at_call 56; refine (HC.out _ zq1).mono ?_; rintro e w9 ⟨rfl, q9⟩)
 exact ⟨rfl, rfl, q9⟩
theorem take_0tr (w : World) (R : Nat) (tb vn vo vr : Value) (nm : Tk) (ct : Nat) (t : Tk) (hR : Own w R #[tb, .int .i64 0, .int .i64 nm.kind, .int .i64 nm.at', .int .i64 nm.num, .string nm.str, .int .i64 nm.c0, .int .i64 nm.c1, .int .i64 nm.r0, .int .i64 nm.r1, .int .i64 nm.r2, .int .i64 nm.r3, .int .i64 nm.code, vn, vo, vr, .int .i64 (ct : Nat)]) (Q : World → Prop)  (hC : ∀ w1, Below w.heap.size w w1 → Calls Tryz.prog 56 #[.pointer (some ⟨R, 0, none⟩), .agg #[.int .i64 t.kind, .int .i64 t.at', .int .i64 t.num, .string t.str, .int .i64 t.c0, .int .i64 t.c1, .int .i64 t.r0, .int .i64 t.r1, .int .i64 t.r2, .int .i64 t.r3, .int .i64 t.code]] w1 fun e w' => (∃ v, e = .returned v) ∧ Q w') :
  Calls Tryz.prog 30 #[.pointer (some ⟨R, 0, none⟩), .agg #[.int .i64 t.kind, .int .i64 t.at', .int .i64 t.num, .string t.str, .int .i64 t.c0, .int .i64 t.c1, .int .i64 t.r0, .int .i64 t.r1, .int .i64 t.r2, .int .i64 t.r3, .int .i64 t.code]] w fun e w' => (∃ v, e = .returned v) ∧ Q w' := by
 have HC : Hid _ := hC
 clear hC
 have c := hR.cell
 have fz := hR.fro
 have lt := hR.lt
 go_enter Tryz.func30, Tryz.ntmps30
 go_wp2_with (go_at_call 56; refine (HC.out _ zq1).mono ?_; rintro e w9 ⟨⟨v9, rfl⟩, q9⟩)
 exact ⟨rfl, _, results_none rfl _ _ _, ⟨_, rfl⟩, q9⟩
theorem take_0tp (w : World) (R : Nat) (tb vn vo vr : Value) (nm : Tk) (ct : Nat) (t : Tk) (hR : Own w R #[tb, .int .i64 0, .int .i64 nm.kind, .int .i64 nm.at', .int .i64 nm.num, .string nm.str, .int .i64 nm.c0, .int .i64 nm.c1, .int .i64 nm.r0, .int .i64 nm.r1, .int .i64 nm.r2, .int .i64 nm.r3, .int .i64 nm.code, vn, vo, vr, .int .i64 (ct : Nat)]) (ch : List PanicEntry) (Q : World → Prop)  (hC : ∀ w1, Below w.heap.size w w1 → Calls Tryz.prog 56 #[.pointer (some ⟨R, 0, none⟩), .agg #[.int .i64 t.kind, .int .i64 t.at', .int .i64 t.num, .string t.str, .int .i64 t.c0, .int .i64 t.c1, .int .i64 t.r0, .int .i64 t.r1, .int .i64 t.r2, .int .i64 t.r3, .int .i64 t.code]] w1 fun e w' => e = .panicked ch ∧ Q w') :
  Calls Tryz.prog 30 #[.pointer (some ⟨R, 0, none⟩), .agg #[.int .i64 t.kind, .int .i64 t.at', .int .i64 t.num, .string t.str, .int .i64 t.c0, .int .i64 t.c1, .int .i64 t.r0, .int .i64 t.r1, .int .i64 t.r2, .int .i64 t.r3, .int .i64 t.code]] w fun e w' => e = .panicked ch ∧ Q w' := by
 have HC : Hid _ := hC
 clear hC
 have c := hR.cell
 have fz := hR.fro
 have lt := hR.lt
 go_enter Tryz.func30, Tryz.ntmps30
 go_wp2_with (go_at_call 56; refine (HC.out _ zq1).mono ?_; rintro e w9 ⟨rfl, q9⟩)
 exact ⟨rfl, rfl, q9⟩
theorem take_3r (w : World) (R : Nat) (tb vn vo vr : Value) (nm : Tk) (ct : Nat) (t : Tk) (hR : Own w R #[tb, .int .i64 3, .int .i64 nm.kind, .int .i64 nm.at', .int .i64 nm.num, .string nm.str, .int .i64 nm.c0, .int .i64 nm.c1, .int .i64 nm.r0, .int .i64 nm.r1, .int .i64 nm.r2, .int .i64 nm.r3, .int .i64 nm.code, vn, vo, vr, .int .i64 (ct : Nat)]) (Q : World → Prop)  (hC : ∀ w1, Below w.heap.size w w1 → Calls Tryz.prog 57 #[.pointer (some ⟨R, 0, none⟩), .agg #[.int .i64 t.kind, .int .i64 t.at', .int .i64 t.num, .string t.str, .int .i64 t.c0, .int .i64 t.c1, .int .i64 t.r0, .int .i64 t.r1, .int .i64 t.r2, .int .i64 t.r3, .int .i64 t.code]] w1 fun e w' => (∃ v, e = .returned v) ∧ Q w') :
  Calls Tryz.prog 30 #[.pointer (some ⟨R, 0, none⟩), .agg #[.int .i64 t.kind, .int .i64 t.at', .int .i64 t.num, .string t.str, .int .i64 t.c0, .int .i64 t.c1, .int .i64 t.r0, .int .i64 t.r1, .int .i64 t.r2, .int .i64 t.r3, .int .i64 t.code]] w fun e w' => (∃ v, e = .returned v) ∧ Q w' := by
 have HC : Hid _ := hC
 clear hC
 have c := hR.cell
 have fz := hR.fro
 have lt := hR.lt
 go_enter Tryz.func30, Tryz.ntmps30
 go_wp2_with (go_at_call 57; refine (HC.out _ zq1).mono ?_; rintro e w9 ⟨⟨v9, rfl⟩, q9⟩)
 exact ⟨rfl, _, results_none rfl _ _ _, ⟨_, rfl⟩, q9⟩
theorem take_3p (w : World) (R : Nat) (tb vn vo vr : Value) (nm : Tk) (ct : Nat) (t : Tk) (hR : Own w R #[tb, .int .i64 3, .int .i64 nm.kind, .int .i64 nm.at', .int .i64 nm.num, .string nm.str, .int .i64 nm.c0, .int .i64 nm.c1, .int .i64 nm.r0, .int .i64 nm.r1, .int .i64 nm.r2, .int .i64 nm.r3, .int .i64 nm.code, vn, vo, vr, .int .i64 (ct : Nat)]) (ch : List PanicEntry) (Q : World → Prop)  (hC : ∀ w1, Below w.heap.size w w1 → Calls Tryz.prog 57 #[.pointer (some ⟨R, 0, none⟩), .agg #[.int .i64 t.kind, .int .i64 t.at', .int .i64 t.num, .string t.str, .int .i64 t.c0, .int .i64 t.c1, .int .i64 t.r0, .int .i64 t.r1, .int .i64 t.r2, .int .i64 t.r3, .int .i64 t.code]] w1 fun e w' => e = .panicked ch ∧ Q w') :
  Calls Tryz.prog 30 #[.pointer (some ⟨R, 0, none⟩), .agg #[.int .i64 t.kind, .int .i64 t.at', .int .i64 t.num, .string t.str, .int .i64 t.c0, .int .i64 t.c1, .int .i64 t.r0, .int .i64 t.r1, .int .i64 t.r2, .int .i64 t.r3, .int .i64 t.code]] w fun e w' => e = .panicked ch ∧ Q w' := by
 have HC : Hid _ := hC
 clear hC
 have c := hR.cell
 have fz := hR.fro
 have lt := hR.lt
 go_enter Tryz.func30, Tryz.ntmps30
 go_wp2_with (go_at_call 57; refine (HC.out _ zq1).mono ?_; rintro e w9 ⟨rfl, q9⟩)
 exact ⟨rfl, rfl, q9⟩
theorem take_4r (w : World) (R : Nat) (tb vn vo vr : Value) (nm : Tk) (ct : Nat) (t : Tk) (hR : Own w R #[tb, .int .i64 4, .int .i64 nm.kind, .int .i64 nm.at', .int .i64 nm.num, .string nm.str, .int .i64 nm.c0, .int .i64 nm.c1, .int .i64 nm.r0, .int .i64 nm.r1, .int .i64 nm.r2, .int .i64 nm.r3, .int .i64 nm.code, vn, vo, vr, .int .i64 (ct : Nat)]) (Q : World → Prop)  (hC : ∀ w1, Below w.heap.size w w1 → Calls Tryz.prog 58 #[.pointer (some ⟨R, 0, none⟩), .agg #[.int .i64 t.kind, .int .i64 t.at', .int .i64 t.num, .string t.str, .int .i64 t.c0, .int .i64 t.c1, .int .i64 t.r0, .int .i64 t.r1, .int .i64 t.r2, .int .i64 t.r3, .int .i64 t.code]] w1 fun e w' => (∃ v, e = .returned v) ∧ Q w') :
  Calls Tryz.prog 30 #[.pointer (some ⟨R, 0, none⟩), .agg #[.int .i64 t.kind, .int .i64 t.at', .int .i64 t.num, .string t.str, .int .i64 t.c0, .int .i64 t.c1, .int .i64 t.r0, .int .i64 t.r1, .int .i64 t.r2, .int .i64 t.r3, .int .i64 t.code]] w fun e w' => (∃ v, e = .returned v) ∧ Q w' := by
 have HC : Hid _ := hC
 clear hC
 have c := hR.cell
 have fz := hR.fro
 have lt := hR.lt
 go_enter Tryz.func30, Tryz.ntmps30
 go_wp2_with (go_at_call 58; refine (HC.out _ zq1).mono ?_; rintro e w9 ⟨⟨v9, rfl⟩, q9⟩)
 exact ⟨rfl, _, results_none rfl _ _ _, ⟨_, rfl⟩, q9⟩
theorem take_4p (w : World) (R : Nat) (tb vn vo vr : Value) (nm : Tk) (ct : Nat) (t : Tk) (hR : Own w R #[tb, .int .i64 4, .int .i64 nm.kind, .int .i64 nm.at', .int .i64 nm.num, .string nm.str, .int .i64 nm.c0, .int .i64 nm.c1, .int .i64 nm.r0, .int .i64 nm.r1, .int .i64 nm.r2, .int .i64 nm.r3, .int .i64 nm.code, vn, vo, vr, .int .i64 (ct : Nat)]) (ch : List PanicEntry) (Q : World → Prop)  (hC : ∀ w1, Below w.heap.size w w1 → Calls Tryz.prog 58 #[.pointer (some ⟨R, 0, none⟩), .agg #[.int .i64 t.kind, .int .i64 t.at', .int .i64 t.num, .string t.str, .int .i64 t.c0, .int .i64 t.c1, .int .i64 t.r0, .int .i64 t.r1, .int .i64 t.r2, .int .i64 t.r3, .int .i64 t.code]] w1 fun e w' => e = .panicked ch ∧ Q w') :
  Calls Tryz.prog 30 #[.pointer (some ⟨R, 0, none⟩), .agg #[.int .i64 t.kind, .int .i64 t.at', .int .i64 t.num, .string t.str, .int .i64 t.c0, .int .i64 t.c1, .int .i64 t.r0, .int .i64 t.r1, .int .i64 t.r2, .int .i64 t.r3, .int .i64 t.code]] w fun e w' => e = .panicked ch ∧ Q w' := by
 have HC : Hid _ := hC
 clear hC
 have c := hR.cell
 have fz := hR.fro
 have lt := hR.lt
 go_enter Tryz.func30, Tryz.ntmps30
 go_wp2_with (go_at_call 58; refine (HC.out _ zq1).mono ?_; rintro e w9 ⟨rfl, q9⟩)
 exact ⟨rfl, rfl, q9⟩
theorem take_5r (w : World) (R : Nat) (tb vn vo vr : Value) (nm : Tk) (ct : Nat) (t : Tk) (hR : Own w R #[tb, .int .i64 5, .int .i64 nm.kind, .int .i64 nm.at', .int .i64 nm.num, .string nm.str, .int .i64 nm.c0, .int .i64 nm.c1, .int .i64 nm.r0, .int .i64 nm.r1, .int .i64 nm.r2, .int .i64 nm.r3, .int .i64 nm.code, vn, vo, vr, .int .i64 (ct : Nat)]) (Q : World → Prop)  (hC : ∀ w1, Below w.heap.size w w1 → Calls Tryz.prog 59 #[.pointer (some ⟨R, 0, none⟩), .agg #[.int .i64 t.kind, .int .i64 t.at', .int .i64 t.num, .string t.str, .int .i64 t.c0, .int .i64 t.c1, .int .i64 t.r0, .int .i64 t.r1, .int .i64 t.r2, .int .i64 t.r3, .int .i64 t.code]] w1 fun e w' => (∃ v, e = .returned v) ∧ Q w') :
  Calls Tryz.prog 30 #[.pointer (some ⟨R, 0, none⟩), .agg #[.int .i64 t.kind, .int .i64 t.at', .int .i64 t.num, .string t.str, .int .i64 t.c0, .int .i64 t.c1, .int .i64 t.r0, .int .i64 t.r1, .int .i64 t.r2, .int .i64 t.r3, .int .i64 t.code]] w fun e w' => (∃ v, e = .returned v) ∧ Q w' := by
 have HC : Hid _ := hC
 clear hC
 have c := hR.cell
 have fz := hR.fro
 have lt := hR.lt
 go_enter Tryz.func30, Tryz.ntmps30
 go_wp2_with (go_at_call 59; refine (HC.out _ zq1).mono ?_; rintro e w9 ⟨⟨v9, rfl⟩, q9⟩)
 exact ⟨rfl, _, results_none rfl _ _ _, ⟨_, rfl⟩, q9⟩
theorem take_5p (w : World) (R : Nat) (tb vn vo vr : Value) (nm : Tk) (ct : Nat) (t : Tk) (hR : Own w R #[tb, .int .i64 5, .int .i64 nm.kind, .int .i64 nm.at', .int .i64 nm.num, .string nm.str, .int .i64 nm.c0, .int .i64 nm.c1, .int .i64 nm.r0, .int .i64 nm.r1, .int .i64 nm.r2, .int .i64 nm.r3, .int .i64 nm.code, vn, vo, vr, .int .i64 (ct : Nat)]) (ch : List PanicEntry) (Q : World → Prop)  (hC : ∀ w1, Below w.heap.size w w1 → Calls Tryz.prog 59 #[.pointer (some ⟨R, 0, none⟩), .agg #[.int .i64 t.kind, .int .i64 t.at', .int .i64 t.num, .string t.str, .int .i64 t.c0, .int .i64 t.c1, .int .i64 t.r0, .int .i64 t.r1, .int .i64 t.r2, .int .i64 t.r3, .int .i64 t.code]] w1 fun e w' => e = .panicked ch ∧ Q w') :
  Calls Tryz.prog 30 #[.pointer (some ⟨R, 0, none⟩), .agg #[.int .i64 t.kind, .int .i64 t.at', .int .i64 t.num, .string t.str, .int .i64 t.c0, .int .i64 t.c1, .int .i64 t.r0, .int .i64 t.r1, .int .i64 t.r2, .int .i64 t.r3, .int .i64 t.code]] w fun e w' => e = .panicked ch ∧ Q w' := by
 have HC : Hid _ := hC
 clear hC
 have c := hR.cell
 have fz := hR.fro
 have lt := hR.lt
 go_enter Tryz.func30, Tryz.ntmps30
 go_wp2_with (go_at_call 59; refine (HC.out _ zq1).mono ?_; rintro e w9 ⟨rfl, q9⟩)
 exact ⟨rfl, rfl, q9⟩
theorem take_2rr (w : World) (R : Nat) (tb vn vo vr : Value) (nm : Tk) (ct : Nat) (t : Tk) (hR : Own w R #[tb, .int .i64 2, .int .i64 nm.kind, .int .i64 nm.at', .int .i64 nm.num, .string nm.str, .int .i64 nm.c0, .int .i64 nm.c1, .int .i64 nm.r0, .int .i64 nm.r1, .int .i64 nm.r2, .int .i64 nm.r3, .int .i64 nm.code, vn, vo, vr, .int .i64 (ct : Nat)]) (Q : Value → World → Prop) (h1 : sgB t ⟨#[41]⟩ = false) (hk : (t.kind == 5) = true) (hC : ∀ w1, Below w.heap.size w w1 → Calls Tryz.prog 55 #[.pointer (some ⟨R, 0, none⟩), .agg #[.int .i64 3, .int .i64 0, .int .i64 0, .string ⟨#[]⟩, .bool false, .int .i64 0, .int .i64 0, .int .i64 0, .int .i64 t.r0, .int .i64 t.r1, .int .i64 t.r2, .int .i64 t.r3, .int .i64 0, .string ⟨#[]⟩, .int .i64 0], .int .i64 t.at'] w1 fun e w' => (∃ v, e = .returned v) ∧ ∃ x', Own w' R #[tb, .int .i64 2, .int .i64 nm.kind, .int .i64 nm.at', .int .i64 nm.num, .string nm.str, .int .i64 nm.c0, .int .i64 nm.c1, .int .i64 nm.r0, .int .i64 nm.r1, .int .i64 nm.r2, .int .i64 nm.r3, .int .i64 nm.code, x', vo, vr, .int .i64 (ct : Nat)] ∧ Q x' w') :
  Calls Tryz.prog 30 #[.pointer (some ⟨R, 0, none⟩), .agg #[.int .i64 t.kind, .int .i64 t.at', .int .i64 t.num, .string t.str, .int .i64 t.c0, .int .i64 t.c1, .int .i64 t.r0, .int .i64 t.r1, .int .i64 t.r2, .int .i64 t.r3, .int .i64 t.code]] w fun e w' => (∃ v, e = .returned v) ∧ ∃ x' w5, Q x' w5 ∧ w' = w5.setCell ⟨R, 1, none⟩ (.int .i64 5) ∧ Own w' R #[tb, .int .i64 5, .int .i64 nm.kind, .int .i64 nm.at', .int .i64 nm.num, .string nm.str, .int .i64 nm.c0, .int .i64 nm.c1, .int .i64 nm.r0, .int .i64 nm.r1, .int .i64 nm.r2, .int .i64 nm.r3, .int .i64 nm.code, x', vo, vr, .int .i64 (ct : Nat)] := by
 have HC : Hid _ := hC
 clear hC
 have H1 : Hid _ := h1
 clear h1
 have c := hR.cell
 have fz := hR.fro
 have lt := hR.lt
 go_enter Tryz.func30, Tryz.ntmps30
 go_wp2_with (first | (go_at_call 53; refine (isSign_any t _ _).mono ?_; rw [H1.out]; rintro e w1 ⟨rfl, hb1⟩; have hB1 := bux w zq1 hb1; have oT1 := keepT t (w.heap.size) zq4 hb1; have cT1 := oT1.cell; have lT1 := oT1.lt; have oR1 : Own w1 R #[tb, .int .i64 2, .int .i64 nm.kind, .int .i64 nm.at', .int .i64 nm.num, .string nm.str, .int .i64 nm.c0, .int .i64 nm.c1, .int .i64 nm.r0, .int .i64 nm.r1, .int .i64 nm.r2, .int .i64 nm.r3, .int .i64 nm.code, vn, vo, vr, .int .i64 (ct : Nat)] := Own.keep zq4 hb1; have cR1 := oR1.cell; have fR1 := oR1.fro; have lR1 := oR1.lt) | (go_at_call 55; refine (HC.out _ zq1).mono ?_; rintro e w9 ⟨⟨v9, rfl⟩, x9, q1, q2⟩; have c9 := q1.cell; have f9 := q1.fro; have l9 := q1.lt))
 exact ⟨rfl, _, results_none rfl _ _ _, ⟨_, rfl⟩, x9, w9, q2, rfl, own_p1 q1⟩
theorem take_2rp (w : World) (R : Nat) (tb vn vo vr : Value) (nm : Tk) (ct : Nat) (t : Tk) (hR : Own w R #[tb, .int .i64 2, .int .i64 nm.kind, .int .i64 nm.at', .int .i64 nm.num, .string nm.str, .int .i64 nm.c0, .int .i64 nm.c1, .int .i64 nm.r0, .int .i64 nm.r1, .int .i64 nm.r2, .int .i64 nm.r3, .int .i64 nm.code, vn, vo, vr, .int .i64 (ct : Nat)]) (ch : List PanicEntry) (Q : World → Prop) (h1 : sgB t ⟨#[41]⟩ = false) (hk : (t.kind == 5) = true) (hC : ∀ w1, Below w.heap.size w w1 → Calls Tryz.prog 55 #[.pointer (some ⟨R, 0, none⟩), .agg #[.int .i64 3, .int .i64 0, .int .i64 0, .string ⟨#[]⟩, .bool false, .int .i64 0, .int .i64 0, .int .i64 0, .int .i64 t.r0, .int .i64 t.r1, .int .i64 t.r2, .int .i64 t.r3, .int .i64 0, .string ⟨#[]⟩, .int .i64 0], .int .i64 t.at'] w1 fun e w' => e = .panicked ch ∧ Q w') :
  Calls Tryz.prog 30 #[.pointer (some ⟨R, 0, none⟩), .agg #[.int .i64 t.kind, .int .i64 t.at', .int .i64 t.num, .string t.str, .int .i64 t.c0, .int .i64 t.c1, .int .i64 t.r0, .int .i64 t.r1, .int .i64 t.r2, .int .i64 t.r3, .int .i64 t.code]] w fun e w' => e = .panicked ch ∧ Q w' := by
 have HC : Hid _ := hC
 clear hC
 have H1 : Hid _ := h1
 clear h1
 have c := hR.cell
 have fz := hR.fro
 have lt := hR.lt
 go_enter Tryz.func30, Tryz.ntmps30
 go_wp2_with (first | (go_at_call 53; refine (isSign_any t _ _).mono ?_; rw [H1.out]; rintro e w1 ⟨rfl, hb1⟩; have hB1 := bux w zq1 hb1; have oT1 := keepT t (w.heap.size) zq4 hb1; have cT1 := oT1.cell; have lT1 := oT1.lt; have oR1 : Own w1 R #[tb, .int .i64 2, .int .i64 nm.kind, .int .i64 nm.at', .int .i64 nm.num, .string nm.str, .int .i64 nm.c0, .int .i64 nm.c1, .int .i64 nm.r0, .int .i64 nm.r1, .int .i64 nm.r2, .int .i64 nm.r3, .int .i64 nm.code, vn, vo, vr, .int .i64 (ct : Nat)] := Own.keep zq4 hb1; have cR1 := oR1.cell; have fR1 := oR1.fro; have lR1 := oR1.lt) | (go_at_call 55; refine (HC.out _ zq1).mono ?_; rintro e w9 ⟨rfl, q9⟩))
 exact ⟨rfl, rfl, q9⟩
theorem take_1rr (w : World) (R : Nat) (tb vn vo vr : Value) (nm : Tk) (ct : Nat) (t : Tk) (hR : Own w R #[tb, .int .i64 1, .int .i64 nm.kind, .int .i64 nm.at', .int .i64 nm.num, .string nm.str, .int .i64 nm.c0, .int .i64 nm.c1, .int .i64 nm.r0, .int .i64 nm.r1, .int .i64 nm.r2, .int .i64 nm.r3, .int .i64 nm.code, vn, vo, vr, .int .i64 (ct : Nat)]) (Q : Value → World → Prop) (hk : (t.kind == 5) = true) (hC : ∀ w1, Below w.heap.size w w1 → Calls Tryz.prog 55 #[.pointer (some ⟨R, 0, none⟩), .agg #[.int .i64 3, .int .i64 0, .int .i64 0, .string ⟨#[]⟩, .bool false, .int .i64 0, .int .i64 0, .int .i64 0, .int .i64 t.r0, .int .i64 t.r1, .int .i64 t.r2, .int .i64 t.r3, .int .i64 0, .string ⟨#[]⟩, .int .i64 0], .int .i64 t.at'] w1 fun e w' => (∃ v, e = .returned v) ∧ ∃ x', Own w' R #[tb, .int .i64 1, .int .i64 nm.kind, .int .i64 nm.at', .int .i64 nm.num, .string nm.str, .int .i64 nm.c0, .int .i64 nm.c1, .int .i64 nm.r0, .int .i64 nm.r1, .int .i64 nm.r2, .int .i64 nm.r3, .int .i64 nm.code, x', vo, vr, .int .i64 (ct : Nat)] ∧ Q x' w') :
  Calls Tryz.prog 30 #[.pointer (some ⟨R, 0, none⟩), .agg #[.int .i64 t.kind, .int .i64 t.at', .int .i64 t.num, .string t.str, .int .i64 t.c0, .int .i64 t.c1, .int .i64 t.r0, .int .i64 t.r1, .int .i64 t.r2, .int .i64 t.r3, .int .i64 t.code]] w fun e w' => (∃ v, e = .returned v) ∧ ∃ x' w5, Q x' w5 ∧ w' = w5.setCell ⟨R, 1, none⟩ (.int .i64 5) ∧ Own w' R #[tb, .int .i64 5, .int .i64 nm.kind, .int .i64 nm.at', .int .i64 nm.num, .string nm.str, .int .i64 nm.c0, .int .i64 nm.c1, .int .i64 nm.r0, .int .i64 nm.r1, .int .i64 nm.r2, .int .i64 nm.r3, .int .i64 nm.code, x', vo, vr, .int .i64 (ct : Nat)] := by
 have HC : Hid _ := hC
 clear hC
 have c := hR.cell
 have fz := hR.fro
 have lt := hR.lt
 go_enter Tryz.func30, Tryz.ntmps30
 go_wp2_with (go_at_call 55; refine (HC.out _ zq1).mono ?_; rintro e w9 ⟨⟨v9, rfl⟩, x9, q1, q2⟩; have c9 := q1.cell; have f9 := q1.fro; have l9 := q1.lt)
 exact ⟨rfl, _, results_none rfl _ _ _, ⟨_, rfl⟩, x9, w9, q2, rfl, own_p1 q1⟩
theorem take_1rp (w : World) (R : Nat) (tb vn vo vr : Value) (nm : Tk) (ct : Nat) (t : Tk) (hR : Own w R #[tb, .int .i64 1, .int .i64 nm.kind, .int .i64 nm.at', .int .i64 nm.num, .string nm.str, .int .i64 nm.c0, .int .i64 nm.c1, .int .i64 nm.r0, .int .i64 nm.r1, .int .i64 nm.r2, .int .i64 nm.r3, .int .i64 nm.code, vn, vo, vr, .int .i64 (ct : Nat)]) (ch : List PanicEntry) (Q : World → Prop) (hk : (t.kind == 5) = true) (hC : ∀ w1, Below w.heap.size w w1 → Calls Tryz.prog 55 #[.pointer (some ⟨R, 0, none⟩), .agg #[.int .i64 3, .int .i64 0, .int .i64 0, .string ⟨#[]⟩, .bool false, .int .i64 0, .int .i64 0, .int .i64 0, .int .i64 t.r0, .int .i64 t.r1, .int .i64 t.r2, .int .i64 t.r3, .int .i64 0, .string ⟨#[]⟩, .int .i64 0], .int .i64 t.at'] w1 fun e w' => e = .panicked ch ∧ Q w') :
  Calls Tryz.prog 30 #[.pointer (some ⟨R, 0, none⟩), .agg #[.int .i64 t.kind, .int .i64 t.at', .int .i64 t.num, .string t.str, .int .i64 t.c0, .int .i64 t.c1, .int .i64 t.r0, .int .i64 t.r1, .int .i64 t.r2, .int .i64 t.r3, .int .i64 t.code]] w fun e w' => e = .panicked ch ∧ Q w' := by
 have HC : Hid _ := hC
 clear hC
 have c := hR.cell
 have fz := hR.fro
 have lt := hR.lt
 go_enter Tryz.func30, Tryz.ntmps30
 go_wp2_with (go_at_call 55; refine (HC.out _ zq1).mono ?_; rintro e w9 ⟨rfl, q9⟩)
 exact ⟨rfl, rfl, q9⟩
end Go.Proofs.YtcmjhjnpcogmgaaGreatDoor
