/- The contract of the reader's takeThing: what a thing is, or begins with -/
import Derived.Test.YtcmjhjnpcogmgaaGreatDoorUAuto
import Derived.Test.YtcmjhjnpcogmgaaGreatDoorUPDPD2PD3
import Derived.Test.YtcmjhjnpcogmgaaGreatDoorUPN3
set_option linter.all false
set_option maxRecDepth 100000
set_option maxHeartbeats 4000000
namespace Go.Proofs.YtcmjhjnpcogmgaaGreatDoor
open Go.Shelf Go.RowKit
theorem thing_ar (w : World) (R : Nat) (tb vn vo vr : Value) (pl : Int) (nm : Tk) (ct : Nat) (t : Tk) (hsz : t.str.size ≤ 281474976710656) (hR : Own w R #[tb, .int .i64 pl, .int .i64 nm.kind, .int .i64 nm.at', .int .i64 nm.num, .string nm.str, .int .i64 nm.c0, .int .i64 nm.c1, .int .i64 nm.r0, .int .i64 nm.r1, .int .i64 nm.r2, .int .i64 nm.r3, .int .i64 nm.code, vn, vo, vr, .int .i64 (ct : Nat)]) (Q : Value → World → Prop) (n : Rf.Nd) (hl : leafN t = some n) (hC : ∀ w1, Below w.heap.size w w1 → Calls Tryz.prog 55 #[.pointer (some ⟨R, 0, none⟩), .agg #[.int .i64 n.kind, .int .i64 n.tag, .int .i64 n.num, .string n.str, .bool n.is, .int .i64 n.code, .int .i64 n.row, .int .i64 n.col, .int .i64 n.top, .int .i64 n.left, .int .i64 n.bot, .int .i64 n.right, .int .i64 n.op, .string n.name, .int .i64 n.args], .int .i64 t.at'] w1 fun e w' => (∃ v, e = .returned v) ∧ ∃ x', Own w' R #[tb, .int .i64 pl, .int .i64 nm.kind, .int .i64 nm.at', .int .i64 nm.num, .string nm.str, .int .i64 nm.c0, .int .i64 nm.c1, .int .i64 nm.r0, .int .i64 nm.r1, .int .i64 nm.r2, .int .i64 nm.r3, .int .i64 nm.code, x', vo, vr, .int .i64 (ct : Nat)] ∧ Q x' w') :
  Calls Tryz.prog 56 #[.pointer (some ⟨R, 0, none⟩), .agg #[.int .i64 t.kind, .int .i64 t.at', .int .i64 t.num, .string t.str, .int .i64 t.c0, .int .i64 t.c1, .int .i64 t.r0, .int .i64 t.r1, .int .i64 t.r2, .int .i64 t.r3, .int .i64 t.code]] w fun e w' => (∃ v, e = .returned v) ∧ ∃ x' w5, Q x' w5 ∧ w' = w5.setCell ⟨R, 1, none⟩ (.int .i64 4) ∧ Own w' R #[tb, .int .i64 4, .int .i64 nm.kind, .int .i64 nm.at', .int .i64 nm.num, .string nm.str, .int .i64 nm.c0, .int .i64 nm.c1, .int .i64 nm.r0, .int .i64 nm.r1, .int .i64 nm.r2, .int .i64 nm.r3, .int .i64 nm.code, x', vo, vr, .int .i64 (ct : Nat)] := by
 have HC : Hid _ := hC
 clear hC
 have HL : Hid (leafV t = .tuple #[.agg #[.int .i64 n.kind, .int .i64 n.tag, .int .i64 n.num, .string n.str, .bool n.is, .int .i64 n.code, .int .i64 n.row, .int .i64 n.col, .int .i64 n.top, .int .i64 n.left, .int .i64 n.bot, .int .i64 n.right, .int .i64 n.op, .string n.name, .int .i64 n.args], .bool true]) := by show _ = _; unfold leafV; rw [hl]; rfl
 clear hl
 have mixed : Tryz.prog.follows .mixedOrders = true := by kernel_rfl
 have c := hR.cell
 have fz := hR.fro
 have lt := hR.lt
 go_enter Tryz.func56, Tryz.ntmps56
 go_wp2_with (first | (go_at_call 91; refine (leaf_any t _ hsz).mono ?_; rw [HL.out]; rintro e w2 ⟨rfl, hb2⟩; have hB2 := bux w zq1 hb2; have oT2 := keepT t (w.heap.size) zq4 hb2; have cT2 := oT2.cell; have lT2 := oT2.lt; have oR2 := keepN tb pl nm vn vo vr ct (R) zq4 hb2; have cR2 := oR2.cell; have fR2 := oR2.fro; have lR2 := oR2.lt; have zz2 := hB2.size) | (go_at_call 55; refine (HC.out _ zq1).mono ?_; rintro e w9 ⟨⟨v9, rfl⟩, x9, q1, q2⟩; have c9 := q1.cell; have f9 := q1.fro; have l9 := q1.lt))
 exact ⟨rfl, _, results_none rfl _ _ _, ⟨_, rfl⟩, x9, w9, q2, rfl, own_p1 q1⟩
theorem thing_ap (w : World) (R : Nat) (tb vn vo vr : Value) (pl : Int) (nm : Tk) (ct : Nat) (t : Tk) (hsz : t.str.size ≤ 281474976710656) (hR : Own w R #[tb, .int .i64 pl, .int .i64 nm.kind, .int .i64 nm.at', .int .i64 nm.num, .string nm.str, .int .i64 nm.c0, .int .i64 nm.c1, .int .i64 nm.r0, .int .i64 nm.r1, .int .i64 nm.r2, .int .i64 nm.r3, .int .i64 nm.code, vn, vo, vr, .int .i64 (ct : Nat)]) (ch : List PanicEntry) (Q : World → Prop) (n : Rf.Nd) (hl : leafN t = some n) (hC : ∀ w1, Below w.heap.size w w1 → Calls Tryz.prog 55 #[.pointer (some ⟨R, 0, none⟩), .agg #[.int .i64 n.kind, .int .i64 n.tag, .int .i64 n.num, .string n.str, .bool n.is, .int .i64 n.code, .int .i64 n.row, .int .i64 n.col, .int .i64 n.top, .int .i64 n.left, .int .i64 n.bot, .int .i64 n.right, .int .i64 n.op, .string n.name, .int .i64 n.args], .int .i64 t.at'] w1 fun e w' => e = .panicked ch ∧ Q w') :
  Calls Tryz.prog 56 #[.pointer (some ⟨R, 0, none⟩), .agg #[.int .i64 t.kind, .int .i64 t.at', .int .i64 t.num, .string t.str, .int .i64 t.c0, .int .i64 t.c1, .int .i64 t.r0, .int .i64 t.r1, .int .i64 t.r2, .int .i64 t.r3, .int .i64 t.code]] w fun e w' => e = .panicked ch ∧ Q w' := by
 have HC : Hid _ := hC
 clear hC
 have HL : Hid (leafV t = .tuple #[.agg #[.int .i64 n.kind, .int .i64 n.tag, .int .i64 n.num, .string n.str, .bool n.is, .int .i64 n.code, .int .i64 n.row, .int .i64 n.col, .int .i64 n.top, .int .i64 n.left, .int .i64 n.bot, .int .i64 n.right, .int .i64 n.op, .string n.name, .int .i64 n.args], .bool true]) := by show _ = _; unfold leafV; rw [hl]; rfl
 clear hl
 have mixed : Tryz.prog.follows .mixedOrders = true := by kernel_rfl
 have c := hR.cell
 have fz := hR.fro
 have lt := hR.lt
 go_enter Tryz.func56, Tryz.ntmps56
 go_wp2_with (first | (go_at_call 91; refine (leaf_any t _ hsz).mono ?_; rw [HL.out]; rintro e w2 ⟨rfl, hb2⟩; have hB2 := bux w zq1 hb2; have oT2 := keepT t (w.heap.size) zq4 hb2; have cT2 := oT2.cell; have lT2 := oT2.lt; have oR2 := keepN tb pl nm vn vo vr ct (R) zq4 hb2; have cR2 := oR2.cell; have fR2 := oR2.fro; have lR2 := oR2.lt; have zz2 := hB2.size) | (go_at_call 55; refine (HC.out _ zq1).mono ?_; rintro e w9 ⟨rfl, q9⟩))
 exact ⟨rfl, rfl, q9⟩
theorem thing_wr (w : World) (R : Nat) (tb vn vo vr : Value) (pl : Int) (nm : Tk) (ct : Nat) (t : Tk) (hsz : t.str.size ≤ 281474976710656) (hR : Own w R #[tb, .int .i64 pl, .int .i64 nm.kind, .int .i64 nm.at', .int .i64 nm.num, .string nm.str, .int .i64 nm.c0, .int .i64 nm.c1, .int .i64 nm.r0, .int .i64 nm.r1, .int .i64 nm.r2, .int .i64 nm.r3, .int .i64 nm.code, vn, vo, vr, .int .i64 (ct : Nat)]) (Q : World → Prop) (hl : leafN t = none) (hk : (t.kind == 3) = true) (hC : ∀ w1, Below w.heap.size w w1 → Calls Tryz.prog 92 #[.pointer (some ⟨R, 0, none⟩), .agg #[.int .i64 t.kind, .int .i64 t.at', .int .i64 t.num, .string t.str, .int .i64 t.c0, .int .i64 t.c1, .int .i64 t.r0, .int .i64 t.r1, .int .i64 t.r2, .int .i64 t.r3, .int .i64 t.code]] w1 fun e w' => (∃ v, e = .returned v) ∧ Q w') :
  Calls Tryz.prog 56 #[.pointer (some ⟨R, 0, none⟩), .agg #[.int .i64 t.kind, .int .i64 t.at', .int .i64 t.num, .string t.str, .int .i64 t.c0, .int .i64 t.c1, .int .i64 t.r0, .int .i64 t.r1, .int .i64 t.r2, .int .i64 t.r3, .int .i64 t.code]] w fun e w' => (∃ v, e = .returned v) ∧ Q w' := by
 have HC : Hid _ := hC
 clear hC
 have HL : Hid (leafV t = .tuple #[.agg #[.int .i64 0, .int .i64 0, .int .i64 0, .string ⟨#[]⟩, .bool false, .int .i64 0, .int .i64 0, .int .i64 0, .int .i64 0, .int .i64 0, .int .i64 0, .int .i64 0, .int .i64 0, .string ⟨#[]⟩, .int .i64 0], .bool false]) := by show _ = _; unfold leafV; rw [hl]
 clear hl
 have mixed : Tryz.prog.follows .mixedOrders = true := by kernel_rfl
 have c := hR.cell
 have fz := hR.fro
 have lt := hR.lt
 go_enter Tryz.func56, Tryz.ntmps56
 go_wp2_with (first | (go_at_call 91; refine (leaf_any t _ hsz).mono ?_; rw [HL.out]; rintro e w2 ⟨rfl, hb2⟩; have hB2 := bux w zq1 hb2; have oT2 := keepT t (w.heap.size) zq4 hb2; have cT2 := oT2.cell; have lT2 := oT2.lt; have oR2 := keepN tb pl nm vn vo vr ct (R) zq4 hb2; have cR2 := oR2.cell; have fR2 := oR2.fro; have lR2 := oR2.lt; have zz2 := hB2.size) | (go_at_call 92; refine (HC.out _ zq1).mono ?_; rintro e w9 ⟨⟨v9, rfl⟩, q9⟩))
 exact ⟨rfl, _, results_none rfl _ _ _, ⟨_, rfl⟩, q9⟩
theorem thing_wp (w : World) (R : Nat) (tb vn vo vr : Value) (pl : Int) (nm : Tk) (ct : Nat) (t : Tk) (hsz : t.str.size ≤ 281474976710656) (hR : Own w R #[tb, .int .i64 pl, .int .i64 nm.kind, .int .i64 nm.at', .int .i64 nm.num, .string nm.str, .int .i64 nm.c0, .int .i64 nm.c1, .int .i64 nm.r0, .int .i64 nm.r1, .int .i64 nm.r2, .int .i64 nm.r3, .int .i64 nm.code, vn, vo, vr, .int .i64 (ct : Nat)]) (ch : List PanicEntry) (Q : World → Prop) (hl : leafN t = none) (hk : (t.kind == 3) = true) (hC : ∀ w1, Below w.heap.size w w1 → Calls Tryz.prog 92 #[.pointer (some ⟨R, 0, none⟩), .agg #[.int .i64 t.kind, .int .i64 t.at', .int .i64 t.num, .string t.str, .int .i64 t.c0, .int .i64 t.c1, .int .i64 t.r0, .int .i64 t.r1, .int .i64 t.r2, .int .i64 t.r3, .int .i64 t.code]] w1 fun e w' => e = .panicked ch ∧ Q w') :
  Calls Tryz.prog 56 #[.pointer (some ⟨R, 0, none⟩), .agg #[.int .i64 t.kind, .int .i64 t.at', .int .i64 t.num, .string t.str, .int .i64 t.c0, .int .i64 t.c1, .int .i64 t.r0, .int .i64 t.r1, .int .i64 t.r2, .int .i64 t.r3, .int .i64 t.code]] w fun e w' => e = .panicked ch ∧ Q w' := by
 have HC : Hid _ := hC
 clear hC
 have HL : Hid (leafV t = .tuple #[.agg #[.int .i64 0, .int .i64 0, .int .i64 0, .string ⟨#[]⟩, .bool false, .int .i64 0, .int .i64 0, .int .i64 0, .int .i64 0, .int .i64 0, .int .i64 0, .int .i64 0, .int .i64 0, .string ⟨#[]⟩, .int .i64 0], .bool false]) := by show _ = _; unfold leafV; rw [hl]
 clear hl
 have mixed : Tryz.prog.follows .mixedOrders = true := by kernel_rfl
 have c := hR.cell
 have fz := hR.fro
 have lt := hR.lt
 go_enter Tryz.func56, Tryz.ntmps56
 go_wp2_with (first | (go_at_call 91; refine (leaf_any t _ hsz).mono ?_; rw [HL.out]; rintro e w2 ⟨rfl, hb2⟩; have hB2 := bux w zq1 hb2; have oT2 := keepT t (w.heap.size) zq4 hb2; have cT2 := oT2.cell; have lT2 := oT2.lt; have oR2 := keepN tb pl nm vn vo vr ct (R) zq4 hb2; have cR2 := oR2.cell; have fR2 := oR2.fro; have lR2 := oR2.lt; have zz2 := hB2.size) | (go_at_call 92; refine (HC.out _ zq1).mono ?_; rintro e w9 ⟨rfl, q9⟩))
 exact ⟨rfl, rfl, q9⟩
theorem thing_br (w : World) (R : Nat) (tb vn vo vr : Value) (pl : Int) (nm : Tk) (ct : Nat) (t : Tk) (hsz : t.str.size ≤ 281474976710656) (hR : Own w R #[tb, .int .i64 pl, .int .i64 nm.kind, .int .i64 nm.at', .int .i64 nm.num, .string nm.str, .int .i64 nm.c0, .int .i64 nm.c1, .int .i64 nm.r0, .int .i64 nm.r1, .int .i64 nm.r2, .int .i64 nm.r3, .int .i64 nm.code, vn, vo, vr, .int .i64 (ct : Nat)]) (Q : Value → World → Prop) (hl : leafN t = none) (hk : (t.kind == 3) = false) (h1 : sgB t ⟨#[40]⟩ = true) (hC : ∀ w1, Below w.heap.size w w1 → Calls Tryz.prog 93 #[.pointer (some ⟨R, 0, none⟩), .int .i64 t.at', .agg #[.int .i64 0, .int .i64 0, .int .i64 0, .string ⟨#[]⟩, .int .i64 0, .int .i64 0, .int .i64 0, .int .i64 0, .int .i64 0, .int .i64 0, .int .i64 0]] w1 fun e w' => (∃ v, e = .returned v) ∧ ∃ x', Own w' R #[tb, .int .i64 pl, .int .i64 nm.kind, .int .i64 nm.at', .int .i64 nm.num, .string nm.str, .int .i64 nm.c0, .int .i64 nm.c1, .int .i64 nm.r0, .int .i64 nm.r1, .int .i64 nm.r2, .int .i64 nm.r3, .int .i64 nm.code, vn, x', vr, .int .i64 (ct : Nat)] ∧ Q x' w') :
  Calls Tryz.prog 56 #[.pointer (some ⟨R, 0, none⟩), .agg #[.int .i64 t.kind, .int .i64 t.at', .int .i64 t.num, .string t.str, .int .i64 t.c0, .int .i64 t.c1, .int .i64 t.r0, .int .i64 t.r1, .int .i64 t.r2, .int .i64 t.r3, .int .i64 t.code]] w fun e w' => (∃ v, e = .returned v) ∧ ∃ x' w5, Q x' w5 ∧ w' = w5.setCell ⟨R, 1, none⟩ (.int .i64 0) ∧ Own w' R #[tb, .int .i64 0, .int .i64 nm.kind, .int .i64 nm.at', .int .i64 nm.num, .string nm.str, .int .i64 nm.c0, .int .i64 nm.c1, .int .i64 nm.r0, .int .i64 nm.r1, .int .i64 nm.r2, .int .i64 nm.r3, .int .i64 nm.code, vn, x', vr, .int .i64 (ct : Nat)] := by
 have HC : Hid _ := hC
 clear hC
 have HL : Hid (leafV t = .tuple #[.agg #[.int .i64 0, .int .i64 0, .int .i64 0, .string ⟨#[]⟩, .bool false, .int .i64 0, .int .i64 0, .int .i64 0, .int .i64 0, .int .i64 0, .int .i64 0, .int .i64 0, .int .i64 0, .string ⟨#[]⟩, .int .i64 0], .bool false]) := by show _ = _; unfold leafV; rw [hl]
 clear hl
 have H1 : Hid _ := h1
 clear h1
 have mixed : Tryz.prog.follows .mixedOrders = true := by kernel_rfl
 have c := hR.cell
 have fz := hR.fro
 have lt := hR.lt
 go_enter Tryz.func56, Tryz.ntmps56
 go_wp2_with (first | (go_at_call 91; refine (leaf_any t _ hsz).mono ?_; rw [HL.out]; rintro e w2 ⟨rfl, hb2⟩; have hB2 := bux w zq1 hb2; have oT2 := keepT t (w.heap.size) zq4 hb2; have cT2 := oT2.cell; have lT2 := oT2.lt; have oR2 := keepN tb pl nm vn vo vr ct (R) zq4 hb2; have cR2 := oR2.cell; have fR2 := oR2.fro; have lR2 := oR2.lt; have zz2 := hB2.size) | (go_at_call 53; refine (isSign_any t _ _).mono ?_; (first | rw [H1.out]); rintro e w1 ⟨rfl, hb1⟩; have hB1 := bux w zq1 hb1; have oT1 := keepT t (w.heap.size) zq4 hb1; have cT1 := oT1.cell; have lT1 := oT1.lt; have oR1 := keepN tb pl nm vn vo vr ct (R) zq4 hb1; have cR1 := oR1.cell; have fR1 := oR1.fro; have lR1 := oR1.lt; have zz1 := hB1.size) | (go_at_call 93; refine (HC.out _ zq1).mono ?_; rintro e w9 ⟨⟨v9, rfl⟩, x9, q1, q2⟩; have c9 := q1.cell; have f9 := q1.fro; have l9 := q1.lt))
 exact ⟨rfl, _, results_none rfl _ _ _, ⟨_, rfl⟩, x9, w9, q2, rfl, own_p1 q1⟩
theorem thing_bp (w : World) (R : Nat) (tb vn vo vr : Value) (pl : Int) (nm : Tk) (ct : Nat) (t : Tk) (hsz : t.str.size ≤ 281474976710656) (hR : Own w R #[tb, .int .i64 pl, .int .i64 nm.kind, .int .i64 nm.at', .int .i64 nm.num, .string nm.str, .int .i64 nm.c0, .int .i64 nm.c1, .int .i64 nm.r0, .int .i64 nm.r1, .int .i64 nm.r2, .int .i64 nm.r3, .int .i64 nm.code, vn, vo, vr, .int .i64 (ct : Nat)]) (ch : List PanicEntry) (Q : World → Prop) (hl : leafN t = none) (hk : (t.kind == 3) = false) (h1 : sgB t ⟨#[40]⟩ = true) (hC : ∀ w1, Below w.heap.size w w1 → Calls Tryz.prog 93 #[.pointer (some ⟨R, 0, none⟩), .int .i64 t.at', .agg #[.int .i64 0, .int .i64 0, .int .i64 0, .string ⟨#[]⟩, .int .i64 0, .int .i64 0, .int .i64 0, .int .i64 0, .int .i64 0, .int .i64 0, .int .i64 0]] w1 fun e w' => e = .panicked ch ∧ Q w') :
  Calls Tryz.prog 56 #[.pointer (some ⟨R, 0, none⟩), .agg #[.int .i64 t.kind, .int .i64 t.at', .int .i64 t.num, .string t.str, .int .i64 t.c0, .int .i64 t.c1, .int .i64 t.r0, .int .i64 t.r1, .int .i64 t.r2, .int .i64 t.r3, .int .i64 t.code]] w fun e w' => e = .panicked ch ∧ Q w' := by
 have HC : Hid _ := hC
 clear hC
 have HL : Hid (leafV t = .tuple #[.agg #[.int .i64 0, .int .i64 0, .int .i64 0, .string ⟨#[]⟩, .bool false, .int .i64 0, .int .i64 0, .int .i64 0, .int .i64 0, .int .i64 0, .int .i64 0, .int .i64 0, .int .i64 0, .string ⟨#[]⟩, .int .i64 0], .bool false]) := by show _ = _; unfold leafV; rw [hl]
 clear hl
 have H1 : Hid _ := h1
 clear h1
 have mixed : Tryz.prog.follows .mixedOrders = true := by kernel_rfl
 have c := hR.cell
 have fz := hR.fro
 have lt := hR.lt
 go_enter Tryz.func56, Tryz.ntmps56
 go_wp2_with (first | (go_at_call 91; refine (leaf_any t _ hsz).mono ?_; rw [HL.out]; rintro e w2 ⟨rfl, hb2⟩; have hB2 := bux w zq1 hb2; have oT2 := keepT t (w.heap.size) zq4 hb2; have cT2 := oT2.cell; have lT2 := oT2.lt; have oR2 := keepN tb pl nm vn vo vr ct (R) zq4 hb2; have cR2 := oR2.cell; have fR2 := oR2.fro; have lR2 := oR2.lt; have zz2 := hB2.size) | (go_at_call 53; refine (isSign_any t _ _).mono ?_; (first | rw [H1.out]); rintro e w1 ⟨rfl, hb1⟩; have hB1 := bux w zq1 hb1; have oT1 := keepT t (w.heap.size) zq4 hb1; have cT1 := oT1.cell; have lT1 := oT1.lt; have oR1 := keepN tb pl nm vn vo vr ct (R) zq4 hb1; have cR1 := oR1.cell; have fR1 := oR1.fro; have lR1 := oR1.lt; have zz1 := hB1.size) | (go_at_call 93; refine (HC.out _ zq1).mono ?_; rintro e w9 ⟨rfl, q9⟩))
 exact ⟨rfl, rfl, q9⟩
theorem thing_n (w : World) (R : Nat) (tb vn vo vr : Value) (pl : Int) (nm : Tk) (ct : Nat) (t : Tk) (hsz : t.str.size ≤ 281474976710656) (hR : Own w R #[tb, .int .i64 pl, .int .i64 nm.kind, .int .i64 nm.at', .int .i64 nm.num, .string nm.str, .int .i64 nm.c0, .int .i64 nm.c1, .int .i64 nm.r0, .int .i64 nm.r1, .int .i64 nm.r2, .int .i64 nm.r3, .int .i64 nm.code, vn, vo, vr, .int .i64 (ct : Nat)]) (hl : leafN t = none) (hk : (t.kind == 3) = false) (h1 : sgB t ⟨#[40]⟩ = false) (h2 : sgB t ⟨#[45]⟩ = false) :
  Calls Tryz.prog 56 #[.pointer (some ⟨R, 0, none⟩), .agg #[.int .i64 t.kind, .int .i64 t.at', .int .i64 t.num, .string t.str, .int .i64 t.c0, .int .i64 t.c1, .int .i64 t.r0, .int .i64 t.r1, .int .i64 t.r2, .int .i64 t.r3, .int .i64 t.code]] w fun e w' => e = .panicked (refC 8 t.at') ∧ Below w.heap.size w w' := by
 have HL : Hid (leafV t = .tuple #[.agg #[.int .i64 0, .int .i64 0, .int .i64 0, .string ⟨#[]⟩, .bool false, .int .i64 0, .int .i64 0, .int .i64 0, .int .i64 0, .int .i64 0, .int .i64 0, .int .i64 0, .int .i64 0, .string ⟨#[]⟩, .int .i64 0], .bool false]) := by show _ = _; unfold leafV; rw [hl]
 clear hl
 have H1 : Hid _ := h1
 have H2 : Hid _ := h2
 clear h1 h2
 have mixed : Tryz.prog.follows .mixedOrders = true := by kernel_rfl
 have c := hR.cell
 have fz := hR.fro
 have lt := hR.lt
 go_enter Tryz.func56, Tryz.ntmps56
 go_wp2_with (first | (go_at_call 91; refine (leaf_any t _ hsz).mono ?_; rw [HL.out]; rintro e w2 ⟨rfl, hb2⟩; have hB2 := bux w zq1 hb2; have oT2 := keepT t (w.heap.size) zq4 hb2; have cT2 := oT2.cell; have lT2 := oT2.lt; have oR2 := keepN tb pl nm vn vo vr ct (R) zq4 hb2; have cR2 := oR2.cell; have fR2 := oR2.fro; have lR2 := oR2.lt; have zz2 := hB2.size) | (go_at_call 53; refine (isSign_any t _ _).mono ?_; (first | rw [H1.out] | rw [H2.out]); rintro e w1 ⟨rfl, hb1⟩; have hB1 := bux w zq1 hb1; have oT1 := keepT t (w.heap.size) zq4 hb1; have cT1 := oT1.cell; have lT1 := oT1.lt; have oR1 := keepN tb pl nm vn vo vr ct (R) zq4 hb1; have cR1 := oR1.cell; have fR1 := oR1.fro; have lR1 := oR1.lt; have zz1 := hB1.size) | (go_at_call 88; refine (refuse_any 8 t.at' _).mono ?_; rintro e w5 ⟨rfl, hb5⟩; have hB5 := bux w zq1 hb5))
 exact ⟨rfl, rfl, hB5⟩
theorem thing_m (w : World) (R : Nat) (tb vn vo vr : Value) (pl : Int) (nm : Tk) (ct : Nat) (t : Tk) (hsz : t.str.size ≤ 281474976710656) (hR : Own w R #[tb, .int .i64 pl, .int .i64 nm.kind, .int .i64 nm.at', .int .i64 nm.num, .string nm.str, .int .i64 nm.c0, .int .i64 nm.c1, .int .i64 nm.r0, .int .i64 nm.r1, .int .i64 nm.r2, .int .i64 nm.r3, .int .i64 nm.code, vn, vo, vr, .int .i64 (ct : Nat)]) (Q : Value → World → Prop) (hl : leafN t = none) (hk : (t.kind == 3) = false) (h1 : sgB t ⟨#[40]⟩ = false) (h2 : sgB t ⟨#[45]⟩ = true) (hC : ∀ w1, Below w.heap.size w w1 → Calls Tryz.prog 94 #[.pointer (some ⟨R, 15, none⟩), .agg #[.int .i64 1, .int .i64 t.at']] w1 fun e w' => (∃ v, e = .returned v) ∧ ∃ x', Own w' R #[tb, .int .i64 pl, .int .i64 nm.kind, .int .i64 nm.at', .int .i64 nm.num, .string nm.str, .int .i64 nm.c0, .int .i64 nm.c1, .int .i64 nm.r0, .int .i64 nm.r1, .int .i64 nm.r2, .int .i64 nm.r3, .int .i64 nm.code, vn, vo, x', .int .i64 ((ct : Int) + 1)] ∧ Q x' w') :
  Calls Tryz.prog 56 #[.pointer (some ⟨R, 0, none⟩), .agg #[.int .i64 t.kind, .int .i64 t.at', .int .i64 t.num, .string t.str, .int .i64 t.c0, .int .i64 t.c1, .int .i64 t.r0, .int .i64 t.r1, .int .i64 t.r2, .int .i64 t.r3, .int .i64 t.code]] w fun e w' => (∃ v, e = .returned v) ∧ ∃ x' w5, Q x' w5 ∧ w' = w5.setCell ⟨R, 1, none⟩ (.int .i64 0) ∧ Own w' R #[tb, .int .i64 0, .int .i64 nm.kind, .int .i64 nm.at', .int .i64 nm.num, .string nm.str, .int .i64 nm.c0, .int .i64 nm.c1, .int .i64 nm.r0, .int .i64 nm.r1, .int .i64 nm.r2, .int .i64 nm.r3, .int .i64 nm.code, vn, vo, x', .int .i64 ((ct : Int) + 1)] := by
 have HC : Hid _ := hC
 clear hC
 have HL : Hid (leafV t = .tuple #[.agg #[.int .i64 0, .int .i64 0, .int .i64 0, .string ⟨#[]⟩, .bool false, .int .i64 0, .int .i64 0, .int .i64 0, .int .i64 0, .int .i64 0, .int .i64 0, .int .i64 0, .int .i64 0, .string ⟨#[]⟩, .int .i64 0], .bool false]) := by show _ = _; unfold leafV; rw [hl]
 clear hl
 have H1 : Hid _ := h1
 have H2 : Hid _ := h2
 clear h1 h2
 have mixed : Tryz.prog.follows .mixedOrders = true := by kernel_rfl
 have c := hR.cell
 have fz := hR.fro
 have lt := hR.lt
 go_enter Tryz.func56, Tryz.ntmps56
 go_wp2_with (first | (go_at_call 91; refine (leaf_any t _ hsz).mono ?_; rw [HL.out]; rintro e w2 ⟨rfl, hb2⟩; have hB2 := bux w zq1 hb2; have oT2 := keepT t (w.heap.size) zq4 hb2; have cT2 := oT2.cell; have lT2 := oT2.lt; have oR2 := keepN tb pl nm vn vo vr ct (R) zq4 hb2; have cR2 := oR2.cell; have fR2 := oR2.fro; have lR2 := oR2.lt; have zz2 := hB2.size) | (go_at_call 53; refine (isSign_any t _ _).mono ?_; (first | rw [H1.out] | rw [H2.out]); rintro e w1 ⟨rfl, hb1⟩; have hB1 := bux w zq1 hb1; have oT1 := keepT t (w.heap.size) zq4 hb1; have cT1 := oT1.cell; have lT1 := oT1.lt; have oR1 := keepN tb pl nm vn vo vr ct (R) zq4 hb1; have cR1 := oR1.cell; have fR1 := oR1.fro; have lR1 := oR1.lt; have zz1 := hB1.size))
 go_region_with (go_at_call 94; refine (HC.out _ zq1).mono ?_; rintro e w9 ⟨⟨v9, rfl⟩, x9, q1, q2⟩; have c9 := q1.cell; have f9 := q1.fro; have l9 := q1.lt)
 all_goals go_wp2
 all_goals exact ⟨rfl, _, results_none rfl _ _ _, ⟨_, rfl⟩, x9, w9, q2, rfl, own_p1 q1⟩
end Go.Proofs.YtcmjhjnpcogmgaaGreatDoor
