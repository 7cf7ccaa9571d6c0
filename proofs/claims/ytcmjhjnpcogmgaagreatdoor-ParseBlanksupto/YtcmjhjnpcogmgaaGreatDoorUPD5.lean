/- The contract of the reader's takeWorking: an operation that works on the thing ahead of it -/
import Derived.Test.YtcmjhjnpcogmgaaGreatDoorUAuto
import Derived.Test.YtcmjhjnpcogmgaaGreatDoorUPD4
set_option linter.all false
set_option maxRecDepth 100000
set_option maxHeartbeats 4000000
namespace Go.Proofs.YtcmjhjnpcogmgaaGreatDoor
open Go.Shelf Go.RowKit
theorem pct_r (w : World) (R : Nat) (tb vn vo vr : Value) (pl : Int) (nm : Tk) (ct : Nat) (t : Tk) (hR : Own w R #[tb, .int .i64 pl, .int .i64 nm.kind, .int .i64 nm.at', .int .i64 nm.num, .string nm.str, .int .i64 nm.c0, .int .i64 nm.c1, .int .i64 nm.r0, .int .i64 nm.r1, .int .i64 nm.r2, .int .i64 nm.r3, .int .i64 nm.code, vn, vo, vr, .int .i64 (ct : Nat)]) (Q : World → Prop) (h1 : sgB t ⟨#[37]⟩ = true) (hC : ∀ w1, Below w.heap.size w w1 → Calls Tryz.prog 55 #[.pointer (some ⟨R, 0, none⟩), .agg #[.int .i64 4, .int .i64 0, .int .i64 0, .string ⟨#[]⟩, .bool false, .int .i64 0, .int .i64 0, .int .i64 0, .int .i64 0, .int .i64 0, .int .i64 0, .int .i64 0, .int .i64 2, .string ⟨#[]⟩, .int .i64 0], .int .i64 t.at'] w1 fun e w' => (∃ v, e = .returned v) ∧ Q w') :
  Calls Tryz.prog 58 #[.pointer (some ⟨R, 0, none⟩), .agg #[.int .i64 t.kind, .int .i64 t.at', .int .i64 t.num, .string t.str, .int .i64 t.c0, .int .i64 t.c1, .int .i64 t.r0, .int .i64 t.r1, .int .i64 t.r2, .int .i64 t.r3, .int .i64 t.code]] w fun e w' => (∃ v, e = .returned v) ∧ Q w' := by
 have HC : Hid _ := hC
 clear hC
 have mixed : Tryz.prog.follows .mixedOrders = true := by kernel_rfl
 have H1 : Hid _ := h1
 clear h1
 have c := hR.cell
 have fz := hR.fro
 have lt := hR.lt
 go_enter Tryz.func58, Tryz.ntmps58
 go_wp2_with (go_at_call 53; refine (isSign_any t _ _).mono ?_; rw [H1.out]; rintro e w1 ⟨rfl, hb1⟩; have hB1 := bux w zq1 hb1; have oT1 := keepT t (w.heap.size) zq4 hb1; have cT1 := oT1.cell; have lT1 := oT1.lt; have oR1 := keepN tb pl nm vn vo vr ct (R) zq4 hb1; have cR1 := oR1.cell; have fR1 := oR1.fro; have lR1 := oR1.lt; have zz1 := hB1.size)
 go_region_with (first | (go_at_call 95; refine (opNode_any 2 _).mono ?_; rintro e w2 ⟨rfl, hb2⟩; have hB2 := bux w zq1 hb2; have oT2 := keepT t (w.heap.size) zq4 hb2; have cT2 := oT2.cell; have lT2 := oT2.lt; have oR2 := keepN tb pl nm vn vo vr ct (R) zq4 hb2; have cR2 := oR2.cell; have fR2 := oR2.fro; have lR2 := oR2.lt; have zz2 := hB2.size) | (go_at_call 55; refine (HC.out _ zq1).mono ?_; rintro e w9 ⟨⟨v9, rfl⟩, q9⟩))
 all_goals go_wp2
 all_goals exact ⟨rfl, _, results_none rfl _ _ _, ⟨_, rfl⟩, q9⟩
theorem pct_p (w : World) (R : Nat) (tb vn vo vr : Value) (pl : Int) (nm : Tk) (ct : Nat) (t : Tk) (hR : Own w R #[tb, .int .i64 pl, .int .i64 nm.kind, .int .i64 nm.at', .int .i64 nm.num, .string nm.str, .int .i64 nm.c0, .int .i64 nm.c1, .int .i64 nm.r0, .int .i64 nm.r1, .int .i64 nm.r2, .int .i64 nm.r3, .int .i64 nm.code, vn, vo, vr, .int .i64 (ct : Nat)]) (ch : List PanicEntry) (Q : World → Prop) (h1 : sgB t ⟨#[37]⟩ = true) (hC : ∀ w1, Below w.heap.size w w1 → Calls Tryz.prog 55 #[.pointer (some ⟨R, 0, none⟩), .agg #[.int .i64 4, .int .i64 0, .int .i64 0, .string ⟨#[]⟩, .bool false, .int .i64 0, .int .i64 0, .int .i64 0, .int .i64 0, .int .i64 0, .int .i64 0, .int .i64 0, .int .i64 2, .string ⟨#[]⟩, .int .i64 0], .int .i64 t.at'] w1 fun e w' => e = .panicked ch ∧ Q w') :
  Calls Tryz.prog 58 #[.pointer (some ⟨R, 0, none⟩), .agg #[.int .i64 t.kind, .int .i64 t.at', .int .i64 t.num, .string t.str, .int .i64 t.c0, .int .i64 t.c1, .int .i64 t.r0, .int .i64 t.r1, .int .i64 t.r2, .int .i64 t.r3, .int .i64 t.code]] w fun e w' => e = .panicked ch ∧ Q w' := by
 have HC : Hid _ := hC
 clear hC
 have mixed : Tryz.prog.follows .mixedOrders = true := by kernel_rfl
 have H1 : Hid _ := h1
 clear h1
 have c := hR.cell
 have fz := hR.fro
 have lt := hR.lt
 go_enter Tryz.func58, Tryz.ntmps58
 go_wp2_with (go_at_call 53; refine (isSign_any t _ _).mono ?_; rw [H1.out]; rintro e w1 ⟨rfl, hb1⟩; have hB1 := bux w zq1 hb1; have oT1 := keepT t (w.heap.size) zq4 hb1; have cT1 := oT1.cell; have lT1 := oT1.lt; have oR1 := keepN tb pl nm vn vo vr ct (R) zq4 hb1; have cR1 := oR1.cell; have fR1 := oR1.fro; have lR1 := oR1.lt; have zz1 := hB1.size)
 refine wp_region_held_drew (S := (fun w' => w'.cell? ⟨w.heap.size, 1, none⟩ = some (.int .i64 t.at'))) zq14 (by (try dsimp only); ((repeat' apply And.intro) <;> (first | (go_keep; done) | (go_simp; done)))) (fun hHeld => ?_)
 refine wpAnyH_take (i := 0) (v := .pointer (some ⟨R, 0, none⟩)) rfl zq14 zq14 zq14 (fun _ _ _ h => h) (Or.inl ⟨by rfl, by intro wz hSw; (try dsimp only at hSw); go_simp⟩) zq15 ?_
 (try simp only [Act.put, List.setIfInBounds_toArray, List.set_cons_zero, List.set_cons_succ])
 refine wpAnyH_take (i := 2) (v := .pointer (some ⟨w.heap.size, 1, none⟩)) rfl zq14 zq14 zq14 (fun _ _ _ h => h) (Or.inl ⟨by rfl, by intro wz hSw; (try dsimp only at hSw); go_simp⟩) zq15 ?_
 (try simp only [Act.put, List.setIfInBounds_toArray, List.set_cons_zero, List.set_cons_succ])
 refine wpAnyH_take (i := 3) (v := .int .i64 t.at') rfl zq14 zq14 zq14 (fun _ _ _ h => h) (Or.inl ⟨by rfl, by intro wz hSw; (try dsimp only at hSw); go_simp⟩) zq15 ?_
 (try simp only [Act.put, List.setIfInBounds_toArray, List.set_cons_zero, List.set_cons_succ])
 refine wpAnyH_ready (rs := [1]) zq14 (by simp) ?_
 refine AllReadyH.cons rfl (fun K hK => ?_) ?_
 ·go_simp
  (go_at_call 95; refine (opNode_any 2 _).mono ?_; rintro e w2 ⟨rfl, hb2⟩; have hB2 := bux w zq1 hb2; have oT2 := keepT t (w.heap.size) zq4 hb2; have cT2 := oT2.cell; have lT2 := oT2.lt; have oR2 := keepN tb pl nm vn vo vr ct (R) zq4 hb2; have cR2 := oR2.cell; have fR2 := oR2.fro; have lR2 := oR2.lt; have zz2 := hB2.size)
  go_wp2_with fail
  refine hK.out _ _ (by (try dsimp only); first | (with_reducible assumption) | ((repeat' apply And.intro) <;> (first | (go_keep; done) | (go_simp; done)))) (fun hHeld => ?_)
  clear hK K
  (try simp only [Act.put, List.setIfInBounds_toArray, List.set_cons_zero, List.set_cons_succ])
  refine wpAnyH_ready (rs := [4]) zq14 (by simp) ?_
  refine AllReadyH.cons rfl (fun K hK => ?_) ?_
  ·go_simp
   (go_at_call 55; refine (HC.out _ zq1).mono ?_; rintro e w9 ⟨rfl, q9⟩)
   exact ⟨rfl, rfl, q9⟩
  exact AllReadyH.nil
 exact AllReadyH.nil
theorem working_np (w : World) (R : Nat) (tb vn vo vr : Value) (pl : Int) (nm : Tk) (ct : Nat) (t : Tk) (hR : Own w R #[tb, .int .i64 pl, .int .i64 nm.kind, .int .i64 nm.at', .int .i64 nm.num, .string nm.str, .int .i64 nm.c0, .int .i64 nm.c1, .int .i64 nm.r0, .int .i64 nm.r1, .int .i64 nm.r2, .int .i64 nm.r3, .int .i64 nm.code, vn, vo, vr, .int .i64 (ct : Nat)]) (ch : List PanicEntry) (Q : World → Prop) (hS : Sgn w) (h1 : sgB t ⟨#[37]⟩ = false) (ho : oprI t = none) (hW : ∀ w1, Below w.heap.size w w1 → Calls Tryz.prog 97 #[.pointer (some ⟨R, 0, none⟩), .int .i64 0] w1 fun e w' => e = .panicked ch ∧ Q w') :
  Calls Tryz.prog 58 #[.pointer (some ⟨R, 0, none⟩), .agg #[.int .i64 t.kind, .int .i64 t.at', .int .i64 t.num, .string t.str, .int .i64 t.c0, .int .i64 t.c1, .int .i64 t.r0, .int .i64 t.r1, .int .i64 t.r2, .int .i64 t.r3, .int .i64 t.code]] w fun e w' => e = .panicked ch ∧ Q w' := by
 have HW : Hid _ := hW
 clear hW
 have HOP : Hid (∀ w1, Below w.heap.size w w1 → Calls Tryz.prog 96 #[.agg #[.int .i64 t.kind, .int .i64 t.at', .int .i64 t.num, .string t.str, .int .i64 t.c0, .int .i64 t.c1, .int .i64 t.r0, .int .i64 t.r1, .int .i64 t.r2, .int .i64 t.r3, .int .i64 t.code]] w1 fun e w' => e = .returned (oprV t) ∧ Below w1.heap.size w1 w') := fun w1 hb => operation_any t w1 (hS.of (hb.block _ hS.lt))
 have HV : Hid (oprV t = .tuple #[.int .i64 0, .bool false]) := by show _ = _; unfold oprV; rw [ho]
 clear ho
 have mixed : Tryz.prog.follows .mixedOrders = true := by kernel_rfl
 have H1 : Hid _ := h1
 clear h1
 have c := hR.cell
 have fz := hR.fro
 have lt := hR.lt
 go_enter Tryz.func58, Tryz.ntmps58
 go_wp2_with (first | (go_at_call 53; refine (isSign_any t _ _).mono ?_; rw [H1.out]; rintro e w1 ⟨rfl, hb1⟩; have hB1 := bux w zq1 hb1; have oT1 := keepT t (w.heap.size) zq4 hb1; have cT1 := oT1.cell; have lT1 := oT1.lt; have oR1 := keepN tb pl nm vn vo vr ct (R) zq4 hb1; have cR1 := oR1.cell; have fR1 := oR1.fro; have lR1 := oR1.lt; have zz1 := hB1.size) | (go_at_call 96; refine (HOP.out _ zq1).mono ?_; rw [HV.out]; rintro e w2 ⟨rfl, hb2⟩; have hB2 := bux w zq1 hb2; have oT2 := keepT t (w.heap.size) zq4 hb2; have cT2 := oT2.cell; have lT2 := oT2.lt; have oR2 := keepN tb pl nm vn vo vr ct (R) zq4 hb2; have cR2 := oR2.cell; have fR2 := oR2.fro; have lR2 := oR2.lt; have zz2 := hB2.size) | (go_at_call 97; refine (HW.out _ zq1).mono ?_; rintro e w9 ⟨rfl, q9⟩))
 exact ⟨rfl, rfl, q9⟩
theorem working_op (w : World) (R : Nat) (tb vn vo vr : Value) (pl : Int) (nm : Tk) (ct : Nat) (t : Tk) (hR : Own w R #[tb, .int .i64 pl, .int .i64 nm.kind, .int .i64 nm.at', .int .i64 nm.num, .string nm.str, .int .i64 nm.c0, .int .i64 nm.c1, .int .i64 nm.r0, .int .i64 nm.r1, .int .i64 nm.r2, .int .i64 nm.r3, .int .i64 nm.code, vn, vo, vr, .int .i64 (ct : Nat)]) (ch : List PanicEntry) (Q : World → Prop) (hS : Sgn w) (h1 : sgB t ⟨#[37]⟩ = false) (i : Nat) (ho : oprI t = some i) (hW : ∀ w1, Below w.heap.size w w1 → Calls Tryz.prog 97 #[.pointer (some ⟨R, 0, none⟩), .int .i64 (Rf.levI (3 + (i : Int)))] w1 fun e w' => e = .panicked ch ∧ Q w') :
  Calls Tryz.prog 58 #[.pointer (some ⟨R, 0, none⟩), .agg #[.int .i64 t.kind, .int .i64 t.at', .int .i64 t.num, .string t.str, .int .i64 t.c0, .int .i64 t.c1, .int .i64 t.r0, .int .i64 t.r1, .int .i64 t.r2, .int .i64 t.r3, .int .i64 t.code]] w fun e w' => e = .panicked ch ∧ Q w' := by
 have HW : Hid _ := hW
 clear hW
 have HOP : Hid (∀ w1, Below w.heap.size w w1 → Calls Tryz.prog 96 #[.agg #[.int .i64 t.kind, .int .i64 t.at', .int .i64 t.num, .string t.str, .int .i64 t.c0, .int .i64 t.c1, .int .i64 t.r0, .int .i64 t.r1, .int .i64 t.r2, .int .i64 t.r3, .int .i64 t.code]] w1 fun e w' => e = .returned (oprV t) ∧ Below w1.heap.size w1 w') := fun w1 hb => operation_any t w1 (hS.of (hb.block _ hS.lt))
 have HV : Hid (oprV t = .tuple #[.int .i64 (3 + (i : Int)), .bool true]) := by show _ = _; unfold oprV; rw [ho]
 clear ho
 have mixed : Tryz.prog.follows .mixedOrders = true := by kernel_rfl
 have H1 : Hid _ := h1
 clear h1
 have c := hR.cell
 have fz := hR.fro
 have lt := hR.lt
 go_enter Tryz.func58, Tryz.ntmps58
 go_wp2_with (first | (go_at_call 53; refine (isSign_any t _ _).mono ?_; rw [H1.out]; rintro e w1 ⟨rfl, hb1⟩; have hB1 := bux w zq1 hb1; have oT1 := keepT t (w.heap.size) zq4 hb1; have cT1 := oT1.cell; have lT1 := oT1.lt; have oR1 := keepN tb pl nm vn vo vr ct (R) zq4 hb1; have cR1 := oR1.cell; have fR1 := oR1.fro; have lR1 := oR1.lt; have zz1 := hB1.size) | (go_at_call 96; refine (HOP.out _ zq1).mono ?_; rw [HV.out]; rintro e w2 ⟨rfl, hb2⟩; have hB2 := bux w zq1 hb2; have oT2 := keepT t (w.heap.size) zq4 hb2; have cT2 := oT2.cell; have lT2 := oT2.lt; have oR2 := keepN tb pl nm vn vo vr ct (R) zq4 hb2; have cR2 := oR2.cell; have fR2 := oR2.fro; have lR2 := oR2.lt; have zz2 := hB2.size) | (go_at_call 67; refine (Rf.level_any (3 + (i : Int)) _).mono ?_; rintro e w3 ⟨rfl, hb3⟩; have hB3 := bux w zq1 hb3; have oT3 := keepT t (w.heap.size) zq4 hb3; have cT3 := oT3.cell; have lT3 := oT3.lt; have oR3 := keepN tb pl nm vn vo vr ct (R) zq4 hb3; have cR3 := oR3.cell; have fR3 := oR3.fro; have lR3 := oR3.lt; have zz3 := hB3.size) | (go_at_call 97; refine (HW.out _ zq1).mono ?_; rintro e w9 ⟨rfl, q9⟩))
 exact ⟨rfl, rfl, q9⟩
theorem working_er (w : World) (R : Nat) (tb vn vo vr : Value) (pl : Int) (nm : Tk) (ct : Nat) (t : Tk) (hR : Own w R #[tb, .int .i64 pl, .int .i64 nm.kind, .int .i64 nm.at', .int .i64 nm.num, .string nm.str, .int .i64 nm.c0, .int .i64 nm.c1, .int .i64 nm.r0, .int .i64 nm.r1, .int .i64 nm.r2, .int .i64 nm.r3, .int .i64 nm.code, vn, vo, vr, .int .i64 (ct : Nat)]) (Q Q1 : World → Prop) (S : Nat → Prop) (hSS : ∀ b, S b → b < w.heap.size) (hS : Sgn w) (h1 : sgB t ⟨#[37]⟩ = false) (ho : oprI t = none) (hW : ∀ w1, Below w.heap.size w w1 → Calls Tryz.prog 97 #[.pointer (some ⟨R, 0, none⟩), .int .i64 0] w1 fun e w' => (∃ v, e = .returned v) ∧ Q1 w' ∧ Mut S w1 w') (hE : ∀ w2, Q1 w2 → Calls Tryz.prog 59 #[.pointer (some ⟨R, 0, none⟩), .agg #[.int .i64 t.kind, .int .i64 t.at', .int .i64 t.num, .string t.str, .int .i64 t.c0, .int .i64 t.c1, .int .i64 t.r0, .int .i64 t.r1, .int .i64 t.r2, .int .i64 t.r3, .int .i64 t.code]] w2 fun e w' => (∃ v, e = .returned v) ∧ Q w') :
  Calls Tryz.prog 58 #[.pointer (some ⟨R, 0, none⟩), .agg #[.int .i64 t.kind, .int .i64 t.at', .int .i64 t.num, .string t.str, .int .i64 t.c0, .int .i64 t.c1, .int .i64 t.r0, .int .i64 t.r1, .int .i64 t.r2, .int .i64 t.r3, .int .i64 t.code]] w fun e w' => (∃ v, e = .returned v) ∧ Q w' := by
 have HW : Hid _ := hW
 have HE : Hid _ := hE
 clear hW hE
 have HOP : Hid (∀ w1, Below w.heap.size w w1 → Calls Tryz.prog 96 #[.agg #[.int .i64 t.kind, .int .i64 t.at', .int .i64 t.num, .string t.str, .int .i64 t.c0, .int .i64 t.c1, .int .i64 t.r0, .int .i64 t.r1, .int .i64 t.r2, .int .i64 t.r3, .int .i64 t.code]] w1 fun e w' => e = .returned (oprV t) ∧ Below w1.heap.size w1 w') := fun w1 hb => operation_any t w1 (hS.of (hb.block _ hS.lt))
 have HV : Hid (oprV t = .tuple #[.int .i64 0, .bool false]) := by show _ = _; unfold oprV; rw [ho]
 clear ho
 have mixed : Tryz.prog.follows .mixedOrders = true := by kernel_rfl
 have H1 : Hid _ := h1
 clear h1
 have c := hR.cell
 have fz := hR.fro
 have lt := hR.lt
 go_enter Tryz.func58, Tryz.ntmps58
 go_wp2_with (first | (go_at_call 53; refine (isSign_any t _ _).mono ?_; rw [H1.out]; rintro e w1 ⟨rfl, hb1⟩; have hB1 := bux w zq1 hb1; have oT1 := keepT t (w.heap.size) zq4 hb1; have cT1 := oT1.cell; have lT1 := oT1.lt; have oR1 := keepN tb pl nm vn vo vr ct (R) zq4 hb1; have cR1 := oR1.cell; have fR1 := oR1.fro; have lR1 := oR1.lt; have zz1 := hB1.size) | (go_at_call 96; refine (HOP.out _ zq1).mono ?_; rw [HV.out]; rintro e w2 ⟨rfl, hb2⟩; have hB2 := bux w zq1 hb2; have oT2 := keepT t (w.heap.size) zq4 hb2; have cT2 := oT2.cell; have lT2 := oT2.lt; have oR2 := keepN tb pl nm vn vo vr ct (R) zq4 hb2; have cR2 := oR2.cell; have fR2 := oR2.fro; have lR2 := oR2.lt; have zz2 := hB2.size) | (go_at_call 97; refine (HW.out _ zq1).mono ?_; rintro e w5 ⟨⟨v5, rfl⟩, q5, hm5⟩; have oT5 : Own w5 w.heap.size #[.int .i64 t.kind, .int .i64 t.at', .int .i64 t.num, .string t.str, .int .i64 t.c0, .int .i64 t.c1, .int .i64 t.r0, .int .i64 t.r1, .int .i64 t.r2, .int .i64 t.r3, .int .i64 t.code] := Own.mut zq4 hm5 (fun h => by have := hSS _ h; omega); have cT5 := oT5.cell; have lT5 := oT5.lt) | (go_at_call 59; refine (HE.out _ q5).mono ?_; rintro e w9 ⟨⟨v9, rfl⟩, q9⟩))
 exact ⟨rfl, _, results_none rfl _ _ _, ⟨_, rfl⟩, q9⟩
theorem working_ep (w : World) (R : Nat) (tb vn vo vr : Value) (pl : Int) (nm : Tk) (ct : Nat) (t : Tk) (hR : Own w R #[tb, .int .i64 pl, .int .i64 nm.kind, .int .i64 nm.at', .int .i64 nm.num, .string nm.str, .int .i64 nm.c0, .int .i64 nm.c1, .int .i64 nm.r0, .int .i64 nm.r1, .int .i64 nm.r2, .int .i64 nm.r3, .int .i64 nm.code, vn, vo, vr, .int .i64 (ct : Nat)]) (ch : List PanicEntry) (Q Q1 : World → Prop) (S : Nat → Prop) (hSS : ∀ b, S b → b < w.heap.size) (hS : Sgn w) (h1 : sgB t ⟨#[37]⟩ = false) (ho : oprI t = none) (hW : ∀ w1, Below w.heap.size w w1 → Calls Tryz.prog 97 #[.pointer (some ⟨R, 0, none⟩), .int .i64 0] w1 fun e w' => (∃ v, e = .returned v) ∧ Q1 w' ∧ Mut S w1 w') (hE : ∀ w2, Q1 w2 → Calls Tryz.prog 59 #[.pointer (some ⟨R, 0, none⟩), .agg #[.int .i64 t.kind, .int .i64 t.at', .int .i64 t.num, .string t.str, .int .i64 t.c0, .int .i64 t.c1, .int .i64 t.r0, .int .i64 t.r1, .int .i64 t.r2, .int .i64 t.r3, .int .i64 t.code]] w2 fun e w' => e = .panicked ch ∧ Q w') :
  Calls Tryz.prog 58 #[.pointer (some ⟨R, 0, none⟩), .agg #[.int .i64 t.kind, .int .i64 t.at', .int .i64 t.num, .string t.str, .int .i64 t.c0, .int .i64 t.c1, .int .i64 t.r0, .int .i64 t.r1, .int .i64 t.r2, .int .i64 t.r3, .int .i64 t.code]] w fun e w' => e = .panicked ch ∧ Q w' := by
 have HW : Hid _ := hW
 have HE : Hid _ := hE
 clear hW hE
 have HOP : Hid (∀ w1, Below w.heap.size w w1 → Calls Tryz.prog 96 #[.agg #[.int .i64 t.kind, .int .i64 t.at', .int .i64 t.num, .string t.str, .int .i64 t.c0, .int .i64 t.c1, .int .i64 t.r0, .int .i64 t.r1, .int .i64 t.r2, .int .i64 t.r3, .int .i64 t.code]] w1 fun e w' => e = .returned (oprV t) ∧ Below w1.heap.size w1 w') := fun w1 hb => operation_any t w1 (hS.of (hb.block _ hS.lt))
 have HV : Hid (oprV t = .tuple #[.int .i64 0, .bool false]) := by show _ = _; unfold oprV; rw [ho]
 clear ho
 have mixed : Tryz.prog.follows .mixedOrders = true := by kernel_rfl
 have H1 : Hid _ := h1
 clear h1
 have c := hR.cell
 have fz := hR.fro
 have lt := hR.lt
 go_enter Tryz.func58, Tryz.ntmps58
 go_wp2_with (first | (go_at_call 53; refine (isSign_any t _ _).mono ?_; rw [H1.out]; rintro e w1 ⟨rfl, hb1⟩; have hB1 := bux w zq1 hb1; have oT1 := keepT t (w.heap.size) zq4 hb1; have cT1 := oT1.cell; have lT1 := oT1.lt; have oR1 := keepN tb pl nm vn vo vr ct (R) zq4 hb1; have cR1 := oR1.cell; have fR1 := oR1.fro; have lR1 := oR1.lt; have zz1 := hB1.size) | (go_at_call 96; refine (HOP.out _ zq1).mono ?_; rw [HV.out]; rintro e w2 ⟨rfl, hb2⟩; have hB2 := bux w zq1 hb2; have oT2 := keepT t (w.heap.size) zq4 hb2; have cT2 := oT2.cell; have lT2 := oT2.lt; have oR2 := keepN tb pl nm vn vo vr ct (R) zq4 hb2; have cR2 := oR2.cell; have fR2 := oR2.fro; have lR2 := oR2.lt; have zz2 := hB2.size) | (go_at_call 97; refine (HW.out _ zq1).mono ?_; rintro e w5 ⟨⟨v5, rfl⟩, q5, hm5⟩; have oT5 : Own w5 w.heap.size #[.int .i64 t.kind, .int .i64 t.at', .int .i64 t.num, .string t.str, .int .i64 t.c0, .int .i64 t.c1, .int .i64 t.r0, .int .i64 t.r1, .int .i64 t.r2, .int .i64 t.r3, .int .i64 t.code] := Own.mut zq4 hm5 (fun h => by have := hSS _ h; omega); have cT5 := oT5.cell; have lT5 := oT5.lt) | (go_at_call 59; refine (HE.out _ q5).mono ?_; rintro e w9 ⟨rfl, q9⟩))
 exact ⟨rfl, rfl, q9⟩
theorem working_or (w : World) (R : Nat) (tb vn vo vr : Value) (pl : Int) (nm : Tk) (ct : Nat) (t : Tk) (hR : Own w R #[tb, .int .i64 pl, .int .i64 nm.kind, .int .i64 nm.at', .int .i64 nm.num, .string nm.str, .int .i64 nm.c0, .int .i64 nm.c1, .int .i64 nm.r0, .int .i64 nm.r1, .int .i64 nm.r2, .int .i64 nm.r3, .int .i64 nm.code, vn, vo, vr, .int .i64 (ct : Nat)]) (i : Nat) (Q : World → Prop) (Q1 : World → Prop) (S : Nat → Prop) (A9 : Value → Array Value) (hSS : ∀ b, S b → b < w.heap.size) (hS : Sgn w) (h1 : sgB t ⟨#[37]⟩ = false) (ho : oprI t = some i) (hW : ∀ w1, Below w.heap.size w w1 → Calls Tryz.prog 97 #[.pointer (some ⟨R, 0, none⟩), .int .i64 (Rf.levI (3 + (i : Int)))] w1 fun e w' => (∃ v, e = .returned v) ∧ Q1 w' ∧ Mut S w1 w') (hP : ∀ w2 w3, Q1 w2 → Below w2.heap.size w2 w3 → Calls Tryz.prog 94 #[.pointer (some ⟨R, 15, none⟩), .agg #[.int .i64 (3 + (i : Int)), .int .i64 t.at']] w3 fun e w' => (∃ v, e = .returned v) ∧ (∃ y, Own w' R y ∧ 1 < y.size) ∧ Q w') :
  Calls Tryz.prog 58 #[.pointer (some ⟨R, 0, none⟩), .agg #[.int .i64 t.kind, .int .i64 t.at', .int .i64 t.num, .string t.str, .int .i64 t.c0, .int .i64 t.c1, .int .i64 t.r0, .int .i64 t.r1, .int .i64 t.r2, .int .i64 t.r3, .int .i64 t.code]] w fun e w' => (∃ v, e = .returned v) ∧ ∃ w5, Q w5 ∧ w' = w5.setCell ⟨R, 1, none⟩ (.int .i64 0) := by
 have HW : Hid _ := hW
 have HP : Hid _ := hP
 clear hW hP
 have HOP : Hid (∀ w1, Below w.heap.size w w1 → Calls Tryz.prog 96 #[.agg #[.int .i64 t.kind, .int .i64 t.at', .int .i64 t.num, .string t.str, .int .i64 t.c0, .int .i64 t.c1, .int .i64 t.r0, .int .i64 t.r1, .int .i64 t.r2, .int .i64 t.r3, .int .i64 t.code]] w1 fun e w' => e = .returned (oprV t) ∧ Below w1.heap.size w1 w') := fun w1 hb => operation_any t w1 (hS.of (hb.block _ hS.lt))
 have HV : Hid (oprV t = .tuple #[.int .i64 (3 + (i : Int)), .bool true]) := by show _ = _; unfold oprV; rw [ho]
 clear ho
 have mixed : Tryz.prog.follows .mixedOrders = true := by kernel_rfl
 have H1 : Hid _ := h1
 clear h1
 have c := hR.cell
 have fz := hR.fro
 have lt := hR.lt
 go_enter Tryz.func58, Tryz.ntmps58
 go_wp2_with (first | (go_at_call 53; refine (isSign_any t _ _).mono ?_; rw [H1.out]; rintro e w1 ⟨rfl, hb1⟩; have hB1 := bux w zq1 hb1; have oT1 := keepT t (w.heap.size) zq4 hb1; have cT1 := oT1.cell; have lT1 := oT1.lt; have oR1 := keepN tb pl nm vn vo vr ct (R) zq4 hb1; have cR1 := oR1.cell; have fR1 := oR1.fro; have lR1 := oR1.lt; have zz1 := hB1.size) | (go_at_call 96; refine (HOP.out _ zq1).mono ?_; rw [HV.out]; rintro e w2 ⟨rfl, hb2⟩; have hB2 := bux w zq1 hb2; have oT2 := keepT t (w.heap.size) zq4 hb2; have cT2 := oT2.cell; have lT2 := oT2.lt; have oR2 := keepN tb pl nm vn vo vr ct (R) zq4 hb2; have cR2 := oR2.cell; have fR2 := oR2.fro; have lR2 := oR2.lt; have zz2 := hB2.size) | (go_at_call 67; refine (Rf.level_any (3 + (i : Int)) _).mono ?_; rintro e w3 ⟨rfl, hb3⟩; have hB3 := bux w zq1 hb3; have oT3 := keepT t (w.heap.size) zq4 hb3; have cT3 := oT3.cell; have lT3 := oT3.lt; have oR3 := keepN tb pl nm vn vo vr ct (R) zq4 hb3; have cR3 := oR3.cell; have fR3 := oR3.fro; have lR3 := oR3.lt; have zz3 := hB3.size) | (go_at_call 97; refine (HW.out _ zq1).mono ?_; rintro e w5 ⟨⟨v5, rfl⟩, q5, hm5⟩; have oT5 : Own w5 w.heap.size #[.int .i64 t.kind, .int .i64 t.at', .int .i64 t.num, .string t.str, .int .i64 t.c0, .int .i64 t.c1, .int .i64 t.r0, .int .i64 t.r1, .int .i64 t.r2, .int .i64 t.r3, .int .i64 t.code] := Own.mut zq4 hm5 (fun h => by have := hSS _ h; omega); have cT5 := oT5.cell; have lT5 := oT5.lt))
 go_region_with (go_at_call 94; refine (HP.out _ _ q5 (by with_reducible (repeat' first | exact Below.refl _ _ | refine Below.drew ?_))).mono ?_; rintro e w9 ⟨⟨v9, rfl⟩, ⟨y9, o9, hy9⟩, q9⟩; have c9 : ∃ u, w9.cell? ⟨R, 1, none⟩ = some u := ⟨_, (o9.cell 1).trans (Array.getElem?_eq_getElem hy9)⟩; obtain ⟨u9, c9⟩ := c9; have f9 := o9.fro; have l9 := o9.lt)
 all_goals go_wp2
 all_goals exact ⟨rfl, _, results_none rfl _ _ _, ⟨_, rfl⟩, w9, q9, rfl⟩
end Go.Proofs.YtcmjhjnpcogmgaaGreatDoor
