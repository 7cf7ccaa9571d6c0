/- The contract of the reader's closeBracket: brackets alone, the end of a call with its last -/
import Derived.Test.YtcmjhjnpcogmgaaGreatDoorUAuto
import Derived.Test.YtcmjhjnpcogmgaaGreatDoorUPOPO2
set_option linter.all false
set_option maxRecDepth 100000
set_option maxHeartbeats 4000000
namespace Go.Proofs.YtcmjhjnpcogmgaaGreatDoor
open Go.Shelf Go.RowKit
theorem close_e (w : World) (R : Nat) (tb vn vo vr : Value) (pl : Int) (nm : Tk) (ct : Nat) (p : Option Addr) (cap : Nat) (at' : Int) (hR : Own w R #[tb, .int .i64 pl, .int .i64 nm.kind, .int .i64 nm.at', .int .i64 nm.num, .string nm.str, .int .i64 nm.c0, .int .i64 nm.c1, .int .i64 nm.r0, .int .i64 nm.r1, .int .i64 nm.r2, .int .i64 nm.r3, .int .i64 nm.code, vn, .slice p 0 cap, vr, .int .i64 (ct : Nat)]) :
  Calls Tryz.prog 54 #[.pointer (some ⟨R, 0, none⟩), .int .i64 at'] w fun e w' => e = .panicked (refC 8 at') ∧ Below w.heap.size w w' := by
 have c := hR.cell
 have fz := hR.fro
 have lt := hR.lt
 go_enter Tryz.func54, Tryz.ntmps54
 go_wp2_with (go_at_call 88; refine (refuse_any 8 at' _).mono ?_; rintro e w1 ⟨rfl, hb⟩; have hB1 := bux w zq1 hb)
 exact ⟨rfl, rfl, hB1⟩
theorem close_p (w : World) (R : Nat) (tb vn vo vr : Value) (pl : Int) (nm : Tk) (ct : Nat) (go k capo : Nat) (l : List Bc) (bn : Tk) (ah : Int) (rp : Option Addr) (rn rc : Nat) (at' : Int)  (hR : Own w R #[tb, .int .i64 pl, .int .i64 nm.kind, .int .i64 nm.at', .int .i64 nm.num, .string nm.str, .int .i64 nm.c0, .int .i64 nm.c1, .int .i64 nm.r0, .int .i64 nm.r1, .int .i64 nm.r2, .int .i64 nm.r3, .int .i64 nm.code, vn, .slice (some ⟨go, 0, none⟩) (k + 1) capo, vr, .int .i64 (ct : Nat)]) (hrow : BRow w (.slice (some ⟨go, 0, none⟩) (k + 1) capo) l) (hb : l[k]? = some ⟨bn, .slice rp rn rc, ah⟩) (hm : l.length = k + 1) (hK : (bn.kind == 3) = false) (hk1 : k < 1000) (hcap : k + 1 ≤ capo) (hne : go ≠ R) :
  Calls Tryz.prog 54 #[.pointer (some ⟨R, 0, none⟩), .int .i64 at'] w fun e w' => (∃ v, e = .returned v) ∧ Own w' R #[tb, .int .i64 4, .int .i64 nm.kind, .int .i64 nm.at', .int .i64 nm.num, .string nm.str, .int .i64 nm.c0, .int .i64 nm.c1, .int .i64 nm.r0, .int .i64 nm.r1, .int .i64 nm.r2, .int .i64 nm.r3, .int .i64 nm.code, vn, .slice (some ⟨go, 0, none⟩) k capo, vr, .int .i64 (ct : Nat)] ∧ Mut (fun b => b = R) w w' := by
 have HK : Hid _ := hK
 have mixed : Tryz.prog.follows .mixedOrders = true := by kernel_rfl
 have c := hR.cell
 have fz := hR.fro
 have lt := hR.lt
 have hlg := (Rf.Row.lt hrow go rfl).2
 have cx := fun j hj => Rf.Row.cells Bc_size hrow k _ hb j hj
 have z0 : w.cell? ⟨go, k * 13, none⟩ = some (.int .i64 bn.kind) := cx 0 zq16
 have z1 : w.cell? ⟨go, k * 13 + 1, none⟩ = some (.int .i64 bn.at') := cx 1 zq16
 have z2 : w.cell? ⟨go, k * 13 + 2, none⟩ = some (.int .i64 bn.num) := cx 2 zq16
 have z3 : w.cell? ⟨go, k * 13 + 3, none⟩ = some (.string bn.str) := cx 3 zq16
 have z4 : w.cell? ⟨go, k * 13 + 4, none⟩ = some (.int .i64 bn.c0) := cx 4 zq16
 have z5 : w.cell? ⟨go, k * 13 + 5, none⟩ = some (.int .i64 bn.c1) := cx 5 zq16
 have z6 : w.cell? ⟨go, k * 13 + 6, none⟩ = some (.int .i64 bn.r0) := cx 6 zq16
 have z7 : w.cell? ⟨go, k * 13 + 7, none⟩ = some (.int .i64 bn.r1) := cx 7 zq16
 have z8 : w.cell? ⟨go, k * 13 + 8, none⟩ = some (.int .i64 bn.r2) := cx 8 zq16
 have z9 : w.cell? ⟨go, k * 13 + 9, none⟩ = some (.int .i64 bn.r3) := cx 9 zq16
 have z10 : w.cell? ⟨go, k * 13 + 10, none⟩ = some (.int .i64 bn.code) := cx 10 zq16
 have z11 : w.cell? ⟨go, k * 13 + 11, none⟩ = some (.slice rp rn rc) := cx 11 zq16
 have z12 : w.cell? ⟨go, k * 13 + 12, none⟩ = some (.int .i64 ah) := cx 12 zq16
 clear cx
 have hsb : wrap64 ((k : Int) + 1 - 1) = (k : Int) := by unfold wrap64; omega
 have hsb2 : ((k : Int) + 1 - 1) = (k : Int) := by omega
 have hk0 : ¬ ((k : Int) < 0) := by omega
 have hk0' : decide ((k : Int) < 0) = false := by simp
 have hkl : (k : Int) < (k : Int) + 1 := by omega
 have hkc : (k : Int) ≤ capo := by omega
 have hkn : 0 ≤ (k : Int) := by omega
 go_enter Tryz.func54, Tryz.ntmps54
 go_wp2_with (go_at_call 89; refine (isCall_any ⟨bn, .slice rp rn rc, ah⟩ _).mono ?_; rw [HK.out]; rintro e w3 ⟨rfl, hb3⟩; have oR3 : Own w3 R #[tb, .int .i64 pl, .int .i64 nm.kind, .int .i64 nm.at', .int .i64 nm.num, .string nm.str, .int .i64 nm.c0, .int .i64 nm.c1, .int .i64 nm.r0, .int .i64 nm.r1, .int .i64 nm.r2, .int .i64 nm.r3, .int .i64 nm.code, vn, .slice (some ⟨go, 0, none⟩) k capo, vr, .int .i64 (ct : Nat)] := Own.keep (Own.past (own_p14 hR) _) hb3; have oB3 : Own w3 w.heap.size #[.int .i64 bn.kind, .int .i64 bn.at', .int .i64 bn.num, .string bn.str, .int .i64 bn.c0, .int .i64 bn.c1, .int .i64 bn.r0, .int .i64 bn.r1, .int .i64 bn.r2, .int .i64 bn.r3, .int .i64 bn.code, .slice rp rn rc, .int .i64 ah] := Own.keep (Own.at (by first | (simp; done) | (simp [World.setCell]; done))) hb3; have cR3 := oR3.cell; have fR3 := oR3.fro; have lR3 := oR3.lt; have cB3 := oB3.cell; have fB3 := oB3.fro; have lB3 := oB3.lt; have hM3 : Mut (fun b => b = R) w w3 := Mut.below zq3 hb3; have hz3 := hM3.size)
 exact ⟨rfl, _, results_none rfl _ _ _, ⟨_, rfl⟩, own_p1 oR3, Mut.set hM3 (.inl rfl) _⟩
theorem close_0r (w : World) (R : Nat) (tb vn vo vr : Value) (pl : Int) (nm : Tk) (ct : Nat) (go k capo : Nat) (l : List Bc) (bn : Tk) (ah : Int) (rp : Option Addr) (rn rc : Nat) (at' : Int) (nl : List Rf.Nd) (hnv : ∀ g, vn.ownBlock = some g → g ≠ R) (hp : pl = 2) (hR : Own w R #[tb, .int .i64 pl, .int .i64 nm.kind, .int .i64 nm.at', .int .i64 nm.num, .string nm.str, .int .i64 nm.c0, .int .i64 nm.c1, .int .i64 nm.r0, .int .i64 nm.r1, .int .i64 nm.r2, .int .i64 nm.r3, .int .i64 nm.code, vn, .slice (some ⟨go, 0, none⟩) (k + 1) capo, vr, .int .i64 (ct : Nat)]) (hrow : BRow w (.slice (some ⟨go, 0, none⟩) (k + 1) capo) l) (hb : l[k]? = some ⟨bn, .slice rp rn rc, ah⟩) (hm : l.length = k + 1) (hK : (bn.kind == 3) = true) (hk1 : k < 1000) (hcap : k + 1 ≤ capo) (hne : go ≠ R)
  (hC : ∀ w1, Own w1 R #[tb, .int .i64 pl, .int .i64 nm.kind, .int .i64 nm.at', .int .i64 nm.num, .string nm.str, .int .i64 nm.c0, .int .i64 nm.c1, .int .i64 nm.r0, .int .i64 nm.r1, .int .i64 nm.r2, .int .i64 nm.r3, .int .i64 nm.code, vn, .slice (some ⟨go, 0, none⟩) k capo, vr, .int .i64 (ct : Nat)] → Mut (fun b => b = R) w w1 → Calls Tryz.prog 90 #[.pointer (some ⟨R, 0, none⟩), .agg #[.int .i64 bn.kind, .int .i64 bn.at', .int .i64 bn.num, .string bn.str, .int .i64 bn.c0, .int .i64 bn.c1, .int .i64 bn.r0, .int .i64 bn.r1, .int .i64 bn.r2, .int .i64 bn.r3, .int .i64 bn.code], .slice rp rn rc] w1 fun e w' => (∃ v, e = .returned v) ∧ ∃ vn', Own w' R #[tb, .int .i64 pl, .int .i64 nm.kind, .int .i64 nm.at', .int .i64 nm.num, .string nm.str, .int .i64 nm.c0, .int .i64 nm.c1, .int .i64 nm.r0, .int .i64 nm.r1, .int .i64 nm.r2, .int .i64 nm.r3, .int .i64 nm.code, vn', .slice (some ⟨go, 0, none⟩) k capo, vr, .int .i64 (ct : Nat)] ∧ NRow w' vn' nl ∧ Mut (fun b => b = R ∨ vn.ownBlock = some b) w1 w' ∧ ∀ b, vn'.ownBlock = some b → vn.ownBlock = some b ∨ w1.heap.size ≤ b) :
  Calls Tryz.prog 54 #[.pointer (some ⟨R, 0, none⟩), .int .i64 at'] w fun e w' => (∃ v, e = .returned v) ∧ ∃ vn', Own w' R #[tb, .int .i64 4, .int .i64 nm.kind, .int .i64 nm.at', .int .i64 nm.num, .string nm.str, .int .i64 nm.c0, .int .i64 nm.c1, .int .i64 nm.r0, .int .i64 nm.r1, .int .i64 nm.r2, .int .i64 nm.r3, .int .i64 nm.code, vn', .slice (some ⟨go, 0, none⟩) k capo, vr, .int .i64 (ct : Nat)] ∧ NRow w' vn' nl ∧ Mut (fun b => b = R ∨ vn.ownBlock = some b) w w' ∧ ∀ b, vn'.ownBlock = some b → vn.ownBlock = some b ∨ w.heap.size ≤ b := by
 have HCL : Hid _ := hC
 clear hC
 have hp' : (pl == 2) = true := by simp [hp]
 have HK : Hid _ := hK
 have mixed : Tryz.prog.follows .mixedOrders = true := by kernel_rfl
 have c := hR.cell
 have fz := hR.fro
 have lt := hR.lt
 have hlg := (Rf.Row.lt hrow go rfl).2
 have cx := fun j hj => Rf.Row.cells Bc_size hrow k _ hb j hj
 have z0 : w.cell? ⟨go, k * 13, none⟩ = some (.int .i64 bn.kind) := cx 0 zq16
 have z1 : w.cell? ⟨go, k * 13 + 1, none⟩ = some (.int .i64 bn.at') := cx 1 zq16
 have z2 : w.cell? ⟨go, k * 13 + 2, none⟩ = some (.int .i64 bn.num) := cx 2 zq16
 have z3 : w.cell? ⟨go, k * 13 + 3, none⟩ = some (.string bn.str) := cx 3 zq16
 have z4 : w.cell? ⟨go, k * 13 + 4, none⟩ = some (.int .i64 bn.c0) := cx 4 zq16
 have z5 : w.cell? ⟨go, k * 13 + 5, none⟩ = some (.int .i64 bn.c1) := cx 5 zq16
 have z6 : w.cell? ⟨go, k * 13 + 6, none⟩ = some (.int .i64 bn.r0) := cx 6 zq16
 have z7 : w.cell? ⟨go, k * 13 + 7, none⟩ = some (.int .i64 bn.r1) := cx 7 zq16
 have z8 : w.cell? ⟨go, k * 13 + 8, none⟩ = some (.int .i64 bn.r2) := cx 8 zq16
 have z9 : w.cell? ⟨go, k * 13 + 9, none⟩ = some (.int .i64 bn.r3) := cx 9 zq16
 have z10 : w.cell? ⟨go, k * 13 + 10, none⟩ = some (.int .i64 bn.code) := cx 10 zq16
 have z11 : w.cell? ⟨go, k * 13 + 11, none⟩ = some (.slice rp rn rc) := cx 11 zq16
 have z12 : w.cell? ⟨go, k * 13 + 12, none⟩ = some (.int .i64 ah) := cx 12 zq16
 clear cx
 have hsb : wrap64 ((k : Int) + 1 - 1) = (k : Int) := by unfold wrap64; omega
 have hsb2 : ((k : Int) + 1 - 1) = (k : Int) := by omega
 have hk0 : ¬ ((k : Int) < 0) := by omega
 have hk0' : decide ((k : Int) < 0) = false := by simp
 have hkl : (k : Int) < (k : Int) + 1 := by omega
 have hkc : (k : Int) ≤ capo := by omega
 have hkn : 0 ≤ (k : Int) := by omega
 go_enter Tryz.func54, Tryz.ntmps54
 go_wp2_with (first | (go_at_call 89; refine (isCall_any ⟨bn, .slice rp rn rc, ah⟩ _).mono ?_; rw [HK.out]; rintro e w3 ⟨rfl, hb3⟩; have oR3 : Own w3 R #[tb, .int .i64 pl, .int .i64 nm.kind, .int .i64 nm.at', .int .i64 nm.num, .string nm.str, .int .i64 nm.c0, .int .i64 nm.c1, .int .i64 nm.r0, .int .i64 nm.r1, .int .i64 nm.r2, .int .i64 nm.r3, .int .i64 nm.code, vn, .slice (some ⟨go, 0, none⟩) k capo, vr, .int .i64 (ct : Nat)] := Own.keep (Own.past (own_p14 hR) _) hb3; have oB3 : Own w3 w.heap.size #[.int .i64 bn.kind, .int .i64 bn.at', .int .i64 bn.num, .string bn.str, .int .i64 bn.c0, .int .i64 bn.c1, .int .i64 bn.r0, .int .i64 bn.r1, .int .i64 bn.r2, .int .i64 bn.r3, .int .i64 bn.code, .slice rp rn rc, .int .i64 ah] := Own.keep (Own.at (by first | (simp; done) | (simp [World.setCell]; done))) hb3; have cR3 := oR3.cell; have fR3 := oR3.fro; have lR3 := oR3.lt; have cB3 := oB3.cell; have fB3 := oB3.fro; have lB3 := oB3.lt; have hM3 : Mut (fun b => b = R) w w3 := Mut.below zq3 hb3; have hz3 := hM3.size) | (go_at_call 90; refine (HCL.out _ oR3 hM3).mono ?_; rintro e w5 ⟨⟨v5, rfl⟩, vn5, q1, q2, q3, q4⟩; have cR5 := q1.cell; have fR5 := q1.fro; have lR5 := q1.lt))
 have HSV : ∀ {b : Nat}, vn.ownBlock = some b → (b = R ∨ vn.ownBlock = some b) := fun h => .inr h
 have hM3' : Mut (fun b => b = R ∨ vn.ownBlock = some b) w w3 := ⟨hM3.os, hM3.tape, hM3.output, hM3.size, fun b h1 h2 => hM3.block b h1 (fun e => h2 (.inl e))⟩
 have hvR : ∀ g, vn5.ownBlock = some g → g ≠ R := fun g hg => (q4 g hg).elim (fun h => hnv g h) (fun h => by omega)
 exact ⟨rfl, _, results_none rfl _ _ _, ⟨_, rfl⟩, vn5, own_p1 q1, Rf.Row.aside q2 _ hvR, Mut.set (Mut.call hM3' q3 (fun b hb => hb.elim (fun h => .inl (.inl h)) (fun h => .inl (HSV h)))) (.inl (.inl rfl)) _, fun b hb => (q4 b hb).imp (fun h => h) (fun h => by omega)⟩
theorem close_0p (w : World) (R : Nat) (tb vn vo vr : Value) (pl : Int) (nm : Tk) (ct : Nat) (go k capo : Nat) (l : List Bc) (bn : Tk) (ah : Int) (rp : Option Addr) (rn rc : Nat) (at' : Int) (ch : List PanicEntry) (hp : pl = 2) (hR : Own w R #[tb, .int .i64 pl, .int .i64 nm.kind, .int .i64 nm.at', .int .i64 nm.num, .string nm.str, .int .i64 nm.c0, .int .i64 nm.c1, .int .i64 nm.r0, .int .i64 nm.r1, .int .i64 nm.r2, .int .i64 nm.r3, .int .i64 nm.code, vn, .slice (some ⟨go, 0, none⟩) (k + 1) capo, vr, .int .i64 (ct : Nat)]) (hrow : BRow w (.slice (some ⟨go, 0, none⟩) (k + 1) capo) l) (hb : l[k]? = some ⟨bn, .slice rp rn rc, ah⟩) (hm : l.length = k + 1) (hK : (bn.kind == 3) = true) (hk1 : k < 1000) (hcap : k + 1 ≤ capo) (hne : go ≠ R)
  (hC : ∀ w1, Own w1 R #[tb, .int .i64 pl, .int .i64 nm.kind, .int .i64 nm.at', .int .i64 nm.num, .string nm.str, .int .i64 nm.c0, .int .i64 nm.c1, .int .i64 nm.r0, .int .i64 nm.r1, .int .i64 nm.r2, .int .i64 nm.r3, .int .i64 nm.code, vn, .slice (some ⟨go, 0, none⟩) k capo, vr, .int .i64 (ct : Nat)] → Mut (fun b => b = R) w w1 → Calls Tryz.prog 90 #[.pointer (some ⟨R, 0, none⟩), .agg #[.int .i64 bn.kind, .int .i64 bn.at', .int .i64 bn.num, .string bn.str, .int .i64 bn.c0, .int .i64 bn.c1, .int .i64 bn.r0, .int .i64 bn.r1, .int .i64 bn.r2, .int .i64 bn.r3, .int .i64 bn.code], .slice rp rn rc] w1 fun e w' => e = .panicked ch ∧ Mut (fun b => b = R ∨ vn.ownBlock = some b) w1 w') :
  Calls Tryz.prog 54 #[.pointer (some ⟨R, 0, none⟩), .int .i64 at'] w fun e w' => e = .panicked ch ∧ Mut (fun b => b = R ∨ vn.ownBlock = some b) w w' := by
 have HCL : Hid _ := hC
 clear hC
 have hp' : (pl == 2) = true := by simp [hp]
 have HK : Hid _ := hK
 have mixed : Tryz.prog.follows .mixedOrders = true := by kernel_rfl
 have c := hR.cell
 have fz := hR.fro
 have lt := hR.lt
 have hlg := (Rf.Row.lt hrow go rfl).2
 have cx := fun j hj => Rf.Row.cells Bc_size hrow k _ hb j hj
 have z0 : w.cell? ⟨go, k * 13, none⟩ = some (.int .i64 bn.kind) := cx 0 zq16
 have z1 : w.cell? ⟨go, k * 13 + 1, none⟩ = some (.int .i64 bn.at') := cx 1 zq16
 have z2 : w.cell? ⟨go, k * 13 + 2, none⟩ = some (.int .i64 bn.num) := cx 2 zq16
 have z3 : w.cell? ⟨go, k * 13 + 3, none⟩ = some (.string bn.str) := cx 3 zq16
 have z4 : w.cell? ⟨go, k * 13 + 4, none⟩ = some (.int .i64 bn.c0) := cx 4 zq16
 have z5 : w.cell? ⟨go, k * 13 + 5, none⟩ = some (.int .i64 bn.c1) := cx 5 zq16
 have z6 : w.cell? ⟨go, k * 13 + 6, none⟩ = some (.int .i64 bn.r0) := cx 6 zq16
 have z7 : w.cell? ⟨go, k * 13 + 7, none⟩ = some (.int .i64 bn.r1) := cx 7 zq16
 have z8 : w.cell? ⟨go, k * 13 + 8, none⟩ = some (.int .i64 bn.r2) := cx 8 zq16
 have z9 : w.cell? ⟨go, k * 13 + 9, none⟩ = some (.int .i64 bn.r3) := cx 9 zq16
 have z10 : w.cell? ⟨go, k * 13 + 10, none⟩ = some (.int .i64 bn.code) := cx 10 zq16
 have z11 : w.cell? ⟨go, k * 13 + 11, none⟩ = some (.slice rp rn rc) := cx 11 zq16
 have z12 : w.cell? ⟨go, k * 13 + 12, none⟩ = some (.int .i64 ah) := cx 12 zq16
 clear cx
 have hsb : wrap64 ((k : Int) + 1 - 1) = (k : Int) := by unfold wrap64; omega
 have hsb2 : ((k : Int) + 1 - 1) = (k : Int) := by omega
 have hk0 : ¬ ((k : Int) < 0) := by omega
 have hk0' : decide ((k : Int) < 0) = false := by simp
 have hkl : (k : Int) < (k : Int) + 1 := by omega
 have hkc : (k : Int) ≤ capo := by omega
 have hkn : 0 ≤ (k : Int) := by omega
 go_enter Tryz.func54, Tryz.ntmps54
 go_wp2_with (first | (go_at_call 89; refine (isCall_any ⟨bn, .slice rp rn rc, ah⟩ _).mono ?_; rw [HK.out]; rintro e w3 ⟨rfl, hb3⟩; have oR3 : Own w3 R #[tb, .int .i64 pl, .int .i64 nm.kind, .int .i64 nm.at', .int .i64 nm.num, .string nm.str, .int .i64 nm.c0, .int .i64 nm.c1, .int .i64 nm.r0, .int .i64 nm.r1, .int .i64 nm.r2, .int .i64 nm.r3, .int .i64 nm.code, vn, .slice (some ⟨go, 0, none⟩) k capo, vr, .int .i64 (ct : Nat)] := Own.keep (Own.past (own_p14 hR) _) hb3; have oB3 : Own w3 w.heap.size #[.int .i64 bn.kind, .int .i64 bn.at', .int .i64 bn.num, .string bn.str, .int .i64 bn.c0, .int .i64 bn.c1, .int .i64 bn.r0, .int .i64 bn.r1, .int .i64 bn.r2, .int .i64 bn.r3, .int .i64 bn.code, .slice rp rn rc, .int .i64 ah] := Own.keep (Own.at (by first | (simp; done) | (simp [World.setCell]; done))) hb3; have cR3 := oR3.cell; have fR3 := oR3.fro; have lR3 := oR3.lt; have cB3 := oB3.cell; have fB3 := oB3.fro; have lB3 := oB3.lt; have hM3 : Mut (fun b => b = R) w w3 := Mut.below zq3 hb3; have hz3 := hM3.size) | (go_at_call 90; refine (HCL.out _ oR3 hM3).mono ?_; rintro e w5 ⟨rfl, q3⟩))
 have hM3' : Mut (fun b => b = R ∨ vn.ownBlock = some b) w w3 := ⟨hM3.os, hM3.tape, hM3.output, hM3.size, fun b h1 h2 => hM3.block b h1 (fun e => h2 (.inl e))⟩
 exact ⟨rfl, rfl, Mut.call hM3' q3 (fun b hb => .inl hb)⟩
end Go.Proofs.YtcmjhjnpcogmgaaGreatDoor
namespace Go.Proofs.YtcmjhjnpcogmgaaGreatDoor
open Go.Shelf Go.RowKit
theorem Mut.mono {S S' : Nat → Prop} {w W : World} (h : Mut S w W) (hs : ∀ b, S b → S' b) : Mut S' w W := ⟨h.os, h.tape, h.output, h.size, fun b h1 h2 => h.block b h1 (fun e => h2 (hs b e))⟩
theorem close_1r (w : World) (R : Nat) (tb vn vo vr : Value) (pl : Int) (nm : Tk) (ct : Nat) (go k capo : Nat) (l : List Bc) (bn : Tk) (ah : Int) (rp : Option Addr) (rc : Nat) (at' : Int) (nl : List Rf.Nd) (rl : List Bool) (hq : LRow w (.slice rp rl.length rc) rl) (hrl : rl.length < 1000) (hnq : ∀ g, (Value.slice rp rl.length rc).ownBlock = some g → g ≠ R) (hnv : ∀ g, vn.ownBlock = some g → g ≠ R) (hp : ¬ pl = 2) (hR : Own w R #[tb, .int .i64 pl, .int .i64 nm.kind, .int .i64 nm.at', .int .i64 nm.num, .string nm.str, .int .i64 nm.c0, .int .i64 nm.c1, .int .i64 nm.r0, .int .i64 nm.r1, .int .i64 nm.r2, .int .i64 nm.r3, .int .i64 nm.code, vn, .slice (some ⟨go, 0, none⟩) (k + 1) capo, vr, .int .i64 (ct : Nat)]) (hrow : BRow w (.slice (some ⟨go, 0, none⟩) (k + 1) capo) l) (hb : l[k]? = some ⟨bn, .slice rp rl.length rc, ah⟩) (hm : l.length = k + 1) (hK : (bn.kind == 3) = true) (hk1 : k < 1000) (hcap : k + 1 ≤ capo) (hne : go ≠ R)
  (hC : ∀ w1 g5 cap5, Own w1 R #[tb, .int .i64 pl, .int .i64 nm.kind, .int .i64 nm.at', .int .i64 nm.num, .string nm.str, .int .i64 nm.c0, .int .i64 nm.c1, .int .i64 nm.r0, .int .i64 nm.r1, .int .i64 nm.r2, .int .i64 nm.r3, .int .i64 nm.code, vn, .slice (some ⟨go, 0, none⟩) k capo, vr, .int .i64 (ct : Nat)] → LRow w1 (.slice (some ⟨g5, 0, none⟩) (rl.length + 1) cap5) (rl ++ [pl == 5]) → Mut (fun b => b = R ∨ (.slice rp rl.length rc : Value).ownBlock = some b) w w1 → Calls Tryz.prog 90 #[.pointer (some ⟨R, 0, none⟩), .agg #[.int .i64 bn.kind, .int .i64 bn.at', .int .i64 bn.num, .string bn.str, .int .i64 bn.c0, .int .i64 bn.c1, .int .i64 bn.r0, .int .i64 bn.r1, .int .i64 bn.r2, .int .i64 bn.r3, .int .i64 bn.code], (.slice (some ⟨g5, 0, none⟩) (rl.length + 1) cap5)] w1 fun e w' => (∃ v, e = .returned v) ∧ ∃ vn', Own w' R #[tb, .int .i64 pl, .int .i64 nm.kind, .int .i64 nm.at', .int .i64 nm.num, .string nm.str, .int .i64 nm.c0, .int .i64 nm.c1, .int .i64 nm.r0, .int .i64 nm.r1, .int .i64 nm.r2, .int .i64 nm.r3, .int .i64 nm.code, vn', .slice (some ⟨go, 0, none⟩) k capo, vr, .int .i64 (ct : Nat)] ∧ NRow w' vn' nl ∧ Mut (fun b => b = R ∨ vn.ownBlock = some b) w1 w' ∧ ∀ b, vn'.ownBlock = some b → vn.ownBlock = some b ∨ w1.heap.size ≤ b) :
  Calls Tryz.prog 54 #[.pointer (some ⟨R, 0, none⟩), .int .i64 at'] w fun e w' => (∃ v, e = .returned v) ∧ ∃ vn', Own w' R #[tb, .int .i64 4, .int .i64 nm.kind, .int .i64 nm.at', .int .i64 nm.num, .string nm.str, .int .i64 nm.c0, .int .i64 nm.c1, .int .i64 nm.r0, .int .i64 nm.r1, .int .i64 nm.r2, .int .i64 nm.r3, .int .i64 nm.code, vn', .slice (some ⟨go, 0, none⟩) k capo, vr, .int .i64 (ct : Nat)] ∧ NRow w' vn' nl ∧ Mut (fun b => b = R ∨ vn.ownBlock = some b ∨ (.slice rp rl.length rc : Value).ownBlock = some b) w w' ∧ ∀ b, vn'.ownBlock = some b → vn.ownBlock = some b ∨ w.heap.size ≤ b := by
 have HCL : Hid _ := hC
 clear hC
 have hp' : (pl == 2) = false := by simpa using hp
 obtain ⟨i0, hi0, hz0, hz1, hz2⟩ := info_parts infoBl
 have HI : Hid _ := hi0
 have HZ0 : Hid _ := hz0
 have HZ1 : Hid _ := hz1
 have HZ2 : Hid _ := hz2
 clear hi0 hz0 hz1 hz2
 have HK : Hid _ := hK
 have mixed : Tryz.prog.follows .mixedOrders = true := by kernel_rfl
 have c := hR.cell
 have fz := hR.fro
 have lt := hR.lt
 have hlg := (Rf.Row.lt hrow go rfl).2
 have cx := fun j hj => Rf.Row.cells Bc_size hrow k _ hb j hj
 have z0 : w.cell? ⟨go, k * 13, none⟩ = some (.int .i64 bn.kind) := cx 0 zq16
 have z1 : w.cell? ⟨go, k * 13 + 1, none⟩ = some (.int .i64 bn.at') := cx 1 zq16
 have z2 : w.cell? ⟨go, k * 13 + 2, none⟩ = some (.int .i64 bn.num) := cx 2 zq16
 have z3 : w.cell? ⟨go, k * 13 + 3, none⟩ = some (.string bn.str) := cx 3 zq16
 have z4 : w.cell? ⟨go, k * 13 + 4, none⟩ = some (.int .i64 bn.c0) := cx 4 zq16
 have z5 : w.cell? ⟨go, k * 13 + 5, none⟩ = some (.int .i64 bn.c1) := cx 5 zq16
 have z6 : w.cell? ⟨go, k * 13 + 6, none⟩ = some (.int .i64 bn.r0) := cx 6 zq16
 have z7 : w.cell? ⟨go, k * 13 + 7, none⟩ = some (.int .i64 bn.r1) := cx 7 zq16
 have z8 : w.cell? ⟨go, k * 13 + 8, none⟩ = some (.int .i64 bn.r2) := cx 8 zq16
 have z9 : w.cell? ⟨go, k * 13 + 9, none⟩ = some (.int .i64 bn.r3) := cx 9 zq16
 have z10 : w.cell? ⟨go, k * 13 + 10, none⟩ = some (.int .i64 bn.code) := cx 10 zq16
 have z11 : w.cell? ⟨go, k * 13 + 11, none⟩ = some (.slice rp rl.length rc) := cx 11 zq16
 have z12 : w.cell? ⟨go, k * 13 + 12, none⟩ = some (.int .i64 ah) := cx 12 zq16
 clear cx
 have hsb : wrap64 ((k : Int) + 1 - 1) = (k : Int) := by unfold wrap64; omega
 have hsb2 : ((k : Int) + 1 - 1) = (k : Int) := by omega
 have hk0 : ¬ ((k : Int) < 0) := by omega
 have hk0' : decide ((k : Int) < 0) = false := by simp
 have hkl : (k : Int) < (k : Int) + 1 := by omega
 have hkc : (k : Int) ≤ capo := by omega
 have hkn : 0 ≤ (k : Int) := by omega
 go_enter Tryz.func54, Tryz.ntmps54
 go_wp2_with (go_at_call 89; refine (isCall_any ⟨bn, .slice rp rl.length rc, ah⟩ _).mono ?_; rw [HK.out]; rintro e w3 ⟨rfl, hb3⟩; have oR3 : Own w3 R #[tb, .int .i64 pl, .int .i64 nm.kind, .int .i64 nm.at', .int .i64 nm.num, .string nm.str, .int .i64 nm.c0, .int .i64 nm.c1, .int .i64 nm.r0, .int .i64 nm.r1, .int .i64 nm.r2, .int .i64 nm.r3, .int .i64 nm.code, vn, .slice (some ⟨go, 0, none⟩) k capo, vr, .int .i64 (ct : Nat)] := Own.keep (Own.past (own_p14 hR) _) hb3; have oB3 : Own w3 w.heap.size #[.int .i64 bn.kind, .int .i64 bn.at', .int .i64 bn.num, .string bn.str, .int .i64 bn.c0, .int .i64 bn.c1, .int .i64 bn.r0, .int .i64 bn.r1, .int .i64 bn.r2, .int .i64 bn.r3, .int .i64 bn.code, .slice rp rl.length rc, .int .i64 ah] := Own.keep (Own.at (by first | (simp; done) | (simp [World.setCell]; done))) hb3; have cR3 := oR3.cell; have fR3 := oR3.fro; have lR3 := oR3.lt; have cB3 := oB3.cell; have fB3 := oB3.fro; have lB3 := oB3.lt; have hM3 : Mut (fun b => b = R) w w3 := Mut.below zq3 hb3; have hz3 := hM3.size; have hq3 : LRow w3 (.slice rp rl.length rc) rl := Rf.Row.keep (Rf.Row.past (Rf.Row.aside hq _ (fun g hg => hnq g hg)) _) hb3)
 have hrb : w3.ownsRow 0 4 1 (.slice rp rl.length rc) rl.length (Rf.flatC boC rl) := hq3
 go_region_law (refine step_append_lies _ rfl (.tmp 40) (.tmp 46) 144 rfl 0 4 i0 _ 1 1 Tryz.underlying144 HI.out HZ0.out HZ1.out HZ2.out rfl zq16 (.slice rp rl.length rc) rl.length (Rf.flatC boC rl) (by simp [Act.eval, Act.put]) (by with_reducible (repeat' first | assumption | refine World.ownsRow.drew ?_ | refine World.ownsRow.alloc ?_ _)) ⟨w3.heap.size, 0, none⟩ 1 1 (boC (pl == 5)).toList (by simp [Act.eval, Act.put]) rfl (by first | exact Rf.news_one w3 _ _ | exact Rf.news_one w3.drew _ _) (boC_one _) zq16 (by unfold maxLen; omega) zq17 zq17 (w3.heap.size + 1) (by simp) ?_; intro g5 cap5 w5 hown5 hgrow5 hat5 hlt5; have o5 : Own w5 R #[tb, .int .i64 pl, .int .i64 nm.kind, .int .i64 nm.at', .int .i64 nm.num, .string nm.str, .int .i64 nm.c0, .int .i64 nm.c1, .int .i64 nm.r0, .int .i64 nm.r1, .int .i64 nm.r2, .int .i64 nm.r3, .int .i64 nm.code, vn, .slice (some ⟨go, 0, none⟩) k capo, vr, .int .i64 (ct : Nat)] := Rf.own_grown zq4 hgrow5 (by intro g' hg'; exact hnq g' hg'); have ob5 : Own w5 w.heap.size #[.int .i64 bn.kind, .int .i64 bn.at', .int .i64 bn.num, .string bn.str, .int .i64 bn.c0, .int .i64 bn.c1, .int .i64 bn.r0, .int .i64 bn.r1, .int .i64 bn.r2, .int .i64 bn.r3, .int .i64 bn.code, .slice rp rl.length rc, .int .i64 ah] := Rf.own_grown zq4 hgrow5 (by intro g' hg'; have := (Rf.Row.lt hq g' hg').2; omega); have c5 := o5.cell; have f5 := o5.fro; have l5 := o5.lt; have cb5 := ob5.cell; have fb5 := ob5.fro; have lb5 := ob5.lt)
 all_goals have hg1 : g5 ≠ R := hat5.elim (fun h => hnq g5 h) (fun h => by omega)
 all_goals have hg2 : g5 ≠ w.heap.size := hat5.elim (fun h => by have := (Rf.Row.lt hq g5 h).2; omega) (fun h => by omega)
 all_goals have hM5 : Mut (fun b => b = R ∨ (.slice rp rl.length rc : Value).ownBlock = some b) w (w5.setCell ⟨w.heap.size, 11, none⟩ (.slice (some ⟨g5, 0, none⟩) (rl.length + 1) cap5)) := Mut.set (Mut.grown (by with_reducible (repeat' first | refine Mut.drew ?_ | refine Mut.alloc ?_ _ | exact Mut.mono hM3 (fun b h => .inl h))) hgrow5 (fun g hg => .inl (.inr hg))) (.inr (Nat.le_refl _)) _
 all_goals have hq5 : LRow (w5.setCell ⟨w.heap.size, 11, none⟩ (.slice (some ⟨g5, 0, none⟩) (rl.length + 1) cap5)) (.slice (some ⟨g5, 0, none⟩) (rl.length + 1) cap5) (rl ++ [pl == 5]) := Rf.Row.aside (rsnoc rfl hown5) _ (fun g hg => by have e := own_is hg; subst e; exact hg2)
 all_goals have oR6 : Own (w5.setCell ⟨w.heap.size, 11, none⟩ (.slice (some ⟨g5, 0, none⟩) (rl.length + 1) cap5)) R #[tb, .int .i64 pl, .int .i64 nm.kind, .int .i64 nm.at', .int .i64 nm.num, .string nm.str, .int .i64 nm.c0, .int .i64 nm.c1, .int .i64 nm.r0, .int .i64 nm.r1, .int .i64 nm.r2, .int .i64 nm.r3, .int .i64 nm.code, vn, .slice (some ⟨go, 0, none⟩) k capo, vr, .int .i64 (ct : Nat)] := Own.aside o5 (by show R ≠ w.heap.size; omega) _
 all_goals go_wp2_with (go_at_call 90; refine (HCL.out _ g5 cap5 oR6 hq5 hM5).mono ?_; rintro e w7 ⟨⟨v7, rfl⟩, vn5, q1, q2, q3, q4⟩; have cR7 := q1.cell; have fR7 := q1.fro; have lR7 := q1.lt)
 all_goals have hz7 := hM5.size
 all_goals have hvR : ∀ g, vn5.ownBlock = some g → g ≠ R := fun g hg => (q4 g hg).elim (fun h => hnv g h) (fun h => by omega)
 all_goals exact ⟨rfl, _, results_none rfl _ _ _, ⟨_, rfl⟩, vn5, own_p1 q1, Rf.Row.aside q2 _ hvR, Mut.set (Mut.call (S := fun b => b = R ∨ vn.ownBlock = some b ∨ (.slice rp rl.length rc : Value).ownBlock = some b) ⟨hM5.os, hM5.tape, hM5.output, hM5.size, fun b h1 h2 => hM5.block b h1 (fun e => h2 (e.elim (fun h => .inl h) (fun h => .inr (.inr h))))⟩ q3 (fun b hb => hb.elim (fun h => .inl (.inl h)) (fun h => .inl (.inr (.inl h))))) (.inl (.inl rfl)) _, fun b hb => (q4 b hb).imp (fun h => h) (fun h => by omega)⟩
theorem close_1p (w : World) (R : Nat) (tb vn vo vr : Value) (pl : Int) (nm : Tk) (ct : Nat) (go k capo : Nat) (l : List Bc) (bn : Tk) (ah : Int) (rp : Option Addr) (rc : Nat) (at' : Int) (ch : List PanicEntry) (rl : List Bool) (hq : LRow w (.slice rp rl.length rc) rl) (hrl : rl.length < 1000) (hnq : ∀ g, (Value.slice rp rl.length rc).ownBlock = some g → g ≠ R) (hnv : ∀ g, vn.ownBlock = some g → g ≠ R) (hp : ¬ pl = 2) (hR : Own w R #[tb, .int .i64 pl, .int .i64 nm.kind, .int .i64 nm.at', .int .i64 nm.num, .string nm.str, .int .i64 nm.c0, .int .i64 nm.c1, .int .i64 nm.r0, .int .i64 nm.r1, .int .i64 nm.r2, .int .i64 nm.r3, .int .i64 nm.code, vn, .slice (some ⟨go, 0, none⟩) (k + 1) capo, vr, .int .i64 (ct : Nat)]) (hrow : BRow w (.slice (some ⟨go, 0, none⟩) (k + 1) capo) l) (hb : l[k]? = some ⟨bn, .slice rp rl.length rc, ah⟩) (hm : l.length = k + 1) (hK : (bn.kind == 3) = true) (hk1 : k < 1000) (hcap : k + 1 ≤ capo) (hne : go ≠ R)
  (hC : ∀ w1 g5 cap5, Own w1 R #[tb, .int .i64 pl, .int .i64 nm.kind, .int .i64 nm.at', .int .i64 nm.num, .string nm.str, .int .i64 nm.c0, .int .i64 nm.c1, .int .i64 nm.r0, .int .i64 nm.r1, .int .i64 nm.r2, .int .i64 nm.r3, .int .i64 nm.code, vn, .slice (some ⟨go, 0, none⟩) k capo, vr, .int .i64 (ct : Nat)] → LRow w1 (.slice (some ⟨g5, 0, none⟩) (rl.length + 1) cap5) (rl ++ [pl == 5]) → Mut (fun b => b = R ∨ (.slice rp rl.length rc : Value).ownBlock = some b) w w1 → Calls Tryz.prog 90 #[.pointer (some ⟨R, 0, none⟩), .agg #[.int .i64 bn.kind, .int .i64 bn.at', .int .i64 bn.num, .string bn.str, .int .i64 bn.c0, .int .i64 bn.c1, .int .i64 bn.r0, .int .i64 bn.r1, .int .i64 bn.r2, .int .i64 bn.r3, .int .i64 bn.code], (.slice (some ⟨g5, 0, none⟩) (rl.length + 1) cap5)] w1 fun e w' => e = .panicked ch ∧ Mut (fun b => b = R ∨ vn.ownBlock = some b) w1 w') :
  Calls Tryz.prog 54 #[.pointer (some ⟨R, 0, none⟩), .int .i64 at'] w fun e w' => e = .panicked ch ∧ Mut (fun b => b = R ∨ vn.ownBlock = some b ∨ (.slice rp rl.length rc : Value).ownBlock = some b) w w' := by
 have HCL : Hid _ := hC
 clear hC
 have hp' : (pl == 2) = false := by simpa using hp
 obtain ⟨i0, hi0, hz0, hz1, hz2⟩ := info_parts infoBl
 have HI : Hid _ := hi0
 have HZ0 : Hid _ := hz0
 have HZ1 : Hid _ := hz1
 have HZ2 : Hid _ := hz2
 clear hi0 hz0 hz1 hz2
 have HK : Hid _ := hK
 have mixed : Tryz.prog.follows .mixedOrders = true := by kernel_rfl
 have c := hR.cell
 have fz := hR.fro
 have lt := hR.lt
 have hlg := (Rf.Row.lt hrow go rfl).2
 have cx := fun j hj => Rf.Row.cells Bc_size hrow k _ hb j hj
 have z0 : w.cell? ⟨go, k * 13, none⟩ = some (.int .i64 bn.kind) := cx 0 zq16
 have z1 : w.cell? ⟨go, k * 13 + 1, none⟩ = some (.int .i64 bn.at') := cx 1 zq16
 have z2 : w.cell? ⟨go, k * 13 + 2, none⟩ = some (.int .i64 bn.num) := cx 2 zq16
 have z3 : w.cell? ⟨go, k * 13 + 3, none⟩ = some (.string bn.str) := cx 3 zq16
 have z4 : w.cell? ⟨go, k * 13 + 4, none⟩ = some (.int .i64 bn.c0) := cx 4 zq16
 have z5 : w.cell? ⟨go, k * 13 + 5, none⟩ = some (.int .i64 bn.c1) := cx 5 zq16
 have z6 : w.cell? ⟨go, k * 13 + 6, none⟩ = some (.int .i64 bn.r0) := cx 6 zq16
 have z7 : w.cell? ⟨go, k * 13 + 7, none⟩ = some (.int .i64 bn.r1) := cx 7 zq16
 have z8 : w.cell? ⟨go, k * 13 + 8, none⟩ = some (.int .i64 bn.r2) := cx 8 zq16
 have z9 : w.cell? ⟨go, k * 13 + 9, none⟩ = some (.int .i64 bn.r3) := cx 9 zq16
 have z10 : w.cell? ⟨go, k * 13 + 10, none⟩ = some (.int .i64 bn.code) := cx 10 zq16
 have z11 : w.cell? ⟨go, k * 13 + 11, none⟩ = some (.slice rp rl.length rc) := cx 11 zq16
 have z12 : w.cell? ⟨go, k * 13 + 12, none⟩ = some (.int .i64 ah) := cx 12 zq16
 clear cx
 have hsb : wrap64 ((k : Int) + 1 - 1) = (k : Int) := by unfold wrap64; omega
 have hsb2 : ((k : Int) + 1 - 1) = (k : Int) := by omega
 have hk0 : ¬ ((k : Int) < 0) := by omega
 have hk0' : decide ((k : Int) < 0) = false := by simp
 have hkl : (k : Int) < (k : Int) + 1 := by omega
 have hkc : (k : Int) ≤ capo := by omega
 have hkn : 0 ≤ (k : Int) := by omega
 go_enter Tryz.func54, Tryz.ntmps54
 go_wp2_with (go_at_call 89; refine (isCall_any ⟨bn, .slice rp rl.length rc, ah⟩ _).mono ?_; rw [HK.out]; rintro e w3 ⟨rfl, hb3⟩; have oR3 : Own w3 R #[tb, .int .i64 pl, .int .i64 nm.kind, .int .i64 nm.at', .int .i64 nm.num, .string nm.str, .int .i64 nm.c0, .int .i64 nm.c1, .int .i64 nm.r0, .int .i64 nm.r1, .int .i64 nm.r2, .int .i64 nm.r3, .int .i64 nm.code, vn, .slice (some ⟨go, 0, none⟩) k capo, vr, .int .i64 (ct : Nat)] := Own.keep (Own.past (own_p14 hR) _) hb3; have oB3 : Own w3 w.heap.size #[.int .i64 bn.kind, .int .i64 bn.at', .int .i64 bn.num, .string bn.str, .int .i64 bn.c0, .int .i64 bn.c1, .int .i64 bn.r0, .int .i64 bn.r1, .int .i64 bn.r2, .int .i64 bn.r3, .int .i64 bn.code, .slice rp rl.length rc, .int .i64 ah] := Own.keep (Own.at (by first | (simp; done) | (simp [World.setCell]; done))) hb3; have cR3 := oR3.cell; have fR3 := oR3.fro; have lR3 := oR3.lt; have cB3 := oB3.cell; have fB3 := oB3.fro; have lB3 := oB3.lt; have hM3 : Mut (fun b => b = R) w w3 := Mut.below zq3 hb3; have hz3 := hM3.size; have hq3 : LRow w3 (.slice rp rl.length rc) rl := Rf.Row.keep (Rf.Row.past (Rf.Row.aside hq _ (fun g hg => hnq g hg)) _) hb3)
 have hrb : w3.ownsRow 0 4 1 (.slice rp rl.length rc) rl.length (Rf.flatC boC rl) := hq3
 go_region_law (refine step_append_lies _ rfl (.tmp 40) (.tmp 46) 144 rfl 0 4 i0 _ 1 1 Tryz.underlying144 HI.out HZ0.out HZ1.out HZ2.out rfl zq16 (.slice rp rl.length rc) rl.length (Rf.flatC boC rl) (by simp [Act.eval, Act.put]) (by with_reducible (repeat' first | assumption | refine World.ownsRow.drew ?_ | refine World.ownsRow.alloc ?_ _)) ⟨w3.heap.size, 0, none⟩ 1 1 (boC (pl == 5)).toList (by simp [Act.eval, Act.put]) rfl (by first | exact Rf.news_one w3 _ _ | exact Rf.news_one w3.drew _ _) (boC_one _) zq16 (by unfold maxLen; omega) zq17 zq17 (w3.heap.size + 1) (by simp) ?_; intro g5 cap5 w5 hown5 hgrow5 hat5 hlt5; have o5 : Own w5 R #[tb, .int .i64 pl, .int .i64 nm.kind, .int .i64 nm.at', .int .i64 nm.num, .string nm.str, .int .i64 nm.c0, .int .i64 nm.c1, .int .i64 nm.r0, .int .i64 nm.r1, .int .i64 nm.r2, .int .i64 nm.r3, .int .i64 nm.code, vn, .slice (some ⟨go, 0, none⟩) k capo, vr, .int .i64 (ct : Nat)] := Rf.own_grown zq4 hgrow5 (by intro g' hg'; exact hnq g' hg'); have ob5 : Own w5 w.heap.size #[.int .i64 bn.kind, .int .i64 bn.at', .int .i64 bn.num, .string bn.str, .int .i64 bn.c0, .int .i64 bn.c1, .int .i64 bn.r0, .int .i64 bn.r1, .int .i64 bn.r2, .int .i64 bn.r3, .int .i64 bn.code, .slice rp rl.length rc, .int .i64 ah] := Rf.own_grown zq4 hgrow5 (by intro g' hg'; have := (Rf.Row.lt hq g' hg').2; omega); have c5 := o5.cell; have f5 := o5.fro; have l5 := o5.lt; have cb5 := ob5.cell; have fb5 := ob5.fro; have lb5 := ob5.lt)
 all_goals have hg1 : g5 ≠ R := hat5.elim (fun h => hnq g5 h) (fun h => by omega)
 all_goals have hg2 : g5 ≠ w.heap.size := hat5.elim (fun h => by have := (Rf.Row.lt hq g5 h).2; omega) (fun h => by omega)
 all_goals have hM5 : Mut (fun b => b = R ∨ (.slice rp rl.length rc : Value).ownBlock = some b) w (w5.setCell ⟨w.heap.size, 11, none⟩ (.slice (some ⟨g5, 0, none⟩) (rl.length + 1) cap5)) := Mut.set (Mut.grown (by with_reducible (repeat' first | refine Mut.drew ?_ | refine Mut.alloc ?_ _ | exact Mut.mono hM3 (fun b h => .inl h))) hgrow5 (fun g hg => .inl (.inr hg))) (.inr (Nat.le_refl _)) _
 all_goals have hq5 : LRow (w5.setCell ⟨w.heap.size, 11, none⟩ (.slice (some ⟨g5, 0, none⟩) (rl.length + 1) cap5)) (.slice (some ⟨g5, 0, none⟩) (rl.length + 1) cap5) (rl ++ [pl == 5]) := Rf.Row.aside (rsnoc rfl hown5) _ (fun g hg => by have e := own_is hg; subst e; exact hg2)
 all_goals have oR6 : Own (w5.setCell ⟨w.heap.size, 11, none⟩ (.slice (some ⟨g5, 0, none⟩) (rl.length + 1) cap5)) R #[tb, .int .i64 pl, .int .i64 nm.kind, .int .i64 nm.at', .int .i64 nm.num, .string nm.str, .int .i64 nm.c0, .int .i64 nm.c1, .int .i64 nm.r0, .int .i64 nm.r1, .int .i64 nm.r2, .int .i64 nm.r3, .int .i64 nm.code, vn, .slice (some ⟨go, 0, none⟩) k capo, vr, .int .i64 (ct : Nat)] := Own.aside o5 (by show R ≠ w.heap.size; omega) _
 all_goals go_wp2_with (go_at_call 90; refine (HCL.out _ g5 cap5 oR6 hq5 hM5).mono ?_; rintro e w7 ⟨rfl, q3⟩)
 all_goals exact ⟨rfl, rfl, Mut.call (S := fun b => b = R ∨ vn.ownBlock = some b ∨ (.slice rp rl.length rc : Value).ownBlock = some b) ⟨hM5.os, hM5.tape, hM5.output, hM5.size, fun b h1 h2 => hM5.block b h1 (fun e => h2 (e.elim (fun h => .inl h) (fun h => .inr (.inr h))))⟩ q3 (fun b hb => hb.elim (fun h => .inl (.inl h)) (fun h => .inl (.inr (.inl h))))⟩
end Go.Proofs.YtcmjhjnpcogmgaaGreatDoor
