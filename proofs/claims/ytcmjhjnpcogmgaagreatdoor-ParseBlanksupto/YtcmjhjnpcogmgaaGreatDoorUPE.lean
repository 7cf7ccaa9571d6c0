/- The contracts of the function that Parse defers: entered where the reading gave up, and wh -/
import Derived.Test.YtcmjhjnpcogmgaaGreatDoorUAuto
import Derived.Test.YtcmjhjnpcogmgaaGreatDoorUPSPS2
import Derived.Defers
import Derived.Recover
import Derived.Laws.Pointers
set_option linter.all false
set_option maxRecDepth 100000
set_option maxHeartbeats 4000000
namespace Go.Proofs.YtcmjhjnpcogmgaaGreatDoor
open Go.Shelf Go.RowKit
theorem catch_p (C A : Nat) (x y : Int) (code at' : Int) (older : List PanicEntry) (w : World) (hC : Own w C #[.int .i64 x]) (hA : Own w A #[.int .i64 y]) (hne : C ≠ A) :
  CallsD Tryz.prog 18 #[.pointer (some ⟨C, 0, none⟩), .pointer (some ⟨A, 0, none⟩)] (.panicking ({ v := refV code at', recovered := false } :: older)) w fun e u' w' =>
   e = .returned (.tuple #[]) ∧ u' = .panicking ({ v := refV code at', recovered := true } :: older) ∧ ∃ w1, Below w.heap.size w w1 ∧ w' = (w1.setCell ⟨C, 0, none⟩ (.int .i64 code)).setCell ⟨A, 0, none⟩ (.int .i64 at') := by
 have ht := fun w => told_any code at' w
 unfold refV at ht ⊢
 refine callsD_of_wpS Tryz.func18 rfl fun c₀ cs hu => ?_
 apply wpS_seq
 apply wpS_region
 simp [wpOpsS, go_sem, recoverD, hu, Tryz.ntmps18, Exit.thenS]
 have cC := hC.cell
 have fC := hC.fro
 have lC := hC.lt
 have cA := hA.cell
 have fA := hA.fro
 have lA := hA.lt
 have hne' : ¬ (C = A) := hne
 have hne2 : ¬ (A = C) := fun e => hne e.symm
 have hnil : ∀ w, (binOp .neq 20 (.iface 82 (.agg #[.int .i64 code, .int .i64 at'])) .nilIface).run Tryz.prog w = .ok (.bool true) w := fun _ => by kernel_rfl
 refine wpS_of_wp ?_
 go_wp2_with (go_at_call 19; refine (ht _).mono ?_; rintro e w1 ⟨rfl, hb⟩; have oC := hC.keep hb; have oA := hA.keep hb; have cC1 := oC.cell; have fC1 := oC.fro; have lC1 := oC.lt; have cA1 := oA.cell; have fA1 := oA.fro; have lA1 := oA.lt)
 simp [bodyPostS, results, Tryz.results18, hu]
 exact ⟨w1, hb, rfl⟩
theorem catch_i (C A : Nat) (w : World) :
  CallsD Tryz.prog 18 #[.pointer (some ⟨C, 0, none⟩), .pointer (some ⟨A, 0, none⟩)] .returning w fun e u' w' => e = .returned (.tuple #[]) ∧ u' = .returning ∧ w' = w := by
 refine callsD_of_wpS Tryz.func18 rfl fun c₀ cs hu => ?_
 apply wpS_seq
 apply wpS_region
 simp [wpOpsS, go_sem, recoverD, hu, Tryz.ntmps18, Exit.thenS]
 have hnil : ∀ w, (binOp .neq 20 .nilIface .nilIface).run Tryz.prog w = .ok (.bool false) w := fun _ => by kernel_rfl
 refine wpS_of_wp ?_
 go_wp2
 cases c₀
 simp_all [bodyPostS, results, Tryz.results18]
theorem parse_nil (s : ByteArray) (w : World) : Calls Tryz.prog 9 #[.string s, .nilIface] w fun e w' => e = .returned (.tuple #[.agg #[.slice none 0 0], .int .i64 1, .int .i64 0]) ∧ Below w.heap.size w w' := by
 have hnil : ∀ w, (binOp .eql 51 .nilIface .nilIface).run Tryz.prog w = .ok (.bool true) w := fun _ => by kernel_rfl
 have hmf : ∀ (fn : Fn) (first cap : Array Value) (w : World), (Instr.makeFunc fn first cap).run Tryz.prog w = .ok (.func fn first cap) w := fun _ _ _ _ => rfl
 go_enter_defers Tryz.func9, Tryz.ntmps9
 go_wp2
 simp [bodyPostD, Leaves, settle, results, Tryz.results9, go_sem]
 with_reducible (repeat' first | assumption | exact Below.refl _ _ | refine Below.drew ?_ | refine bdrewN ?_ _ | refine Below.setCell ?_ zq11 _ | refine Below.alloc ?_ zq11 _)
theorem eq_tab (fp : Option Addr) (fn fc : Nat) (w : World) : (binOp .eql 51 (.iface 29 (.slice fp fn fc)) .nilIface).run Tryz.prog w = .ok (.bool false) w := by kernel_rfl
theorem parse_no (s : ByteArray) (fp : Option Addr) (fn fc : Nat) (code at' : Int) (w : World) (hRd : ∀ w1, Below w.heap.size w w1 → Calls Tryz.prog 20 #[.string s, .iface 29 (.slice fp fn fc)] w1 fun e w' => e = .panicked (refC code at') ∧ Below w1.heap.size w1 w') :
  Calls Tryz.prog 9 #[.string s, .iface 29 (.slice fp fn fc)] w fun e w' => e = .returned (.tuple #[.agg #[.slice none 0 0], .int .i64 code, .int .i64 at']) ∧ Below w.heap.size w w' := by
 have HR : Hid _ := hRd
 clear hRd
 have hmf : ∀ (fn : Fn) (first cap : Array Value) (w : World), (Instr.makeFunc fn first cap).run Tryz.prog w = .ok (.func fn first cap) w := fun _ _ _ _ => rfl
 have het := eq_tab fp fn fc
 go_enter_defers Tryz.func9, Tryz.ntmps9
 go_wp2_with (go_at_call 20; refine (HR.out _ zq1).mono ?_; rintro e w5 ⟨rfl, hb5⟩; have hB5 := bux w zq1 hb5; have o0 : Own w5 w.heap.size #[.slice none 0 0] := Own.keep zq4 hb5; have o1 : Own w5 (w.heap.size + 1) #[.int .i64 0] := Own.keep zq4 hb5; have o2 : Own w5 (w.heap.size + 1 + 1) #[.int .i64 0] := Own.keep zq4 hb5; have c0 := o0.cell; have f0 := o0.fro; have l0 := o0.lt; have c1 := o1.cell; have f1 := o1.fro; have l1 := o1.lt; have c2 := o2.cell; have f2 := o2.fro; have l2 := o2.lt)
 refine leaves_cons (f := 18) (args := #[.pointer (some ⟨w.heap.size + 1, 0, none⟩), .pointer (some ⟨w.heap.size + 1 + 1, 0, none⟩)]) (by simp) (by simp [go_sem]) ?_
 refine (catch_p (w.heap.size + 1) (w.heap.size + 1 + 1) 0 0 code at' [] w5 o1 o2 zq17).mono ?_
 rintro e u' w'' ⟨rfl, rfl, w6, hb6, rfl⟩
 have p0 := o0.keep hb6
 have p1 := o1.keep hb6
 have p2 := o2.keep hb6
 have d0 := p0.cell
 have d1 := p1.cell
 have d2 := p2.cell
 have hB6 := bup hB5 hb6
 simp [Leaves, settle, results, Tryz.results9, go_sem, d0, d1, d2]
 with_reducible (repeat' first | assumption | exact Below.refl _ _ | refine Below.drew ?_ | refine bdrewN ?_ _ | refine Below.setCell ?_ zq11 _ | refine Below.alloc ?_ zq11 _)
theorem parse_ok (s : ByteArray) (fp : Option Addr) (fn fc : Nat) (Q : Value → World → Prop) (w : World) (hRd : ∀ w1, Below w.heap.size w w1 → w.heap.size + 3 ≤ w1.heap.size → Calls Tryz.prog 20 #[.string s, .iface 29 (.slice fp fn fc)] w1 fun e w' => ∃ p n cap, e = .returned (.slice p n cap) ∧ Q (.slice p n cap) w' ∧ Below w1.heap.size w1 w') :
  Calls Tryz.prog 9 #[.string s, .iface 29 (.slice fp fn fc)] w fun e w' => ∃ v w5, e = .returned (.tuple #[.agg #[v], .int .i64 0, .int .i64 0]) ∧ Q v w5 ∧ w' = ((w5.setCell ⟨w.heap.size, 0, none⟩ v).setCell ⟨w.heap.size + 1, 0, none⟩ (.int .i64 0)).setCell ⟨w.heap.size + 1 + 1, 0, none⟩ (.int .i64 0) ∧ Below w.heap.size w w' := by
 have HR : Hid _ := hRd
 clear hRd
 have hmf : ∀ (fn : Fn) (first cap : Array Value) (w : World), (Instr.makeFunc fn first cap).run Tryz.prog w = .ok (.func fn first cap) w := fun _ _ _ _ => rfl
 have het := eq_tab fp fn fc
 go_enter_defers Tryz.func9, Tryz.ntmps9
 go_wp2_with (go_at_call 20; refine (HR.out _ zq1 (by simp; done)).mono ?_; rintro e w5 ⟨p, n, cap, rfl, hq, hb5⟩; have hB5 := bux w zq1 hb5; have o0 : Own w5 w.heap.size #[.slice none 0 0] := Own.keep zq4 hb5; have o1 : Own w5 (w.heap.size + 1) #[.int .i64 0] := Own.keep zq4 hb5; have o2 : Own w5 (w.heap.size + 1 + 1) #[.int .i64 0] := Own.keep zq4 hb5; have c0 := o0.cell; have f0 := o0.fro; have l0 := o0.lt; have c1 := o1.cell; have f1 := o1.fro; have l1 := o1.lt; have c2 := o2.cell; have f2 := o2.fro; have l2 := o2.lt)
 refine leaves_cons (f := 18) (args := #[.pointer (some ⟨w.heap.size + 1, 0, none⟩), .pointer (some ⟨w.heap.size + 1 + 1, 0, none⟩)]) (by simp) (by simp [go_sem]) ?_
 refine (catch_i (w.heap.size + 1) (w.heap.size + 1 + 1) _).mono ?_
 rintro e u' w'' ⟨rfl, rfl, rfl⟩
 simp [Leaves, settle, results, Tryz.results9, go_sem, c0, c1, c2]
 exact ⟨w5, hq, rfl, zq1⟩
end Go.Proofs.YtcmjhjnpcogmgaaGreatDoor
