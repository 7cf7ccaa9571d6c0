/- The contract of the reader's call: the node of a call whose arguments are read, or what it -/
import Derived.Test.YtcmjhjnpcogmgaaGreatDoorUAuto
import Derived.Test.YtcmjhjnpcogmgaaGreatDoorUPN3
import Derived.Test.YtcmjhjnpcogmgaaGreatDoorUPOPO2
import Derived.Test.YtcmjhjnpcogmgaaGreatDoorUPSPS2
import Derived.Test.YtcmjhjnpcogmgaaGreatDoorUPVPV2
set_option linter.all false
set_option maxRecDepth 100000
set_option maxHeartbeats 4000000
namespace Go.Proofs.YtcmjhjnpcogmgaaGreatDoor
open Go.Shelf Go.RowKit
theorem method_takes (fp : Option Addr) (fn fc : Nat) (w : World) : (method 352 29 (.slice fp fn fc) "Takes").run Tryz.prog w = .ok (143, .slice fp fn fc) w := by kernel_rfl
theorem method_known (fp : Option Addr) (fn fc : Nat) (w : World) : (method 352 29 (.slice fp fn fc) "Known").run Tryz.prog w = .ok (142, .slice fp fn fc) w := by kernel_rfl
theorem call_n (w : World) (R : Nat) (tb vn vo vr : Value) (pl : Int) (nm : Tk) (ct : Nat) (fp : Option Addr) (fn fc : Nat) (bn : Tk) (rv : Value) (hR : Own w R #[.iface 29 (.slice fp fn fc), .int .i64 pl, .int .i64 nm.kind, .int .i64 nm.at', .int .i64 nm.num, .string nm.str, .int .i64 nm.c0, .int .i64 nm.c1, .int .i64 nm.r0, .int .i64 nm.r1, .int .i64 nm.r2, .int .i64 nm.r3, .int .i64 nm.code, vn, vo, vr, .int .i64 (ct : Nat)])
  (hT : ∀ w1, Below w.heap.size w w1 → Calls Tryz.prog 143 #[.slice fp fn fc, .string bn.str, rv] w1 fun e w' => e = .returned (.bool false) ∧ Below w1.heap.size w1 w') :
  Calls Tryz.prog 90 #[.pointer (some ⟨R, 0, none⟩), .agg #[.int .i64 bn.kind, .int .i64 bn.at', .int .i64 bn.num, .string bn.str, .int .i64 bn.c0, .int .i64 bn.c1, .int .i64 bn.r0, .int .i64 bn.r1, .int .i64 bn.r2, .int .i64 bn.r3, .int .i64 bn.code], rv] w fun e w' => e = .panicked (refC 8 bn.at') ∧ Below w.heap.size w w' := by
 have mixed : Tryz.prog.follows .mixedOrders = true := by kernel_rfl
 have HT : Hid _ := hT
 clear hT
 have c := hR.cell
 have fz := hR.fro
 have lt := hR.lt
 have hmt := method_takes fp fn fc
 go_enter Tryz.func90, Tryz.ntmps90
 go_wp2
 go_region_with (go_at_call 143; refine (HT.out _ zq1).mono ?_; rintro e w1 ⟨rfl, hb⟩; have hB1 := bux w zq1 hb; have o1 : Own w1 w.heap.size #[.int .i64 bn.kind, .int .i64 bn.at', .int .i64 bn.num, .string bn.str, .int .i64 bn.c0, .int .i64 bn.c1, .int .i64 bn.r0, .int .i64 bn.r1, .int .i64 bn.r2, .int .i64 bn.r3, .int .i64 bn.code] := Own.keep zq4 hb; have c1 := o1.cell; have l1 := o1.lt)
 all_goals go_wp2_with (go_at_call 88; refine (refuse_any 8 bn.at' _).mono ?_; rintro e w2 ⟨rfl, hb2⟩; have hB2 := bux w zq1 hb2)
 all_goals exact ⟨rfl, rfl, hB2⟩
theorem call_y (w : World) (R : Nat) (tb vn vo vr : Value) (pl : Int) (nm : Tk) (ct : Nat) (fp : Option Addr) (fn fc : Nat) (bn : Tk) (rp : Option Addr) (rc : Nat) (rl : List Bool) (hR : Own w R #[.iface 29 (.slice fp fn fc), .int .i64 pl, .int .i64 nm.kind, .int .i64 nm.at', .int .i64 nm.num, .string nm.str, .int .i64 nm.c0, .int .i64 nm.c1, .int .i64 nm.r0, .int .i64 nm.r1, .int .i64 nm.r2, .int .i64 nm.r3, .int .i64 nm.code, vn, vo, vr, .int .i64 (ct : Nat)]) (hsz : bn.str.size ≤ 281474976710656) (l : List Rf.Nd) (hrow : NRow w vn l) (hl : l.length < 1024) (hne : ∀ g, vn.ownBlock = some g → g ≠ R)
  (hT : ∀ w1, Below w.heap.size w w1 → Calls Tryz.prog 143 #[.slice fp fn fc, .string bn.str, .slice rp rl.length rc] w1 fun e w' => e = .returned (.bool true) ∧ Below w1.heap.size w1 w') :
  Calls Tryz.prog 90 #[.pointer (some ⟨R, 0, none⟩), .agg #[.int .i64 bn.kind, .int .i64 bn.at', .int .i64 bn.num, .string bn.str, .int .i64 bn.c0, .int .i64 bn.c1, .int .i64 bn.r0, .int .i64 bn.r1, .int .i64 bn.r2, .int .i64 bn.r3, .int .i64 bn.code], .slice rp rl.length rc] w fun e w' => (∃ v, e = .returned v) ∧ ∃ vn', Own w' R #[.iface 29 (.slice fp fn fc), .int .i64 pl, .int .i64 nm.kind, .int .i64 nm.at', .int .i64 nm.num, .string nm.str, .int .i64 nm.c0, .int .i64 nm.c1, .int .i64 nm.r0, .int .i64 nm.r1, .int .i64 nm.r2, .int .i64 nm.r3, .int .i64 nm.code, vn', vo, vr, .int .i64 (ct : Nat)] ∧ NRow w' vn' (l ++ [⟨5, 0, 0, ⟨#[]⟩, false, 0, 0, 0, 0, 0, 0, 0, 0, bn.str, (rl.length : Int)⟩]) ∧ Mut (fun b => b = R ∨ vn.ownBlock = some b) w w' ∧ ∀ b, vn'.ownBlock = some b → vn.ownBlock = some b ∨ w.heap.size ≤ b := by
 have mixed : Tryz.prog.follows .mixedOrders = true := by kernel_rfl
 have HT : Hid _ := hT
 clear hT
 have c := hR.cell
 have fz := hR.fro
 have lt := hR.lt
 have hmt := method_takes fp fn fc
 go_enter Tryz.func90, Tryz.ntmps90
 go_wp2
 go_region_with (go_at_call 143; refine (HT.out _ zq1).mono ?_; rintro e w1 ⟨rfl, hb⟩; have hB1 := bux w zq1 hb; have o1 : Own w1 w.heap.size #[.int .i64 bn.kind, .int .i64 bn.at', .int .i64 bn.num, .string bn.str, .int .i64 bn.c0, .int .i64 bn.c1, .int .i64 bn.r0, .int .i64 bn.r1, .int .i64 bn.r2, .int .i64 bn.r3, .int .i64 bn.code] := Own.keep zq4 hb; have c1 := o1.cell; have l1 := o1.lt; have oRw1 : Own w1 R #[.iface 29 (.slice fp fn fc), .int .i64 pl, .int .i64 nm.kind, .int .i64 nm.at', .int .i64 nm.num, .string nm.str, .int .i64 nm.c0, .int .i64 nm.c1, .int .i64 nm.r0, .int .i64 nm.r1, .int .i64 nm.r2, .int .i64 nm.r3, .int .i64 nm.code, vn, vo, vr, .int .i64 (ct : Nat)] := Own.keep zq4 hb; have hNw1 : NRow w1 vn l := Rf.Row.keep zq8 hb; have cRw1 := oRw1.cell)
 all_goals go_wp2
 all_goals go_region_with (first | (go_at_call 135; refine (own_any bn.kind bn.at' bn.num bn.str bn.c0 bn.c1 bn.r0 bn.r1 bn.r2 bn.r3 bn.code _ hsz).mono ?_; rintro e w2 ⟨rfl, hb2⟩; have hB2 := bux w zq1 hb2; have o2 : Own w2 w.heap.size #[.int .i64 bn.kind, .int .i64 bn.at', .int .i64 bn.num, .string bn.str, .int .i64 bn.c0, .int .i64 bn.c1, .int .i64 bn.r0, .int .i64 bn.r1, .int .i64 bn.r2, .int .i64 bn.r3, .int .i64 bn.code] := Own.keep zq4 hb2; have c2 := o2.cell; have l2 := o2.lt; have oRw2 : Own w2 R #[.iface 29 (.slice fp fn fc), .int .i64 pl, .int .i64 nm.kind, .int .i64 nm.at', .int .i64 nm.num, .string nm.str, .int .i64 nm.c0, .int .i64 nm.c1, .int .i64 nm.r0, .int .i64 nm.r1, .int .i64 nm.r2, .int .i64 nm.r3, .int .i64 nm.code, vn, vo, vr, .int .i64 (ct : Nat)] := Own.keep zq4 hb2; have hNw2 : NRow w2 vn l := Rf.Row.keep zq8 hb2; have cRw2 := oRw2.cell) | (go_at_call 134; refine (callNode_any bn.str (rl.length : Int) _).mono ?_; rintro e w3 ⟨rfl, hb3⟩; have hB3 := bux w zq1 hb3; have o3 : Own w3 w.heap.size #[.int .i64 bn.kind, .int .i64 bn.at', .int .i64 bn.num, .string bn.str, .int .i64 bn.c0, .int .i64 bn.c1, .int .i64 bn.r0, .int .i64 bn.r1, .int .i64 bn.r2, .int .i64 bn.r3, .int .i64 bn.code] := Own.keep zq4 hb3; have c3 := o3.cell; have l3 := o3.lt; have oRw3 : Own w3 R #[.iface 29 (.slice fp fn fc), .int .i64 pl, .int .i64 nm.kind, .int .i64 nm.at', .int .i64 nm.num, .string nm.str, .int .i64 nm.c0, .int .i64 nm.c1, .int .i64 nm.r0, .int .i64 nm.r1, .int .i64 nm.r2, .int .i64 nm.r3, .int .i64 nm.code, vn, vo, vr, .int .i64 (ct : Nat)] := Own.keep zq4 hb3; have hNw3 : NRow w3 vn l := Rf.Row.keep zq8 hb3; have cRw3 := oRw3.cell) | (go_at_call 55; refine (add_y _ R (.iface 29 (.slice fp fn fc)) vn vo vr pl nm ct l ⟨5, 0, 0, ⟨#[]⟩, false, 0, 0, 0, 0, 0, 0, 0, 0, bn.str, (rl.length : Int)⟩ bn.at' zq4 zq8 hl hne).mono ?_; rintro e w5 ⟨⟨v5, rfl⟩, vn5, q1, q2, q3, q4⟩))
 all_goals have hzz := hB3.size
 all_goals exact ⟨rfl, _, results_none rfl _ _ _, ⟨_, rfl⟩, vn5, q1, q2, Mut.call (Mut.below (Mut.refl _ _) (by first | exact hB3 | (with_reducible (repeat' first | assumption | exact Below.refl _ _ | refine Below.drew ?_ | refine bdrewN ?_ _ | refine Below.setCell ?_ zq11 _ | refine Below.alloc ?_ zq11 _)))) q3 (fun b hb => .inl hb), fun b hb => (q4 b hb).imp (fun h => h) (fun h => by first | omega | (simp at h; omega))⟩
end Go.Proofs.YtcmjhjnpcogmgaaGreatDoor
namespace Go.Proofs.YtcmjhjnpcogmgaaGreatDoor
open Go.Shelf Go.RowKit
theorem name_m (w : World) (R : Nat) (tb vn vo vr : Value) (pl : Int) (nm : Tk) (ct : Nat) (t : Tk) (hR : Own w R #[tb, .int .i64 pl, .int .i64 nm.kind, .int .i64 nm.at', .int .i64 nm.num, .string nm.str, .int .i64 nm.c0, .int .i64 nm.c1, .int .i64 nm.r0, .int .i64 nm.r1, .int .i64 nm.r2, .int .i64 nm.r3, .int .i64 nm.code, vn, vo, vr, .int .i64 (ct : Nat)]) (h1 : mayNm t.str = false) :
  Calls Tryz.prog 92 #[.pointer (some ⟨R, 0, none⟩), .agg #[.int .i64 t.kind, .int .i64 t.at', .int .i64 t.num, .string t.str, .int .i64 t.c0, .int .i64 t.c1, .int .i64 t.r0, .int .i64 t.r1, .int .i64 t.r2, .int .i64 t.r3, .int .i64 t.code]] w fun e w' => e = .panicked (refC 8 t.at') ∧ Below w.heap.size w w' := by
 have mixed : Tryz.prog.follows .mixedOrders = true := by kernel_rfl
 have H1 : Hid _ := h1
 clear h1
 have c := hR.cell
 have fz := hR.fro
 have lt := hR.lt
 go_enter Tryz.func92, Tryz.ntmps92
 go_wp2
 refine wp_region_held_drew (S := fun w' => w'.cell? ⟨w.heap.size, 3, none⟩ = some (.string t.str)) zq14 (by (try dsimp only); ((repeat' apply And.intro) <;> (first | (go_keep; done) | (go_simp; done)))) (fun hHeld => ?_)
 refine wpAnyH_take (i := 0) (v := .pointer (some ⟨w.heap.size, 3, none⟩)) rfl zq14 zq14 zq14 (fun _ _ _ h => h) (Or.inl ⟨by rfl, by intro wz hSw; (try dsimp only at hSw); go_simp⟩) zq15 ?_
 (try simp only [Act.put, List.setIfInBounds_toArray, List.set_cons_zero, List.set_cons_succ])
 refine wpAnyH_take (i := 1) (v := .string t.str) rfl zq14 zq14 zq14 (fun _ _ _ h => h) (Or.inl ⟨by rfl, by intro wz hSw; (try dsimp only at hSw); go_simp⟩) zq15 ?_
 (try simp only [Act.put, List.setIfInBounds_toArray, List.set_cons_zero, List.set_cons_succ])
 refine wpAnyH_ready (rs := [2]) zq14 (by simp) ?_
 refine AllReadyH.cons rfl (fun K hK => ?_) ?_
 ·go_simp
  (go_at_call 138; refine (mayName_any t.str _).mono ?_; rw [H1.out]; rintro e w1 ⟨rfl, hb1⟩; have hB1 := bux w zq1 hb1; have oT1 := keepT t (w.heap.size) zq4 hb1; have cT1 := oT1.cell; have lT1 := oT1.lt)
  go_wp2_with fail
  refine hK.out _ _ (by (try dsimp only); first | (with_reducible assumption) | ((repeat' apply And.intro) <;> (first | (go_keep; done) | (go_simp; done)))) (fun hHeld => ?_)
  clear hK K
  (try simp only [Act.put, List.setIfInBounds_toArray, List.set_cons_zero, List.set_cons_succ])
  refine wpAnyH_take (i := 3) (v := .bool true) rfl zq14 zq14 zq14 (fun _ _ _ h => h) (Or.inl ⟨by rfl, by intro wz hSw; (try dsimp only at hSw); go_simp⟩) zq15 ?_
  (try simp only [Act.put, List.setIfInBounds_toArray, List.set_cons_zero, List.set_cons_succ])
  refine wpAnyH_take (i := 4) (v := .bool true) rfl zq14 zq14 zq14 (fun _ _ _ h => h) (Or.inl ⟨by rfl, by intro wz hSw; (try dsimp only at hSw); go_simp⟩) zq15 ?_
  (try simp only [Act.put, List.setIfInBounds_toArray, List.set_cons_zero, List.set_cons_succ])
  refine wpAnyH_take (i := 5) (v := undef) rfl zq14 zq14 zq14 (fun _ _ _ h => h) (Or.inr ⟨zq14, rfl⟩) zq15 ?_
  (try simp only [Act.put, List.getElem_toArray, List.getElem_cons_succ, List.getElem_cons_zero, List.setIfInBounds_toArray, List.set_cons_zero, List.set_cons_succ])
  refine wpAnyH_take (i := 6) (v := undef) rfl zq14 zq14 zq14 (fun _ _ _ h => h) (Or.inr ⟨zq14, rfl⟩) zq15 ?_
  (try simp only [Act.put, List.getElem_toArray, List.getElem_cons_succ, List.getElem_cons_zero, List.setIfInBounds_toArray, List.set_cons_zero, List.set_cons_succ])
  refine wpAnyH_take (i := 7) (v := undef) rfl zq14 zq14 zq14 (fun _ _ _ h => h) (Or.inr ⟨zq14, rfl⟩) zq15 ?_
  (try simp only [Act.put, List.getElem_toArray, List.getElem_cons_succ, List.getElem_cons_zero, List.setIfInBounds_toArray, List.set_cons_zero, List.set_cons_succ])
  refine wpAnyH_take (i := 8) (v := undef) rfl zq14 zq14 zq14 (fun _ _ _ h => h) (Or.inr ⟨zq14, rfl⟩) zq15 ?_
  (try simp only [Act.put, List.getElem_toArray, List.getElem_cons_succ, List.getElem_cons_zero, List.setIfInBounds_toArray, List.set_cons_zero, List.set_cons_succ])
  refine wpAnyH_take (i := 9) (v := undef) rfl zq14 zq14 zq14 (fun _ _ _ h => h) (Or.inr ⟨zq14, rfl⟩) zq15 ?_
  (try simp only [Act.put, List.getElem_toArray, List.getElem_cons_succ, List.getElem_cons_zero, List.setIfInBounds_toArray, List.set_cons_zero, List.set_cons_succ])
  refine wpAnyH_take (i := 10) (v := undef) rfl zq14 zq14 zq14 (fun _ _ _ h => h) (Or.inr ⟨zq14, rfl⟩) zq15 ?_
  (try simp only [Act.put, List.getElem_toArray, List.getElem_cons_succ, List.getElem_cons_zero, List.setIfInBounds_toArray, List.set_cons_zero, List.set_cons_succ])
  refine wpAnyH_take (i := 11) (v := undef) rfl zq14 zq14 zq14 (fun _ _ _ h => h) (Or.inr ⟨zq14, rfl⟩) zq15 ?_
  (try simp only [Act.put, List.getElem_toArray, List.getElem_cons_succ, List.getElem_cons_zero, List.setIfInBounds_toArray, List.set_cons_zero, List.set_cons_succ])
  refine wpAnyH_take (i := 12) (v := undef) rfl zq14 zq14 zq14 (fun _ _ _ h => h) (Or.inr ⟨zq14, rfl⟩) zq15 ?_
  (try simp only [Act.put, List.getElem_toArray, List.getElem_cons_succ, List.getElem_cons_zero, List.setIfInBounds_toArray, List.set_cons_zero, List.set_cons_succ])
  refine wpAnyH_take (i := 13) (v := .bool true) rfl zq14 zq14 zq14 (fun _ _ _ h => h) (Or.inl ⟨by rfl, by intro wz hSw; (try dsimp only at hSw); go_simp⟩) zq15 ?_
  (try simp only [Act.put, List.getElem_toArray, List.getElem_cons_succ, List.getElem_cons_zero, List.setIfInBounds_toArray, List.set_cons_zero, List.set_cons_succ])
  refine wpAnyH_done zq14 ?_ _
  go_wp2_with (go_at_call 88; refine (refuse_any 8 t.at' _).mono ?_; rintro e w5 ⟨rfl, hb5⟩; have hB5 := bux w zq1 hb5)
  exact ⟨rfl, rfl, hB5⟩
 exact AllReadyH.nil
theorem call_f (w : World) (R : Nat) (tb vn vo vr : Value) (pl : Int) (nm : Tk) (ct : Nat) (fp : Option Addr) (fn fc : Nat) (bn : Tk) (rp : Option Addr) (rc : Nat) (rl : List Bool) (np : Option Addr) (ncap : Nat) (hR : Own w R #[.iface 29 (.slice fp fn fc), .int .i64 pl, .int .i64 nm.kind, .int .i64 nm.at', .int .i64 nm.num, .string nm.str, .int .i64 nm.c0, .int .i64 nm.c1, .int .i64 nm.r0, .int .i64 nm.r1, .int .i64 nm.r2, .int .i64 nm.r3, .int .i64 nm.code, .slice np 1024 ncap, vo, vr, .int .i64 (ct : Nat)]) (hsz : bn.str.size ≤ 281474976710656)
  (hT : ∀ w1, Below w.heap.size w w1 → Calls Tryz.prog 143 #[.slice fp fn fc, .string bn.str, .slice rp rl.length rc] w1 fun e w' => e = .returned (.bool true) ∧ Below w1.heap.size w1 w') :
  Calls Tryz.prog 90 #[.pointer (some ⟨R, 0, none⟩), .agg #[.int .i64 bn.kind, .int .i64 bn.at', .int .i64 bn.num, .string bn.str, .int .i64 bn.c0, .int .i64 bn.c1, .int .i64 bn.r0, .int .i64 bn.r1, .int .i64 bn.r2, .int .i64 bn.r3, .int .i64 bn.code], .slice rp rl.length rc] w fun e w' => e = .panicked (refC 8 bn.at') ∧ Below w.heap.size w w' := by
 have mixed : Tryz.prog.follows .mixedOrders = true := by kernel_rfl
 have HT : Hid _ := hT
 clear hT
 have c := hR.cell
 have fz := hR.fro
 have lt := hR.lt
 have hmt := method_takes fp fn fc
 go_enter Tryz.func90, Tryz.ntmps90
 go_wp2
 go_region_held3 (fun w' => w'.cell? ⟨w.heap.size, 3, none⟩ = some (.string bn.str) ∧ w'.cell? ⟨R, 0, none⟩ = some (.iface 29 (.slice fp fn fc))) (((repeat' apply And.intro) <;> (first | (go_keep; done) | (go_simp; done)))) ((go_at_call 143; refine (HT.out _ zq1).mono ?_; rintro e w1 ⟨rfl, hb⟩; have hB1 := bux w zq1 hb; have o1 : Own w1 w.heap.size #[.int .i64 bn.kind, .int .i64 bn.at', .int .i64 bn.num, .string bn.str, .int .i64 bn.c0, .int .i64 bn.c1, .int .i64 bn.r0, .int .i64 bn.r1, .int .i64 bn.r2, .int .i64 bn.r3, .int .i64 bn.code] := Own.keep zq4 hb; have c1 := o1.cell; have l1 := o1.lt; have oRw1 : Own w1 R #[.iface 29 (.slice fp fn fc), .int .i64 pl, .int .i64 nm.kind, .int .i64 nm.at', .int .i64 nm.num, .string nm.str, .int .i64 nm.c0, .int .i64 nm.c1, .int .i64 nm.r0, .int .i64 nm.r1, .int .i64 nm.r2, .int .i64 nm.r3, .int .i64 nm.code, .slice np 1024 ncap, vo, vr, .int .i64 (ct : Nat)] := Own.keep zq4 hb; have cRw1 := oRw1.cell))
 all_goals go_wp2
 refine wp_region_held_drew (S := fun w' => w'.cell? ⟨w.heap.size, 0, none⟩ = some (.int .i64 bn.kind) ∧ w'.cell? ⟨w.heap.size, 1, none⟩ = some (.int .i64 bn.at') ∧ w'.cell? ⟨w.heap.size, 2, none⟩ = some (.int .i64 bn.num) ∧ w'.cell? ⟨w.heap.size, 3, none⟩ = some (.string bn.str) ∧ w'.cell? ⟨w.heap.size, 4, none⟩ = some (.int .i64 bn.c0) ∧ w'.cell? ⟨w.heap.size, 5, none⟩ = some (.int .i64 bn.c1) ∧ w'.cell? ⟨w.heap.size, 6, none⟩ = some (.int .i64 bn.r0) ∧ w'.cell? ⟨w.heap.size, 7, none⟩ = some (.int .i64 bn.r1) ∧ w'.cell? ⟨w.heap.size, 8, none⟩ = some (.int .i64 bn.r2) ∧ w'.cell? ⟨w.heap.size, 9, none⟩ = some (.int .i64 bn.r3) ∧ w'.cell? ⟨w.heap.size, 10, none⟩ = some (.int .i64 bn.code)) zq14 (by (try dsimp only); ((repeat' apply And.intro) <;> (first | (go_keep; done) | (go_simp; done)))) (fun hHeld => ?_)
 refine wpAnyH_take (i := 0) (v := .pointer (some ⟨R, 0, none⟩)) rfl zq14 zq14 zq14 (fun _ _ _ h => h) (Or.inl ⟨by rfl, by intro wz hSw; (try dsimp only at hSw); go_simp⟩) zq15 ?_
 (try simp only [Act.put, List.setIfInBounds_toArray, List.set_cons_zero, List.set_cons_succ])
 refine wpAnyH_take (i := 1) (v := .agg #[.int .i64 bn.kind, .int .i64 bn.at', .int .i64 bn.num, .string bn.str, .int .i64 bn.c0, .int .i64 bn.c1, .int .i64 bn.r0, .int .i64 bn.r1, .int .i64 bn.r2, .int .i64 bn.r3, .int .i64 bn.code]) rfl zq14 zq14 zq14 (fun _ _ _ h => h) (Or.inl ⟨by rfl, by intro wz hSw; (try dsimp only at hSw); go_simp⟩) zq15 ?_
 (try simp only [Act.put, List.setIfInBounds_toArray, List.set_cons_zero, List.set_cons_succ])
 refine wpAnyH_take (i := 3) (v := .slice rp rl.length rc) rfl zq14 zq14 zq14 (fun _ _ _ h => h) (Or.inl ⟨by rfl, by intro wz hSw; (try dsimp only at hSw); go_simp⟩) zq15 ?_
 (try simp only [Act.put, List.setIfInBounds_toArray, List.set_cons_zero, List.set_cons_succ])
 refine wpAnyH_take (i := 4) (v := .int .i64 (rl.length : Int)) rfl zq14 zq14 zq14 (fun _ _ _ h => h) (Or.inl ⟨by rfl, by intro wz hSw; (try dsimp only at hSw); go_simp⟩) zq15 ?_
 (try simp only [Act.put, List.setIfInBounds_toArray, List.set_cons_zero, List.set_cons_succ])
 refine wpAnyH_take (i := 6) (v := .pointer (some ⟨w.heap.size, 1, none⟩)) rfl zq14 zq14 zq14 (fun _ _ _ h => h) (Or.inl ⟨by rfl, by intro wz hSw; (try dsimp only at hSw); go_simp⟩) zq15 ?_
 (try simp only [Act.put, List.setIfInBounds_toArray, List.set_cons_zero, List.set_cons_succ])
 refine wpAnyH_take (i := 7) (v := .int .i64 bn.at') rfl zq14 zq14 zq14 (fun _ _ _ h => h) (Or.inl ⟨by rfl, by intro wz hSw; (try dsimp only at hSw); go_simp⟩) zq15 ?_
 (try simp only [Act.put, List.setIfInBounds_toArray, List.set_cons_zero, List.set_cons_succ])
 refine wpAnyH_ready (rs := [2]) zq14 (by simp) ?_
 refine AllReadyH.cons rfl (fun K hK => ?_) ?_
 ·go_simp
  (go_at_call 135; refine (own_any bn.kind bn.at' bn.num bn.str bn.c0 bn.c1 bn.r0 bn.r1 bn.r2 bn.r3 bn.code _ hsz).mono ?_; rintro e w2 ⟨rfl, hb2⟩; have hB2 := bux w zq1 hb2; have o2 : Own w2 w.heap.size #[.int .i64 bn.kind, .int .i64 bn.at', .int .i64 bn.num, .string bn.str, .int .i64 bn.c0, .int .i64 bn.c1, .int .i64 bn.r0, .int .i64 bn.r1, .int .i64 bn.r2, .int .i64 bn.r3, .int .i64 bn.code] := Own.keep zq4 hb2; have c2 := o2.cell; have l2 := o2.lt; have oRw2 : Own w2 R #[.iface 29 (.slice fp fn fc), .int .i64 pl, .int .i64 nm.kind, .int .i64 nm.at', .int .i64 nm.num, .string nm.str, .int .i64 nm.c0, .int .i64 nm.c1, .int .i64 nm.r0, .int .i64 nm.r1, .int .i64 nm.r2, .int .i64 nm.r3, .int .i64 nm.code, .slice np 1024 ncap, vo, vr, .int .i64 (ct : Nat)] := Own.keep zq4 hb2; have cRw2 := oRw2.cell)
  go_wp2_with fail
  refine hK.out _ _ (by (try dsimp only); first | (with_reducible assumption) | ((repeat' apply And.intro) <;> (first | (go_keep; done) | (go_simp; done)))) (fun hHeld => ?_)
  clear hK K
  (try simp only [Act.put, List.setIfInBounds_toArray, List.set_cons_zero, List.set_cons_succ])
  refine wpAnyH_ready (rs := [5]) zq14 (by simp) ?_
  refine AllReadyH.cons rfl (fun K hK => ?_) ?_
  ·go_simp
   (go_at_call 134; refine (callNode_any bn.str (rl.length : Int) _).mono ?_; rintro e w3 ⟨rfl, hb3⟩; have hB3 := bux w zq1 hb3; have o3 : Own w3 w.heap.size #[.int .i64 bn.kind, .int .i64 bn.at', .int .i64 bn.num, .string bn.str, .int .i64 bn.c0, .int .i64 bn.c1, .int .i64 bn.r0, .int .i64 bn.r1, .int .i64 bn.r2, .int .i64 bn.r3, .int .i64 bn.code] := Own.keep zq4 hb3; have c3 := o3.cell; have l3 := o3.lt; have oRw3 : Own w3 R #[.iface 29 (.slice fp fn fc), .int .i64 pl, .int .i64 nm.kind, .int .i64 nm.at', .int .i64 nm.num, .string nm.str, .int .i64 nm.c0, .int .i64 nm.c1, .int .i64 nm.r0, .int .i64 nm.r1, .int .i64 nm.r2, .int .i64 nm.r3, .int .i64 nm.code, .slice np 1024 ncap, vo, vr, .int .i64 (ct : Nat)] := Own.keep zq4 hb3; have cRw3 := oRw3.cell)
   go_wp2_with fail
   refine hK.out _ _ (by (try dsimp only); first | (with_reducible assumption) | ((repeat' apply And.intro) <;> (first | (go_keep; done) | (go_simp; done)))) (fun hHeld => ?_)
   clear hK K
   (try simp only [Act.put, List.setIfInBounds_toArray, List.set_cons_zero, List.set_cons_succ])
   refine wpAnyH_ready (rs := [8]) zq14 (by simp) ?_
   refine AllReadyH.cons rfl (fun K hK => ?_) ?_
   ·go_simp
    (go_at_call 55; refine (add_n _ R (.iface 29 (.slice fp fn fc)) vn vo vr pl nm ct np ncap ⟨5, 0, 0, ⟨#[]⟩, false, 0, 0, 0, 0, 0, 0, 0, 0, bn.str, (rl.length : Int)⟩ bn.at' zq4).mono ?_; rintro e w5 ⟨rfl, hb5⟩)
    exact ⟨rfl, rfl, bup zq1 hb5⟩
   exact AllReadyH.nil
  exact AllReadyH.nil
 exact AllReadyH.nil
theorem work_z (w : World) (R : Nat) (tb vn vr : Value) (pl : Int) (nm : Tk) (lev : Int) (po : Option Addr) (capo : Nat) (hR : Own w R #[tb, .int .i64 pl, .int .i64 nm.kind, .int .i64 nm.at', .int .i64 nm.num, .string nm.str, .int .i64 nm.c0, .int .i64 nm.c1, .int .i64 nm.r0, .int .i64 nm.r1, .int .i64 nm.r2, .int .i64 nm.r3, .int .i64 nm.code, vn, .slice po 0 capo, vr, .int .i64 (0 : Nat)]) :
  Calls Tryz.prog 97 #[.pointer (some ⟨R, 0, none⟩), .int .i64 lev] w fun e w' => (∃ v, e = .returned v) ∧ Below w.heap.size w w' := by
 have mixed : Tryz.prog.follows .mixedOrders = true := by kernel_rfl
 have hR0 : Own w R #[tb, .int .i64 pl, .int .i64 nm.kind, .int .i64 nm.at', .int .i64 nm.num, .string nm.str, .int .i64 nm.c0, .int .i64 nm.c1, .int .i64 nm.r0, .int .i64 nm.r1, .int .i64 nm.r2, .int .i64 nm.r3, .int .i64 nm.code, vn, .slice po 0 capo, vr, .int .i64 0] := hR
 clear hR
 have hR := hR0
 have c := hR.cell
 have fz := hR.fro
 have lt := hR.lt
 go_enter Tryz.func97, Tryz.ntmps97
 go_wp2
 go_loopw [] (fun w' => Own w' R #[tb, .int .i64 pl, .int .i64 nm.kind, .int .i64 nm.at', .int .i64 nm.num, .string nm.str, .int .i64 nm.c0, .int .i64 nm.c1, .int .i64 nm.r0, .int .i64 nm.r1, .int .i64 nm.r2, .int .i64 nm.r3, .int .i64 nm.code, vn, .slice po 0 capo, vr, .int .i64 0] ∧ Below w.heap.size w w') (fun _ => 0)
 case atStart => exact ⟨zq4, zq1⟩
 case round =>
  obtain ⟨oR, hB⟩ := hrel
  have cR := oR.cell
  have lR := oR.lt
  go_wp2
  exact ⟨rfl, _, results_none rfl _ _ _, ⟨_, rfl⟩, hB⟩
theorem work_zb (w : World) (R : Nat) (tb vn vr : Value) (pl : Int) (nm : Tk) (lev : Int) (go k capo : Nat) (l : List Bc) (b : Bc) (hR : Own w R #[tb, .int .i64 pl, .int .i64 nm.kind, .int .i64 nm.at', .int .i64 nm.num, .string nm.str, .int .i64 nm.c0, .int .i64 nm.c1, .int .i64 nm.r0, .int .i64 nm.r1, .int .i64 nm.r2, .int .i64 nm.r3, .int .i64 nm.code, vn, .slice (some ⟨go, 0, none⟩) (k + 1) capo, vr, .int .i64 (0 : Nat)]) (hrow : BRow w (.slice (some ⟨go, 0, none⟩) (k + 1) capo) l) (hb : l[k]? = some b) (hah : b.ahead = ((0 : Nat) : Int)) (hk1 : k < 1000) :
  Calls Tryz.prog 97 #[.pointer (some ⟨R, 0, none⟩), .int .i64 lev] w fun e w' => (∃ v, e = .returned v) ∧ Below w.heap.size w w' := by
 have mixed : Tryz.prog.follows .mixedOrders = true := by kernel_rfl
 have hR0 : Own w R #[tb, .int .i64 pl, .int .i64 nm.kind, .int .i64 nm.at', .int .i64 nm.num, .string nm.str, .int .i64 nm.c0, .int .i64 nm.c1, .int .i64 nm.r0, .int .i64 nm.r1, .int .i64 nm.r2, .int .i64 nm.r3, .int .i64 nm.code, vn, .slice (some ⟨go, 0, none⟩) (k + 1) capo, vr, .int .i64 0] := hR
 clear hR
 have hR := hR0
 have c := hR.cell
 have fz := hR.fro
 have lt := hR.lt
 have hlg := (Rf.Row.lt hrow go rfl).2
 have z12 : w.cell? ⟨go, k * 13 + 12, none⟩ = some (.int .i64 0) := by
  have h := Rf.Row.cells Bc_size hrow k _ hb 12 zq16
  rw [h]; show some (Value.int .i64 b.ahead) = _; rw [hah]; rfl
 have hsb : wrap64 ((k : Int) + 1 - 1) = (k : Int) := by unfold wrap64; omega
 have hsb2 : ((k : Int) + 1 - 1) = (k : Int) := by omega
 have hkp : 0 < (k : Int) + 1 := by omega
 have hkl : (k : Int) < (k : Int) + 1 := by omega
 have hkn : 0 ≤ (k : Int) := by omega
 go_enter Tryz.func97, Tryz.ntmps97
 go_wp2
 go_quiet (fail)
 go_wp2
 go_loopw [] (fun w' => Own w' R #[tb, .int .i64 pl, .int .i64 nm.kind, .int .i64 nm.at', .int .i64 nm.num, .string nm.str, .int .i64 nm.c0, .int .i64 nm.c1, .int .i64 nm.r0, .int .i64 nm.r1, .int .i64 nm.r2, .int .i64 nm.r3, .int .i64 nm.code, vn, .slice (some ⟨go, 0, none⟩) (k + 1) capo, vr, .int .i64 0] ∧ Below w.heap.size w w') (fun _ => 0)
 case atStart => exact ⟨zq4, zq1⟩
 case round =>
  obtain ⟨oR, hB⟩ := hrel
  have cR := oR.cell
  have lR := oR.lt
  go_wp2
  exact ⟨rfl, _, results_none rfl _ _ _, ⟨_, rfl⟩, hB⟩
end Go.Proofs.YtcmjhjnpcogmgaaGreatDoor
