/- Work where it gives up: the nodes are 1024 -/
import Derived.Test.YtcmjhjnpcogmgaaGreatDoorUAuto
import Derived.Test.YtcmjhjnpcogmgaaGreatDoorUPVPV2
set_option linter.all false
set_option maxRecDepth 100000
set_option maxHeartbeats 4000000
namespace Go.Proofs.YtcmjhjnpcogmgaaGreatDoor
open Go.Shelf Go.RowKit
theorem work_en (w : World) (R : Nat) (tb vn vr : Value) (pl : Int) (nm : Tk) (ct0 : Nat) (lev : Int) (gr capr : Nat) (rm : List Wt) (ns0 : List Rf.Nd) (po : Option Addr) (capo : Nat) (hR : Own w R #[tb, .int .i64 pl, .int .i64 nm.kind, .int .i64 nm.at', .int .i64 nm.num, .string nm.str, .int .i64 nm.c0, .int .i64 nm.c1, .int .i64 nm.r0, .int .i64 nm.r1, .int .i64 nm.r2, .int .i64 nm.r3, .int .i64 nm.code, vn, .slice po 0 capo, .slice (some ⟨gr, 0, none⟩) rm.length capr, .int .i64 (ct0 : Nat)]) (hN : NRow w vn ns0) (hW : WRow w (.slice (some ⟨gr, 0, none⟩) rm.length capr) rm) 
  (hnv : ∀ g, vn.ownBlock = some g → g ≠ R) (hgr : gr ≠ R) (hgn : ∀ g, vn.ownBlock = some g → g ≠ gr) (hrm : rm.length ≤ 1024) (hct : ct0 ≤ rm.length ∨ rm.length = 1024) (hcb : ct0 < 1000000000) (hns0 : ns0.length ≤ 1024) (a9 : Int) (hok : wrk rm 0 lev ct0 ns0 = .error a9) :
  Calls Tryz.prog 97 #[.pointer (some ⟨R, 0, none⟩), .int .i64 lev] w fun e w' => WP w (fun b => b = R ∨ vn.ownBlock = some b) (fun c' n' w' => ∃ vn', Own w' R #[tb, .int .i64 pl, .int .i64 nm.kind, .int .i64 nm.at', .int .i64 nm.num, .string nm.str, .int .i64 nm.c0, .int .i64 nm.c1, .int .i64 nm.r0, .int .i64 nm.r1, .int .i64 nm.r2, .int .i64 nm.r3, .int .i64 nm.code, vn', .slice po 0 capo, .slice (some ⟨gr, 0, none⟩) rm.length capr, .int .i64 (c' : Nat)] ∧ NRow w' vn' n' ∧ Mut (fun b => b = R ∨ vn.ownBlock = some b) w w' ∧ ∀ b, vn'.ownBlock = some b → vn.ownBlock = some b ∨ w.heap.size ≤ b) (wrk rm 0 lev ct0 ns0) e w' := by
 have HOK : Hid _ := hok
 clear hok
 have mixed : Tryz.prog.follows .mixedOrders = true := by kernel_rfl
 have c := hR.cell
 have fz := hR.fro
 have lt := hR.lt
 go_enter Tryz.func97, Tryz.ntmps97
 go_wp2
 go_loopw [] (fun w' => ∃ (ct : Nat) (vn1 : Value) (ns : List Rf.Nd), Hid (wrk rm 0 lev ct ns = wrk rm 0 lev ct0 ns0) ∧ ct ≤ ct0 ∧ ns.length ≤ 1024 ∧ Own w' R #[tb, .int .i64 pl, .int .i64 nm.kind, .int .i64 nm.at', .int .i64 nm.num, .string nm.str, .int .i64 nm.c0, .int .i64 nm.c1, .int .i64 nm.r0, .int .i64 nm.r1, .int .i64 nm.r2, .int .i64 nm.r3, .int .i64 nm.code, vn1, .slice po 0 capo, .slice (some ⟨gr, 0, none⟩) rm.length capr, .int .i64 (ct : Nat)] ∧ NRow w' vn1 ns ∧ WRow w' (.slice (some ⟨gr, 0, none⟩) rm.length capr) rm ∧ Mut (fun b => b = R ∨ vn.ownBlock = some b) w w' ∧ ∀ b, vn1.ownBlock = some b → vn.ownBlock = some b ∨ w.heap.size ≤ b) (fun w' => (intOf ((w'.cell? ⟨R, 16, none⟩).getD undef)).toNat)
 case atStart => exact ⟨ct0, vn, ns0, rfl, Nat.le_refl _, hns0, zq4, zq8, zq8, zq3, fun b hb => .inl hb⟩
 case round =>
  obtain ⟨ct, vn1, ns, hwk, hle, hnl, oR, hN1, hW1, hM, hnew⟩ := hrel
  have hz := hM.size
  have cR := oR.cell
  have lR := oR.lt
  have hn1 : ∀ g, vn1.ownBlock = some g → g ≠ R := fun g hg => (hnew g hg).elim (fun h => hnv g h) (fun h => by omega)
  have hg7 : ∀ g, (.slice (some ⟨gr, 0, none⟩) rm.length capr : Value).ownBlock = some g → ¬ (g = R ∨ vn1.ownBlock = some g) := fun g hg h => by
   have e := own_is hg
   subst e
   rcases h with h | h
   ·exact hgr h
   ·rcases hnew _ h with h2 | h2
    ·exact hgn _ h2 rfl
    ·have := (Rf.Row.lt hW gr rfl).2; omega
  by_cases hah : ct ≤ 0
  ·have h1 : ¬ ((0 : Int) < (ct : Int)) := by omega
   have h1b : decide ((0 : Int) < (ct : Int)) = false := by simp; omega
   have hres : wrk rm 0 lev ct0 ns0 = .ok (ct, ns) := by rw [← hwk.out]; exact wrk_end hah
   exact absurd (HOK.out.symm.trans hres) (by simp)
  ·obtain ⟨c, rfl⟩ : ∃ c, ct = c + 1 := ⟨ct - 1, zq17⟩
   have h1 : (0 : Int) < (c : Int) + 1 := by omega
   have hcl : c % 1024 < rm.length := by rcases hct with h | h <;> omega
   obtain ⟨x, hx⟩ : ∃ x, rm[c % 1024]? = some x := ⟨_, List.getElem?_eq_getElem hcl⟩
   have HX : Hid (rm[c % 1024]? = some x) := hx
   have ec : ((c + 1 : Nat) : Int) = (c : Int) + 1 := by omega
   rw [ec] at oR
   have oR' := oR
   have cR' := oR'.cell
   clear hx oR cR
   have hfd := field_op x.op x.at'
   by_cases hlv : lev ≤ Rf.levI x.op
   ·by_cases hfull : ns.length = 1024
    ·have hres : wrk rm 0 lev ct0 ns0 = .error x.at' := by rw [← hwk.out]; exact wrk_full HX.out zq17 hlv hfull
     have HRS : Hid _ := hres
     clear hres
     obtain ⟨pn, capn, rfl, _, _⟩ := hN1.slice
     rw [hfull] at oR' cR' hn1
     go_wp2_with (first | (go_at_call 140; refine (last_any _ R tb (.slice pn 1024 capn) (.slice po 0 capo) vr pl nm c gr rm.length capr rm x _ zq4 zq8 rfl rfl HX.out zq17).mono ?_; rintro e w3 ⟨rfl, hb3⟩; have oR3 : Own w3 R #[tb, .int .i64 pl, .int .i64 nm.kind, .int .i64 nm.at', .int .i64 nm.num, .string nm.str, .int .i64 nm.c0, .int .i64 nm.c1, .int .i64 nm.r0, .int .i64 nm.r1, .int .i64 nm.r2, .int .i64 nm.r3, .int .i64 nm.code, (.slice pn 1024 capn), .slice po 0 capo, .slice (some ⟨gr, 0, none⟩) rm.length capr, .int .i64 ((c : Int) + 1)] := Own.keep zq4 hb3; have cR3 := oR3.cell; have lR3 := oR3.lt; have hW3 : WRow w3 (.slice (some ⟨gr, 0, none⟩) rm.length capr) rm := Rf.Row.keep zq8 hb3; have hM3 : Mut (fun b => b = R ∨ vn.ownBlock = some b) w w3 := Mut.below zq3 hb3) | (go_at_call 67; refine (Rf.level_any x.op _).mono ?_; rintro e w4 ⟨rfl, hb4⟩; have oR4 : Own w4 R #[tb, .int .i64 pl, .int .i64 nm.kind, .int .i64 nm.at', .int .i64 nm.num, .string nm.str, .int .i64 nm.c0, .int .i64 nm.c1, .int .i64 nm.r0, .int .i64 nm.r1, .int .i64 nm.r2, .int .i64 nm.r3, .int .i64 nm.code, (.slice pn 1024 capn), .slice po 0 capo, .slice (some ⟨gr, 0, none⟩) rm.length capr, .int .i64 ((c : Int) + 1)] := Own.keep zq4 hb4; have cR4 := oR4.cell; have lR4 := oR4.lt; have hW4 : WRow w4 (.slice (some ⟨gr, 0, none⟩) rm.length capr) rm := Rf.Row.keep zq8 hb4; have hM4 : Mut (fun b => b = R ∨ vn.ownBlock = some b) w w4 := Mut.below zq3 hb4) | (go_at_call 141; refine (pop_any _ R tb (.slice pn 1024 capn) (.slice po 0 capo) vr pl nm c gr rm.length capr rm x _ zq4 zq8 rfl rfl HX.out zq17).mono ?_; rintro e w5 ⟨rfl, oR5, hm5⟩; have cR5 := oR5.cell; have lR5 := oR5.lt; have hM5 : Mut (fun b => b = R ∨ vn.ownBlock = some b) w w5 := Mut.call hM4 hm5 (fun b hb => .inl (.inl hb))))
     refine wp_region_held_drew (S := (fun w' => w'.cell? ⟨w5.heap.size, 0, none⟩ = some (.int .i64 x.op) ∧ w'.cell? ⟨w5.heap.size, 1, none⟩ = some (.int .i64 x.at'))) zq14 (by (try dsimp only); ((repeat' apply And.intro) <;> (first | (go_keep; done) | (go_simp; done)))) (fun hHeld => ?_)
     refine wpAnyH_take (i := 0) (v := .pointer (some ⟨R, 0, none⟩)) rfl zq14 zq14 zq14 (fun _ _ _ h => h) (Or.inl ⟨by rfl, by intro wz hSw; (try dsimp only at hSw); go_simp⟩) zq15 ?_
     (try simp only [Act.put, List.setIfInBounds_toArray, List.set_cons_zero, List.set_cons_succ])
     refine wpAnyH_take (i := 1) (v := .pointer (some ⟨w5.heap.size, 0, none⟩)) rfl zq14 zq14 zq14 (fun _ _ _ h => h) (Or.inl ⟨by rfl, by intro wz hSw; (try dsimp only at hSw); go_simp⟩) zq15 ?_
     (try simp only [Act.put, List.setIfInBounds_toArray, List.set_cons_zero, List.set_cons_succ])
     refine wpAnyH_take (i := 2) (v := .int .i64 x.op) rfl zq14 zq14 zq14 (fun _ _ _ h => h) (Or.inl ⟨by rfl, by intro wz hSw; (try dsimp only at hSw); go_simp⟩) zq15 ?_
     (try simp only [Act.put, List.setIfInBounds_toArray, List.set_cons_zero, List.set_cons_succ])
     refine wpAnyH_take (i := 4) (v := .pointer (some ⟨w5.heap.size, 1, none⟩)) rfl zq14 zq14 zq14 (fun _ _ _ h => h) (Or.inl ⟨by rfl, by intro wz hSw; (try dsimp only at hSw); go_simp⟩) zq15 ?_
     (try simp only [Act.put, List.setIfInBounds_toArray, List.set_cons_zero, List.set_cons_succ])
     refine wpAnyH_take (i := 5) (v := .int .i64 x.at') rfl zq14 zq14 zq14 (fun _ _ _ h => h) (Or.inl ⟨by rfl, by intro wz hSw; (try dsimp only at hSw); go_simp⟩) zq15 ?_
     (try simp only [Act.put, List.setIfInBounds_toArray, List.set_cons_zero, List.set_cons_succ])
     refine wpAnyH_ready (rs := [3]) zq14 (by simp) ?_
     refine AllReadyH.cons rfl (fun K hK => ?_) ?_
     ·go_simp
      (go_at_call 95; refine (opNode_any x.op _).mono ?_; rintro e w6 ⟨rfl, hb6⟩; have oR6 : Own w6 R #[tb, .int .i64 pl, .int .i64 nm.kind, .int .i64 nm.at', .int .i64 nm.num, .string nm.str, .int .i64 nm.c0, .int .i64 nm.c1, .int .i64 nm.r0, .int .i64 nm.r1, .int .i64 nm.r2, .int .i64 nm.r3, .int .i64 nm.code, (.slice pn 1024 capn), .slice po 0 capo, .slice (some ⟨gr, 0, none⟩) rm.length capr, .int .i64 (c : Int)] := Own.keep zq4 hb6; have oX6 : Own w6 w5.heap.size #[.int .i64 x.op, .int .i64 x.at'] := Own.keep zq4 hb6; have cX6 := oX6.cell; have lX6 := oX6.lt; have hM6 : Mut (fun b => b = R ∨ vn.ownBlock = some b) w w6 := Mut.below zq3 hb6)
      go_wp2_with fail
      refine hK.out _ _ (by (try dsimp only); first | (with_reducible assumption) | ((repeat' apply And.intro) <;> (first | (go_keep; done) | (go_simp; done)))) (fun hHeld => ?_)
      clear hK K
      (try simp only [Act.put, List.setIfInBounds_toArray, List.set_cons_zero, List.set_cons_succ])
      refine wpAnyH_ready (rs := [6]) zq14 (by simp) ?_
      refine AllReadyH.cons rfl (fun K hK => ?_) ?_
      ·go_simp
       (go_at_call 55; refine (add_n _ R tb (.slice pn 1024 capn) (.slice po 0 capo) (.slice (some ⟨gr, 0, none⟩) rm.length capr) pl nm (c : Int) pn capn (opNd x.op) x.at' zq4).mono ?_; rintro e w7 ⟨rfl, hb7⟩)
       exact ⟨rfl, WP.no HRS.out (Mut.below hM6 hb7)⟩
      exact AllReadyH.nil
     exact AllReadyH.nil
    ·have hres : Hid (wrk rm 0 lev c (ns ++ [opNd x.op]) = wrk rm 0 lev ct0 ns0) := by show _ = _; rw [← hwk.out, wrk_more HX.out zq17 hlv hfull]
     go_wp2_with (first | (go_at_call 140; refine (last_any _ R tb vn1 (.slice po 0 capo) vr pl nm c gr rm.length capr rm x _ zq4 zq8 rfl rfl HX.out zq17).mono ?_; rintro e w3 ⟨rfl, hb3⟩; have oR3 : Own w3 R #[tb, .int .i64 pl, .int .i64 nm.kind, .int .i64 nm.at', .int .i64 nm.num, .string nm.str, .int .i64 nm.c0, .int .i64 nm.c1, .int .i64 nm.r0, .int .i64 nm.r1, .int .i64 nm.r2, .int .i64 nm.r3, .int .i64 nm.code, vn1, .slice po 0 capo, .slice (some ⟨gr, 0, none⟩) rm.length capr, .int .i64 ((c : Int) + 1)] := Own.keep zq4 hb3; have cR3 := oR3.cell; have lR3 := oR3.lt; have hN3 : NRow w3 vn1 ns := Rf.Row.keep zq8 hb3; have hW3 : WRow w3 (.slice (some ⟨gr, 0, none⟩) rm.length capr) rm := Rf.Row.keep zq8 hb3; have hM3 : Mut (fun b => b = R ∨ vn.ownBlock = some b) w w3 := Mut.below zq3 hb3) | (go_at_call 67; refine (Rf.level_any x.op _).mono ?_; rintro e w4 ⟨rfl, hb4⟩; have oR4 : Own w4 R #[tb, .int .i64 pl, .int .i64 nm.kind, .int .i64 nm.at', .int .i64 nm.num, .string nm.str, .int .i64 nm.c0, .int .i64 nm.c1, .int .i64 nm.r0, .int .i64 nm.r1, .int .i64 nm.r2, .int .i64 nm.r3, .int .i64 nm.code, vn1, .slice po 0 capo, .slice (some ⟨gr, 0, none⟩) rm.length capr, .int .i64 ((c : Int) + 1)] := Own.keep zq4 hb4; have cR4 := oR4.cell; have lR4 := oR4.lt; have hN4 : NRow w4 vn1 ns := Rf.Row.keep zq8 hb4; have hW4 : WRow w4 (.slice (some ⟨gr, 0, none⟩) rm.length capr) rm := Rf.Row.keep zq8 hb4; have hM4 : Mut (fun b => b = R ∨ vn.ownBlock = some b) w w4 := Mut.below zq3 hb4) | (go_at_call 141; refine (pop_any _ R tb vn1 (.slice po 0 capo) vr pl nm c gr rm.length capr rm x _ zq4 zq8 rfl rfl HX.out zq17).mono ?_; rintro e w5 ⟨rfl, oR5, hm5⟩; have cR5 := oR5.cell; have lR5 := oR5.lt; have hN5 : NRow w5 vn1 ns := Rf.Row.mut hN4 hm5 (fun g hg h => hn1 g hg h); have hW5 : WRow w5 (.slice (some ⟨gr, 0, none⟩) rm.length capr) rm := Rf.Row.mut hW4 hm5 (fun g hg h => by have e := own_is hg; subst e; exact hgr h); have hM5 : Mut (fun b => b = R ∨ vn.ownBlock = some b) w w5 := Mut.call hM4 hm5 (fun b hb => .inl (.inl hb))))
     go_region_with (first | (go_at_call 95; refine (opNode_any x.op _).mono ?_; rintro e w6 ⟨rfl, hb6⟩; have oR6 : Own w6 R #[tb, .int .i64 pl, .int .i64 nm.kind, .int .i64 nm.at', .int .i64 nm.num, .string nm.str, .int .i64 nm.c0, .int .i64 nm.c1, .int .i64 nm.r0, .int .i64 nm.r1, .int .i64 nm.r2, .int .i64 nm.r3, .int .i64 nm.code, vn1, .slice po 0 capo, .slice (some ⟨gr, 0, none⟩) rm.length capr, .int .i64 (c : Int)] := Own.keep zq4 hb6; have oX6 : Own w6 w5.heap.size #[.int .i64 x.op, .int .i64 x.at'] := Own.keep zq4 hb6; have cX6 := oX6.cell; have lX6 := oX6.lt; have hN6 : NRow w6 vn1 ns := Rf.Row.keep zq8 hb6; have hW6 : WRow w6 (.slice (some ⟨gr, 0, none⟩) rm.length capr) rm := Rf.Row.keep zq8 hb6; have hM6 : Mut (fun b => b = R ∨ vn.ownBlock = some b) w w6 := Mut.below zq3 hb6) | (go_at_call 55; refine (add_y _ R tb vn1 (.slice po 0 capo) (.slice (some ⟨gr, 0, none⟩) rm.length capr) pl nm (c : Int) ns (opNd x.op) x.at' zq4 zq8 zq17 hn1).mono ?_; rintro e w7 ⟨⟨v7, rfl⟩, vn7, q1, q2, q3, q4⟩; have hz6 := hM6.size))
     all_goals go_wp2
     all_goals exact ⟨⟨c, vn7, ns ++ [opNd x.op], hres, zq17, by simp; omega, q1, q2, Rf.Row.mut hW6 q3 hg7, Mut.call hM6 q3 (fun b hb => hb.elim (fun h => .inl (.inl h)) (fun h => (hnew b h).imp (fun h => .inr h) (fun h => h))), fun b hb => (q4 b hb).elim (fun h => hnew b h) (fun h => .inr zq17)⟩, by rw [q1.cell, oR'.cell]; simp [intOf]⟩
   ·have hres : wrk rm 0 lev ct0 ns0 = .ok (c + 1, ns) := by rw [← hwk.out]; exact wrk_low HX.out hlv
    exact absurd (HOK.out.symm.trans hres) (by simp)
theorem work_bn (w : World) (R : Nat) (tb vn vr : Value) (pl : Int) (nm : Tk) (ct0 ah : Nat) (lev : Int) (gr capr : Nat) (rm : List Wt) (ns0 : List Rf.Nd) (go k capo : Nat) (l : List Bc) (b : Bc) (hR : Own w R #[tb, .int .i64 pl, .int .i64 nm.kind, .int .i64 nm.at', .int .i64 nm.num, .string nm.str, .int .i64 nm.c0, .int .i64 nm.c1, .int .i64 nm.r0, .int .i64 nm.r1, .int .i64 nm.r2, .int .i64 nm.r3, .int .i64 nm.code, vn, .slice (some ⟨go, 0, none⟩) (k + 1) capo, .slice (some ⟨gr, 0, none⟩) rm.length capr, .int .i64 (ct0 : Nat)]) (hN : NRow w vn ns0) (hW : WRow w (.slice (some ⟨gr, 0, none⟩) rm.length capr) rm) (hrow : BRow w (.slice (some ⟨go, 0, none⟩) (k + 1) capo) l) (hb : l[k]? = some b) (hah : b.ahead = (ah : Nat)) (hk1 : k < 1000)
  (hnv : ∀ g, vn.ownBlock = some g → g ≠ R) (hgr : gr ≠ R) (hgn : ∀ g, vn.ownBlock = some g → g ≠ gr) (hrm : rm.length ≤ 1024) (hct : ct0 ≤ rm.length ∨ rm.length = 1024) (hcb : ct0 < 1000000000) (hns0 : ns0.length ≤ 1024) (a9 : Int) (hok : wrk rm ah lev ct0 ns0 = .error a9) :
  Calls Tryz.prog 97 #[.pointer (some ⟨R, 0, none⟩), .int .i64 lev] w fun e w' => WP w (fun b => b = R ∨ vn.ownBlock = some b) (fun c' n' w' => ∃ vn', Own w' R #[tb, .int .i64 pl, .int .i64 nm.kind, .int .i64 nm.at', .int .i64 nm.num, .string nm.str, .int .i64 nm.c0, .int .i64 nm.c1, .int .i64 nm.r0, .int .i64 nm.r1, .int .i64 nm.r2, .int .i64 nm.r3, .int .i64 nm.code, vn', .slice (some ⟨go, 0, none⟩) (k + 1) capo, .slice (some ⟨gr, 0, none⟩) rm.length capr, .int .i64 (c' : Nat)] ∧ NRow w' vn' n' ∧ Mut (fun b => b = R ∨ vn.ownBlock = some b) w w' ∧ ∀ b, vn'.ownBlock = some b → vn.ownBlock = some b ∨ w.heap.size ≤ b) (wrk rm ah lev ct0 ns0) e w' := by
 have HOK : Hid _ := hok
 clear hok
 have mixed : Tryz.prog.follows .mixedOrders = true := by kernel_rfl
 have c := hR.cell
 have fz := hR.fro
 have lt := hR.lt
 have hlg := (Rf.Row.lt hrow go rfl).2
 have z12 : w.cell? ⟨go, k * 13 + 12, none⟩ = some (.int .i64 (ah : Nat)) := by
  have h := Rf.Row.cells Bc_size hrow k _ hb 12 zq16
  rw [h]; show some (Value.int .i64 b.ahead) = _; rw [hah]
 have hsb : wrap64 ((k : Int) + 1 - 1) = (k : Int) := by unfold wrap64; omega
 have hsb2 : ((k : Int) + 1 - 1) = (k : Int) := by omega
 have hkp : 0 < (k : Int) + 1 := by omega
 have hkl : (k : Int) < (k : Int) + 1 := by omega
 have hkn : 0 ≤ (k : Int) := by omega
 go_enter Tryz.func97, Tryz.ntmps97
 go_wp2
 go_quiet (fail)
 go_wp2
 go_loopw [] (fun w' => ∃ (ct : Nat) (vn1 : Value) (ns : List Rf.Nd), Hid (wrk rm ah lev ct ns = wrk rm ah lev ct0 ns0) ∧ ct ≤ ct0 ∧ ns.length ≤ 1024 ∧ Own w' R #[tb, .int .i64 pl, .int .i64 nm.kind, .int .i64 nm.at', .int .i64 nm.num, .string nm.str, .int .i64 nm.c0, .int .i64 nm.c1, .int .i64 nm.r0, .int .i64 nm.r1, .int .i64 nm.r2, .int .i64 nm.r3, .int .i64 nm.code, vn1, .slice (some ⟨go, 0, none⟩) (k + 1) capo, .slice (some ⟨gr, 0, none⟩) rm.length capr, .int .i64 (ct : Nat)] ∧ NRow w' vn1 ns ∧ WRow w' (.slice (some ⟨gr, 0, none⟩) rm.length capr) rm ∧ Mut (fun b => b = R ∨ vn.ownBlock = some b) w w' ∧ ∀ b, vn1.ownBlock = some b → vn.ownBlock = some b ∨ w.heap.size ≤ b) (fun w' => (intOf ((w'.cell? ⟨R, 16, none⟩).getD undef)).toNat)
 case atStart => exact ⟨ct0, vn, ns0, rfl, Nat.le_refl _, hns0, zq4, zq6, zq6, zq3, fun b hb => .inl hb⟩
 case round =>
  obtain ⟨ct, vn1, ns, hwk, hle, hnl, oR, hN1, hW1, hM, hnew⟩ := hrel
  have hz := hM.size
  have cR := oR.cell
  have lR := oR.lt
  have hn1 : ∀ g, vn1.ownBlock = some g → g ≠ R := fun g hg => (hnew g hg).elim (fun h => hnv g h) (fun h => by omega)
  have hg7 : ∀ g, (.slice (some ⟨gr, 0, none⟩) rm.length capr : Value).ownBlock = some g → ¬ (g = R ∨ vn1.ownBlock = some g) := fun g hg h => by
   have e := own_is hg
   subst e
   rcases h with h | h
   ·exact hgr h
   ·rcases hnew _ h with h2 | h2
    ·exact hgn _ h2 rfl
    ·have := (Rf.Row.lt hW gr rfl).2; omega
  by_cases hac : ct ≤ ah
  ·have h1 : ¬ ((ah : Int) < (ct : Int)) := by omega
   have h1b : decide ((ah : Int) < (ct : Int)) = false := by simp; omega
   have hres : wrk rm ah lev ct0 ns0 = .ok (ct, ns) := by rw [← hwk.out]; exact wrk_end hac
   exact absurd (HOK.out.symm.trans hres) (by simp)
  ·obtain ⟨c, rfl⟩ : ∃ c, ct = c + 1 := ⟨ct - 1, zq17⟩
   have h1 : (ah : Int) < (c : Int) + 1 := by omega
   have hcl : c % 1024 < rm.length := by rcases hct with h | h <;> omega
   obtain ⟨x, hx⟩ : ∃ x, rm[c % 1024]? = some x := ⟨_, List.getElem?_eq_getElem hcl⟩
   have HX : Hid (rm[c % 1024]? = some x) := hx
   have ec : ((c + 1 : Nat) : Int) = (c : Int) + 1 := by omega
   rw [ec] at oR
   have oR' := oR
   have cR' := oR'.cell
   clear hx oR cR
   have hfd := field_op x.op x.at'
   by_cases hlv : lev ≤ Rf.levI x.op
   ·by_cases hfull : ns.length = 1024
    ·have hres : wrk rm ah lev ct0 ns0 = .error x.at' := by rw [← hwk.out]; exact wrk_full HX.out zq17 hlv hfull
     have HRS : Hid _ := hres
     clear hres
     obtain ⟨pn, capn, rfl, _, _⟩ := hN1.slice
     rw [hfull] at oR' cR' hn1
     go_wp2_with (first | (go_at_call 140; refine (last_any _ R tb (.slice pn 1024 capn) (.slice (some ⟨go, 0, none⟩) (k + 1) capo) vr pl nm c gr rm.length capr rm x _ zq4 zq6 rfl rfl HX.out zq17).mono ?_; rintro e w3 ⟨rfl, hb3⟩; have oR3 : Own w3 R #[tb, .int .i64 pl, .int .i64 nm.kind, .int .i64 nm.at', .int .i64 nm.num, .string nm.str, .int .i64 nm.c0, .int .i64 nm.c1, .int .i64 nm.r0, .int .i64 nm.r1, .int .i64 nm.r2, .int .i64 nm.r3, .int .i64 nm.code, (.slice pn 1024 capn), .slice (some ⟨go, 0, none⟩) (k + 1) capo, .slice (some ⟨gr, 0, none⟩) rm.length capr, .int .i64 ((c : Int) + 1)] := Own.keep zq4 hb3; have cR3 := oR3.cell; have lR3 := oR3.lt; have hW3 : WRow w3 (.slice (some ⟨gr, 0, none⟩) rm.length capr) rm := Rf.Row.keep zq6 hb3; have hM3 : Mut (fun b => b = R ∨ vn.ownBlock = some b) w w3 := Mut.below zq3 hb3) | (go_at_call 67; refine (Rf.level_any x.op _).mono ?_; rintro e w4 ⟨rfl, hb4⟩; have oR4 : Own w4 R #[tb, .int .i64 pl, .int .i64 nm.kind, .int .i64 nm.at', .int .i64 nm.num, .string nm.str, .int .i64 nm.c0, .int .i64 nm.c1, .int .i64 nm.r0, .int .i64 nm.r1, .int .i64 nm.r2, .int .i64 nm.r3, .int .i64 nm.code, (.slice pn 1024 capn), .slice (some ⟨go, 0, none⟩) (k + 1) capo, .slice (some ⟨gr, 0, none⟩) rm.length capr, .int .i64 ((c : Int) + 1)] := Own.keep zq4 hb4; have cR4 := oR4.cell; have lR4 := oR4.lt; have hW4 : WRow w4 (.slice (some ⟨gr, 0, none⟩) rm.length capr) rm := Rf.Row.keep zq6 hb4; have hM4 : Mut (fun b => b = R ∨ vn.ownBlock = some b) w w4 := Mut.below zq3 hb4) | (go_at_call 141; refine (pop_any _ R tb (.slice pn 1024 capn) (.slice (some ⟨go, 0, none⟩) (k + 1) capo) vr pl nm c gr rm.length capr rm x _ zq4 zq6 rfl rfl HX.out zq17).mono ?_; rintro e w5 ⟨rfl, oR5, hm5⟩; have cR5 := oR5.cell; have lR5 := oR5.lt; have hM5 : Mut (fun b => b = R ∨ vn.ownBlock = some b) w w5 := Mut.call hM4 hm5 (fun b hb => .inl (.inl hb))))
     refine wp_region_held_drew (S := (fun w' => w'.cell? ⟨w5.heap.size, 0, none⟩ = some (.int .i64 x.op) ∧ w'.cell? ⟨w5.heap.size, 1, none⟩ = some (.int .i64 x.at'))) zq14 (by (try dsimp only); ((repeat' apply And.intro) <;> (first | (go_keep; done) | (go_simp; done)))) (fun hHeld => ?_)
     refine wpAnyH_take (i := 0) (v := .pointer (some ⟨R, 0, none⟩)) rfl zq14 zq14 zq14 (fun _ _ _ h => h) (Or.inl ⟨by rfl, by intro wz hSw; (try dsimp only at hSw); go_simp⟩) zq15 ?_
     (try simp only [Act.put, List.setIfInBounds_toArray, List.set_cons_zero, List.set_cons_succ])
     refine wpAnyH_take (i := 1) (v := .pointer (some ⟨w5.heap.size, 0, none⟩)) rfl zq14 zq14 zq14 (fun _ _ _ h => h) (Or.inl ⟨by rfl, by intro wz hSw; (try dsimp only at hSw); go_simp⟩) zq15 ?_
     (try simp only [Act.put, List.setIfInBounds_toArray, List.set_cons_zero, List.set_cons_succ])
     refine wpAnyH_take (i := 2) (v := .int .i64 x.op) rfl zq14 zq14 zq14 (fun _ _ _ h => h) (Or.inl ⟨by rfl, by intro wz hSw; (try dsimp only at hSw); go_simp⟩) zq15 ?_
     (try simp only [Act.put, List.setIfInBounds_toArray, List.set_cons_zero, List.set_cons_succ])
     refine wpAnyH_take (i := 4) (v := .pointer (some ⟨w5.heap.size, 1, none⟩)) rfl zq14 zq14 zq14 (fun _ _ _ h => h) (Or.inl ⟨by rfl, by intro wz hSw; (try dsimp only at hSw); go_simp⟩) zq15 ?_
     (try simp only [Act.put, List.setIfInBounds_toArray, List.set_cons_zero, List.set_cons_succ])
     refine wpAnyH_take (i := 5) (v := .int .i64 x.at') rfl zq14 zq14 zq14 (fun _ _ _ h => h) (Or.inl ⟨by rfl, by intro wz hSw; (try dsimp only at hSw); go_simp⟩) zq15 ?_
     (try simp only [Act.put, List.setIfInBounds_toArray, List.set_cons_zero, List.set_cons_succ])
     refine wpAnyH_ready (rs := [3]) zq14 (by simp) ?_
     refine AllReadyH.cons rfl (fun K hK => ?_) ?_
     ·go_simp
      (go_at_call 95; refine (opNode_any x.op _).mono ?_; rintro e w6 ⟨rfl, hb6⟩; have oR6 : Own w6 R #[tb, .int .i64 pl, .int .i64 nm.kind, .int .i64 nm.at', .int .i64 nm.num, .string nm.str, .int .i64 nm.c0, .int .i64 nm.c1, .int .i64 nm.r0, .int .i64 nm.r1, .int .i64 nm.r2, .int .i64 nm.r3, .int .i64 nm.code, (.slice pn 1024 capn), .slice (some ⟨go, 0, none⟩) (k + 1) capo, .slice (some ⟨gr, 0, none⟩) rm.length capr, .int .i64 (c : Int)] := Own.keep zq4 hb6; have oX6 : Own w6 w5.heap.size #[.int .i64 x.op, .int .i64 x.at'] := Own.keep zq4 hb6; have cX6 := oX6.cell; have lX6 := oX6.lt; have hM6 : Mut (fun b => b = R ∨ vn.ownBlock = some b) w w6 := Mut.below zq3 hb6)
      go_wp2_with fail
      refine hK.out _ _ (by (try dsimp only); first | (with_reducible assumption) | ((repeat' apply And.intro) <;> (first | (go_keep; done) | (go_simp; done)))) (fun hHeld => ?_)
      clear hK K
      (try simp only [Act.put, List.setIfInBounds_toArray, List.set_cons_zero, List.set_cons_succ])
      refine wpAnyH_ready (rs := [6]) zq14 (by simp) ?_
      refine AllReadyH.cons rfl (fun K hK => ?_) ?_
      ·go_simp
       (go_at_call 55; refine (add_n _ R tb (.slice pn 1024 capn) (.slice (some ⟨go, 0, none⟩) (k + 1) capo) (.slice (some ⟨gr, 0, none⟩) rm.length capr) pl nm (c : Int) pn capn (opNd x.op) x.at' zq4).mono ?_; rintro e w7 ⟨rfl, hb7⟩)
       exact ⟨rfl, WP.no HRS.out (Mut.below hM6 hb7)⟩
      exact AllReadyH.nil
     exact AllReadyH.nil
    ·have hres : Hid (wrk rm ah lev c (ns ++ [opNd x.op]) = wrk rm ah lev ct0 ns0) := by show _ = _; rw [← hwk.out, wrk_more HX.out zq17 hlv hfull]
     go_wp2_with (first | (go_at_call 140; refine (last_any _ R tb vn1 (.slice (some ⟨go, 0, none⟩) (k + 1) capo) vr pl nm c gr rm.length capr rm x _ zq4 zq6 rfl rfl HX.out zq17).mono ?_; rintro e w3 ⟨rfl, hb3⟩; have oR3 : Own w3 R #[tb, .int .i64 pl, .int .i64 nm.kind, .int .i64 nm.at', .int .i64 nm.num, .string nm.str, .int .i64 nm.c0, .int .i64 nm.c1, .int .i64 nm.r0, .int .i64 nm.r1, .int .i64 nm.r2, .int .i64 nm.r3, .int .i64 nm.code, vn1, .slice (some ⟨go, 0, none⟩) (k + 1) capo, .slice (some ⟨gr, 0, none⟩) rm.length capr, .int .i64 ((c : Int) + 1)] := Own.keep zq4 hb3; have cR3 := oR3.cell; have lR3 := oR3.lt; have hN3 : NRow w3 vn1 ns := Rf.Row.keep zq6 hb3; have hW3 : WRow w3 (.slice (some ⟨gr, 0, none⟩) rm.length capr) rm := Rf.Row.keep zq6 hb3; have hM3 : Mut (fun b => b = R ∨ vn.ownBlock = some b) w w3 := Mut.below zq3 hb3) | (go_at_call 67; refine (Rf.level_any x.op _).mono ?_; rintro e w4 ⟨rfl, hb4⟩; have oR4 : Own w4 R #[tb, .int .i64 pl, .int .i64 nm.kind, .int .i64 nm.at', .int .i64 nm.num, .string nm.str, .int .i64 nm.c0, .int .i64 nm.c1, .int .i64 nm.r0, .int .i64 nm.r1, .int .i64 nm.r2, .int .i64 nm.r3, .int .i64 nm.code, vn1, .slice (some ⟨go, 0, none⟩) (k + 1) capo, .slice (some ⟨gr, 0, none⟩) rm.length capr, .int .i64 ((c : Int) + 1)] := Own.keep zq4 hb4; have cR4 := oR4.cell; have lR4 := oR4.lt; have hN4 : NRow w4 vn1 ns := Rf.Row.keep zq6 hb4; have hW4 : WRow w4 (.slice (some ⟨gr, 0, none⟩) rm.length capr) rm := Rf.Row.keep zq6 hb4; have hM4 : Mut (fun b => b = R ∨ vn.ownBlock = some b) w w4 := Mut.below zq3 hb4) | (go_at_call 141; refine (pop_any _ R tb vn1 (.slice (some ⟨go, 0, none⟩) (k + 1) capo) vr pl nm c gr rm.length capr rm x _ zq4 zq6 rfl rfl HX.out zq17).mono ?_; rintro e w5 ⟨rfl, oR5, hm5⟩; have cR5 := oR5.cell; have lR5 := oR5.lt; have hN5 : NRow w5 vn1 ns := Rf.Row.mut hN4 hm5 (fun g hg h => hn1 g hg h); have hW5 : WRow w5 (.slice (some ⟨gr, 0, none⟩) rm.length capr) rm := Rf.Row.mut hW4 hm5 (fun g hg h => by have e := own_is hg; subst e; exact hgr h); have hM5 : Mut (fun b => b = R ∨ vn.ownBlock = some b) w w5 := Mut.call hM4 hm5 (fun b hb => .inl (.inl hb))))
     go_region_with (first | (go_at_call 95; refine (opNode_any x.op _).mono ?_; rintro e w6 ⟨rfl, hb6⟩; have oR6 : Own w6 R #[tb, .int .i64 pl, .int .i64 nm.kind, .int .i64 nm.at', .int .i64 nm.num, .string nm.str, .int .i64 nm.c0, .int .i64 nm.c1, .int .i64 nm.r0, .int .i64 nm.r1, .int .i64 nm.r2, .int .i64 nm.r3, .int .i64 nm.code, vn1, .slice (some ⟨go, 0, none⟩) (k + 1) capo, .slice (some ⟨gr, 0, none⟩) rm.length capr, .int .i64 (c : Int)] := Own.keep zq4 hb6; have oX6 : Own w6 w5.heap.size #[.int .i64 x.op, .int .i64 x.at'] := Own.keep zq4 hb6; have cX6 := oX6.cell; have lX6 := oX6.lt; have hN6 : NRow w6 vn1 ns := Rf.Row.keep zq6 hb6; have hW6 : WRow w6 (.slice (some ⟨gr, 0, none⟩) rm.length capr) rm := Rf.Row.keep zq6 hb6; have hM6 : Mut (fun b => b = R ∨ vn.ownBlock = some b) w w6 := Mut.below zq3 hb6) | (go_at_call 55; refine (add_y _ R tb vn1 (.slice (some ⟨go, 0, none⟩) (k + 1) capo) (.slice (some ⟨gr, 0, none⟩) rm.length capr) pl nm (c : Int) ns (opNd x.op) x.at' zq4 zq6 zq17 hn1).mono ?_; rintro e w7 ⟨⟨v7, rfl⟩, vn7, q1, q2, q3, q4⟩; have hz6 := hM6.size))
     all_goals go_wp2
     all_goals exact ⟨⟨c, vn7, ns ++ [opNd x.op], hres, zq17, by simp; omega, q1, q2, Rf.Row.mut hW6 q3 hg7, Mut.call hM6 q3 (fun b hb => hb.elim (fun h => .inl (.inl h)) (fun h => (hnew b h).imp (fun h => .inr h) (fun h => h))), fun b hb => (q4 b hb).elim (fun h => hnew b h) (fun h => .inr zq17)⟩, by rw [q1.cell, oR'.cell]; simp [intOf]⟩
   ·have hres : wrk rm ah lev ct0 ns0 = .ok (c + 1, ns) := by rw [← hwk.out]; exact wrk_low HX.out hlv
    exact absurd (HOK.out.symm.trans hres) (by simp)
end Go.Proofs.YtcmjhjnpcogmgaaGreatDoor
