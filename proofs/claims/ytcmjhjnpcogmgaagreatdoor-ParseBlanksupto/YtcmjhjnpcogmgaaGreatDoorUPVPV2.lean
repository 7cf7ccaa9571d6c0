/- The contract of the reader's work: the nodes of the operations that wait for the thing tha -/
import Derived.Test.YtcmjhjnpcogmgaaGreatDoorUAuto
import Derived.Test.YtcmjhjnpcogmgaaGreatDoorUPLPL2
import Derived.Test.YtcmjhjnpcogmgaaGreatDoorURfN8RfN9
set_option linter.all false
set_option maxRecDepth 100000
set_option maxHeartbeats 4000000
namespace Go.Proofs.YtcmjhjnpcogmgaaGreatDoor
open Go.Shelf Go.RowKit
def opNd (op : Int) : Rf.Nd := ⟨4, 0, 0, ⟨#[]⟩, false, 0, 0, 0, 0, 0, 0, 0, op, ⟨#[]⟩, 0⟩
theorem field_op (a b : Int) (w : World) : (Instr.field 153 (.agg #[.int .i64 a, .int .i64 b]) 0).run Tryz.prog w = .ok (.int .i64 a) w := by kernel_rfl
def WP (w : World) (S : Nat → Prop) (OKP : Nat → List Rf.Nd → World → Prop) (r : Except Int (Nat × List Rf.Nd)) (e : Ending) (w' : World) : Prop := match r with
 | .ok (c', n') => (∃ v, e = .returned v) ∧ OKP c' n' w'
 | .error a => e = .panicked (refC 8 a) ∧ Mut S w w'
theorem WP.ok {w : World} {S : Nat → Prop} {OKP : Nat → List Rf.Nd → World → Prop} {r : Except Int (Nat × List Rf.Nd)} {c : Nat} {n : List Rf.Nd} {v : Value} {w' : World} (h : r = .ok (c, n)) (hp : OKP c n w') : WP w S OKP r (.returned v) w' := by rw [h]; exact ⟨⟨_, rfl⟩, hp⟩
theorem WP.no {w : World} {S : Nat → Prop} {OKP : Nat → List Rf.Nd → World → Prop} {r : Except Int (Nat × List Rf.Nd)} {a : Int} {w' : World} (h : r = .error a) (hp : Mut S w w') : WP w S OKP r (.panicked (refC 8 a)) w' := by rw [h]; exact ⟨rfl, hp⟩
def wrk (rm : List Wt) (ah : Nat) (lev : Int) : Nat → List Rf.Nd → Except Int (Nat × List Rf.Nd)
 | 0, ns => .ok (0, ns)
 | ct + 1, ns => match rm[ct % 1024]? with
  | none => .ok (ct + 1, ns)
  | some x => if ah < ct + 1 ∧ lev ≤ Rf.levI x.op then (if ns.length = 1024 then .error x.at' else wrk rm ah lev ct (ns ++ [opNd x.op])) else .ok (ct + 1, ns)
theorem wrk_end {rm : List Wt} {ah : Nat} {lev : Int} {ct : Nat} {ns : List Rf.Nd} (h : ct ≤ ah) : wrk rm ah lev ct ns = .ok (ct, ns) := by
 cases ct with
 | zero => rfl
 | succ c => unfold wrk; split; rfl; rw [if_neg zq17]
theorem wrk_low {rm : List Wt} {ah : Nat} {lev : Int} {c : Nat} {ns : List Rf.Nd} {x : Wt} (hx : rm[c % 1024]? = some x) (h : ¬ lev ≤ Rf.levI x.op) : wrk rm ah lev (c + 1) ns = .ok (c + 1, ns) := by
 unfold wrk; rw [hx]; dsimp only; rw [if_neg (by intro h2; exact h h2.2)]
theorem wrk_full {rm : List Wt} {ah : Nat} {lev : Int} {c : Nat} {ns : List Rf.Nd} {x : Wt} (hx : rm[c % 1024]? = some x) (h1 : ah < c + 1) (h : lev ≤ Rf.levI x.op) (hn : ns.length = 1024) : wrk rm ah lev (c + 1) ns = .error x.at' := by
 rw [wrk.eq_def]; dsimp only; rw [hx]; dsimp only; rw [if_pos ⟨h1, h⟩, if_pos hn]
theorem wrk_more {rm : List Wt} {ah : Nat} {lev : Int} {c : Nat} {ns : List Rf.Nd} {x : Wt} (hx : rm[c % 1024]? = some x) (h1 : ah < c + 1) (h : lev ≤ Rf.levI x.op) (hn : ¬ ns.length = 1024) : wrk rm ah lev (c + 1) ns = wrk rm ah lev c (ns ++ [opNd x.op]) := by
 rw [wrk.eq_def]; dsimp only; rw [hx]; dsimp only; rw [if_pos ⟨h1, h⟩, if_neg hn]
theorem work_e (w : World) (R : Nat) (tb vn vr : Value) (pl : Int) (nm : Tk) (ct0 : Nat) (lev : Int) (gr capr : Nat) (rm : List Wt) (ns0 : List Rf.Nd) (po : Option Addr) (capo : Nat) (hR : Own w R #[tb, .int .i64 pl, .int .i64 nm.kind, .int .i64 nm.at', .int .i64 nm.num, .string nm.str, .int .i64 nm.c0, .int .i64 nm.c1, .int .i64 nm.r0, .int .i64 nm.r1, .int .i64 nm.r2, .int .i64 nm.r3, .int .i64 nm.code, vn, .slice po 0 capo, .slice (some ⟨gr, 0, none⟩) rm.length capr, .int .i64 (ct0 : Nat)]) (hN : NRow w vn ns0) (hW : WRow w (.slice (some ⟨gr, 0, none⟩) rm.length capr) rm) 
  (hnv : ∀ g, vn.ownBlock = some g → g ≠ R) (hgr : gr ≠ R) (hgn : ∀ g, vn.ownBlock = some g → g ≠ gr) (hrm : rm.length ≤ 1024) (hct : ct0 ≤ rm.length ∨ rm.length = 1024) (hcb : ct0 < 1000000000) (hns0 : ns0.length ≤ 1024) (c9 : Nat) (n9 : List Rf.Nd) (hok : wrk rm 0 lev ct0 ns0 = .ok (c9, n9)) :
  Calls Tryz.prog 97 #[.pointer (some ⟨R, 0, none⟩), .int .i64 lev] w fun e w' => WP w (fun b => b = R ∨ vn.ownBlock = some b) (fun c' n' w' => ∃ vn', Own w' R #[tb, .int .i64 pl, .int .i64 nm.kind, .int .i64 nm.at', .int .i64 nm.num, .string nm.str, .int .i64 nm.c0, .int .i64 nm.c1, .int .i64 nm.r0, .int .i64 nm.r1, .int .i64 nm.r2, .int .i64 nm.r3, .int .i64 nm.code, vn', .slice po 0 capo, .slice (some ⟨gr, 0, none⟩) rm.length capr, .int .i64 (c' : Nat)] ∧ NRow w' vn' n' ∧ Mut (fun b => b = R ∨ vn.ownBlock = some b) w w' ∧ ∀ b, vn'.ownBlock = some b → vn.ownBlock = some b ∨ w.heap.size ≤ b) (wrk rm 0 lev ct0 ns0) e w' := by
 have HOK : Hid _ := hok
 clear hok
 have mixed : Tryz.prog.follows .mixedOrders = true := by kernel_rfl
 have c := hR.cell
 have fz := hR.fro
 have lt := hR.lt
 go_enter Tryz.func97, Tryz.ntmps97
 go_wp2
 go_loopw [] (fun w' => ∃ (ct : Nat) (vn1 : Value) (ns : List Rf.Nd), Hid (wrk rm 0 lev ct ns = wrk rm 0 lev ct0 ns0) ∧ ct ≤ ct0 ∧ ns.length ≤ 1024 ∧ Own w' R #[tb, .int .i64 pl, .int .i64 nm.kind, .int .i64 nm.at', .int .i64 nm.num, .string nm.str, .int .i64 nm.c0, .int .i64 nm.c1, .int .i64 nm.r0, .int .i64 nm.r1, .int .i64 nm.r2, .int .i64 nm.r3, .int .i64 nm.code, vn1, .slice po 0 capo, .slice (some ⟨gr, 0, none⟩) rm.length capr, .int .i64 (ct : Nat)] ∧ NRow w' vn1 ns ∧ WRow w' (.slice (some ⟨gr, 0, none⟩) rm.length capr) rm ∧ Mut (fun b => b = R ∨ vn.ownBlock = some b) w w' ∧ ∀ b, vn1.ownBlock = some b → vn.ownBlock = some b ∨ w.heap.size ≤ b) (fun w' => (intOf ((w'.cell? ⟨R, 16, none⟩).getD undef)).toNat)
 case atStart => exact ⟨ct0, vn, ns0, rfl, Nat.le_refl _, hns0, zq4, zq8, zq8, zq3, fun b hb => .inl hb⟩
 case round =>
  obtain ⟨ct, vn1, ns, hwk, hle, hnl, oR, hN1, hW1, hM, hnew⟩ := hrel
  have hz := hM.size
  have cR := oR.cell
  have lR := oR.lt
  have hn1 : ∀ g, vn1.ownBlock = some g → g ≠ R := fun g hg => (hnew g hg).elim (fun h => hnv g h) (fun h => by omega)
  have hg7 : ∀ g, (.slice (some ⟨gr, 0, none⟩) rm.length capr : Value).ownBlock = some g → ¬ (g = R ∨ vn1.ownBlock = some g) := fun g hg h => by
   have e := own_is hg
   subst e
   rcases h with h | h
   ·exact hgr h
   ·rcases hnew _ h with h2 | h2
    ·exact hgn _ h2 rfl
    ·have := (Rf.Row.lt hW gr rfl).2; omega
  by_cases hah : ct ≤ 0
  ·have h1 : ¬ ((0 : Int) < (ct : Int)) := by omega
   have h1b : decide ((0 : Int) < (ct : Int)) = false := by simp; omega
   have hres : wrk rm 0 lev ct0 ns0 = .ok (ct, ns) := by rw [← hwk.out]; exact wrk_end hah
   have HRS : Hid _ := hres
   clear hres
   go_wp2
   exact ⟨rfl, _, results_none rfl _ _ _, WP.ok HRS.out ⟨vn1, oR, hN1, hM, hnew⟩⟩
  ·obtain ⟨c, rfl⟩ : ∃ c, ct = c + 1 := ⟨ct - 1, zq17⟩
   have h1 : (0 : Int) < (c : Int) + 1 := by omega
   have hcl : c % 1024 < rm.length := by rcases hct with h | h <;> omega
   obtain ⟨x, hx⟩ : ∃ x, rm[c % 1024]? = some x := ⟨_, List.getElem?_eq_getElem hcl⟩
   have HX : Hid (rm[c % 1024]? = some x) := hx
   have ec : ((c + 1 : Nat) : Int) = (c : Int) + 1 := by omega
   rw [ec] at oR
   have oR' := oR
   have cR' := oR'.cell
   clear hx oR cR
   have hfd := field_op x.op x.at'
   by_cases hlv : lev ≤ Rf.levI x.op
   ·by_cases hfull : ns.length = 1024
    ·have hres : wrk rm 0 lev ct0 ns0 = .error x.at' := by rw [← hwk.out]; exact wrk_full HX.out zq17 hlv hfull
     exact absurd (HOK.out.symm.trans hres) (by simp)
    ·have hres : Hid (wrk rm 0 lev c (ns ++ [opNd x.op]) = wrk rm 0 lev ct0 ns0) := by show _ = _; rw [← hwk.out, wrk_more HX.out zq17 hlv hfull]
     go_wp2_with (first | (go_at_call 140; refine (last_any _ R tb vn1 (.slice po 0 capo) vr pl nm c gr rm.length capr rm x _ zq4 zq8 rfl rfl HX.out zq17).mono ?_; rintro e w3 ⟨rfl, hb3⟩; have oR3 : Own w3 R #[tb, .int .i64 pl, .int .i64 nm.kind, .int .i64 nm.at', .int .i64 nm.num, .string nm.str, .int .i64 nm.c0, .int .i64 nm.c1, .int .i64 nm.r0, .int .i64 nm.r1, .int .i64 nm.r2, .int .i64 nm.r3, .int .i64 nm.code, vn1, .slice po 0 capo, .slice (some ⟨gr, 0, none⟩) rm.length capr, .int .i64 ((c : Int) + 1)] := Own.keep zq4 hb3; have cR3 := oR3.cell; have lR3 := oR3.lt; have hN3 : NRow w3 vn1 ns := Rf.Row.keep zq8 hb3; have hW3 : WRow w3 (.slice (some ⟨gr, 0, none⟩) rm.length capr) rm := Rf.Row.keep zq8 hb3; have hM3 : Mut (fun b => b = R ∨ vn.ownBlock = some b) w w3 := Mut.below zq3 hb3) | (go_at_call 67; refine (Rf.level_any x.op _).mono ?_; rintro e w4 ⟨rfl, hb4⟩; have oR4 : Own w4 R #[tb, .int .i64 pl, .int .i64 nm.kind, .int .i64 nm.at', .int .i64 nm.num, .string nm.str, .int .i64 nm.c0, .int .i64 nm.c1, .int .i64 nm.r0, .int .i64 nm.r1, .int .i64 nm.r2, .int .i64 nm.r3, .int .i64 nm.code, vn1, .slice po 0 capo, .slice (some ⟨gr, 0, none⟩) rm.length capr, .int .i64 ((c : Int) + 1)] := Own.keep zq4 hb4; have cR4 := oR4.cell; have lR4 := oR4.lt; have hN4 : NRow w4 vn1 ns := Rf.Row.keep zq8 hb4; have hW4 : WRow w4 (.slice (some ⟨gr, 0, none⟩) rm.length capr) rm := Rf.Row.keep zq8 hb4; have hM4 : Mut (fun b => b = R ∨ vn.ownBlock = some b) w w4 := Mut.below zq3 hb4) | (go_at_call 141; refine (pop_any _ R tb vn1 (.slice po 0 capo) vr pl nm c gr rm.length capr rm x _ zq4 zq8 rfl rfl HX.out zq17).mono ?_; rintro e w5 ⟨rfl, oR5, hm5⟩; have cR5 := oR5.cell; have lR5 := oR5.lt; have hN5 : NRow w5 vn1 ns := Rf.Row.mut hN4 hm5 (fun g hg h => hn1 g hg h); have hW5 : WRow w5 (.slice (some ⟨gr, 0, none⟩) rm.length capr) rm := Rf.Row.mut hW4 hm5 (fun g hg h => by have e := own_is hg; subst e; exact hgr h); have hM5 : Mut (fun b => b = R ∨ vn.ownBlock = some b) w w5 := Mut.call hM4 hm5 (fun b hb => .inl (.inl hb))))
     go_region_with (first | (go_at_call 95; refine (opNode_any x.op _).mono ?_; rintro e w6 ⟨rfl, hb6⟩; have oR6 : Own w6 R #[tb, .int .i64 pl, .int .i64 nm.kind, .int .i64 nm.at', .int .i64 nm.num, .string nm.str, .int .i64 nm.c0, .int .i64 nm.c1, .int .i64 nm.r0, .int .i64 nm.r1, .int .i64 nm.r2, .int .i64 nm.r3, .int .i64 nm.code, vn1, .slice po 0 capo, .slice (some ⟨gr, 0, none⟩) rm.length capr, .int .i64 (c : Int)] := Own.keep zq4 hb6; have oX6 : Own w6 w5.heap.size #[.int .i64 x.op, .int .i64 x.at'] := Own.keep zq4 hb6; have cX6 := oX6.cell; have lX6 := oX6.lt; have hN6 : NRow w6 vn1 ns := Rf.Row.keep zq8 hb6; have hW6 : WRow w6 (.slice (some ⟨gr, 0, none⟩) rm.length capr) rm := Rf.Row.keep zq8 hb6; have hM6 : Mut (fun b => b = R ∨ vn.ownBlock = some b) w w6 := Mut.below zq3 hb6) | (go_at_call 55; refine (add_y _ R tb vn1 (.slice po 0 capo) (.slice (some ⟨gr, 0, none⟩) rm.length capr) pl nm (c : Int) ns (opNd x.op) x.at' zq4 zq8 zq17 hn1).mono ?_; rintro e w7 ⟨⟨v7, rfl⟩, vn7, q1, q2, q3, q4⟩; have hz6 := hM6.size))
     all_goals go_wp2
     all_goals exact ⟨⟨c, vn7, ns ++ [opNd x.op], hres, zq17, by simp; omega, q1, q2, Rf.Row.mut hW6 q3 hg7, Mut.call hM6 q3 (fun b hb => hb.elim (fun h => .inl (.inl h)) (fun h => (hnew b h).imp (fun h => .inr h) (fun h => h))), fun b hb => (q4 b hb).elim (fun h => hnew b h) (fun h => .inr zq17)⟩, by rw [q1.cell, oR'.cell]; simp [intOf]⟩
   ·have hres : wrk rm 0 lev ct0 ns0 = .ok (c + 1, ns) := by rw [← hwk.out]; exact wrk_low HX.out hlv
    have hlv2 : ¬ lev ≤ Rf.levI x.op := hlv
    have HRS : Hid _ := hres
    clear hres
    go_wp2_with (first | (go_at_call 140; refine (last_any _ R tb vn1 (.slice po 0 capo) vr pl nm c gr rm.length capr rm x _ zq4 zq8 rfl rfl HX.out zq17).mono ?_; rintro e w3 ⟨rfl, hb3⟩; have oR3 : Own w3 R #[tb, .int .i64 pl, .int .i64 nm.kind, .int .i64 nm.at', .int .i64 nm.num, .string nm.str, .int .i64 nm.c0, .int .i64 nm.c1, .int .i64 nm.r0, .int .i64 nm.r1, .int .i64 nm.r2, .int .i64 nm.r3, .int .i64 nm.code, vn1, .slice po 0 capo, .slice (some ⟨gr, 0, none⟩) rm.length capr, .int .i64 ((c : Int) + 1)] := Own.keep zq4 hb3; have cR3 := oR3.cell; have lR3 := oR3.lt; have hN3 : NRow w3 vn1 ns := Rf.Row.keep zq8 hb3; have hW3 : WRow w3 (.slice (some ⟨gr, 0, none⟩) rm.length capr) rm := Rf.Row.keep zq8 hb3; have hM3 : Mut (fun b => b = R ∨ vn.ownBlock = some b) w w3 := Mut.below zq3 hb3) | (go_at_call 67; refine (Rf.level_any x.op _).mono ?_; rintro e w4 ⟨rfl, hb4⟩; have oR4 : Own w4 R #[tb, .int .i64 pl, .int .i64 nm.kind, .int .i64 nm.at', .int .i64 nm.num, .string nm.str, .int .i64 nm.c0, .int .i64 nm.c1, .int .i64 nm.r0, .int .i64 nm.r1, .int .i64 nm.r2, .int .i64 nm.r3, .int .i64 nm.code, vn1, .slice po 0 capo, .slice (some ⟨gr, 0, none⟩) rm.length capr, .int .i64 ((c : Int) + 1)] := Own.keep zq4 hb4; have cR4 := oR4.cell; have lR4 := oR4.lt; have hN4 : NRow w4 vn1 ns := Rf.Row.keep zq8 hb4; have hW4 : WRow w4 (.slice (some ⟨gr, 0, none⟩) rm.length capr) rm := Rf.Row.keep zq8 hb4; have hM4 : Mut (fun b => b = R ∨ vn.ownBlock = some b) w w4 := Mut.below zq3 hb4))
    exact ⟨rfl, _, results_none rfl _ _ _, WP.ok HRS.out ⟨vn1, (by rw [ec]; exact oR4), hN4, hM4, hnew⟩⟩
end Go.Proofs.YtcmjhjnpcogmgaaGreatDoor
namespace Go.Proofs.YtcmjhjnpcogmgaaGreatDoor
open Go.Shelf Go.RowKit
theorem Rf.Row.drewN {α : Type} {c : α → Array Value} {sz : Nat} {e : TypeId} {w : World} {base : Nat} {v : Value} {l : List α} (h : Rf.Row c sz e w base v l) (k : Nat) : Rf.Row c sz e (w.drewN k) base v l := h.keep (bdrewN (Below.refl _ _) k)
theorem work_b (w : World) (R : Nat) (tb vn vr : Value) (pl : Int) (nm : Tk) (ct0 ah : Nat) (lev : Int) (gr capr : Nat) (rm : List Wt) (ns0 : List Rf.Nd) (go k capo : Nat) (l : List Bc) (b : Bc) (hR : Own w R #[tb, .int .i64 pl, .int .i64 nm.kind, .int .i64 nm.at', .int .i64 nm.num, .string nm.str, .int .i64 nm.c0, .int .i64 nm.c1, .int .i64 nm.r0, .int .i64 nm.r1, .int .i64 nm.r2, .int .i64 nm.r3, .int .i64 nm.code, vn, .slice (some ⟨go, 0, none⟩) (k + 1) capo, .slice (some ⟨gr, 0, none⟩) rm.length capr, .int .i64 (ct0 : Nat)]) (hN : NRow w vn ns0) (hW : WRow w (.slice (some ⟨gr, 0, none⟩) rm.length capr) rm) (hrow : BRow w (.slice (some ⟨go, 0, none⟩) (k + 1) capo) l) (hb : l[k]? = some b) (hah : b.ahead = (ah : Nat)) (hk1 : k < 1000)
  (hnv : ∀ g, vn.ownBlock = some g → g ≠ R) (hgr : gr ≠ R) (hgn : ∀ g, vn.ownBlock = some g → g ≠ gr) (hrm : rm.length ≤ 1024) (hct : ct0 ≤ rm.length ∨ rm.length = 1024) (hcb : ct0 < 1000000000) (hns0 : ns0.length ≤ 1024) (c9 : Nat) (n9 : List Rf.Nd) (hok : wrk rm ah lev ct0 ns0 = .ok (c9, n9)) :
  Calls Tryz.prog 97 #[.pointer (some ⟨R, 0, none⟩), .int .i64 lev] w fun e w' => WP w (fun b => b = R ∨ vn.ownBlock = some b) (fun c' n' w' => ∃ vn', Own w' R #[tb, .int .i64 pl, .int .i64 nm.kind, .int .i64 nm.at', .int .i64 nm.num, .string nm.str, .int .i64 nm.c0, .int .i64 nm.c1, .int .i64 nm.r0, .int .i64 nm.r1, .int .i64 nm.r2, .int .i64 nm.r3, .int .i64 nm.code, vn', .slice (some ⟨go, 0, none⟩) (k + 1) capo, .slice (some ⟨gr, 0, none⟩) rm.length capr, .int .i64 (c' : Nat)] ∧ NRow w' vn' n' ∧ Mut (fun b => b = R ∨ vn.ownBlock = some b) w w' ∧ ∀ b, vn'.ownBlock = some b → vn.ownBlock = some b ∨ w.heap.size ≤ b) (wrk rm ah lev ct0 ns0) e w' := by
 have HOK : Hid _ := hok
 clear hok
 have mixed : Tryz.prog.follows .mixedOrders = true := by kernel_rfl
 have c := hR.cell
 have fz := hR.fro
 have lt := hR.lt
 have hlg := (Rf.Row.lt hrow go rfl).2
 have z12 : w.cell? ⟨go, k * 13 + 12, none⟩ = some (.int .i64 (ah : Nat)) := by
  have h := Rf.Row.cells Bc_size hrow k _ hb 12 zq16
  rw [h]; show some (Value.int .i64 b.ahead) = _; rw [hah]
 have hsb : wrap64 ((k : Int) + 1 - 1) = (k : Int) := by unfold wrap64; omega
 have hsb2 : ((k : Int) + 1 - 1) = (k : Int) := by omega
 have hkp : 0 < (k : Int) + 1 := by omega
 have hkl : (k : Int) < (k : Int) + 1 := by omega
 have hkn : 0 ≤ (k : Int) := by omega
 go_enter Tryz.func97, Tryz.ntmps97
 go_wp2
 go_quiet (fail)
 go_wp2
 go_loopw [] (fun w' => ∃ (ct : Nat) (vn1 : Value) (ns : List Rf.Nd), Hid (wrk rm ah lev ct ns = wrk rm ah lev ct0 ns0) ∧ ct ≤ ct0 ∧ ns.length ≤ 1024 ∧ Own w' R #[tb, .int .i64 pl, .int .i64 nm.kind, .int .i64 nm.at', .int .i64 nm.num, .string nm.str, .int .i64 nm.c0, .int .i64 nm.c1, .int .i64 nm.r0, .int .i64 nm.r1, .int .i64 nm.r2, .int .i64 nm.r3, .int .i64 nm.code, vn1, .slice (some ⟨go, 0, none⟩) (k + 1) capo, .slice (some ⟨gr, 0, none⟩) rm.length capr, .int .i64 (ct : Nat)] ∧ NRow w' vn1 ns ∧ WRow w' (.slice (some ⟨gr, 0, none⟩) rm.length capr) rm ∧ Mut (fun b => b = R ∨ vn.ownBlock = some b) w w' ∧ ∀ b, vn1.ownBlock = some b → vn.ownBlock = some b ∨ w.heap.size ≤ b) (fun w' => (intOf ((w'.cell? ⟨R, 16, none⟩).getD undef)).toNat)
 case atStart => exact ⟨ct0, vn, ns0, rfl, Nat.le_refl _, hns0, zq4, zq6, zq6, zq3, fun b hb => .inl hb⟩
 case round =>
  obtain ⟨ct, vn1, ns, hwk, hle, hnl, oR, hN1, hW1, hM, hnew⟩ := hrel
  have hz := hM.size
  have cR := oR.cell
  have lR := oR.lt
  have hn1 : ∀ g, vn1.ownBlock = some g → g ≠ R := fun g hg => (hnew g hg).elim (fun h => hnv g h) (fun h => by omega)
  have hg7 : ∀ g, (.slice (some ⟨gr, 0, none⟩) rm.length capr : Value).ownBlock = some g → ¬ (g = R ∨ vn1.ownBlock = some g) := fun g hg h => by
   have e := own_is hg
   subst e
   rcases h with h | h
   ·exact hgr h
   ·rcases hnew _ h with h2 | h2
    ·exact hgn _ h2 rfl
    ·have := (Rf.Row.lt hW gr rfl).2; omega
  by_cases hac : ct ≤ ah
  ·have h1 : ¬ ((ah : Int) < (ct : Int)) := by omega
   have h1b : decide ((ah : Int) < (ct : Int)) = false := by simp; omega
   have hres : wrk rm ah lev ct0 ns0 = .ok (ct, ns) := by rw [← hwk.out]; exact wrk_end hac
   have HRS : Hid _ := hres
   clear hres
   go_wp2
   exact ⟨rfl, _, results_none rfl _ _ _, WP.ok HRS.out ⟨vn1, oR, hN1, hM, hnew⟩⟩
  ·obtain ⟨c, rfl⟩ : ∃ c, ct = c + 1 := ⟨ct - 1, zq17⟩
   have h1 : (ah : Int) < (c : Int) + 1 := by omega
   have hcl : c % 1024 < rm.length := by rcases hct with h | h <;> omega
   obtain ⟨x, hx⟩ : ∃ x, rm[c % 1024]? = some x := ⟨_, List.getElem?_eq_getElem hcl⟩
   have HX : Hid (rm[c % 1024]? = some x) := hx
   have ec : ((c + 1 : Nat) : Int) = (c : Int) + 1 := by omega
   rw [ec] at oR
   have oR' := oR
   have cR' := oR'.cell
   clear hx oR cR
   have hfd := field_op x.op x.at'
   by_cases hlv : lev ≤ Rf.levI x.op
   ·by_cases hfull : ns.length = 1024
    ·have hres : wrk rm ah lev ct0 ns0 = .error x.at' := by rw [← hwk.out]; exact wrk_full HX.out zq17 hlv hfull
     exact absurd (HOK.out.symm.trans hres) (by simp)
    ·have hres : Hid (wrk rm ah lev c (ns ++ [opNd x.op]) = wrk rm ah lev ct0 ns0) := by show _ = _; rw [← hwk.out, wrk_more HX.out zq17 hlv hfull]
     go_wp2_with (first | (go_at_call 140; refine (last_any _ R tb vn1 (.slice (some ⟨go, 0, none⟩) (k + 1) capo) vr pl nm c gr rm.length capr rm x _ zq4 zq6 rfl rfl HX.out zq17).mono ?_; rintro e w3 ⟨rfl, hb3⟩; have oR3 : Own w3 R #[tb, .int .i64 pl, .int .i64 nm.kind, .int .i64 nm.at', .int .i64 nm.num, .string nm.str, .int .i64 nm.c0, .int .i64 nm.c1, .int .i64 nm.r0, .int .i64 nm.r1, .int .i64 nm.r2, .int .i64 nm.r3, .int .i64 nm.code, vn1, .slice (some ⟨go, 0, none⟩) (k + 1) capo, .slice (some ⟨gr, 0, none⟩) rm.length capr, .int .i64 ((c : Int) + 1)] := Own.keep zq4 hb3; have cR3 := oR3.cell; have lR3 := oR3.lt; have hN3 : NRow w3 vn1 ns := Rf.Row.keep zq6 hb3; have hW3 : WRow w3 (.slice (some ⟨gr, 0, none⟩) rm.length capr) rm := Rf.Row.keep zq6 hb3; have hM3 : Mut (fun b => b = R ∨ vn.ownBlock = some b) w w3 := Mut.below zq3 hb3) | (go_at_call 67; refine (Rf.level_any x.op _).mono ?_; rintro e w4 ⟨rfl, hb4⟩; have oR4 : Own w4 R #[tb, .int .i64 pl, .int .i64 nm.kind, .int .i64 nm.at', .int .i64 nm.num, .string nm.str, .int .i64 nm.c0, .int .i64 nm.c1, .int .i64 nm.r0, .int .i64 nm.r1, .int .i64 nm.r2, .int .i64 nm.r3, .int .i64 nm.code, vn1, .slice (some ⟨go, 0, none⟩) (k + 1) capo, .slice (some ⟨gr, 0, none⟩) rm.length capr, .int .i64 ((c : Int) + 1)] := Own.keep zq4 hb4; have cR4 := oR4.cell; have lR4 := oR4.lt; have hN4 : NRow w4 vn1 ns := Rf.Row.keep zq6 hb4; have hW4 : WRow w4 (.slice (some ⟨gr, 0, none⟩) rm.length capr) rm := Rf.Row.keep zq6 hb4; have hM4 : Mut (fun b => b = R ∨ vn.ownBlock = some b) w w4 := Mut.below zq3 hb4) | (go_at_call 141; refine (pop_any _ R tb vn1 (.slice (some ⟨go, 0, none⟩) (k + 1) capo) vr pl nm c gr rm.length capr rm x _ zq4 zq6 rfl rfl HX.out zq17).mono ?_; rintro e w5 ⟨rfl, oR5, hm5⟩; have cR5 := oR5.cell; have lR5 := oR5.lt; have hN5 : NRow w5 vn1 ns := Rf.Row.mut hN4 hm5 (fun g hg h => hn1 g hg h); have hW5 : WRow w5 (.slice (some ⟨gr, 0, none⟩) rm.length capr) rm := Rf.Row.mut hW4 hm5 (fun g hg h => by have e := own_is hg; subst e; exact hgr h); have hM5 : Mut (fun b => b = R ∨ vn.ownBlock = some b) w w5 := Mut.call hM4 hm5 (fun b hb => .inl (.inl hb))))
     go_region_with (first | (go_at_call 95; refine (opNode_any x.op _).mono ?_; rintro e w6 ⟨rfl, hb6⟩; have oR6 : Own w6 R #[tb, .int .i64 pl, .int .i64 nm.kind, .int .i64 nm.at', .int .i64 nm.num, .string nm.str, .int .i64 nm.c0, .int .i64 nm.c1, .int .i64 nm.r0, .int .i64 nm.r1, .int .i64 nm.r2, .int .i64 nm.r3, .int .i64 nm.code, vn1, .slice (some ⟨go, 0, none⟩) (k + 1) capo, .slice (some ⟨gr, 0, none⟩) rm.length capr, .int .i64 (c : Int)] := Own.keep zq4 hb6; have oX6 : Own w6 w5.heap.size #[.int .i64 x.op, .int .i64 x.at'] := Own.keep zq4 hb6; have cX6 := oX6.cell; have lX6 := oX6.lt; have hN6 : NRow w6 vn1 ns := Rf.Row.keep zq6 hb6; have hW6 : WRow w6 (.slice (some ⟨gr, 0, none⟩) rm.length capr) rm := Rf.Row.keep zq6 hb6; have hM6 : Mut (fun b => b = R ∨ vn.ownBlock = some b) w w6 := Mut.below zq3 hb6) | (go_at_call 55; refine (add_y _ R tb vn1 (.slice (some ⟨go, 0, none⟩) (k + 1) capo) (.slice (some ⟨gr, 0, none⟩) rm.length capr) pl nm (c : Int) ns (opNd x.op) x.at' zq4 zq6 zq17 hn1).mono ?_; rintro e w7 ⟨⟨v7, rfl⟩, vn7, q1, q2, q3, q4⟩; have hz6 := hM6.size))
     all_goals go_wp2
     all_goals exact ⟨⟨c, vn7, ns ++ [opNd x.op], hres, zq17, by simp; omega, q1, q2, Rf.Row.mut hW6 q3 hg7, Mut.call hM6 q3 (fun b hb => hb.elim (fun h => .inl (.inl h)) (fun h => (hnew b h).imp (fun h => .inr h) (fun h => h))), fun b hb => (q4 b hb).elim (fun h => hnew b h) (fun h => .inr zq17)⟩, by rw [q1.cell, oR'.cell]; simp [intOf]⟩
   ·have hres : wrk rm ah lev ct0 ns0 = .ok (c + 1, ns) := by rw [← hwk.out]; exact wrk_low HX.out hlv
    have hlv2 : ¬ lev ≤ Rf.levI x.op := hlv
    have HRS : Hid _ := hres
    clear hres
    go_wp2_with (first | (go_at_call 140; refine (last_any _ R tb vn1 (.slice (some ⟨go, 0, none⟩) (k + 1) capo) vr pl nm c gr rm.length capr rm x _ zq4 zq6 rfl rfl HX.out zq17).mono ?_; rintro e w3 ⟨rfl, hb3⟩; have oR3 : Own w3 R #[tb, .int .i64 pl, .int .i64 nm.kind, .int .i64 nm.at', .int .i64 nm.num, .string nm.str, .int .i64 nm.c0, .int .i64 nm.c1, .int .i64 nm.r0, .int .i64 nm.r1, .int .i64 nm.r2, .int .i64 nm.r3, .int .i64 nm.code, vn1, .slice (some ⟨go, 0, none⟩) (k + 1) capo, .slice (some ⟨gr, 0, none⟩) rm.length capr, .int .i64 ((c : Int) + 1)] := Own.keep zq4 hb3; have cR3 := oR3.cell; have lR3 := oR3.lt; have hN3 : NRow w3 vn1 ns := Rf.Row.keep zq6 hb3; have hW3 : WRow w3 (.slice (some ⟨gr, 0, none⟩) rm.length capr) rm := Rf.Row.keep zq6 hb3; have hM3 : Mut (fun b => b = R ∨ vn.ownBlock = some b) w w3 := Mut.below zq3 hb3) | (go_at_call 67; refine (Rf.level_any x.op _).mono ?_; rintro e w4 ⟨rfl, hb4⟩; have oR4 : Own w4 R #[tb, .int .i64 pl, .int .i64 nm.kind, .int .i64 nm.at', .int .i64 nm.num, .string nm.str, .int .i64 nm.c0, .int .i64 nm.c1, .int .i64 nm.r0, .int .i64 nm.r1, .int .i64 nm.r2, .int .i64 nm.r3, .int .i64 nm.code, vn1, .slice (some ⟨go, 0, none⟩) (k + 1) capo, .slice (some ⟨gr, 0, none⟩) rm.length capr, .int .i64 ((c : Int) + 1)] := Own.keep zq4 hb4; have cR4 := oR4.cell; have lR4 := oR4.lt; have hN4 : NRow w4 vn1 ns := Rf.Row.keep zq6 hb4; have hW4 : WRow w4 (.slice (some ⟨gr, 0, none⟩) rm.length capr) rm := Rf.Row.keep zq6 hb4; have hM4 : Mut (fun b => b = R ∨ vn.ownBlock = some b) w w4 := Mut.below zq3 hb4))
    exact ⟨rfl, _, results_none rfl _ _ _, WP.ok HRS.out ⟨vn1, (by rw [ec]; exact oR4), hN4, hM4, hnew⟩⟩
end Go.Proofs.YtcmjhjnpcogmgaaGreatDoor
