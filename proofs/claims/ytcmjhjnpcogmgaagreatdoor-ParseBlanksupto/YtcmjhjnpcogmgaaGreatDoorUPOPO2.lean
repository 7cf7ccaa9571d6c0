/- Brackets that are not closed yet: the contracts of isCall and openBracket -/
import Derived.Test.YtcmjhjnpcogmgaaGreatDoorUAuto
import Derived.Test.YtcmjhjnpcogmgaaGreatDoorUPMPAPWPW2
set_option linter.all false
set_option maxRecDepth 100000
set_option maxHeartbeats 4000000
namespace Go.Proofs.YtcmjhjnpcogmgaaGreatDoor
open Go.Shelf Go.RowKit
structure Bc where
 nm : Tk
 rv : Value
 ahead : Int
def Bc.cells (b : Bc) : Array Value := #[.int .i64 b.nm.kind, .int .i64 b.nm.at', .int .i64 b.nm.num, .string b.nm.str, .int .i64 b.nm.c0, .int .i64 b.nm.c1, .int .i64 b.nm.r0, .int .i64 b.nm.r1, .int .i64 b.nm.r2, .int .i64 b.nm.r3, .int .i64 b.nm.code, b.rv, .int .i64 b.ahead]
theorem Bc_size (x : Bc) : x.cells.size = 13 := rfl
theorem Bc_one (x : Bc) (h : x.rv.oneCell' = true) : ∀ u ∈ x.cells.toList, u.oneCell' = true := by
 intro u hu
 simp [Bc.cells] at hu
 rcases hu with h1 | h1 | h1 | h1 | h1 | h1 | h1 | h1 | h1 | h1 | h1 | h1 | h1 <;> (subst h1; first | rfl | exact h)
abbrev BRow (w : World) (v : Value) (l : List Bc) : Prop := Rf.Row Bc.cells 13 146 w 0 v l
theorem infoBk : (Tryz.prog.info? 146).map (fun i => (i.zero, i.size, i.bytes)) = some (some (.agg (Bc.cells ⟨tk0 0, .slice none 0 0, 0⟩)), 13, 128) := by kernel_rfl
theorem isCall_any (b : Bc) (w : World) : Calls Tryz.prog 89 #[.agg #[.int .i64 b.nm.kind, .int .i64 b.nm.at', .int .i64 b.nm.num, .string b.nm.str, .int .i64 b.nm.c0, .int .i64 b.nm.c1, .int .i64 b.nm.r0, .int .i64 b.nm.r1, .int .i64 b.nm.r2, .int .i64 b.nm.r3, .int .i64 b.nm.code, b.rv, .int .i64 b.ahead]] w fun e w' => e = .returned (.bool (b.nm.kind == 3)) ∧ Below w.heap.size w w' := by
 go_enter Tryz.func89, Tryz.ntmps89
 go_wp2
 go_ret
 exact ⟨rfl, zq1⟩
theorem open_y (w : World) (R : Nat) (tb vn vo vr : Value) (pl : Int) (nm : Tk) (ct : Nat) (l : List Bc) (bn : Tk) (at' : Int) (hR : Own w R #[tb, .int .i64 pl, .int .i64 nm.kind, .int .i64 nm.at', .int .i64 nm.num, .string nm.str, .int .i64 nm.c0, .int .i64 nm.c1, .int .i64 nm.r0, .int .i64 nm.r1, .int .i64 nm.r2, .int .i64 nm.r3, .int .i64 nm.code, vn, vo, vr, .int .i64 (ct : Nat)]) (hrow : BRow w vo l) (hl : l.length < 32) (hne : ∀ g, vo.ownBlock = some g → g ≠ R) :
  Calls Tryz.prog 93 #[.pointer (some ⟨R, 0, none⟩), .int .i64 at', .agg #[.int .i64 bn.kind, .int .i64 bn.at', .int .i64 bn.num, .string bn.str, .int .i64 bn.c0, .int .i64 bn.c1, .int .i64 bn.r0, .int .i64 bn.r1, .int .i64 bn.r2, .int .i64 bn.r3, .int .i64 bn.code]] w fun e w' => (∃ v, e = .returned v) ∧ ∃ vo', Own w' R #[tb, .int .i64 pl, .int .i64 nm.kind, .int .i64 nm.at', .int .i64 nm.num, .string nm.str, .int .i64 nm.c0, .int .i64 nm.c1, .int .i64 nm.r0, .int .i64 nm.r1, .int .i64 nm.r2, .int .i64 nm.r3, .int .i64 nm.code, vn, vo', vr, .int .i64 (ct : Nat)] ∧ BRow w' vo' (l ++ [(⟨bn, .slice none 0 0, (ct : Int)⟩ : Bc)]) ∧ Mut (fun b => b = R ∨ vo.ownBlock = some b) w w' ∧ ∀ b, vo'.ownBlock = some b → vo.ownBlock = some b ∨ w.heap.size ≤ b := by
 have mixed : Tryz.prog.follows .mixedOrders = true := by kernel_rfl
 obtain ⟨i0, hi0, hz0, hz1, hz2⟩ := info_parts infoBk
 have HI : Hid _ := hi0
 have HZ0 : Hid _ := hz0
 have HZ1 : Hid _ := hz1
 have HZ2 : Hid _ := hz2
 clear hi0 hz0 hz1 hz2
 have c := hR.cell
 have fz := hR.fro
 have lt := hR.lt
 have hlI : ((l.length : Int) == 32) = false := by simp; omega
 obtain ⟨p, cap, rfl, hcap, hcm⟩ := hrow.slice
 have hrb : w.ownsRow 0 146 13 (.slice p l.length cap) l.length (Rf.flatC Bc.cells l) := hrow
 go_enter Tryz.func93, Tryz.ntmps93
 go_wp2
 go_region_law (refine step_append_lies _ rfl (.tmp 18) (.tmp 26) 85 rfl 0 146 i0 _ 13 128 Tryz.underlying85 HI.out HZ0.out HZ1.out HZ2.out rfl zq16 (.slice p l.length cap) l.length (Rf.flatC Bc.cells l) (by simp [Act.eval, Act.put]) (by with_reducible (repeat' first | assumption | refine World.ownsRow.drew ?_ | refine World.ownsRow.alloc ?_ _)) ⟨w.heap.size + 1, 0, none⟩ 1 1 (⟨bn, .slice none 0 0, (ct : Int)⟩ : Bc).cells.toList (by simp [Act.eval, Act.put]) rfl (by first | exact Rf.news_two w _ _ _ | exact Rf.news_one (w.alloc _) _ _) (Bc_one _ rfl) zq16 (by unfold maxLen; omega) zq17 zq17 (w.heap.size + 1 + 1) (by simp) ?_; intro g5 cap5 w5 hown5 hgrow5 hat5 hlt5; have o5 : Own w5 R #[tb, .int .i64 pl, .int .i64 nm.kind, .int .i64 nm.at', .int .i64 nm.num, .string nm.str, .int .i64 nm.c0, .int .i64 nm.c1, .int .i64 nm.r0, .int .i64 nm.r1, .int .i64 nm.r2, .int .i64 nm.r3, .int .i64 nm.code, vn, .slice p l.length cap, vr, .int .i64 (ct : Nat)] := Rf.own_grown zq4 hgrow5 (by intro g' hg'; exact hne g' hg'); have c5 := o5.cell; have f5 := o5.fro; have l5 := o5.lt)
 all_goals have hgR : g5 ≠ R := hat5.elim (fun h => hne g5 h) (fun h => by omega)
 all_goals exact ⟨rfl, _, results_none rfl _ _ _, ⟨_, rfl⟩, _, own_p14 o5, Rf.Row.aside (rsnoc rfl hown5) _ (fun g hg => by have e := own_is hg; subst e; exact hgR), Mut.set (Mut.grown zq3 hgrow5 (fun g hg => .inl (.inr hg))) (.inl (.inl rfl)) _, fun b hb => (own_is hb) ▸ hat5.imp (fun h => h) (fun h => by omega)⟩
theorem open_n (w : World) (R : Nat) (tb vn vo vr : Value) (pl : Int) (nm : Tk) (ct : Nat) (p : Option Addr) (cap : Nat) (bn : Tk) (at' : Int) (hR : Own w R #[tb, .int .i64 pl, .int .i64 nm.kind, .int .i64 nm.at', .int .i64 nm.num, .string nm.str, .int .i64 nm.c0, .int .i64 nm.c1, .int .i64 nm.r0, .int .i64 nm.r1, .int .i64 nm.r2, .int .i64 nm.r3, .int .i64 nm.code, vn, .slice p 32 cap, vr, .int .i64 (ct : Nat)]) :
  Calls Tryz.prog 93 #[.pointer (some ⟨R, 0, none⟩), .int .i64 at', .agg #[.int .i64 bn.kind, .int .i64 bn.at', .int .i64 bn.num, .string bn.str, .int .i64 bn.c0, .int .i64 bn.c1, .int .i64 bn.r0, .int .i64 bn.r1, .int .i64 bn.r2, .int .i64 bn.r3, .int .i64 bn.code]] w fun e w' => e = .panicked (refC 7 at') ∧ Below w.heap.size w w' := by
 have c := hR.cell
 have fz := hR.fro
 have lt := hR.lt
 go_enter Tryz.func93, Tryz.ntmps93
 go_wp2_with (go_at_call 88; refine (refuse_any 7 at' _).mono ?_; rintro e w1 ⟨rfl, hb⟩; have hB1 := bux w zq1 hb)
 exact ⟨rfl, rfl, hB1⟩
end Go.Proofs.YtcmjhjnpcogmgaaGreatDoor
namespace Go.Proofs.YtcmjhjnpcogmgaaGreatDoor
open Go.Shelf Go.RowKit
def boC (b : Bool) : Array Value := #[.bool b]
theorem boC_size (b : Bool) : (boC b).size = 1 := rfl
theorem boC_one (b : Bool) : ∀ u ∈ (boC b).toList, u.oneCell' = true := by
 intro u hu
 simp [boC] at hu
 subst hu; rfl
abbrev LRow (w : World) (v : Value) (l : List Bool) : Prop := Rf.Row boC 1 4 w 0 v l
theorem infoBl : (Tryz.prog.info? 4).map (fun i => (i.zero, i.size, i.bytes)) = some (some (.bool false), 1, 1) := by kernel_rfl
def Bc.put (b : Bc) (v : Value) : Bc := ⟨b.nm, v, b.ahead⟩
theorem flat_rv (v : Value) : ∀ (l : List Bc) (k : Nat) (b : Bc), l[k]? = some b → (Rf.flatC Bc.cells l).set (k * 13 + 11) v = Rf.flatC Bc.cells (l.set k (b.put v))
 | [], k, b, h => by simp at h
 | a :: l, 0, b, h => by
  simp at h; subst h
  simp [Rf.flatC, Bc.cells, Bc.put]
 | a :: l, k + 1, b, h => by
  have ih := flat_rv v l k b (by simpa using h)
  have e : Rf.flatC Bc.cells (a :: l) = a.cells.toList ++ Rf.flatC Bc.cells l := by simp [Rf.flatC]
  have e2 : Rf.flatC Bc.cells ((a :: l).set (k + 1) (b.put v)) = a.cells.toList ++ Rf.flatC Bc.cells (l.set k (b.put v)) := by simp [Rf.flatC]
  have e3 : (k + 1) * 13 + 11 = 13 + (k * 13 + 11) := by omega
  rw [e, e2, ← ih, e3]
  have hl : a.cells.toList.length = 13 := rfl
  rw [List.set_append_right _ _ zq17, hl]
  congr 2
  omega
theorem BRow.put {w : World} {g m cap k : Nat} {l : List Bc} {b : Bc} (h : BRow w (.slice (some ⟨g, 0, none⟩) m cap) l) (hm : l.length = m) (hk : l[k]? = some b) (v : Value) : BRow (w.setCell ⟨g, k * 13 + 11, none⟩ v) (.slice (some ⟨g, 0, none⟩) m cap) (l.set k (b.put v)) := by
 subst hm
 have h0 : w.ownsRow 0 146 13 (.slice (some ⟨g, 0, none⟩) l.length cap) l.length (Rf.flatC Bc.cells l) := h
 have h1 := (h0.stored (k * 13 + 11) v).1
 rw [flat_rv v l k b hk] at h1
 unfold BRow Rf.Row
 rw [List.length_set]
 exact h1
theorem next_e (w : World) (R : Nat) (tb vn vo vr : Value) (pl : Int) (nm : Tk) (ct : Nat) (p : Option Addr) (cap : Nat) (at' : Int) (hR : Own w R #[tb, .int .i64 pl, .int .i64 nm.kind, .int .i64 nm.at', .int .i64 nm.num, .string nm.str, .int .i64 nm.c0, .int .i64 nm.c1, .int .i64 nm.r0, .int .i64 nm.r1, .int .i64 nm.r2, .int .i64 nm.r3, .int .i64 nm.code, vn, .slice p 0 cap, vr, .int .i64 (ct : Nat)]) :
  Calls Tryz.prog 98 #[.pointer (some ⟨R, 0, none⟩), .int .i64 at'] w fun e w' => e = .panicked (refC 8 at') ∧ Below w.heap.size w w' := by
 have c := hR.cell
 have fz := hR.fro
 have lt := hR.lt
 go_enter Tryz.func98, Tryz.ntmps98
 go_wp2_with (go_at_call 88; refine (refuse_any 8 at' _).mono ?_; rintro e w1 ⟨rfl, hb⟩; have hB1 := bux w zq1 hb)
 exact ⟨rfl, rfl, hB1⟩
theorem next_b (w : World) (R : Nat) (tb vn vo vr : Value) (pl : Int) (nm : Tk) (ct : Nat) (go k capo : Nat) (l : List Bc) (b : Bc) (at' : Int) (hR : Own w R #[tb, .int .i64 pl, .int .i64 nm.kind, .int .i64 nm.at', .int .i64 nm.num, .string nm.str, .int .i64 nm.c0, .int .i64 nm.c1, .int .i64 nm.r0, .int .i64 nm.r1, .int .i64 nm.r2, .int .i64 nm.r3, .int .i64 nm.code, vn, .slice (some ⟨go, 0, none⟩) (k + 1) capo, vr, .int .i64 (ct : Nat)]) (hrow : BRow w (.slice (some ⟨go, 0, none⟩) (k + 1) capo) l) (hb : l[k]? = some b) (hm : l.length = k + 1) (hK : (b.nm.kind == 3) = false) (hk1 : k < 1000) :
  Calls Tryz.prog 98 #[.pointer (some ⟨R, 0, none⟩), .int .i64 at'] w fun e w' => e = .panicked (refC 8 at') ∧ Below w.heap.size w w' := by
 have HK : Hid _ := hK
 have c := hR.cell
 have fz := hR.fro
 have lt := hR.lt
 have hlg := (Rf.Row.lt hrow go rfl).2
 have cx := fun j hj => Rf.Row.cells Bc_size hrow k _ hb j hj
 have z0 : w.cell? ⟨go, k * 13, none⟩ = some (.int .i64 b.nm.kind) := cx 0 zq16
 have z1 : w.cell? ⟨go, k * 13 + 1, none⟩ = some (.int .i64 b.nm.at') := cx 1 zq16
 have z2 : w.cell? ⟨go, k * 13 + 2, none⟩ = some (.int .i64 b.nm.num) := cx 2 zq16
 have z3 : w.cell? ⟨go, k * 13 + 3, none⟩ = some (.string b.nm.str) := cx 3 zq16
 have z4 : w.cell? ⟨go, k * 13 + 4, none⟩ = some (.int .i64 b.nm.c0) := cx 4 zq16
 have z5 : w.cell? ⟨go, k * 13 + 5, none⟩ = some (.int .i64 b.nm.c1) := cx 5 zq16
 have z6 : w.cell? ⟨go, k * 13 + 6, none⟩ = some (.int .i64 b.nm.r0) := cx 6 zq16
 have z7 : w.cell? ⟨go, k * 13 + 7, none⟩ = some (.int .i64 b.nm.r1) := cx 7 zq16
 have z8 : w.cell? ⟨go, k * 13 + 8, none⟩ = some (.int .i64 b.nm.r2) := cx 8 zq16
 have z9 : w.cell? ⟨go, k * 13 + 9, none⟩ = some (.int .i64 b.nm.r3) := cx 9 zq16
 have z10 : w.cell? ⟨go, k * 13 + 10, none⟩ = some (.int .i64 b.nm.code) := cx 10 zq16
 have z11 : w.cell? ⟨go, k * 13 + 11, none⟩ = some (b.rv) := cx 11 zq16
 have z12 : w.cell? ⟨go, k * 13 + 12, none⟩ = some (.int .i64 b.ahead) := cx 12 zq16
 clear cx
 have hsb : wrap64 ((k : Int) + 1 - 1) = (k : Int) := by unfold wrap64; omega
 have hsb2 : ((k : Int) + 1 - 1) = (k : Int) := by omega
 have hk0 : ¬ ((k : Int) < 0) := by omega
 have hk0' : decide ((k : Int) < 0) = false := by simp
 have hkl : (k : Int) < (k : Int) + 1 := by omega
 go_enter Tryz.func98, Tryz.ntmps98
 go_wp2_with (first | (go_at_call 89; refine (isCall_any b _).mono ?_; rw [HK.out]; rintro e w3 ⟨rfl, hb3⟩; have hB3 := bux w zq1 hb3; have o3 : Own w3 R #[tb, .int .i64 pl, .int .i64 nm.kind, .int .i64 nm.at', .int .i64 nm.num, .string nm.str, .int .i64 nm.c0, .int .i64 nm.c1, .int .i64 nm.r0, .int .i64 nm.r1, .int .i64 nm.r2, .int .i64 nm.r3, .int .i64 nm.code, vn, .slice (some ⟨go, 0, none⟩) (k + 1) capo, vr, .int .i64 (ct : Nat)] := Own.keep zq4 hb3; have c3 := o3.cell; have f3 := o3.fro; have l3 := o3.lt; have hr3 : BRow w3 (.slice (some ⟨go, 0, none⟩) (k + 1) capo) l := Rf.Row.keep zq8 hb3) | (go_at_call 88; refine (refuse_any 8 at' _).mono ?_; rintro e w1 ⟨rfl, hb⟩; have hB1 := bux w zq1 hb))
 exact ⟨rfl, rfl, hB1⟩
theorem next_f (w : World) (R : Nat) (tb vn vo vr : Value) (pl : Int) (nm : Tk) (ct : Nat) (go k capo : Nat) (l : List Bc) (bn : Tk) (ah : Int) (rp : Option Addr) (rc : Nat) (at' : Int) (hR : Own w R #[tb, .int .i64 pl, .int .i64 nm.kind, .int .i64 nm.at', .int .i64 nm.num, .string nm.str, .int .i64 nm.c0, .int .i64 nm.c1, .int .i64 nm.r0, .int .i64 nm.r1, .int .i64 nm.r2, .int .i64 nm.r3, .int .i64 nm.code, vn, .slice (some ⟨go, 0, none⟩) (k + 1) capo, vr, .int .i64 (ct : Nat)]) (hrow : BRow w (.slice (some ⟨go, 0, none⟩) (k + 1) capo) l) (hb : l[k]? = some ⟨bn, .slice rp 15 rc, ah⟩) (hm : l.length = k + 1) (hK : (bn.kind == 3) = true) (hk1 : k < 1000) :
  Calls Tryz.prog 98 #[.pointer (some ⟨R, 0, none⟩), .int .i64 at'] w fun e w' => e = .panicked (refC 8 at') ∧ Below w.heap.size w w' := by
 have HK : Hid _ := hK
 have mixed : Tryz.prog.follows .mixedOrders = true := by kernel_rfl
 have c := hR.cell
 have fz := hR.fro
 have lt := hR.lt
 have hlg := (Rf.Row.lt hrow go rfl).2
 have cx := fun j hj => Rf.Row.cells Bc_size hrow k _ hb j hj
 have z0 : w.cell? ⟨go, k * 13, none⟩ = some (.int .i64 bn.kind) := cx 0 zq16
 have z1 : w.cell? ⟨go, k * 13 + 1, none⟩ = some (.int .i64 bn.at') := cx 1 zq16
 have z2 : w.cell? ⟨go, k * 13 + 2, none⟩ = some (.int .i64 bn.num) := cx 2 zq16
 have z3 : w.cell? ⟨go, k * 13 + 3, none⟩ = some (.string bn.str) := cx 3 zq16
 have z4 : w.cell? ⟨go, k * 13 + 4, none⟩ = some (.int .i64 bn.c0) := cx 4 zq16
 have z5 : w.cell? ⟨go, k * 13 + 5, none⟩ = some (.int .i64 bn.c1) := cx 5 zq16
 have z6 : w.cell? ⟨go, k * 13 + 6, none⟩ = some (.int .i64 bn.r0) := cx 6 zq16
 have z7 : w.cell? ⟨go, k * 13 + 7, none⟩ = some (.int .i64 bn.r1) := cx 7 zq16
 have z8 : w.cell? ⟨go, k * 13 + 8, none⟩ = some (.int .i64 bn.r2) := cx 8 zq16
 have z9 : w.cell? ⟨go, k * 13 + 9, none⟩ = some (.int .i64 bn.r3) := cx 9 zq16
 have z10 : w.cell? ⟨go, k * 13 + 10, none⟩ = some (.int .i64 bn.code) := cx 10 zq16
 have z11 : w.cell? ⟨go, k * 13 + 11, none⟩ = some (.slice rp 15 rc) := cx 11 zq16
 have z12 : w.cell? ⟨go, k * 13 + 12, none⟩ = some (.int .i64 ah) := cx 12 zq16
 clear cx
 have hsb : wrap64 ((k : Int) + 1 - 1) = (k : Int) := by unfold wrap64; omega
 have hsb2 : ((k : Int) + 1 - 1) = (k : Int) := by omega
 have hk0 : ¬ ((k : Int) < 0) := by omega
 have hk0' : decide ((k : Int) < 0) = false := by simp
 have hkl : (k : Int) < (k : Int) + 1 := by omega
 go_enter Tryz.func98, Tryz.ntmps98
 go_wp2_with (first | (go_at_call 89; refine (isCall_any ⟨bn, .slice rp 15 rc, ah⟩ _).mono ?_; rw [HK.out]; rintro e w3 ⟨rfl, hb3⟩; have hB3 := bux w zq1 hb3; have o3 : Own w3 R #[tb, .int .i64 pl, .int .i64 nm.kind, .int .i64 nm.at', .int .i64 nm.num, .string nm.str, .int .i64 nm.c0, .int .i64 nm.c1, .int .i64 nm.r0, .int .i64 nm.r1, .int .i64 nm.r2, .int .i64 nm.r3, .int .i64 nm.code, vn, .slice (some ⟨go, 0, none⟩) (k + 1) capo, vr, .int .i64 (ct : Nat)] := Own.keep zq4 hb3; have c3 := o3.cell; have f3 := o3.fro; have l3 := o3.lt; have hr3 : BRow w3 (.slice (some ⟨go, 0, none⟩) (k + 1) capo) l := Rf.Row.keep zq8 hb3; have z11 : w3.cell? ⟨go, k * 13 + 11, none⟩ = some (.slice rp 15 rc) := Rf.Row.cells Bc_size hr3 k _ hb 11 zq16) | (go_at_call 88; refine (refuse_any 8 at' _).mono ?_; rintro e w1 ⟨rfl, hb⟩; have hB1 := bux w zq1 hb))
 exact ⟨rfl, rfl, hB1⟩
theorem next_y (w : World) (R : Nat) (tb vn vo vr : Value) (pl : Int) (nm : Tk) (ct : Nat) (go k capo : Nat) (l : List Bc) (bn : Tk) (ah : Int) (rp : Option Addr) (rc : Nat) (rl : List Bool) (at' : Int) (hR : Own w R #[tb, .int .i64 pl, .int .i64 nm.kind, .int .i64 nm.at', .int .i64 nm.num, .string nm.str, .int .i64 nm.c0, .int .i64 nm.c1, .int .i64 nm.r0, .int .i64 nm.r1, .int .i64 nm.r2, .int .i64 nm.r3, .int .i64 nm.code, vn, .slice (some ⟨go, 0, none⟩) (k + 1) capo, vr, .int .i64 (ct : Nat)]) (hrow : BRow w (.slice (some ⟨go, 0, none⟩) (k + 1) capo) l) (hb : l[k]? = some ⟨bn, .slice rp rl.length rc, ah⟩) (hm : l.length = k + 1) (hK : (bn.kind == 3) = true) (hk1 : k < 1000)
  (hq : LRow w (.slice rp rl.length rc) rl) (hrl : rl.length < 15) (hne1 : go ≠ R) (hne2 : ∀ g, (.slice rp rl.length rc : Value).ownBlock = some g → g ≠ R ∧ g ≠ go) :
  Calls Tryz.prog 98 #[.pointer (some ⟨R, 0, none⟩), .int .i64 at'] w fun e w' => (∃ v, e = .returned v) ∧ ∃ rv', Own w' R #[tb, .int .i64 1, .int .i64 nm.kind, .int .i64 nm.at', .int .i64 nm.num, .string nm.str, .int .i64 nm.c0, .int .i64 nm.c1, .int .i64 nm.r0, .int .i64 nm.r1, .int .i64 nm.r2, .int .i64 nm.r3, .int .i64 nm.code, vn, .slice (some ⟨go, 0, none⟩) (k + 1) capo, vr, .int .i64 (ct : Nat)] ∧ BRow w' (.slice (some ⟨go, 0, none⟩) (k + 1) capo) (l.set k ⟨bn, rv', ah⟩) ∧ LRow w' rv' (rl ++ [pl == 5]) ∧ Mut (fun b => b = R ∨ b = go ∨ (.slice rp rl.length rc : Value).ownBlock = some b) w w' ∧ ∀ b, rv'.ownBlock = some b → (.slice rp rl.length rc : Value).ownBlock = some b ∨ w.heap.size ≤ b := by
 have HK : Hid _ := hK
 obtain ⟨i0, hi0, hz0, hz1, hz2⟩ := info_parts infoBl
 have HI : Hid _ := hi0
 have HZ0 : Hid _ := hz0
 have HZ1 : Hid _ := hz1
 have HZ2 : Hid _ := hz2
 clear hi0 hz0 hz1 hz2
 have hr15 : ((rl.length : Int) == 15) = false := by simp; omega
 have mixed : Tryz.prog.follows .mixedOrders = true := by kernel_rfl
 have c := hR.cell
 have fz := hR.fro
 have lt := hR.lt
 have hlg := (Rf.Row.lt hrow go rfl).2
 have cx := fun j hj => Rf.Row.cells Bc_size hrow k _ hb j hj
 have z0 : w.cell? ⟨go, k * 13, none⟩ = some (.int .i64 bn.kind) := cx 0 zq16
 have z1 : w.cell? ⟨go, k * 13 + 1, none⟩ = some (.int .i64 bn.at') := cx 1 zq16
 have z2 : w.cell? ⟨go, k * 13 + 2, none⟩ = some (.int .i64 bn.num) := cx 2 zq16
 have z3 : w.cell? ⟨go, k * 13 + 3, none⟩ = some (.string bn.str) := cx 3 zq16
 have z4 : w.cell? ⟨go, k * 13 + 4, none⟩ = some (.int .i64 bn.c0) := cx 4 zq16
 have z5 : w.cell? ⟨go, k * 13 + 5, none⟩ = some (.int .i64 bn.c1) := cx 5 zq16
 have z6 : w.cell? ⟨go, k * 13 + 6, none⟩ = some (.int .i64 bn.r0) := cx 6 zq16
 have z7 : w.cell? ⟨go, k * 13 + 7, none⟩ = some (.int .i64 bn.r1) := cx 7 zq16
 have z8 : w.cell? ⟨go, k * 13 + 8, none⟩ = some (.int .i64 bn.r2) := cx 8 zq16
 have z9 : w.cell? ⟨go, k * 13 + 9, none⟩ = some (.int .i64 bn.r3) := cx 9 zq16
 have z10 : w.cell? ⟨go, k * 13 + 10, none⟩ = some (.int .i64 bn.code) := cx 10 zq16
 have z11 : w.cell? ⟨go, k * 13 + 11, none⟩ = some (.slice rp rl.length rc) := cx 11 zq16
 have z12 : w.cell? ⟨go, k * 13 + 12, none⟩ = some (.int .i64 ah) := cx 12 zq16
 clear cx
 have hsb : wrap64 ((k : Int) + 1 - 1) = (k : Int) := by unfold wrap64; omega
 have hsb2 : ((k : Int) + 1 - 1) = (k : Int) := by omega
 have hk0 : ¬ ((k : Int) < 0) := by omega
 have hk0' : decide ((k : Int) < 0) = false := by simp
 have hkl : (k : Int) < (k : Int) + 1 := by omega
 go_enter Tryz.func98, Tryz.ntmps98
 go_wp2_with (go_at_call 89; refine (isCall_any ⟨bn, .slice rp rl.length rc, ah⟩ _).mono ?_; rw [HK.out]; rintro e w3 ⟨rfl, hb3⟩; have hB3 := bux w zq1 hb3; have o3 : Own w3 R #[tb, .int .i64 pl, .int .i64 nm.kind, .int .i64 nm.at', .int .i64 nm.num, .string nm.str, .int .i64 nm.c0, .int .i64 nm.c1, .int .i64 nm.r0, .int .i64 nm.r1, .int .i64 nm.r2, .int .i64 nm.r3, .int .i64 nm.code, vn, .slice (some ⟨go, 0, none⟩) (k + 1) capo, vr, .int .i64 (ct : Nat)] := Own.keep zq4 hb3; have c3 := o3.cell; have f3 := o3.fro; have l3 := o3.lt; have hr3 : BRow w3 (.slice (some ⟨go, 0, none⟩) (k + 1) capo) l := Rf.Row.keep zq8 hb3; have z11 : w3.cell? ⟨go, k * 13 + 11, none⟩ = some (.slice rp rl.length rc) := Rf.Row.cells Bc_size hr3 k _ hb 11 zq16; have hq3 : LRow w3 (.slice rp rl.length rc) rl := Rf.Row.keep zq8 hb3)
 have hlg3 := (Rf.Row.lt hr3 go rfl).2
 have fg3 := Rf.Row.fro Bc_size hr3
 have hrb : w3.ownsRow 0 4 1 (.slice rp rl.length rc) rl.length (Rf.flatC boC rl) := hq3
 have hz33 := hB3.size
 have hM3 : Mut (fun b => b = R ∨ b = go ∨ (.slice rp rl.length rc : Value).ownBlock = some b) w w3 := Mut.below (Mut.refl _ _) hB3
 clear c fz z0 z1 z2 z3 z4 z5 z6 z7 z8 z9 z10 z12
 go_region_law (refine step_append_lies _ rfl (.tmp 50) (.tmp 56) 144 rfl 0 4 i0 _ 1 1 Tryz.underlying144 HI.out HZ0.out HZ1.out HZ2.out rfl zq16 (.slice rp rl.length rc) rl.length (Rf.flatC boC rl) (by simp [Act.eval, Act.put]) (by with_reducible (repeat' first | assumption | refine World.ownsRow.drew ?_ | refine World.ownsRow.alloc ?_ _)) ⟨w3.heap.size, 0, none⟩ 1 1 (boC (pl == 5)).toList (by simp [Act.eval, Act.put]) rfl (by first | exact Rf.news_one w3 _ _ | exact Rf.news_one w3.drew _ _) (boC_one _) zq16 (by unfold maxLen; omega) zq17 zq17 (w3.heap.size + 1) (by simp) ?_; intro g5 cap5 w5 hown5 hgrow5 hat5 hlt5; have o5 : Own w5 R #[tb, .int .i64 pl, .int .i64 nm.kind, .int .i64 nm.at', .int .i64 nm.num, .string nm.str, .int .i64 nm.c0, .int .i64 nm.c1, .int .i64 nm.r0, .int .i64 nm.r1, .int .i64 nm.r2, .int .i64 nm.r3, .int .i64 nm.code, vn, .slice (some ⟨go, 0, none⟩) (k + 1) capo, vr, .int .i64 (ct : Nat)] := Rf.own_grown zq4 hgrow5 (by intro g' hg'; exact (hne2 g' hg').1); have c5 := o5.cell; have f5 := o5.fro; have l5 := o5.lt; have hr5 : BRow w5 (.slice (some ⟨go, 0, none⟩) (k + 1) capo) l := Rf.Row.mut (S := fun b => (.slice rp rl.length rc : Value).ownBlock = some b) hr3 (Mut.grown (by with_reducible (repeat' first | exact Mut.refl _ _ | refine Mut.drew ?_ | refine Mut.alloc ?_ _)) hgrow5 (fun g hg => .inl hg)) (fun g hg h => by have e := own_is hg; subst e; exact (hne2 _ h).2 rfl); have y11 : w5.cell? ⟨go, k * 13 + 11, none⟩ = some (.slice rp rl.length rc) := Rf.Row.cells Bc_size hr5 k _ hb 11 zq16; have fg5 := Rf.Row.fro Bc_size hr5; have lg5 := (Rf.Row.lt hr5 go rfl).2)
 all_goals go_wp2
 all_goals have hg1 : g5 ≠ R := hat5.elim (fun h => (hne2 g5 h).1) (fun h => by omega)
 all_goals have hg2 : g5 ≠ go := hat5.elim (fun h => (hne2 g5 h).2) (fun h => by omega)
 all_goals exact ⟨rfl, _, results_none rfl _ _ _, ⟨_, rfl⟩, .slice (some ⟨g5, 0, none⟩) (rl.length + 1) cap5, own_p1 (Own.aside o5 (fun e => hne1 e.symm) _), Rf.Row.aside (BRow.put hr5 hm hb _) _ (fun g hg => by have e := own_is hg; subst e; exact hne1), Rf.Row.aside (Rf.Row.aside (rsnoc rfl hown5) _ (fun g hg => by have e := own_is hg; subst e; exact hg2)) _ (fun g hg => by have e := own_is hg; subst e; exact hg1), Mut.set (Mut.set (Mut.grown (by with_reducible (repeat' first | assumption | refine Mut.drew ?_ | refine Mut.alloc ?_ _)) hgrow5 (fun g hg => .inl (.inr (.inr hg)))) (.inl (.inr (.inl rfl))) _) (.inl (.inl rfl)) _, fun b hb => (own_is hb) ▸ hat5.imp (fun h => h) (fun h => by omega)⟩
end Go.Proofs.YtcmjhjnpcogmgaaGreatDoor
