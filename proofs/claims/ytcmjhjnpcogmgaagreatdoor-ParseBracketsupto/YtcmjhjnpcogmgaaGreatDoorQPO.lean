/- Brackets that are not closed yet: the contracts of isCall and openBracket. Turned are the reader's block and that of its brackets. The condition: the two blocks are unlike. -/
import Derived.Test.YtcmjhjnpcogmgaaGreatDoorQPMPAPWPW2
namespace Go.Proofs.YtcmjhjnpcogmgaaGreatDoor
open Go.Shelf Go.RowKit
set_option linter.all false
/-- A bracket that is not closed yet; rv: the slice that holds which of its arguments are rectangles. -/
structure Bc where
  nm : Tk
  rv : Value
  ahead : Int
def Bc.cells (b : Bc) : Array Value := #[.int .i64 b.nm.kind, .int .i64 b.nm.at', .int .i64 b.nm.num, .string b.nm.str, .int .i64 b.nm.c0, .int .i64 b.nm.c1, .int .i64 b.nm.r0, .int .i64 b.nm.r1, .int .i64 b.nm.r2, .int .i64 b.nm.r3, .int .i64 b.nm.code, b.rv, .int .i64 b.ahead]
theorem Bc_size (x : Bc) : x.cells.size = 13 := rfl
theorem Bc_one (x : Bc) (h : x.rv.oneCell' = true) : ∀ u ∈ x.cells.toList, u.oneCell' = true := by
  intro u hu
  simp [Bc.cells] at hu
  rcases hu with h1 | h1 | h1 | h1 | h1 | h1 | h1 | h1 | h1 | h1 | h1 | h1 | h1 <;> (subst h1; first | rfl | exact h)
abbrev BRow (w : World) (v : Value) (l : List Bc) : Prop := Rf.Row Bc.cells 13 146 w 0 v l
theorem infoBk : (Tryz.prog.info? 146).map (fun i => (i.zero, i.size, i.bytes)) = some (some (.agg (Bc.cells ⟨tk0 0, .slice none 0 0, 0⟩)), 13, 128) := by kernel_rfl
set_option maxHeartbeats 1000000 in
theorem isCall_any (b : Bc) (w : World) : Calls Tryz.prog 89 #[.agg #[.int .i64 b.nm.kind, .int .i64 b.nm.at', .int .i64 b.nm.num, .string b.nm.str, .int .i64 b.nm.c0, .int .i64 b.nm.c1, .int .i64 b.nm.r0, .int .i64 b.nm.r1, .int .i64 b.nm.r2, .int .i64 b.nm.r3, .int .i64 b.nm.code, b.rv, .int .i64 b.ahead]] w fun e w' => e = .returned (.bool (b.nm.kind == 3)) ∧ Below w.heap.size w w' := by
  go_enter Tryz.func89, Tryz.ntmps89
  go_wp2
  go_ret
  exact ⟨rfl, by with_reducible (repeat' first | assumption | exact Below.refl _ _ | refine Below.drew ?_ | refine bdrewN ?_ _ | refine Below.setCell ?_ (by first | exact Nat.le_refl _ | (simp; done) | (simp; omega) | omega) _ | refine Below.alloc ?_ (by first | exact Nat.le_refl _ | (simp; done) | (simp; omega) | omega) _)⟩
set_option maxRecDepth 100000 in
set_option maxHeartbeats 4000000 in
theorem open_y (w : World) (R : Nat) (tb vn vo vr : Value) (pl : Int) (nm : Tk) (ct : Nat) (l : List Bc) (bn : Tk) (at' : Int) (hR : Own w R #[tb, .int .i64 pl, .int .i64 nm.kind, .int .i64 nm.at', .int .i64 nm.num, .string nm.str, .int .i64 nm.c0, .int .i64 nm.c1, .int .i64 nm.r0, .int .i64 nm.r1, .int .i64 nm.r2, .int .i64 nm.r3, .int .i64 nm.code, vn, vo, vr, .int .i64 (ct : Nat)]) (hrow : BRow w vo l) (hl : l.length < 32) (hne : ∀ g, vo.ownBlock = some g → g ≠ R) :
    Calls Tryz.prog 93 #[.pointer (some ⟨R, 0, none⟩), .int .i64 at', .agg #[.int .i64 bn.kind, .int .i64 bn.at', .int .i64 bn.num, .string bn.str, .int .i64 bn.c0, .int .i64 bn.c1, .int .i64 bn.r0, .int .i64 bn.r1, .int .i64 bn.r2, .int .i64 bn.r3, .int .i64 bn.code]] w fun e w' => (∃ v, e = .returned v) ∧ ∃ vo', Own w' R #[tb, .int .i64 pl, .int .i64 nm.kind, .int .i64 nm.at', .int .i64 nm.num, .string nm.str, .int .i64 nm.c0, .int .i64 nm.c1, .int .i64 nm.r0, .int .i64 nm.r1, .int .i64 nm.r2, .int .i64 nm.r3, .int .i64 nm.code, vn, vo', vr, .int .i64 (ct : Nat)] ∧ BRow w' vo' (l ++ [(⟨bn, .slice none 0 0, (ct : Int)⟩ : Bc)]) ∧ Mut (fun b => b = R ∨ vo.ownBlock = some b) w w' ∧ ∀ b, vo'.ownBlock = some b → vo.ownBlock = some b ∨ w.heap.size ≤ b := by
  have mixed : Tryz.prog.follows .mixedOrders = true := by kernel_rfl
  obtain ⟨i0, hi0, hz0, hz1, hz2⟩ := info_parts infoBk
  have HI : Hid _ := hi0
  have HZ0 : Hid _ := hz0
  have HZ1 : Hid _ := hz1
  have HZ2 : Hid _ := hz2
  clear hi0 hz0 hz1 hz2
  have c := hR.cell
  have fz := hR.fro
  have lt := hR.lt
  have hlI : ((l.length : Int) == 32) = false := by simp; omega
  obtain ⟨p, cap, rfl, hcap, hcm⟩ := hrow.slice
  have hrb : w.ownsRow 0 146 13 (.slice p l.length cap) l.length (Rf.flatC Bc.cells l) := hrow
  go_enter Tryz.func93, Tryz.ntmps93
  go_wp2
  go_region_law (refine step_append_lies _ rfl (.tmp 18) (.tmp 26) 85 rfl 0 146 i0 _ 13 128 Tryz.underlying85 HI.out HZ0.out HZ1.out HZ2.out rfl (by decide) (.slice p l.length cap) l.length (Rf.flatC Bc.cells l) (by simp [Act.eval, Act.put]) (by with_reducible (repeat' first | assumption | refine World.ownsRow.drew ?_ | refine World.ownsRow.alloc ?_ _)) ⟨w.heap.size + 1, 0, none⟩ 1 1 (⟨bn, .slice none 0 0, (ct : Int)⟩ : Bc).cells.toList (by simp [Act.eval, Act.put]) rfl (by first | exact Rf.news_two w _ _ _ | exact Rf.news_one (w.alloc _) _ _) (Bc_one _ rfl) (by decide) (by unfold maxLen; omega) (by omega) (by omega) (w.heap.size + 1 + 1) (by simp) ?_; intro g5 cap5 w5 hown5 hgrow5 hat5 hlt5; have o5 : Own w5 R #[tb, .int .i64 pl, .int .i64 nm.kind, .int .i64 nm.at', .int .i64 nm.num, .string nm.str, .int .i64 nm.c0, .int .i64 nm.c1, .int .i64 nm.r0, .int .i64 nm.r1, .int .i64 nm.r2, .int .i64 nm.r3, .int .i64 nm.code, vn, .slice p l.length cap, vr, .int .i64 (ct : Nat)] := Rf.own_grown (by with_reducible (repeat' first | assumption | refine Own.drew ?_ | refine Own.drewN ?_ _ | (refine Own.at ?_; first | rfl | (simp; done)) | refine Own.past ?_ _ | refine Own.aside ?_ (by first | (simp; done) | (simp; omega) | omega) _)) hgrow5 (by intro g' hg'; exact hne g' hg'); have c5 := o5.cell; have f5 := o5.fro; have l5 := o5.lt)
  all_goals have hgR : g5 ≠ R := hat5.elim (fun h => hne g5 h) (fun h => by omega)
  all_goals exact ⟨rfl, _, results_none rfl _ _ _, ⟨_, rfl⟩, _, own_p14 o5, Rf.Row.aside (rsnoc rfl hown5) _ (fun g hg => by have e := own_is hg; subst e; exact hgR), Mut.set (Mut.grown (by with_reducible (repeat' first | assumption | exact Mut.refl _ _ | refine Mut.drew ?_ | refine Mut.drewN ?_ _ | refine Mut.alloc ?_ _ | refine Mut.set ?_ (by first | (simp; done) | (simp; omega) | (left; simp; done) | (right; simp; omega)) _)) hgrow5 (fun g hg => .inl (.inr hg))) (.inl (.inl rfl)) _, fun b hb => (own_is hb) ▸ hat5.imp (fun h => h) (fun h => by omega)⟩
set_option maxHeartbeats 2000000 in
theorem open_n (w : World) (R : Nat) (tb vn vo vr : Value) (pl : Int) (nm : Tk) (ct : Nat) (p : Option Addr) (cap : Nat) (bn : Tk) (at' : Int) (hR : Own w R #[tb, .int .i64 pl, .int .i64 nm.kind, .int .i64 nm.at', .int .i64 nm.num, .string nm.str, .int .i64 nm.c0, .int .i64 nm.c1, .int .i64 nm.r0, .int .i64 nm.r1, .int .i64 nm.r2, .int .i64 nm.r3, .int .i64 nm.code, vn, .slice p 32 cap, vr, .int .i64 (ct : Nat)]) :
    Calls Tryz.prog 93 #[.pointer (some ⟨R, 0, none⟩), .int .i64 at', .agg #[.int .i64 bn.kind, .int .i64 bn.at', .int .i64 bn.num, .string bn.str, .int .i64 bn.c0, .int .i64 bn.c1, .int .i64 bn.r0, .int .i64 bn.r1, .int .i64 bn.r2, .int .i64 bn.r3, .int .i64 bn.code]] w fun e w' => e = .panicked (refC 7 at') ∧ Below w.heap.size w w' := by
  have c := hR.cell
  have fz := hR.fro
  have lt := hR.lt
  go_enter Tryz.func93, Tryz.ntmps93
  go_wp2_with (go_at_call 88; refine (refuse_any 7 at' _).mono ?_; rintro e w1 ⟨rfl, hb⟩; have hB1 : Below w.heap.size w w1 := bup (by with_reducible (repeat' first | assumption | exact Below.refl _ _ | refine Below.drew ?_ | refine bdrewN ?_ _ | refine Below.setCell ?_ (by first | exact Nat.le_refl _ | (simp; done) | (simp; omega) | omega) _ | refine Below.alloc ?_ (by first | exact Nat.le_refl _ | (simp; done) | (simp; omega) | omega) _)) hb)
  exact ⟨rfl, rfl, hB1⟩
end Go.Proofs.YtcmjhjnpcogmgaaGreatDoor
