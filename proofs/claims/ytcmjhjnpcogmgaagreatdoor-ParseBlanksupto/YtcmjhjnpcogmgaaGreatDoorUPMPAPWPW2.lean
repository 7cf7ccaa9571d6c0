/- What a call may turn: the blocks of a set and new ones (Mut), and what keeps through it -/
import Derived.Test.YtcmjhjnpcogmgaaGreatDoorUAuto
import Derived.Test.YtcmjhjnpcogmgaaGreatDoorURfN0PN
import Derived.Test.YtcmjhjnpcogmgaaGreatDoorURfN7
import Derived.Deep.RegionLaw
set_option linter.all false
set_option maxRecDepth 100000
set_option maxHeartbeats 4000000
namespace Go.Proofs.YtcmjhjnpcogmgaaGreatDoor
open Go.Shelf Go.RowKit
structure Mut (S : Nat → Prop) (w w' : World) : Prop where
 os : w'.os = w.os
 tape : w'.tape = w.tape
 output : w'.output = w.output
 size : w.heap.size ≤ w'.heap.size
 block : ∀ k, k < w.heap.size → ¬ S k → w'.heap[k]? = w.heap[k]?
theorem Mut.refl (S : Nat → Prop) (w : World) : Mut S w w := ⟨rfl, rfl, rfl, Nat.le_refl _, fun _ _ _ => rfl⟩
theorem Mut.below {S : Nat → Prop} {w W W' : World} (h : Mut S w W) (hb : Below W.heap.size W W') : Mut S w W' :=
 ⟨hb.os.trans h.os, hb.tape.trans h.tape, hb.output.trans h.output, Nat.le_trans h.size hb.size, fun k hk hs => (hb.block k (Nat.lt_of_lt_of_le hk h.size)).trans (h.block k hk hs)⟩
theorem Mut.drew {S : Nat → Prop} {w W : World} (h : Mut S w W) : Mut S w W.drew := h.below (Below.refl _ _).drew
theorem Mut.drewN {S : Nat → Prop} {w W : World} (h : Mut S w W) (n : Nat) : Mut S w (W.drewN n) := h.below (bdrewN (Below.refl _ _) n)
theorem Mut.alloc {S : Nat → Prop} {w W : World} (h : Mut S w W) (o : Obj) : Mut S w (W.alloc o) := h.below (bal _ _)
theorem Mut.set {S : Nat → Prop} {w W : World} (h : Mut S w W) {a : Addr} (ha : S a.block ∨ w.heap.size ≤ a.block) (v : Value) : Mut S w (W.setCell a v) :=
 ⟨h.os, h.tape, h.output, by have := h.size; simpa [World.setCell] using this, fun k hk hs => (Below.heap_setCell W a v k (by rintro rfl; rcases ha with h1 | h1; exact hs h1; omega)).trans (h.block k hk hs)⟩
theorem Mut.grown {S : Nat → Prop} {w W W' : World} {row : Option Nat} (h : Mut S w W) (hg : W.grownBy W' row) (hr : ∀ g, row = some g → S g ∨ w.heap.size ≤ g) : Mut S w W' :=
 ⟨hg.os.trans h.os, hg.tape.trans h.tape, hg.output.trans h.output, Nat.le_trans h.size hg.size, fun k hk hs => (hg.block k (Nat.lt_of_lt_of_le hk h.size) (fun e => by rcases hr k e.symm with h1 | h1; exact hs h1; omega)).trans (h.block k hk hs)⟩
theorem Mut.call {S S' : Nat → Prop} {w W W' : World} (h : Mut S w W) (hc : Mut S' W W') (hs : ∀ b, S' b → S b ∨ w.heap.size ≤ b) : Mut S w W' :=
 ⟨hc.os.trans h.os, hc.tape.trans h.tape, hc.output.trans h.output, Nat.le_trans h.size hc.size, fun k hk hn => (hc.block k (Nat.lt_of_lt_of_le hk h.size) (fun e => by rcases hs k e with h1 | h1; exact hn h1; omega)).trans (h.block k hk hn)⟩
theorem Own.mut {S : Nat → Prop} {w W : World} {b : Nat} {A : Array Value} (h : Own w b A) (hm : Mut S w W) (hn : ¬ S b) : Own W b A := h.of_block (hm.block b h.lt hn)
theorem Rf.Row.mut {α : Type} {c : α → Array Value} {sz : Nat} {e : TypeId} {S : Nat → Prop} {w W : World} {base : Nat} {v : Value} {l : List α} (h : Rf.Row c sz e w base v l) (hm : Mut S w W) (hn : ∀ g, v.ownBlock = some g → ¬ S g) : Rf.Row c sz e W base v l :=
 h.of_block (fun g hg => hm.block g (h.lt g hg).2 (hn g hg))
abbrev NRow (w : World) (v : Value) (l : List Rf.Nd) : Prop := Rf.Row Rf.Nd.cells 15 65 w 0 v l
theorem infoNd : (Tryz.prog.info? 65).map (fun i => (i.zero, i.size, i.bytes)) = some (some (.agg Rf.nd0.cells), 15, 136) := by kernel_rfl
theorem Nd_cells_size (n : Rf.Nd) : n.cells.size = 15 := rfl
theorem Nd_one (n : Rf.Nd) : ∀ u ∈ n.cells.toList, u.oneCell' = true := by
 intro u hu
 simp [Rf.Nd.cells] at hu
 rcases hu with h | h | h | h | h | h | h | h | h | h | h | h | h | h | h <;> (subst h; rfl)
theorem Rf.Row.fro {α : Type} {c : α → Array Value} {sz : Nat} {e : TypeId} {w : World} {base g m cap : Nat} {l : List α} (hc : ∀ x, (c x).size = sz) (h : Rf.Row c sz e w base (.slice (some ⟨g, 0, none⟩) m cap) l) (o : Nat) : w.frozen? ⟨g, o, none⟩ = false := by
 rcases Rf.Row.two hc h with ⟨e, _⟩ | ⟨g2, c2, e, _, _, _, _, _, hf⟩
 ·cases e
 ·cases e; exact hf o
theorem own_p1 {W : World} {R : Nat} {x0 x1 x2 x3 x4 x5 x6 x7 x8 x9 x10 x11 x12 x13 x14 x15 x16 y : Value} (h : Own W R #[x0, x1, x2, x3, x4, x5, x6, x7, x8, x9, x10, x11, x12, x13, x14, x15, x16]) : Own (W.setCell ⟨R, 1, none⟩ y) R #[x0, y, x2, x3, x4, x5, x6, x7, x8, x9, x10, x11, x12, x13, x14, x15, x16] := Rf.own_put (k := 1) h (by simp)
theorem own_p14 {W : World} {R : Nat} {x0 x1 x2 x3 x4 x5 x6 x7 x8 x9 x10 x11 x12 x13 x14 x15 x16 y : Value} (h : Own W R #[x0, x1, x2, x3, x4, x5, x6, x7, x8, x9, x10, x11, x12, x13, x14, x15, x16]) : Own (W.setCell ⟨R, 14, none⟩ y) R #[x0, x1, x2, x3, x4, x5, x6, x7, x8, x9, x10, x11, x12, x13, y, x15, x16] := Rf.own_put (k := 14) h (by simp)
theorem own_p15 {W : World} {R : Nat} {x0 x1 x2 x3 x4 x5 x6 x7 x8 x9 x10 x11 x12 x13 x14 x15 x16 y : Value} (h : Own W R #[x0, x1, x2, x3, x4, x5, x6, x7, x8, x9, x10, x11, x12, x13, x14, x15, x16]) : Own (W.setCell ⟨R, 15, none⟩ y) R #[x0, x1, x2, x3, x4, x5, x6, x7, x8, x9, x10, x11, x12, x13, x14, y, x16] := Rf.own_put (k := 15) h (by simp)
theorem own_p16 {W : World} {R : Nat} {x0 x1 x2 x3 x4 x5 x6 x7 x8 x9 x10 x11 x12 x13 x14 x15 x16 y : Value} (h : Own W R #[x0, x1, x2, x3, x4, x5, x6, x7, x8, x9, x10, x11, x12, x13, x14, x15, x16]) : Own (W.setCell ⟨R, 16, none⟩ y) R #[x0, x1, x2, x3, x4, x5, x6, x7, x8, x9, x10, x11, x12, x13, x14, x15, y] := Rf.own_put (k := 16) h (by simp)
theorem own_is {g g' m c : Nat} (h : (Value.slice (some ⟨g, 0, none⟩) m c).ownBlock = some g') : g = g' := Option.some.inj h
theorem rsnoc {α : Type} {c : α → Array Value} {sz : Nat} {e : TypeId} {w5 : World} {g cap k base : Nat} {l : List α} {t : α} (hl : l.length = k)
  (ho : w5.ownsRow base e sz (.slice (some ⟨g, 0, none⟩) (k + 1) cap) (k + 1) (Rf.flatC c l ++ (c t).toList)) : Rf.Row c sz e w5 base (.slice (some ⟨g, 0, none⟩) (k + 1) cap) (l ++ [t]) := by
 unfold Rf.Row
 rw [Rf.flatC_snoc, List.length_append, hl]
 exact ho
end Go.Proofs.YtcmjhjnpcogmgaaGreatDoor
namespace Go.Proofs.YtcmjhjnpcogmgaaGreatDoor
open Go.Shelf Go.RowKit
theorem add_y (w : World) (R : Nat) (tb vn vo vr : Value) (pl : Int) (nm : Tk) (ct : Int) (l : List Rf.Nd) (nd : Rf.Nd) (at' : Int) (hR : Own w R #[tb, .int .i64 pl, .int .i64 nm.kind, .int .i64 nm.at', .int .i64 nm.num, .string nm.str, .int .i64 nm.c0, .int .i64 nm.c1, .int .i64 nm.r0, .int .i64 nm.r1, .int .i64 nm.r2, .int .i64 nm.r3, .int .i64 nm.code, vn, vo, vr, .int .i64 ct]) (hrow : NRow w vn l) (hl : l.length < 1024) (hne : ∀ g, vn.ownBlock = some g → g ≠ R) :
  Calls Tryz.prog 55 #[.pointer (some ⟨R, 0, none⟩), .agg #[.int .i64 nd.kind, .int .i64 nd.tag, .int .i64 nd.num, .string nd.str, .bool nd.is, .int .i64 nd.code, .int .i64 nd.row, .int .i64 nd.col, .int .i64 nd.top, .int .i64 nd.left, .int .i64 nd.bot, .int .i64 nd.right, .int .i64 nd.op, .string nd.name, .int .i64 nd.args], .int .i64 at'] w fun e w' => (∃ v, e = .returned v) ∧ ∃ vn', Own w' R #[tb, .int .i64 pl, .int .i64 nm.kind, .int .i64 nm.at', .int .i64 nm.num, .string nm.str, .int .i64 nm.c0, .int .i64 nm.c1, .int .i64 nm.r0, .int .i64 nm.r1, .int .i64 nm.r2, .int .i64 nm.r3, .int .i64 nm.code, vn', vo, vr, .int .i64 ct] ∧ NRow w' vn' (l ++ [nd]) ∧ Mut (fun b => b = R ∨ vn.ownBlock = some b) w w' ∧ ∀ b, vn'.ownBlock = some b → vn.ownBlock = some b ∨ w.heap.size ≤ b := by
 have mixed : Tryz.prog.follows .mixedOrders = true := by kernel_rfl
 obtain ⟨i0, hi0, hz0, hz1, hz2⟩ := info_parts infoNd
 have HI : Hid _ := hi0
 have HZ0 : Hid _ := hz0
 have HZ1 : Hid _ := hz1
 have HZ2 : Hid _ := hz2
 clear hi0 hz0 hz1 hz2
 have c := hR.cell
 have fz := hR.fro
 have lt := hR.lt
 have hlI : ((l.length : Int) == 1024) = false := by simp; omega
 obtain ⟨p, cap, rfl, hcap, hcm⟩ := hrow.slice
 go_enter Tryz.func55, Tryz.ntmps55
 go_wp2
 have hrb : w.ownsRow 0 65 15 (.slice p l.length cap) l.length (Rf.flatC Rf.Nd.cells l) := hrow
 go_region_law (refine step_append_lies _ rfl (.tmp 18) (.tmp 20) 23 rfl 0 65 i0 _ 15 136 Tryz.underlying23 HI.out HZ0.out HZ1.out HZ2.out rfl zq16 (.slice p l.length cap) l.length (Rf.flatC Rf.Nd.cells l) (by simp [Act.eval, Act.put]) (by with_reducible (repeat' first | assumption | refine World.ownsRow.drew ?_ | refine World.ownsRow.alloc ?_ _)) ⟨w.heap.size + 1, 0, none⟩ 1 1 nd.cells.toList (by simp [Act.eval, Act.put]) rfl (by first | exact Rf.news_two w _ _ _ | exact Rf.news_one (w.alloc _) _ _) (Nd_one nd) zq16 (by unfold maxLen; omega) zq17 zq17 (w.heap.size + 1 + 1) (by simp) ?_; intro g5 cap5 w5 hown5 hgrow5 hat5 hlt5; have o5 : Own w5 R #[tb, .int .i64 pl, .int .i64 nm.kind, .int .i64 nm.at', .int .i64 nm.num, .string nm.str, .int .i64 nm.c0, .int .i64 nm.c1, .int .i64 nm.r0, .int .i64 nm.r1, .int .i64 nm.r2, .int .i64 nm.r3, .int .i64 nm.code, .slice p l.length cap, vo, vr, .int .i64 ct] := Rf.own_grown zq4 hgrow5 (by intro g' hg'; exact hne g' hg'); have c5 := o5.cell; have f5 := o5.fro; have l5 := o5.lt)
 all_goals have hgR : g5 ≠ R := hat5.elim (fun h => hne g5 h) (fun h => by omega)
 all_goals exact ⟨rfl, _, results_none rfl _ _ _, ⟨_, rfl⟩, _, Rf.own_put (k := 13) o5 (by simp), Rf.Row.aside (rsnoc rfl hown5) _ (fun g hg => by have e := own_is hg; subst e; exact hgR), Mut.set (Mut.grown zq3 hgrow5 (fun g hg => .inl (.inr hg))) (.inl (.inl rfl)) _, fun b hb => (own_is hb) ▸ hat5.imp (fun h => h) (fun h => by omega)⟩
theorem add_n (w : World) (R : Nat) (tb vn vo vr : Value) (pl : Int) (nm : Tk) (ct : Int) (p : Option Addr) (cap : Nat) (nd : Rf.Nd) (at' : Int) (hR : Own w R #[tb, .int .i64 pl, .int .i64 nm.kind, .int .i64 nm.at', .int .i64 nm.num, .string nm.str, .int .i64 nm.c0, .int .i64 nm.c1, .int .i64 nm.r0, .int .i64 nm.r1, .int .i64 nm.r2, .int .i64 nm.r3, .int .i64 nm.code, .slice p 1024 cap, vo, vr, .int .i64 ct]) :
  Calls Tryz.prog 55 #[.pointer (some ⟨R, 0, none⟩), .agg #[.int .i64 nd.kind, .int .i64 nd.tag, .int .i64 nd.num, .string nd.str, .bool nd.is, .int .i64 nd.code, .int .i64 nd.row, .int .i64 nd.col, .int .i64 nd.top, .int .i64 nd.left, .int .i64 nd.bot, .int .i64 nd.right, .int .i64 nd.op, .string nd.name, .int .i64 nd.args], .int .i64 at'] w fun e w' => e = .panicked (refC 8 at') ∧ Below w.heap.size w w' := by
 have c := hR.cell
 have fz := hR.fro
 have lt := hR.lt
 go_enter Tryz.func55, Tryz.ntmps55
 go_wp2_with (go_at_call 88; refine (refuse_any 8 at' _).mono ?_; rintro e w1 ⟨rfl, hb⟩; have hB1 := bux w zq1 hb)
 exact ⟨rfl, rfl, hB1⟩
end Go.Proofs.YtcmjhjnpcogmgaaGreatDoor
namespace Go.Proofs.YtcmjhjnpcogmgaaGreatDoor
open Go.Shelf Go.RowKit
structure Wt where
 op : Int
 at' : Int
def Wt.cells (x : Wt) : Array Value := #[.int .i64 x.op, .int .i64 x.at']
def wt0 : Wt := ⟨0, 0⟩
abbrev WRow (w : World) (v : Value) (l : List Wt) : Prop := Rf.Row Wt.cells 2 153 w 0 v l
theorem infoWt : (Tryz.prog.info? 153).map (fun i => (i.zero, i.size, i.bytes)) = some (some (.agg #[.int .i64 0, .int .i64 0]), 2, 16) := by kernel_rfl
theorem Wt_size (x : Wt) : x.cells.size = 2 := rfl
theorem Wt_one (x : Wt) : ∀ u ∈ x.cells.toList, u.oneCell' = true := by
 intro u hu
 simp [Wt.cells] at hu
 rcases hu with h | h <;> (subst h; rfl)
theorem flat_set2 (x : Wt) : ∀ (l : List Wt) (k : Nat), ((Rf.flatC Wt.cells l).set (k * 2) (.int .i64 x.op)).set (k * 2 + 1) (.int .i64 x.at') = Rf.flatC Wt.cells (l.set k x) ∨ l.length ≤ k
 | [], k => .inr (by simp)
 | a :: l, 0 => .inl (by simp [Rf.flatC, Wt.cells])
 | a :: l, k + 1 => by
  rcases flat_set2 x l k with h | h
  ·left
   have e : Rf.flatC Wt.cells (a :: l) = .int .i64 a.op :: .int .i64 a.at' :: Rf.flatC Wt.cells l := by simp [Rf.flatC, Wt.cells]
   have e2 : (k + 1) * 2 = k * 2 + 1 + 1 := by omega
   rw [e, e2]
   simp only [List.set_cons_succ, List.set_cons_succ]
   rw [h]
   simp [Rf.flatC, Wt.cells]
  ·right; simpa using h
theorem WRow.put {w : World} {g m cap k : Nat} {l : List Wt} (h : WRow w (.slice (some ⟨g, 0, none⟩) m cap) l) (hm : l.length = m) (hk : k < l.length) (x : Wt) : WRow ((w.setCell ⟨g, k * 2, none⟩ (.int .i64 x.op)).setCell ⟨g, k * 2 + 1, none⟩ (.int .i64 x.at')) (.slice (some ⟨g, 0, none⟩) m cap) (l.set k x) := by
 subst hm
 have h0 : w.ownsRow 0 153 2 (.slice (some ⟨g, 0, none⟩) l.length cap) l.length (Rf.flatC Wt.cells l) := h
 have h1 := (h0.stored (k * 2) (.int .i64 x.op)).1
 have h2 := (h1.stored (k * 2 + 1) (.int .i64 x.at')).1
 rcases flat_set2 x l k with e | e
 ·rw [e] at h2
  unfold WRow Rf.Row
  rw [List.length_set]
  exact h2
 ·omega
theorem push_s (w : World) (R : Nat) (tb vn vo vr : Value) (pl : Int) (nm : Tk) (ct : Nat) (g m cap : Nat) (rm : List Wt) (x : Wt) (k : Nat) (hR : Own w R #[tb, .int .i64 pl, .int .i64 nm.kind, .int .i64 nm.at', .int .i64 nm.num, .string nm.str, .int .i64 nm.c0, .int .i64 nm.c1, .int .i64 nm.r0, .int .i64 nm.r1, .int .i64 nm.r2, .int .i64 nm.r3, .int .i64 nm.code, vn, vo, .slice (some ⟨g, 0, none⟩) m cap, .int .i64 (ct : Nat)]) (hrow : WRow w (.slice (some ⟨g, 0, none⟩) m cap) rm) (hm : rm.length = m) (hk : ct % 1024 = k) (hkm : k < m) (hc : ct < 1000000000) (hne : g ≠ R) :
  Calls Tryz.prog 94 #[.pointer (some ⟨R, 15, none⟩), .agg #[.int .i64 x.op, .int .i64 x.at']] w fun e w' => (∃ v, e = .returned v) ∧ Own w' R #[tb, .int .i64 pl, .int .i64 nm.kind, .int .i64 nm.at', .int .i64 nm.num, .string nm.str, .int .i64 nm.c0, .int .i64 nm.c1, .int .i64 nm.r0, .int .i64 nm.r1, .int .i64 nm.r2, .int .i64 nm.r3, .int .i64 nm.code, vn, vo, .slice (some ⟨g, 0, none⟩) m cap, .int .i64 ((ct : Int) + 1)] ∧ WRow w' (.slice (some ⟨g, 0, none⟩) m cap) (rm.set k x) ∧ Mut (fun b => b = R ∨ b = g) w w' := by
 have mixed : Tryz.prog.follows .mixedOrders = true := by kernel_rfl
 obtain ⟨i0, hi0, hz0, hz1, hz2⟩ := info_parts infoWt
 have HI : Hid _ := hi0
 have HZ0 : Hid _ := hz0
 have HZ1 : Hid _ := hz1
 have HZ2 : Hid _ := hz2
 clear hi0 hz0 hz1 hz2
 have c := hR.cell
 have fz := hR.fro
 have lt := hR.lt
 have hlg := (Rf.Row.lt hrow g rfl).2
 have hti : rm[k]? = some (rm[k]'zq17) := List.getElem?_eq_getElem _
 have cx := fun j hj => Rf.Row.cells Wt_size hrow k _ hti j hj
 have y0 : w.cell? ⟨g, k * 2, none⟩ = some (.int .i64 (rm[k]'zq17).op) := cx 0 zq16
 have y1 : w.cell? ⟨g, k * 2 + 1, none⟩ = some (.int .i64 (rm[k]'zq17).at') := cx 1 zq16
 have fg := Rf.Row.fro Wt_size hrow
 have hrem : Int.tmod (ct : Int) 1024 = (k : Int) := by
  have h : Int.tmod (ct : Int) 1024 = ((ct % 1024 : Nat) : Int) := rfl
  rw [h, hk]
 have hkl : (k : Int) < m := by omega
 have hkb : ((k : Int) == (m : Int)) = false := by simp; omega
 have hgR : ¬ (g = R) := hne
 have hRg : ¬ (R = g) := fun e => hne e.symm
 have hwr : wrap64 ((ct : Int) + 1) = (ct : Int) + 1 := by unfold wrap64; omega
 clear cx
 go_enter Tryz.func94, Tryz.ntmps94
 go_wp2
 go_region
 all_goals go_wp2
 all_goals exact ⟨rfl, _, results_none rfl _ _ _, ⟨_, rfl⟩, (by refine Own.drew (Own.past ?_ _); refine own_p16 (x16 := .int .i64 (ct : Int)) ?_; with_reducible (repeat' first | assumption | refine Own.drew ?_ | refine Own.drewN ?_ _ | (refine Own.at ?_; first | rfl | (simp; done)) | refine Own.past ?_ _ | refine Own.aside ?_ zq13 _)), Rf.Row.drew (Rf.Row.past (Rf.Row.aside (WRow.put hrow hm zq17 x) _ (fun g' hg' => by have e := own_is hg'; subst e; exact hne)) _), zq3⟩
end Go.Proofs.YtcmjhjnpcogmgaaGreatDoor
namespace Go.Proofs.YtcmjhjnpcogmgaaGreatDoor
open Go.Shelf Go.RowKit
theorem set_last (l : List Wt) (a x : Wt) : (l ++ [a]).set l.length x = l ++ [x] := by simp
theorem push_a (w : World) (R : Nat) (tb vn vo vr : Value) (pl : Int) (nm : Tk) (ct : Nat) (rm : List Wt) (x : Wt) (hR : Own w R #[tb, .int .i64 pl, .int .i64 nm.kind, .int .i64 nm.at', .int .i64 nm.num, .string nm.str, .int .i64 nm.c0, .int .i64 nm.c1, .int .i64 nm.r0, .int .i64 nm.r1, .int .i64 nm.r2, .int .i64 nm.r3, .int .i64 nm.code, vn, vo, vr, .int .i64 (ct : Nat)]) (hrow : WRow w vr rm) (hk : ct % 1024 = rm.length) (hc : ct < 1000000000) (hne : ∀ g, vr.ownBlock = some g → g ≠ R) :
  Calls Tryz.prog 94 #[.pointer (some ⟨R, 15, none⟩), .agg #[.int .i64 x.op, .int .i64 x.at']] w fun e w' => (∃ v, e = .returned v) ∧ ∃ vr', Own w' R #[tb, .int .i64 pl, .int .i64 nm.kind, .int .i64 nm.at', .int .i64 nm.num, .string nm.str, .int .i64 nm.c0, .int .i64 nm.c1, .int .i64 nm.r0, .int .i64 nm.r1, .int .i64 nm.r2, .int .i64 nm.r3, .int .i64 nm.code, vn, vo, vr', .int .i64 ((ct : Int) + 1)] ∧ WRow w' vr' (rm ++ [x]) ∧ Mut (fun b => b = R ∨ vr.ownBlock = some b) w w' ∧ ∀ b, vr'.ownBlock = some b → vr.ownBlock = some b ∨ w.heap.size ≤ b := by
 have mixed : Tryz.prog.follows .mixedOrders = true := by kernel_rfl
 obtain ⟨i0, hi0, hz0, hz1, hz2⟩ := info_parts infoWt
 have HI : Hid _ := hi0
 have HZ0 : Hid _ := hz0
 have HZ1 : Hid _ := hz1
 have HZ2 : Hid _ := hz2
 clear hi0 hz0 hz1 hz2
 have c := hR.cell
 have fz := hR.fro
 have lt := hR.lt
 obtain ⟨p, cap, rfl, hcap, hcm⟩ := hrow.slice
 have hrl : rm.length < 1024 := by omega
 have hrem : Int.tmod (ct : Int) 1024 = (rm.length : Int) := by
  have h : Int.tmod (ct : Int) 1024 = ((ct % 1024 : Nat) : Int) := rfl
  rw [h, hk]
 have hrb : w.ownsRow 0 153 2 (.slice p rm.length cap) rm.length (Rf.flatC Wt.cells rm) := hrow
 have hwr : wrap64 ((ct : Int) + 1) = (ct : Int) + 1 := by unfold wrap64; omega
 go_enter Tryz.func94, Tryz.ntmps94
 go_wp2_with (at_builtin; refine wpList_append_lies _ rfl _ _ 86 rfl 0 153 i0 _ 2 16 Tryz.underlying86 HI.out HZ0.out HZ1.out HZ2.out rfl zq16 (.slice p rm.length cap) rm.length (Rf.flatC Wt.cells rm) rfl (by with_reducible (repeat' first | assumption | refine World.ownsRow.drew ?_ | refine World.ownsRow.alloc ?_ _)) ⟨w.heap.size + 1, 0, none⟩ 1 1 wt0.cells.toList rfl rfl (by exact Rf.news_two w _ _ _) (Wt_one wt0) zq16 (by unfold maxLen; omega) zq17 zq17 (w.heap.size + 1 + 1) (by simp) ?_; intro g5 cap5 w5 hown5 hgrow5 hat5 hlt5; have o5 : Own w5 R #[tb, .int .i64 pl, .int .i64 nm.kind, .int .i64 nm.at', .int .i64 nm.num, .string nm.str, .int .i64 nm.c0, .int .i64 nm.c1, .int .i64 nm.r0, .int .i64 nm.r1, .int .i64 nm.r2, .int .i64 nm.r3, .int .i64 nm.code, vn, vo, .slice p rm.length cap, .int .i64 (ct : Nat)] := Rf.own_grown zq4 hgrow5 (by intro g' hg'; exact hne g' hg'); have c5 := o5.cell; have f5 := o5.fro; have l5 := o5.lt)
 have hgR : g5 ≠ R := hat5.elim (fun h => hne g5 h) (fun h => by omega)
 have hRg : ¬ (R = g5) := fun e => hgR e.symm
 have hgR' : ¬ (g5 = R) := hgR
 have hbx : Own w5 w.heap.size #[.int .i64 x.op, .int .i64 x.at'] := Rf.own_grown zq4 hgrow5 (by intro g' hg'; have := (Rf.Row.lt hrow g' hg').2; omega)
 have hgb : g5 ≠ w.heap.size := hat5.elim (fun h => by have := (Rf.Row.lt hrow g5 h).2; omega) (fun h => by omega)
 have hM5 : Mut (fun b => b = R ∨ (Value.slice p rm.length cap).ownBlock = some b) w w5 := Mut.grown zq3 hgrow5 (fun g hg => .inl (.inr hg))
 have hrw5 : WRow w5 (.slice (some ⟨g5, 0, none⟩) (rm.length + 1) cap5) (rm ++ [wt0]) := rsnoc rfl hown5
 have o6 : Own (w5.setCell ⟨R, 15, none⟩ (.slice (some ⟨g5, 0, none⟩) (rm.length + 1) cap5)) R #[tb, .int .i64 pl, .int .i64 nm.kind, .int .i64 nm.at', .int .i64 nm.num, .string nm.str, .int .i64 nm.c0, .int .i64 nm.c1, .int .i64 nm.r0, .int .i64 nm.r1, .int .i64 nm.r2, .int .i64 nm.r3, .int .i64 nm.code, vn, vo, .slice (some ⟨g5, 0, none⟩) (rm.length + 1) cap5, .int .i64 (ct : Nat)] := own_p15 o5
 have hrw6 : WRow (w5.setCell ⟨R, 15, none⟩ (.slice (some ⟨g5, 0, none⟩) (rm.length + 1) cap5)) (.slice (some ⟨g5, 0, none⟩) (rm.length + 1) cap5) (rm ++ [wt0]) := Rf.Row.aside hrw5 _ (fun g hg => by have e := own_is hg; subst e; exact hgR)
 have hM6 : Mut (fun b => b = R ∨ (Value.slice p rm.length cap).ownBlock = some b) w (w5.setCell ⟨R, 15, none⟩ (.slice (some ⟨g5, 0, none⟩) (rm.length + 1) cap5)) := Mut.set hM5 (.inl (.inl rfl)) _
 have hb6 : Own (w5.setCell ⟨R, 15, none⟩ (.slice (some ⟨g5, 0, none⟩) (rm.length + 1) cap5)) w.heap.size #[.int .i64 x.op, .int .i64 x.at'] := Own.aside hbx (by show w.heap.size ≠ R; omega) _
 clear c5 f5 l5 hbx hM5 hrw5 o5
 revert o6 hrw6 hM6 hb6
 generalize w5.setCell ⟨R, 15, none⟩ (.slice (some ⟨g5, 0, none⟩) (rm.length + 1) cap5) = W6
 intro o6 hrw6 hM6 hb6
 have c6 := o6.cell
 have f6 := o6.fro
 have l6 := o6.lt
 have cb := hb6.cell
 have lg := (Rf.Row.lt hrw6 g5 rfl).2
 have hti : (rm ++ [wt0])[rm.length]? = some wt0 := by simp
 have cx := fun j hj => Rf.Row.cells Wt_size hrw6 rm.length _ hti j hj
 have y0 : W6.cell? ⟨g5, rm.length * 2, none⟩ = some (.int .i64 0) := cx 0 zq16
 have y1 : W6.cell? ⟨g5, rm.length * 2 + 1, none⟩ = some (.int .i64 0) := cx 1 zq16
 have fg := Rf.Row.fro Wt_size hrw6
 have hkl : (rm.length : Int) < (rm.length : Int) + 1 := by omega
 clear cx c fz
 go_region
 all_goals go_wp2
 all_goals have hgS : (g5 = R ∨ (Value.slice p rm.length cap).ownBlock = some g5) ∨ w.heap.size ≤ g5 := hat5.elim (fun h => .inl (.inr h)) (fun h => .inr zq17)
 all_goals have hput := WRow.put hrw6 (by simp) (k := rm.length) (by simp) x
 all_goals rw [set_last] at hput
 all_goals exact ⟨rfl, _, results_none rfl _ _ _, ⟨_, rfl⟩, .slice (some ⟨g5, 0, none⟩) (rm.length + 1) cap5, (by refine Own.drew ?_; refine own_p16 (x16 := .int .i64 (ct : Int)) ?_; with_reducible (repeat' first | assumption | refine Own.drew ?_ | refine Own.drewN ?_ _ | (refine Own.at ?_; first | rfl | (simp; done)) | refine Own.past ?_ _ | refine Own.aside ?_ zq13 _)), Rf.Row.drew (Rf.Row.aside hput _ (fun g hg => by have e := own_is hg; subst e; exact hgR)), Mut.drew (Mut.set (Mut.set (Mut.set hM6 hgS _) hgS _) (.inl (.inl rfl)) _), fun b hb => (own_is hb) ▸ hat5.imp (fun h => h) (fun h => by omega)⟩
theorem last_any (w : World) (R : Nat) (tb vn vo vr : Value) (pl : Int) (nm : Tk) (ct : Nat) (g m cap : Nat) (rm : List Wt) (x : Wt) (k : Nat) (hR : Own w R #[tb, .int .i64 pl, .int .i64 nm.kind, .int .i64 nm.at', .int .i64 nm.num, .string nm.str, .int .i64 nm.c0, .int .i64 nm.c1, .int .i64 nm.r0, .int .i64 nm.r1, .int .i64 nm.r2, .int .i64 nm.r3, .int .i64 nm.code, vn, vo, .slice (some ⟨g, 0, none⟩) m cap, .int .i64 ((ct : Int) + 1)]) (hrow : WRow w (.slice (some ⟨g, 0, none⟩) m cap) rm) (hm : rm.length = m) (hk : ct % 1024 = k) (hx : rm[k]? = some x) (hc : ct < 1000000000) :
  Calls Tryz.prog 140 #[.pointer (some ⟨R, 15, none⟩)] w fun e w' => e = .returned (.agg #[.int .i64 x.op, .int .i64 x.at']) ∧ Below w.heap.size w w' := by
 have mixed : Tryz.prog.follows .mixedOrders = true := by kernel_rfl
 have c := hR.cell
 have fz := hR.fro
 have lt := hR.lt
 have hlg := (Rf.Row.lt hrow g rfl).2
 have hkm : k < m := by have := (List.getElem?_eq_some_iff.1 hx).1; omega
 have cx := fun j hj => Rf.Row.cells Wt_size hrow k _ hx j hj
 have y0 : w.cell? ⟨g, k * 2, none⟩ = some (.int .i64 x.op) := cx 0 zq16
 have y1 : w.cell? ⟨g, k * 2 + 1, none⟩ = some (.int .i64 x.at') := cx 1 zq16
 have hrem : Int.tmod (ct : Int) 1024 = (k : Int) := by
  have h : Int.tmod (ct : Int) 1024 = ((ct % 1024 : Nat) : Int) := rfl
  rw [h, hk]
 have hkl : (k : Int) < m := by omega
 have hsb : wrap64 ((ct : Int) + 1 - 1) = (ct : Int) := by unfold wrap64; omega
 have hsb2 : ((ct : Int) + 1 - 1) = (ct : Int) := by omega
 clear cx
 go_enter Tryz.func140, Tryz.ntmps140
 go_wp2
 go_region
 all_goals go_wp2
 all_goals exact bodyPost_ret (v := .agg #[.int .i64 x.op, .int .i64 x.at']) (by simp [results, Tryz.results140, go_sem, *]) rfl ⟨rfl, zq1⟩
theorem pop_any (w : World) (R : Nat) (tb vn vo vr : Value) (pl : Int) (nm : Tk) (ct : Nat) (g m cap : Nat) (rm : List Wt) (x : Wt) (k : Nat) (hR : Own w R #[tb, .int .i64 pl, .int .i64 nm.kind, .int .i64 nm.at', .int .i64 nm.num, .string nm.str, .int .i64 nm.c0, .int .i64 nm.c1, .int .i64 nm.r0, .int .i64 nm.r1, .int .i64 nm.r2, .int .i64 nm.r3, .int .i64 nm.code, vn, vo, .slice (some ⟨g, 0, none⟩) m cap, .int .i64 ((ct : Int) + 1)]) (hrow : WRow w (.slice (some ⟨g, 0, none⟩) m cap) rm) (hm : rm.length = m) (hk : ct % 1024 = k) (hx : rm[k]? = some x) (hc : ct < 1000000000) :
  Calls Tryz.prog 141 #[.pointer (some ⟨R, 15, none⟩)] w fun e w' => e = .returned (.agg #[.int .i64 x.op, .int .i64 x.at']) ∧ Own w' R #[tb, .int .i64 pl, .int .i64 nm.kind, .int .i64 nm.at', .int .i64 nm.num, .string nm.str, .int .i64 nm.c0, .int .i64 nm.c1, .int .i64 nm.r0, .int .i64 nm.r1, .int .i64 nm.r2, .int .i64 nm.r3, .int .i64 nm.code, vn, vo, .slice (some ⟨g, 0, none⟩) m cap, .int .i64 (ct : Int)] ∧ Mut (fun b => b = R) w w' := by
 have HL : Hid (∀ w1, Below w.heap.size w w1 → Calls Tryz.prog 140 #[.pointer (some ⟨R, 15, none⟩)] w1 fun e w' => e = .returned (.agg #[.int .i64 x.op, .int .i64 x.at']) ∧ Below w1.heap.size w1 w') := fun w1 hb => last_any w1 R tb vn vo vr pl nm ct g m cap rm x k (hR.keep hb) (Rf.Row.keep hrow hb) hm hk hx hc
 have lt := hR.lt
 have hsb : wrap64 ((ct : Int) + 1 - 1) = (ct : Int) := by unfold wrap64; omega
 have hsb2 : ((ct : Int) + 1 - 1) = (ct : Int) := by omega
 go_enter Tryz.func141, Tryz.ntmps141
 go_wp2_with (go_at_call 140; refine (HL.out _ zq1).mono ?_; rintro e w1 ⟨rfl, hb⟩; have hB1 := bux w zq1 hb; have o1 : Own w1 w.heap.size #[.int .i64 0, .int .i64 0] := Own.keep zq4 hb; have o2 : Own w1 R #[tb, .int .i64 pl, .int .i64 nm.kind, .int .i64 nm.at', .int .i64 nm.num, .string nm.str, .int .i64 nm.c0, .int .i64 nm.c1, .int .i64 nm.r0, .int .i64 nm.r1, .int .i64 nm.r2, .int .i64 nm.r3, .int .i64 nm.code, vn, vo, .slice (some ⟨g, 0, none⟩) m cap, .int .i64 ((ct : Int) + 1)] := Own.keep zq4 hb; have c1 := o1.cell; have f1 := o1.fro; have l1 := o1.lt; have c2 := o2.cell; have f2 := o2.fro; have l2 := o2.lt)
 have hM1 : Mut (fun b => b = R) w w1 := Mut.below (Mut.refl _ _) hB1
 all_goals exact bodyPost_ret (v := .agg #[.int .i64 x.op, .int .i64 x.at']) (by simp [results, Tryz.results141, go_sem, *]) rfl ⟨rfl, Own.past (Own.aside (Own.aside (own_p16 o2) (by show R ≠ w.heap.size; omega) _) (by show R ≠ w.heap.size; omega) _) _, zq3⟩
end Go.Proofs.YtcmjhjnpcogmgaaGreatDoor
