/- Cells, references and edges as rows hold them; the contracts of order.Refs, deps.cellOf, deps.refTo, deps.mayRef. New memory alone is made. -/
import Derived.Test.YtgojnijpjfdocaaGreatCV
import Derived.Sort.Grow
namespace Go.Proofs.YtgojnijpjfdocaaGreat
open Go.RowKit
set_option linter.all false
/-- A reference. -/
structure Rf where
  m : Bool
  t : Int
  l : Int
  b : Int
  q : Int
def Rf.cs (x : Rf) : List Value := [.bool x.m, .int .i64 x.t, .int .i64 x.l, .int .i64 x.b, .int .i64 x.q]
theorem Rf.len (x : Rf) : x.cs.length = 5 := rfl
theorem Rf.one (x : Rf) : ∀ u ∈ x.cs, u.oneCell' = true := by
  intro u hu
  simp [Rf.cs] at hu
  rcases hu with rfl | rfl | rfl | rfl | rfl <;> rfl
/-- A reference and who has it. -/
structure Ed where
  r : Int
  c : Int
  f : Rf
def Ed.cs (x : Ed) : List Value := [.int .i64 x.r, .int .i64 x.c, .bool x.f.m, .int .i64 x.f.t, .int .i64 x.f.l, .int .i64 x.f.b, .int .i64 x.f.q]
theorem Ed.len (x : Ed) : x.cs.length = 7 := rfl
theorem Ed.one (x : Ed) : ∀ u ∈ x.cs, u.oneCell' = true := by
  intro u hu
  simp [Ed.cs] at hu
  rcases hu with rfl | rfl | rfl | rfl | rfl | rfl | rfl <;> rfl
theorem infoRf : (Tryz.prog.info? 50).map (fun i => (i.zero, i.size, i.bytes)) = some (some (.agg #[.bool false, .int .i64 0, .int .i64 0, .int .i64 0, .int .i64 0]), 5, 40) := by kernel_rfl
theorem infoRfZ : (Tryz.prog.info? 50).map (·.size) = some 5 := by kernel_rfl
theorem infoCl : (Tryz.prog.info? 33).map (fun i => (i.zero, i.size, i.bytes)) = some (some (.agg #[.int .i64 0, .int .i64 0]), 2, 16) := by kernel_rfl
theorem infoClZ : (Tryz.prog.info? 33).map (·.size) = some 2 := by kernel_rfl
abbrev RowK (w : World) (v : Value) (l : List Cl) : Prop := RowG 33 2 Cl.cs w 0 v l
abbrev RowF (w : World) (v : Value) (l : List Rf) : Prop := RowG 50 5 Rf.cs w 0 v l
abbrev RowD (w : World) (base : Nat) (v : Value) (l : List Ed) : Prop := RowG 52 7 Ed.cs w base v l
/-- Draws and new blocks, no more. -/
def Gr (w w' : World) : Prop := ∃ q os, w' = Go.Sort.grow (w.drewN q) os
theorem Gr.refl (w : World) : Gr w w := ⟨0, #[], by simp [Go.Sort.grow, World.drewN]⟩
theorem Gr.alloc {w W : World} (h : Gr w W) (o : Obj) : Gr w (W.alloc o) := by
  obtain ⟨q, os, rfl⟩ := h
  exact ⟨q, os ++ #[o], by rw [Go.Sort.alloc_eq_grow, Go.Sort.grow_grow]⟩
theorem Gr.drewN {w W : World} (h : Gr w W) (n : Nat) : Gr w (W.drewN n) := by
  obtain ⟨q, os, rfl⟩ := h
  exact ⟨q + n, os, by simp [Go.Sort.grow, World.drewN, Nat.add_assoc]⟩
theorem Gr.drew {w W : World} (h : Gr w W) : Gr w W.drew := h.drewN 1
theorem Gr.trans {a b c : World} (h : Gr a b) (k : Gr b c) : Gr a c := by
  obtain ⟨q, os, rfl⟩ := k
  obtain ⟨q1, os1, rfl⟩ := h
  exact ⟨q1 + q, os1 ++ os, by simp [Go.Sort.grow, World.drewN, Nat.add_assoc, Array.append_assoc]⟩
theorem Gr.below {w w' : World} (h : Gr w w') : Below w.heap.size w w' := by
  obtain ⟨q, os, rfl⟩ := h
  refine ⟨rfl, rfl, rfl, by simp [Go.Sort.grow, World.drewN], fun k hk => ?_⟩
  simp [Go.Sort.grow, World.drewN, Array.getElem?_append_left, hk]
def mI (b : Bool) : Int := if b = true then 1 else 0
def cmpF (x y : Rf) : Int := orI [cmpR x.t x.l x.b x.q y.t y.l y.b y.q, cmpI (mI x.m) (mI y.m)]
set_option maxRecDepth 100000 in
set_option maxHeartbeats 2000000 in
theorem ocel_gr (r c r' c' : Int) (w : World) : Calls Tryz.prog 34 #[.agg #[.int .i64 r, .int .i64 c], .agg #[.int .i64 r', .int .i64 c']] w fun e w' => e = .returned (.int .i64 (cmpC r c r' c')) ∧ Gr w w' := by
  have mixed : Tryz.prog.follows .mixedOrders = true := by kernel_rfl
  have HO : Hid (∀ W b (x y : Int), Own W b #[.int .i64 x, .int .i64 y] → Calls Tryz.prog 57 #[.slice (some ⟨b, 0, none⟩) 2 2] W fun e w' => e = .returned (.int .i64 (orI [x, y])) ∧ w' = W) := fun W b x y h => or_any W b 2 [x, y] rfl h.lt (by omega) (own_ints h)
  go_enter Tryz.func34, Tryz.ntmps34
  go_wp2
  go_region_held3 (fun w' => w'.cell? ⟨w.heap.size, 0, none⟩ = some (.int .i64 r) ∧ w'.cell? ⟨w.heap.size, 1, none⟩ = some (.int .i64 c) ∧ w'.cell? ⟨w.heap.size + 1, 0, none⟩ = some (.int .i64 r') ∧ w'.cell? ⟨w.heap.size + 1, 1, none⟩ = some (.int .i64 c')) ((repeat' apply And.intro) <;> (first | (go_keep; done) | (go_simp; done))) (first
    | (go_at_call 58; refine (cmp_any _ _ _).mono ?_; rintro e w5 ⟨rfl, rfl⟩)
    | (go_at_call 57; refine (HO.out _ _ _ _ (by with_reducible (repeat' first | assumption | refine Own.drew ?_ | refine Own.drewN ?_ _ | (refine Own.at ?_; first | rfl | (simp; done)) | refine Own.past ?_ _))).mono ?_; rintro e w6 ⟨rfl, rfl⟩))
  go_wp2
  go_ret
  exact ⟨rfl, by with_reducible (repeat' first | assumption | exact Gr.refl _ | refine Gr.drew ?_ | refine Gr.drewN ?_ _ | refine Gr.alloc ?_ _)⟩
set_option maxRecDepth 100000 in
set_option maxHeartbeats 2000000 in
theorem orec_gr (t l b r t' l' b' r' : Int) (w : World) : Calls Tryz.prog 71 #[.agg #[.int .i64 t, .int .i64 l, .int .i64 b, .int .i64 r], .agg #[.int .i64 t', .int .i64 l', .int .i64 b', .int .i64 r']] w fun e w' => e = .returned (.int .i64 (cmpR t l b r t' l' b' r')) ∧ Gr w w' := by
  have mixed : Tryz.prog.follows .mixedOrders = true := by kernel_rfl
  have HO : Hid (∀ W b (x y z u : Int), Own W b #[.int .i64 x, .int .i64 y, .int .i64 z, .int .i64 u] → Calls Tryz.prog 57 #[.slice (some ⟨b, 0, none⟩) 4 4] W fun e w' => e = .returned (.int .i64 (orI [x, y, z, u])) ∧ w' = W) := fun W b x y z u h => or_any W b 4 [x, y, z, u] rfl h.lt (by omega) (own_ints h)
  go_enter Tryz.func71, Tryz.ntmps71
  go_wp2
  go_region_held3 (fun w' => w'.cell? ⟨w.heap.size, 0, none⟩ = some (.int .i64 t) ∧ w'.cell? ⟨w.heap.size, 1, none⟩ = some (.int .i64 l) ∧ w'.cell? ⟨w.heap.size, 2, none⟩ = some (.int .i64 b) ∧ w'.cell? ⟨w.heap.size, 3, none⟩ = some (.int .i64 r) ∧ w'.cell? ⟨w.heap.size + 1, 0, none⟩ = some (.int .i64 t') ∧ w'.cell? ⟨w.heap.size + 1, 1, none⟩ = some (.int .i64 l') ∧ w'.cell? ⟨w.heap.size + 1, 2, none⟩ = some (.int .i64 b') ∧ w'.cell? ⟨w.heap.size + 1, 3, none⟩ = some (.int .i64 r')) ((repeat' apply And.intro) <;> (first | (go_keep; done) | (go_simp; done))) (first
    | (go_at_call 58; refine (cmp_any _ _ _).mono ?_; rintro e w5 ⟨rfl, rfl⟩)
    | (go_at_call 57; refine (HO.out _ _ _ _ _ _ (by with_reducible (repeat' first | assumption | refine Own.drew ?_ | refine Own.drewN ?_ _ | (refine Own.at ?_; first | rfl | (simp; done)) | refine Own.past ?_ _))).mono ?_; rintro e w6 ⟨rfl, rfl⟩))
  go_wp2
  go_ret
  exact ⟨rfl, by with_reducible (repeat' first | assumption | exact Gr.refl _ | refine Gr.drew ?_ | refine Gr.drewN ?_ _ | refine Gr.alloc ?_ _)⟩
theorem many_any (x : Rf) (w : World) : Calls Tryz.prog 72 #[.agg #[.bool x.m, .int .i64 x.t, .int .i64 x.l, .int .i64 x.b, .int .i64 x.q]] w fun e w' => e = .returned (.int .i64 (mI x.m)) ∧ Gr w w' := by
  obtain ⟨m, t, l, b, q⟩ := x
  cases m
  · go_enter Tryz.func72, Tryz.ntmps72
    go_wp2
    go_ret
    exact ⟨rfl, by with_reducible (repeat' first | assumption | exact Gr.refl _ | refine Gr.drew ?_ | refine Gr.drewN ?_ _ | refine Gr.alloc ?_ _)⟩
  · go_enter Tryz.func72, Tryz.ntmps72
    go_wp2
    go_ret
    exact ⟨rfl, by with_reducible (repeat' first | assumption | exact Gr.refl _ | refine Gr.drew ?_ | refine Gr.drewN ?_ _ | refine Gr.alloc ?_ _)⟩
set_option maxRecDepth 100000 in
set_option maxHeartbeats 4000000 in
theorem oref_any (x y : Rf) (w : World) : Calls Tryz.prog 47 #[.agg #[.bool x.m, .int .i64 x.t, .int .i64 x.l, .int .i64 x.b, .int .i64 x.q], .agg #[.bool y.m, .int .i64 y.t, .int .i64 y.l, .int .i64 y.b, .int .i64 y.q]] w fun e w' => e = .returned (.int .i64 (cmpF x y)) ∧ Gr w w' := by
  have mixed : Tryz.prog.follows .mixedOrders = true := by kernel_rfl
  have HO : Hid (∀ W b (x y : Int), Own W b #[.int .i64 x, .int .i64 y] → Calls Tryz.prog 57 #[.slice (some ⟨b, 0, none⟩) 2 2] W fun e w' => e = .returned (.int .i64 (orI [x, y])) ∧ w' = W) := fun W b x y h => or_any W b 2 [x, y] rfl h.lt (by omega) (own_ints h)
  have HX : Hid (∀ W, Calls Tryz.prog 72 #[.agg #[.bool x.m, .int .i64 x.t, .int .i64 x.l, .int .i64 x.b, .int .i64 x.q]] W fun e w' => e = .returned (.int .i64 (mI x.m)) ∧ Gr W w') := many_any x
  have HY : Hid (∀ W, Calls Tryz.prog 72 #[.agg #[.bool y.m, .int .i64 y.t, .int .i64 y.l, .int .i64 y.b, .int .i64 y.q]] W fun e w' => e = .returned (.int .i64 (mI y.m)) ∧ Gr W w') := many_any y
  have t1 : True := trivial
  have t2 : True := trivial
  go_enter Tryz.func47, Tryz.ntmps47
  go_wp2
  go_region_held3 (fun w' => w'.cell? ⟨w.heap.size, 0, none⟩ = some (.bool x.m) ∧ w'.cell? ⟨w.heap.size, 1, none⟩ = some (.int .i64 x.t) ∧ w'.cell? ⟨w.heap.size, 2, none⟩ = some (.int .i64 x.l) ∧ w'.cell? ⟨w.heap.size, 3, none⟩ = some (.int .i64 x.b) ∧ w'.cell? ⟨w.heap.size, 4, none⟩ = some (.int .i64 x.q) ∧ w'.cell? ⟨w.heap.size + 1, 0, none⟩ = some (.bool y.m) ∧ w'.cell? ⟨w.heap.size + 1, 1, none⟩ = some (.int .i64 y.t) ∧ w'.cell? ⟨w.heap.size + 1, 2, none⟩ = some (.int .i64 y.l) ∧ w'.cell? ⟨w.heap.size + 1, 3, none⟩ = some (.int .i64 y.b) ∧ w'.cell? ⟨w.heap.size + 1, 4, none⟩ = some (.int .i64 y.q)) ((repeat' apply And.intro) <;> (first | (go_keep; done) | (go_simp; done))) (first
    | (go_at_call 71; refine (orec_gr _ _ _ _ _ _ _ _ _).mono ?_; rintro e w1 ⟨rfl, hg1⟩; have hG1 : Gr w w1 := Gr.trans (by with_reducible (repeat' first | assumption | exact Gr.refl _ | refine Gr.drew ?_ | refine Gr.drewN ?_ _ | refine Gr.alloc ?_ _)) hg1; have hb1 := hg1.below; have hB1 : Below w.heap.size w w1 := hG1.below; have oX1 : Own w1 w.heap.size #[.bool x.m, .int .i64 x.t, .int .i64 x.l, .int .i64 x.b, .int .i64 x.q] := Own.keep (by with_reducible (repeat' first | assumption | refine Own.drew ?_ | refine Own.drewN ?_ _ | (refine Own.at ?_; first | rfl | (simp; done)) | refine Own.past ?_ _)) hb1; have oY1 : Own w1 (w.heap.size + 1) #[.bool y.m, .int .i64 y.t, .int .i64 y.l, .int .i64 y.b, .int .i64 y.q] := Own.keep (by with_reducible (repeat' first | assumption | refine Own.drew ?_ | refine Own.drewN ?_ _ | (refine Own.at ?_; first | rfl | (simp; done)) | refine Own.past ?_ _)) hb1; have oX10 : w1.cell? ⟨w.heap.size, 0, none⟩ = some (.bool x.m) := oX1.cell 0; have oX11 : w1.cell? ⟨w.heap.size, 1, none⟩ = some (.int .i64 x.t) := oX1.cell 1; have oX12 : w1.cell? ⟨w.heap.size, 2, none⟩ = some (.int .i64 x.l) := oX1.cell 2; have oX13 : w1.cell? ⟨w.heap.size, 3, none⟩ = some (.int .i64 x.b) := oX1.cell 3; have oX14 : w1.cell? ⟨w.heap.size, 4, none⟩ = some (.int .i64 x.q) := oX1.cell 4; have oY10 : w1.cell? ⟨w.heap.size + 1, 0, none⟩ = some (.bool y.m) := oY1.cell 0; have oY11 : w1.cell? ⟨w.heap.size + 1, 1, none⟩ = some (.int .i64 y.t) := oY1.cell 1; have oY12 : w1.cell? ⟨w.heap.size + 1, 2, none⟩ = some (.int .i64 y.l) := oY1.cell 2; have oY13 : w1.cell? ⟨w.heap.size + 1, 3, none⟩ = some (.int .i64 y.b) := oY1.cell 3; have oY14 : w1.cell? ⟨w.heap.size + 1, 4, none⟩ = some (.int .i64 y.q) := oY1.cell 4; have lX1 := oX1.lt; have lY1 := oY1.lt; clear hb1 hg1)
    | (go_at_call 72; clear t1; refine (HX.out _).mono ?_; rintro e w2 ⟨rfl, hg2⟩; have hG2 : Gr w w2 := Gr.trans (by with_reducible (repeat' first | assumption | exact Gr.refl _ | refine Gr.drew ?_ | refine Gr.drewN ?_ _ | refine Gr.alloc ?_ _)) hg2; have hb2 := hg2.below; have hB2 : Below w.heap.size w w2 := hG2.below; have oX2 : Own w2 w.heap.size #[.bool x.m, .int .i64 x.t, .int .i64 x.l, .int .i64 x.b, .int .i64 x.q] := Own.keep (by with_reducible (repeat' first | assumption | refine Own.drew ?_ | refine Own.drewN ?_ _ | (refine Own.at ?_; first | rfl | (simp; done)) | refine Own.past ?_ _)) hb2; have oY2 : Own w2 (w.heap.size + 1) #[.bool y.m, .int .i64 y.t, .int .i64 y.l, .int .i64 y.b, .int .i64 y.q] := Own.keep (by with_reducible (repeat' first | assumption | refine Own.drew ?_ | refine Own.drewN ?_ _ | (refine Own.at ?_; first | rfl | (simp; done)) | refine Own.past ?_ _)) hb2; have oX20 : w2.cell? ⟨w.heap.size, 0, none⟩ = some (.bool x.m) := oX2.cell 0; have oX21 : w2.cell? ⟨w.heap.size, 1, none⟩ = some (.int .i64 x.t) := oX2.cell 1; have oX22 : w2.cell? ⟨w.heap.size, 2, none⟩ = some (.int .i64 x.l) := oX2.cell 2; have oX23 : w2.cell? ⟨w.heap.size, 3, none⟩ = some (.int .i64 x.b) := oX2.cell 3; have oX24 : w2.cell? ⟨w.heap.size, 4, none⟩ = some (.int .i64 x.q) := oX2.cell 4; have oY20 : w2.cell? ⟨w.heap.size + 1, 0, none⟩ = some (.bool y.m) := oY2.cell 0; have oY21 : w2.cell? ⟨w.heap.size + 1, 1, none⟩ = some (.int .i64 y.t) := oY2.cell 1; have oY22 : w2.cell? ⟨w.heap.size + 1, 2, none⟩ = some (.int .i64 y.l) := oY2.cell 2; have oY23 : w2.cell? ⟨w.heap.size + 1, 3, none⟩ = some (.int .i64 y.b) := oY2.cell 3; have oY24 : w2.cell? ⟨w.heap.size + 1, 4, none⟩ = some (.int .i64 y.q) := oY2.cell 4; have lX2 := oX2.lt; have lY2 := oY2.lt; clear hb2 hg2)
    | (go_at_call 72; clear t2; refine (HY.out _).mono ?_; rintro e w3 ⟨rfl, hg3⟩; have hG3 : Gr w w3 := Gr.trans (by with_reducible (repeat' first | assumption | exact Gr.refl _ | refine Gr.drew ?_ | refine Gr.drewN ?_ _ | refine Gr.alloc ?_ _)) hg3; have hb3 := hg3.below; have hB3 : Below w.heap.size w w3 := hG3.below; have oX3 : Own w3 w.heap.size #[.bool x.m, .int .i64 x.t, .int .i64 x.l, .int .i64 x.b, .int .i64 x.q] := Own.keep (by with_reducible (repeat' first | assumption | refine Own.drew ?_ | refine Own.drewN ?_ _ | (refine Own.at ?_; first | rfl | (simp; done)) | refine Own.past ?_ _)) hb3; have oY3 : Own w3 (w.heap.size + 1) #[.bool y.m, .int .i64 y.t, .int .i64 y.l, .int .i64 y.b, .int .i64 y.q] := Own.keep (by with_reducible (repeat' first | assumption | refine Own.drew ?_ | refine Own.drewN ?_ _ | (refine Own.at ?_; first | rfl | (simp; done)) | refine Own.past ?_ _)) hb3; have oX30 : w3.cell? ⟨w.heap.size, 0, none⟩ = some (.bool x.m) := oX3.cell 0; have oX31 : w3.cell? ⟨w.heap.size, 1, none⟩ = some (.int .i64 x.t) := oX3.cell 1; have oX32 : w3.cell? ⟨w.heap.size, 2, none⟩ = some (.int .i64 x.l) := oX3.cell 2; have oX33 : w3.cell? ⟨w.heap.size, 3, none⟩ = some (.int .i64 x.b) := oX3.cell 3; have oX34 : w3.cell? ⟨w.heap.size, 4, none⟩ = some (.int .i64 x.q) := oX3.cell 4; have oY30 : w3.cell? ⟨w.heap.size + 1, 0, none⟩ = some (.bool y.m) := oY3.cell 0; have oY31 : w3.cell? ⟨w.heap.size + 1, 1, none⟩ = some (.int .i64 y.t) := oY3.cell 1; have oY32 : w3.cell? ⟨w.heap.size + 1, 2, none⟩ = some (.int .i64 y.l) := oY3.cell 2; have oY33 : w3.cell? ⟨w.heap.size + 1, 3, none⟩ = some (.int .i64 y.b) := oY3.cell 3; have oY34 : w3.cell? ⟨w.heap.size + 1, 4, none⟩ = some (.int .i64 y.q) := oY3.cell 4; have lX3 := oX3.lt; have lY3 := oY3.lt; clear hb3 hg3)
    | (go_at_call 58; refine (cmp_any _ _ _).mono ?_; rintro e w5 ⟨rfl, rfl⟩)
    | (go_at_call 57; refine (HO.out _ _ _ _ (by with_reducible (repeat' first | assumption | refine Own.drew ?_ | refine Own.drewN ?_ _ | (refine Own.at ?_; first | rfl | (simp; done)) | refine Own.past ?_ _))).mono ?_; rintro e w6 ⟨rfl, rfl⟩))
  go_wp2
  go_ret
  exact ⟨rfl, by with_reducible (repeat' first | assumption | exact Gr.refl _ | refine Gr.drew ?_ | refine Gr.drewN ?_ _ | refine Gr.alloc ?_ _)⟩
theorem mI_lt (a b : Bool) : mI a < mI b ↔ (a = false ∧ b = true) := by cases a <;> cases b <;> simp [mI]
theorem mI_eq (a b : Bool) : mI a = mI b ↔ a = b := by cases a <;> cases b <;> simp [mI]
theorem cmpF_neg (x y : Rf) : cmpF x y < 0 ↔ (cmpR x.t x.l x.b x.q y.t y.l y.b y.q < 0 ∨ ((x.t = y.t ∧ x.l = y.l ∧ x.b = y.b ∧ x.q = y.q) ∧ x.m = false ∧ y.m = true)) := by
  rw [← mI_lt, ← cmpR_zero]
  unfold cmpF orI orI orI cmpI
  repeat' split
  all_goals omega
theorem cmpF_zero (x y : Rf) : cmpF x y = 0 ↔ x = y := by
  have h : cmpF x y = 0 ↔ ((x.t = y.t ∧ x.l = y.l ∧ x.b = y.b ∧ x.q = y.q) ∧ x.m = y.m) := by
    rw [← mI_eq, ← cmpR_zero]
    unfold cmpF orI orI orI cmpI
    repeat' split
    all_goals omega
  rw [h]
  obtain ⟨m, t, l, b, q⟩ := x
  obtain ⟨m', t', l', b', q'⟩ := y
  simp
  constructor
  · rintro ⟨⟨rfl, rfl, rfl, rfl⟩, rfl⟩; exact ⟨rfl, rfl, rfl, rfl, rfl⟩
  · rintro ⟨rfl, rfl, rfl, rfl, rfl⟩; exact ⟨⟨rfl, rfl, rfl, rfl⟩, rfl⟩
def mayF (x : Rf) : Bool := mayR x.t x.l x.b x.q && (x.m || (decide (x.t = x.b) && decide (x.l = x.q)))
set_option maxRecDepth 100000 in
theorem cellof_any (x : Rf) (w : World) : Calls Tryz.prog 42 #[.agg #[.bool x.m, .int .i64 x.t, .int .i64 x.l, .int .i64 x.b, .int .i64 x.q]] w fun e w' => e = .returned (.agg #[.int .i64 x.t, .int .i64 x.l]) ∧ Below w.heap.size w w' := by
  go_enter Tryz.func42, Tryz.ntmps42
  go_wp2
  exact bodyPost_ret (v := .agg #[.int .i64 x.t, .int .i64 x.l]) (by simp [results, Tryz.results42, go_sem]) rfl ⟨rfl, by with_reducible (repeat' first | assumption | exact Below.refl _ _ | refine Below.drew ?_ | refine bdrewN ?_ _ | refine Below.setCell ?_ (by first | exact Nat.le_refl _ | (simp; done) | (simp; omega) | omega) _ | refine Below.alloc ?_ (by first | exact Nat.le_refl _ | (simp; done) | (simp; omega) | omega) _)⟩
end Go.Proofs.YtgojnijpjfdocaaGreat
