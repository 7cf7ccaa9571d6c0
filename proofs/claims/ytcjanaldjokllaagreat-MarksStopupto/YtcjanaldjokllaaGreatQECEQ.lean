/- Cells, references and edges as rows hold them; the contracts of order.Refs, deps.cellOf, deps.refTo, deps.mayRef. New memory alone is made. · Cells and references compared; a list without what stands twice side by side. No function's text is walked here. -/
import Derived.Test.YtcjanaldjokllaaGreatQCOCLCV
import Derived.Sort.Grow
namespace Go.Proofs.YtcjanaldjokllaaGreat
open Go.RowKit
set_option linter.all false
/-- A reference. -/
structure Rf where
  m : Bool
  t : Int
  l : Int
  b : Int
  q : Int
def Rf.cs (x : Rf) : List Value := [.bool x.m, .int .i64 x.t, .int .i64 x.l, .int .i64 x.b, .int .i64 x.q]
theorem Rf.len (x : Rf) : x.cs.length = 5 := rfl
theorem Rf.one (x : Rf) : ∀ u ∈ x.cs, u.oneCell' = true := by
  intro u hu
  simp [Rf.cs] at hu
  rcases hu with rfl | rfl | rfl | rfl | rfl <;> rfl
/-- A reference and who has it. -/
structure Ed where
  r : Int
  c : Int
  f : Rf
def Ed.cs (x : Ed) : List Value := [.int .i64 x.r, .int .i64 x.c, .bool x.f.m, .int .i64 x.f.t, .int .i64 x.f.l, .int .i64 x.f.b, .int .i64 x.f.q]
theorem Ed.len (x : Ed) : x.cs.length = 7 := rfl
theorem Ed.one (x : Ed) : ∀ u ∈ x.cs, u.oneCell' = true := by
  intro u hu
  simp [Ed.cs] at hu
  rcases hu with rfl | rfl | rfl | rfl | rfl | rfl | rfl <;> rfl
theorem infoRf : (Tryz.prog.info? 53).map (fun i => (i.zero, i.size, i.bytes)) = some (some (.agg #[.bool false, .int .i64 0, .int .i64 0, .int .i64 0, .int .i64 0]), 5, 40) := by kernel_rfl
theorem infoCl : (Tryz.prog.info? 32).map (fun i => (i.zero, i.size, i.bytes)) = some (some (.agg #[.int .i64 0, .int .i64 0]), 2, 16) := by kernel_rfl
theorem infoClZ : (Tryz.prog.info? 32).map (·.size) = some 2 := by kernel_rfl
abbrev RowK (w : World) (v : Value) (l : List Cl) : Prop := RowG 32 2 Cl.cs w 0 v l
abbrev RowF (w : World) (v : Value) (l : List Rf) : Prop := RowG 53 5 Rf.cs w 0 v l
abbrev RowD (w : World) (base : Nat) (v : Value) (l : List Ed) : Prop := RowG 55 7 Ed.cs w base v l
/-- Draws and new blocks, no more. -/
def Gr (w w' : World) : Prop := ∃ q os, w' = Go.Sort.grow (w.drewN q) os
theorem Gr.refl (w : World) : Gr w w := ⟨0, #[], by simp [Go.Sort.grow, World.drewN]⟩
theorem Gr.alloc {w W : World} (h : Gr w W) (o : Obj) : Gr w (W.alloc o) := by
  obtain ⟨q, os, rfl⟩ := h
  exact ⟨q, os ++ #[o], by rw [Go.Sort.alloc_eq_grow, Go.Sort.grow_grow]⟩
theorem Gr.drewN {w W : World} (h : Gr w W) (n : Nat) : Gr w (W.drewN n) := by
  obtain ⟨q, os, rfl⟩ := h
  exact ⟨q + n, os, by simp [Go.Sort.grow, World.drewN, Nat.add_assoc]⟩
theorem Gr.drew {w W : World} (h : Gr w W) : Gr w W.drew := h.drewN 1
theorem Gr.trans {a b c : World} (h : Gr a b) (k : Gr b c) : Gr a c := by
  obtain ⟨q, os, rfl⟩ := k
  obtain ⟨q1, os1, rfl⟩ := h
  exact ⟨q1 + q, os1 ++ os, by simp [Go.Sort.grow, World.drewN, Nat.add_assoc, Array.append_assoc]⟩
theorem Gr.below {w w' : World} (h : Gr w w') : Below w.heap.size w w' := by
  obtain ⟨q, os, rfl⟩ := h
  refine ⟨rfl, rfl, rfl, by simp [Go.Sort.grow, World.drewN], fun k hk => ?_⟩
  simp [Go.Sort.grow, World.drewN, Array.getElem?_append_left, hk]
def mI (b : Bool) : Int := if b = true then 1 else 0
def cmpF (x y : Rf) : Int := orI [cmpR x.t x.l x.b x.q y.t y.l y.b y.q, cmpI (mI x.m) (mI y.m)]
set_option maxRecDepth 100000 in
set_option maxHeartbeats 2000000 in
theorem ocel_gr (r c r' c' : Int) (w : World) : Calls Tryz.prog 34 #[.agg #[.int .i64 r, .int .i64 c], .agg #[.int .i64 r', .int .i64 c']] w fun e w' => e = .returned (.int .i64 (cmpC r c r' c')) ∧ Gr w w' := by
  have mixed : Tryz.prog.follows .mixedOrders = true := by kernel_rfl
  have HO : Hid (∀ W b (x y : Int), Own W b #[.int .i64 x, .int .i64 y] → Calls Tryz.prog 57 #[.slice (some ⟨b, 0, none⟩) 2 2] W fun e w' => e = .returned (.int .i64 (orI [x, y])) ∧ w' = W) := fun W b x y h => or_any W b 2 [x, y] rfl h.lt (by omega) (own_ints h)
  go_enter Tryz.func34, Tryz.ntmps34
  go_wp2
  go_region_held3 (fun w' => w'.cell? ⟨w.heap.size, 0, none⟩ = some (.int .i64 r) ∧ w'.cell? ⟨w.heap.size, 1, none⟩ = some (.int .i64 c) ∧ w'.cell? ⟨w.heap.size + 1, 0, none⟩ = some (.int .i64 r') ∧ w'.cell? ⟨w.heap.size + 1, 1, none⟩ = some (.int .i64 c')) ((repeat' apply And.intro) <;> (first | (go_keep; done) | (go_simp; done))) (first
    | (go_at_call 58; refine (cmp_any _ _ _).mono ?_; rintro e w5 ⟨rfl, rfl⟩)
    | (go_at_call 57; refine (HO.out _ _ _ _ (by with_reducible (repeat' first | assumption | refine Own.drew ?_ | refine Own.drewN ?_ _ | (refine Own.at ?_; first | rfl | (simp; done)) | refine Own.past ?_ _))).mono ?_; rintro e w6 ⟨rfl, rfl⟩))
  go_wp2
  go_ret
  exact ⟨rfl, by with_reducible (repeat' first | assumption | exact Gr.refl _ | refine Gr.drew ?_ | refine Gr.drewN ?_ _ | refine Gr.alloc ?_ _)⟩
set_option maxRecDepth 100000 in
set_option maxHeartbeats 2000000 in
theorem orec_gr (t l b r t' l' b' r' : Int) (w : World) : Calls Tryz.prog 68 #[.agg #[.int .i64 t, .int .i64 l, .int .i64 b, .int .i64 r], .agg #[.int .i64 t', .int .i64 l', .int .i64 b', .int .i64 r']] w fun e w' => e = .returned (.int .i64 (cmpR t l b r t' l' b' r')) ∧ Gr w w' := by
  have mixed : Tryz.prog.follows .mixedOrders = true := by kernel_rfl
  have HO : Hid (∀ W b (x y z u : Int), Own W b #[.int .i64 x, .int .i64 y, .int .i64 z, .int .i64 u] → Calls Tryz.prog 57 #[.slice (some ⟨b, 0, none⟩) 4 4] W fun e w' => e = .returned (.int .i64 (orI [x, y, z, u])) ∧ w' = W) := fun W b x y z u h => or_any W b 4 [x, y, z, u] rfl h.lt (by omega) (own_ints h)
  go_enter Tryz.func68, Tryz.ntmps68
  go_wp2
  go_region_held3 (fun w' => w'.cell? ⟨w.heap.size, 0, none⟩ = some (.int .i64 t) ∧ w'.cell? ⟨w.heap.size, 1, none⟩ = some (.int .i64 l) ∧ w'.cell? ⟨w.heap.size, 2, none⟩ = some (.int .i64 b) ∧ w'.cell? ⟨w.heap.size, 3, none⟩ = some (.int .i64 r) ∧ w'.cell? ⟨w.heap.size + 1, 0, none⟩ = some (.int .i64 t') ∧ w'.cell? ⟨w.heap.size + 1, 1, none⟩ = some (.int .i64 l') ∧ w'.cell? ⟨w.heap.size + 1, 2, none⟩ = some (.int .i64 b') ∧ w'.cell? ⟨w.heap.size + 1, 3, none⟩ = some (.int .i64 r')) ((repeat' apply And.intro) <;> (first | (go_keep; done) | (go_simp; done))) (first
    | (go_at_call 58; refine (cmp_any _ _ _).mono ?_; rintro e w5 ⟨rfl, rfl⟩)
    | (go_at_call 57; refine (HO.out _ _ _ _ _ _ (by with_reducible (repeat' first | assumption | refine Own.drew ?_ | refine Own.drewN ?_ _ | (refine Own.at ?_; first | rfl | (simp; done)) | refine Own.past ?_ _))).mono ?_; rintro e w6 ⟨rfl, rfl⟩))
  go_wp2
  go_ret
  exact ⟨rfl, by with_reducible (repeat' first | assumption | exact Gr.refl _ | refine Gr.drew ?_ | refine Gr.drewN ?_ _ | refine Gr.alloc ?_ _)⟩
theorem many_any (x : Rf) (w : World) : Calls Tryz.prog 69 #[.agg #[.bool x.m, .int .i64 x.t, .int .i64 x.l, .int .i64 x.b, .int .i64 x.q]] w fun e w' => e = .returned (.int .i64 (mI x.m)) ∧ Gr w w' := by
  obtain ⟨m, t, l, b, q⟩ := x
  cases m
  · go_enter Tryz.func69, Tryz.ntmps69
    go_wp2
    go_ret
    exact ⟨rfl, by with_reducible (repeat' first | assumption | exact Gr.refl _ | refine Gr.drew ?_ | refine Gr.drewN ?_ _ | refine Gr.alloc ?_ _)⟩
  · go_enter Tryz.func69, Tryz.ntmps69
    go_wp2
    go_ret
    exact ⟨rfl, by with_reducible (repeat' first | assumption | exact Gr.refl _ | refine Gr.drew ?_ | refine Gr.drewN ?_ _ | refine Gr.alloc ?_ _)⟩
set_option maxRecDepth 100000 in
set_option maxHeartbeats 4000000 in
theorem oref_any (x y : Rf) (w : World) : Calls Tryz.prog 43 #[.agg #[.bool x.m, .int .i64 x.t, .int .i64 x.l, .int .i64 x.b, .int .i64 x.q], .agg #[.bool y.m, .int .i64 y.t, .int .i64 y.l, .int .i64 y.b, .int .i64 y.q]] w fun e w' => e = .returned (.int .i64 (cmpF x y)) ∧ Gr w w' := by
  have mixed : Tryz.prog.follows .mixedOrders = true := by kernel_rfl
  have HO : Hid (∀ W b (x y : Int), Own W b #[.int .i64 x, .int .i64 y] → Calls Tryz.prog 57 #[.slice (some ⟨b, 0, none⟩) 2 2] W fun e w' => e = .returned (.int .i64 (orI [x, y])) ∧ w' = W) := fun W b x y h => or_any W b 2 [x, y] rfl h.lt (by omega) (own_ints h)
  have HX : Hid (∀ W, Calls Tryz.prog 69 #[.agg #[.bool x.m, .int .i64 x.t, .int .i64 x.l, .int .i64 x.b, .int .i64 x.q]] W fun e w' => e = .returned (.int .i64 (mI x.m)) ∧ Gr W w') := many_any x
  have HY : Hid (∀ W, Calls Tryz.prog 69 #[.agg #[.bool y.m, .int .i64 y.t, .int .i64 y.l, .int .i64 y.b, .int .i64 y.q]] W fun e w' => e = .returned (.int .i64 (mI y.m)) ∧ Gr W w') := many_any y
  have t1 : True := trivial
  have t2 : True := trivial
  go_enter Tryz.func43, Tryz.ntmps43
  go_wp2
  go_region_held3 (fun w' => w'.cell? ⟨w.heap.size, 0, none⟩ = some (.bool x.m) ∧ w'.cell? ⟨w.heap.size, 1, none⟩ = some (.int .i64 x.t) ∧ w'.cell? ⟨w.heap.size, 2, none⟩ = some (.int .i64 x.l) ∧ w'.cell? ⟨w.heap.size, 3, none⟩ = some (.int .i64 x.b) ∧ w'.cell? ⟨w.heap.size, 4, none⟩ = some (.int .i64 x.q) ∧ w'.cell? ⟨w.heap.size + 1, 0, none⟩ = some (.bool y.m) ∧ w'.cell? ⟨w.heap.size + 1, 1, none⟩ = some (.int .i64 y.t) ∧ w'.cell? ⟨w.heap.size + 1, 2, none⟩ = some (.int .i64 y.l) ∧ w'.cell? ⟨w.heap.size + 1, 3, none⟩ = some (.int .i64 y.b) ∧ w'.cell? ⟨w.heap.size + 1, 4, none⟩ = some (.int .i64 y.q)) ((repeat' apply And.intro) <;> (first | (go_keep; done) | (go_simp; done))) (first
    | (go_at_call 68; refine (orec_gr _ _ _ _ _ _ _ _ _).mono ?_; rintro e w1 ⟨rfl, hg1⟩; have hG1 : Gr w w1 := Gr.trans (by with_reducible (repeat' first | assumption | exact Gr.refl _ | refine Gr.drew ?_ | refine Gr.drewN ?_ _ | refine Gr.alloc ?_ _)) hg1; have hb1 := hg1.below; have hB1 : Below w.heap.size w w1 := hG1.below; have oX1 : Own w1 w.heap.size #[.bool x.m, .int .i64 x.t, .int .i64 x.l, .int .i64 x.b, .int .i64 x.q] := Own.keep (by with_reducible (repeat' first | assumption | refine Own.drew ?_ | refine Own.drewN ?_ _ | (refine Own.at ?_; first | rfl | (simp; done)) | refine Own.past ?_ _)) hb1; have oY1 : Own w1 (w.heap.size + 1) #[.bool y.m, .int .i64 y.t, .int .i64 y.l, .int .i64 y.b, .int .i64 y.q] := Own.keep (by with_reducible (repeat' first | assumption | refine Own.drew ?_ | refine Own.drewN ?_ _ | (refine Own.at ?_; first | rfl | (simp; done)) | refine Own.past ?_ _)) hb1; have oX10 : w1.cell? ⟨w.heap.size, 0, none⟩ = some (.bool x.m) := oX1.cell 0; have oX11 : w1.cell? ⟨w.heap.size, 1, none⟩ = some (.int .i64 x.t) := oX1.cell 1; have oX12 : w1.cell? ⟨w.heap.size, 2, none⟩ = some (.int .i64 x.l) := oX1.cell 2; have oX13 : w1.cell? ⟨w.heap.size, 3, none⟩ = some (.int .i64 x.b) := oX1.cell 3; have oX14 : w1.cell? ⟨w.heap.size, 4, none⟩ = some (.int .i64 x.q) := oX1.cell 4; have oY10 : w1.cell? ⟨w.heap.size + 1, 0, none⟩ = some (.bool y.m) := oY1.cell 0; have oY11 : w1.cell? ⟨w.heap.size + 1, 1, none⟩ = some (.int .i64 y.t) := oY1.cell 1; have oY12 : w1.cell? ⟨w.heap.size + 1, 2, none⟩ = some (.int .i64 y.l) := oY1.cell 2; have oY13 : w1.cell? ⟨w.heap.size + 1, 3, none⟩ = some (.int .i64 y.b) := oY1.cell 3; have oY14 : w1.cell? ⟨w.heap.size + 1, 4, none⟩ = some (.int .i64 y.q) := oY1.cell 4; have lX1 := oX1.lt; have lY1 := oY1.lt; clear hb1 hg1)
    | (go_at_call 69; clear t1; refine (HX.out _).mono ?_; rintro e w2 ⟨rfl, hg2⟩; have hG2 : Gr w w2 := Gr.trans (by with_reducible (repeat' first | assumption | exact Gr.refl _ | refine Gr.drew ?_ | refine Gr.drewN ?_ _ | refine Gr.alloc ?_ _)) hg2; have hb2 := hg2.below; have hB2 : Below w.heap.size w w2 := hG2.below; have oX2 : Own w2 w.heap.size #[.bool x.m, .int .i64 x.t, .int .i64 x.l, .int .i64 x.b, .int .i64 x.q] := Own.keep (by with_reducible (repeat' first | assumption | refine Own.drew ?_ | refine Own.drewN ?_ _ | (refine Own.at ?_; first | rfl | (simp; done)) | refine Own.past ?_ _)) hb2; have oY2 : Own w2 (w.heap.size + 1) #[.bool y.m, .int .i64 y.t, .int .i64 y.l, .int .i64 y.b, .int .i64 y.q] := Own.keep (by with_reducible (repeat' first | assumption | refine Own.drew ?_ | refine Own.drewN ?_ _ | (refine Own.at ?_; first | rfl | (simp; done)) | refine Own.past ?_ _)) hb2; have oX20 : w2.cell? ⟨w.heap.size, 0, none⟩ = some (.bool x.m) := oX2.cell 0; have oX21 : w2.cell? ⟨w.heap.size, 1, none⟩ = some (.int .i64 x.t) := oX2.cell 1; have oX22 : w2.cell? ⟨w.heap.size, 2, none⟩ = some (.int .i64 x.l) := oX2.cell 2; have oX23 : w2.cell? ⟨w.heap.size, 3, none⟩ = some (.int .i64 x.b) := oX2.cell 3; have oX24 : w2.cell? ⟨w.heap.size, 4, none⟩ = some (.int .i64 x.q) := oX2.cell 4; have oY20 : w2.cell? ⟨w.heap.size + 1, 0, none⟩ = some (.bool y.m) := oY2.cell 0; have oY21 : w2.cell? ⟨w.heap.size + 1, 1, none⟩ = some (.int .i64 y.t) := oY2.cell 1; have oY22 : w2.cell? ⟨w.heap.size + 1, 2, none⟩ = some (.int .i64 y.l) := oY2.cell 2; have oY23 : w2.cell? ⟨w.heap.size + 1, 3, none⟩ = some (.int .i64 y.b) := oY2.cell 3; have oY24 : w2.cell? ⟨w.heap.size + 1, 4, none⟩ = some (.int .i64 y.q) := oY2.cell 4; have lX2 := oX2.lt; have lY2 := oY2.lt; clear hb2 hg2)
    | (go_at_call 69; clear t2; refine (HY.out _).mono ?_; rintro e w3 ⟨rfl, hg3⟩; have hG3 : Gr w w3 := Gr.trans (by with_reducible (repeat' first | assumption | exact Gr.refl _ | refine Gr.drew ?_ | refine Gr.drewN ?_ _ | refine Gr.alloc ?_ _)) hg3; have hb3 := hg3.below; have hB3 : Below w.heap.size w w3 := hG3.below; have oX3 : Own w3 w.heap.size #[.bool x.m, .int .i64 x.t, .int .i64 x.l, .int .i64 x.b, .int .i64 x.q] := Own.keep (by with_reducible (repeat' first | assumption | refine Own.drew ?_ | refine Own.drewN ?_ _ | (refine Own.at ?_; first | rfl | (simp; done)) | refine Own.past ?_ _)) hb3; have oY3 : Own w3 (w.heap.size + 1) #[.bool y.m, .int .i64 y.t, .int .i64 y.l, .int .i64 y.b, .int .i64 y.q] := Own.keep (by with_reducible (repeat' first | assumption | refine Own.drew ?_ | refine Own.drewN ?_ _ | (refine Own.at ?_; first | rfl | (simp; done)) | refine Own.past ?_ _)) hb3; have oX30 : w3.cell? ⟨w.heap.size, 0, none⟩ = some (.bool x.m) := oX3.cell 0; have oX31 : w3.cell? ⟨w.heap.size, 1, none⟩ = some (.int .i64 x.t) := oX3.cell 1; have oX32 : w3.cell? ⟨w.heap.size, 2, none⟩ = some (.int .i64 x.l) := oX3.cell 2; have oX33 : w3.cell? ⟨w.heap.size, 3, none⟩ = some (.int .i64 x.b) := oX3.cell 3; have oX34 : w3.cell? ⟨w.heap.size, 4, none⟩ = some (.int .i64 x.q) := oX3.cell 4; have oY30 : w3.cell? ⟨w.heap.size + 1, 0, none⟩ = some (.bool y.m) := oY3.cell 0; have oY31 : w3.cell? ⟨w.heap.size + 1, 1, none⟩ = some (.int .i64 y.t) := oY3.cell 1; have oY32 : w3.cell? ⟨w.heap.size + 1, 2, none⟩ = some (.int .i64 y.l) := oY3.cell 2; have oY33 : w3.cell? ⟨w.heap.size + 1, 3, none⟩ = some (.int .i64 y.b) := oY3.cell 3; have oY34 : w3.cell? ⟨w.heap.size + 1, 4, none⟩ = some (.int .i64 y.q) := oY3.cell 4; have lX3 := oX3.lt; have lY3 := oY3.lt; clear hb3 hg3)
    | (go_at_call 58; refine (cmp_any _ _ _).mono ?_; rintro e w5 ⟨rfl, rfl⟩)
    | (go_at_call 57; refine (HO.out _ _ _ _ (by with_reducible (repeat' first | assumption | refine Own.drew ?_ | refine Own.drewN ?_ _ | (refine Own.at ?_; first | rfl | (simp; done)) | refine Own.past ?_ _))).mono ?_; rintro e w6 ⟨rfl, rfl⟩))
  go_wp2
  go_ret
  exact ⟨rfl, by with_reducible (repeat' first | assumption | exact Gr.refl _ | refine Gr.drew ?_ | refine Gr.drewN ?_ _ | refine Gr.alloc ?_ _)⟩
theorem mI_lt (a b : Bool) : mI a < mI b ↔ (a = false ∧ b = true) := by cases a <;> cases b <;> simp [mI]
theorem mI_eq (a b : Bool) : mI a = mI b ↔ a = b := by cases a <;> cases b <;> simp [mI]
theorem cmpF_neg (x y : Rf) : cmpF x y < 0 ↔ (cmpR x.t x.l x.b x.q y.t y.l y.b y.q < 0 ∨ ((x.t = y.t ∧ x.l = y.l ∧ x.b = y.b ∧ x.q = y.q) ∧ x.m = false ∧ y.m = true)) := by
  rw [← mI_lt, ← cmpR_zero]
  unfold cmpF orI orI orI cmpI
  repeat' split
  all_goals omega
theorem cmpF_zero (x y : Rf) : cmpF x y = 0 ↔ x = y := by
  have h : cmpF x y = 0 ↔ ((x.t = y.t ∧ x.l = y.l ∧ x.b = y.b ∧ x.q = y.q) ∧ x.m = y.m) := by
    rw [← mI_eq, ← cmpR_zero]
    unfold cmpF orI orI orI cmpI
    repeat' split
    all_goals omega
  rw [h]
  obtain ⟨m, t, l, b, q⟩ := x
  obtain ⟨m', t', l', b', q'⟩ := y
  simp
  constructor
  · rintro ⟨⟨rfl, rfl, rfl, rfl⟩, rfl⟩; exact ⟨rfl, rfl, rfl, rfl, rfl⟩
  · rintro ⟨rfl, rfl, rfl, rfl, rfl⟩; exact ⟨⟨rfl, rfl, rfl, rfl⟩, rfl⟩
def mayF (x : Rf) : Bool := mayR x.t x.l x.b x.q && (x.m || (decide (x.t = x.b) && decide (x.l = x.q)))
set_option maxRecDepth 100000 in
theorem cellof_any (x : Rf) (w : World) : Calls Tryz.prog 38 #[.agg #[.bool x.m, .int .i64 x.t, .int .i64 x.l, .int .i64 x.b, .int .i64 x.q]] w fun e w' => e = .returned (.agg #[.int .i64 x.t, .int .i64 x.l]) ∧ Below w.heap.size w w' := by
  go_enter Tryz.func38, Tryz.ntmps38
  go_wp2
  exact bodyPost_ret (v := .agg #[.int .i64 x.t, .int .i64 x.l]) (by simp [results, Tryz.results38, go_sem]) rfl ⟨rfl, by with_reducible (repeat' first | assumption | exact Below.refl _ _ | refine Below.drew ?_ | refine bdrewN ?_ _ | refine Below.setCell ?_ (by first | exact Nat.le_refl _ | (simp; done) | (simp; omega) | omega) _ | refine Below.alloc ?_ (by first | exact Nat.le_refl _ | (simp; done) | (simp; omega) | omega) _)⟩
end Go.Proofs.YtcjanaldjokllaaGreat
namespace Go.Proofs.YtcjanaldjokllaaGreat
open Go.RowKit
set_option linter.all false
def sCl (x y : Cl) : Bool := sameC x.r x.c y.r y.c
theorem sCl_is {x y : Cl} : sCl x y = true ↔ x = y := by
  obtain ⟨a, b⟩ := x
  obtain ⟨c, d⟩ := y
  simp [sCl, sameC]
theorem eqCl (x y : Cl) (w : World) : (binOp .eql 32 (.agg #[.int .i64 x.r, .int .i64 x.c]) (.agg #[.int .i64 y.r, .int .i64 y.c])).run Tryz.prog w = .ok (.bool (sCl x y)) w := eqC x.r x.c y.r y.c w
theorem neCl (x y : Cl) (w : World) : (binOp .neq 32 (.agg #[.int .i64 x.r, .int .i64 x.c]) (.agg #[.int .i64 y.r, .int .i64 y.c])).run Tryz.prog w = .ok (.bool (!sCl x y)) w := neC x.r x.c y.r y.c w
def sRf (x y : Rf) : Bool := decide (x.m = y.m ∧ x.t = y.t ∧ x.l = y.l ∧ x.b = y.b ∧ x.q = y.q)
theorem sRf_is {x y : Rf} : sRf x y = true ↔ x = y := by
  obtain ⟨a, b, c, d, e⟩ := x
  obtain ⟨a', b', c', d', e'⟩ := y
  simp [sRf]
set_option maxHeartbeats 1000000 in
theorem eqInRf (x y : Rf) (w : World) : (Op.equalIn 10000 53 (.agg #[.bool x.m, .int .i64 x.t, .int .i64 x.l, .int .i64 x.b, .int .i64 x.q]) (.agg #[.bool y.m, .int .i64 y.t, .int .i64 y.l, .int .i64 y.b, .int .i64 y.q])).run Tryz.prog w = .ok (sRf x y) w := by
  have hr : ∀ (d : Nat) (xs ys : Array Value) (w : World), (Op.equalIn (d + 1) 51 (.agg xs) (.agg ys)).run Tryz.prog w = (Op.eqFields d xs ys (Tryz.prog.fieldsOf 51).toList).run Tryz.prog w := fun d xs ys w => run_equalIn_agg w d 51 _ _ (by kernel_rfl) (by kernel_rfl)
  rw [run_equalIn_agg w 9999 53 _ _ (by kernel_rfl) (by kernel_rfl)]
  unfold sRf
  go_simp
  by_cases h1 : x.m = y.m
  · by_cases h2 : x.t = y.t
    · by_cases h3 : x.l = y.l
      · by_cases h4 : x.b = y.b
        · by_cases h5 : x.q = y.q
          · simp [h1, h2, h3, h4, h5]
          · simp [h1, h2, h3, h4, h5]
        · simp [h1, h2, h3, h4]
      · simp [h1, h2, h3]
    · simp [h1, h2]
  · simp [h1]
theorem eqRf (x y : Rf) (w : World) : (binOp .eql 53 (.agg #[.bool x.m, .int .i64 x.t, .int .i64 x.l, .int .i64 x.b, .int .i64 x.q]) (.agg #[.bool y.m, .int .i64 y.t, .int .i64 y.l, .int .i64 y.b, .int .i64 y.q])).run Tryz.prog w = .ok (.bool (sRf x y)) w := by
  rw [run_eql_struct, eqInRf]; rfl
theorem neRf (x y : Rf) (w : World) : (binOp .neq 53 (.agg #[.bool x.m, .int .i64 x.t, .int .i64 x.l, .int .i64 x.b, .int .i64 x.q]) (.agg #[.bool y.m, .int .i64 y.t, .int .i64 y.l, .int .i64 y.b, .int .i64 y.q])).run Tryz.prog w = .ok (.bool (!sRf x y)) w := by
  rw [run_neq_struct, eqInRf]; rfl
section
variable {α : Type}
/-- One more, but where it stands there already. -/
def cpS (s : α → α → Bool) (acc : List α) (x : α) : List α := if (match acc.getLast? with | some y => s x y | none => false) = true then acc else acc ++ [x]
/-- Each once, where like ones stand side by side. -/
def cpt (s : α → α → Bool) (l : List α) : List α := l.foldl (cpS s) []
theorem cpS_len (s : α → α → Bool) (acc : List α) (x : α) : (cpS s acc x).length ≤ acc.length + 1 := by
  have h : cpS s acc x = acc ∨ cpS s acc x = acc ++ [x] := by unfold cpS; exact (Classical.em _).elim (fun h => .inl (if_pos h)) (fun h => .inr (if_neg h))
  rcases h with h | h <;> rw [h] <;> simp
theorem cpt_next {s : α → α → Bool} {l : List α} {k : Nat} {x : α} (h : l[k]? = some x) : cpt s (l.take (k + 1)) = cpS s (cpt s (l.take k)) x := by unfold cpt; rw [List.take_succ, h, List.foldl_append]; rfl
theorem cpt_len (s : α → α → Bool) (l : List α) : (cpt s l).length ≤ l.length := by
  have : ∀ (l acc : List α), (l.foldl (cpS s) acc).length ≤ acc.length + l.length := by
    intro l
    induction l with
    | nil => intro acc; simp
    | cons a t ih => intro acc; refine Nat.le_trans (ih _) ?_; have := cpS_len s acc a; simp only [List.length_cons]; omega
  have h := this l []
  simpa [cpt] using h
/-- The last that is kept is the last there was. -/
theorem cpt_last {s : α → α → Bool} (hs : ∀ x y, s x y = true ↔ x = y) {l : List α} {k : Nat} {x : α} (h : l[k]? = some x) : (cpt s (l.take (k + 1))).getLast? = some x := by
  rw [cpt_next h]
  unfold cpS
  cases hl : (cpt s (l.take k)).getLast? with
  | none => simp
  | some y =>
    by_cases e : s x y = true
    · simp only [e, if_true]; rw [hl, (hs x y).1 e]
    · simp only [e, if_false]; simp
theorem cpt_step {s : α → α → Bool} (hs : ∀ x y, s x y = true ↔ x = y) {l : List α} {k : Nat} {x y : α} (h : l[k]? = some x) (h1 : l[k + 1]? = some y) : cpt s (l.take (k + 2)) = if s y x = true then cpt s (l.take (k + 1)) else cpt s (l.take (k + 1)) ++ [y] := by
  rw [cpt_next h1]
  unfold cpS
  rw [cpt_last hs h]
/-- As long as no two stand alike. -/
theorem cpt_plain {s : α → α → Bool} (hs : ∀ x y, s x y = true ↔ x = y) {l : List α} : ∀ {k : Nat}, k < l.length → (∀ (j : Nat) (x y : α), j + 1 ≤ k → l[j]? = some x → l[j + 1]? = some y → s y x = false) → cpt s (l.take (k + 1)) = l.take (k + 1)
  | 0, hk, _ => by
    obtain ⟨x, hx⟩ : ∃ x, l[0]? = some x := ⟨_, List.getElem?_eq_getElem hk⟩
    rw [cpt_next hx]
    simp [cpt, cpS, List.take_succ, hx]
  | k + 1, hk, h => by
    have ih := cpt_plain hs (k := k) (by omega) (fun j x y hj => h j x y (by omega))
    obtain ⟨x, hx⟩ : ∃ x, l[k]? = some x := ⟨_, List.getElem?_eq_getElem (by omega)⟩
    obtain ⟨y, hy⟩ : ∃ y, l[k + 1]? = some y := ⟨_, List.getElem?_eq_getElem hk⟩
    rw [cpt_step hs hx hy, h k x y (by omega) hx hy, ih]
    simp only [Bool.false_eq_true, if_false]
    conv => rhs; rw [List.take_succ, hy]
    rfl
theorem mem_cpS {s : α → α → Bool} (hs : ∀ x y, s x y = true ↔ x = y) {acc : List α} {x z : α} : z ∈ cpS s acc x ↔ (z ∈ acc ∨ z = x) := by
  unfold cpS
  cases hl : acc.getLast? with
  | none => simp
  | some y =>
    by_cases e : s x y = true
    · simp only [e, if_true]
      have hy := List.mem_of_getLast? hl
      have := (hs x y).1 e
      subst this
      constructor
      · exact Or.inl
      · rintro (h | rfl)
        · exact h
        · exact hy
    · simp [e]
theorem mem_cpt {s : α → α → Bool} (hs : ∀ x y, s x y = true ↔ x = y) {l : List α} {z : α} : z ∈ cpt s l ↔ z ∈ l := by
  have : ∀ (l acc : List α), z ∈ l.foldl (cpS s) acc ↔ (z ∈ acc ∨ z ∈ l) := by
    intro l
    induction l with
    | nil => intro acc; simp
    | cons a t ih => intro acc; rw [List.foldl_cons, ih, mem_cpS hs]; simp [or_assoc]
  have h := this l []
  simpa [cpt] using h
/-- Of a list in order just the unlike ones are left, each ahead of the next. -/
theorem cpt_srt {s : α → α → Bool} (hs : ∀ x y, s x y = true ↔ x = y) {lt : α → α → Prop} (htr : ∀ {x y z}, lt x y → lt y z → lt x z) {l : List α} (h : l.Pairwise (fun x y => lt x y ∨ x = y)) : (cpt s l).Pairwise lt := by
  have : ∀ (l acc : List α), acc.Pairwise lt → l.Pairwise (fun x y => lt x y ∨ x = y) → (∀ x ∈ acc, ∀ y ∈ l, lt x y ∨ x = y) → (∀ x ∈ acc, ∀ y, acc.getLast? = some y → lt x y ∨ x = y) → (l.foldl (cpS s) acc).Pairwise lt := by
    intro l
    induction l with
    | nil => intro acc h _ _ _; exact h
    | cons a t ih =>
      intro acc ha hl hb hc
      rw [List.foldl_cons]
      rw [List.pairwise_cons] at hl
      have hb' : ∀ x ∈ acc, ∀ y ∈ t, lt x y ∨ x = y := fun x hx y hy => hb x hx y (List.mem_cons_of_mem _ hy)
      unfold cpS
      cases hlast : acc.getLast? with
      | none =>
        have e : acc = [] := List.getLast?_eq_none_iff.1 hlast
        subst e
        simp only [Bool.false_eq_true, if_false, List.nil_append]
        exact ih [a] (List.pairwise_singleton _ _) hl.2 (fun x hx y hy => by simp at hx; subst hx; exact hl.1 y hy) (fun x hx y hy => by simp at hx hy; subst hx; subst hy; exact .inr rfl)
      | some b =>
        by_cases e : s a b = true
        · simp only [e, if_true]
          exact ih acc ha hl.2 hb' (by rw [hlast] at hc ⊢; exact hc)
        · simp only [e, if_false]
          have hab : ∀ x ∈ acc, lt x a := fun x hx => by
            have hbm := List.mem_of_getLast? hlast
            have hba : lt b a := by
              rcases hb b hbm a (List.mem_cons_self) with q | q
              · exact q
              · exact absurd ((hs a b).2 q.symm) e
            rcases hc x hx b hlast with q | q
            · exact htr q hba
            · subst q; exact hba
          refine ih _ (List.pairwise_append.2 ⟨ha, List.pairwise_singleton _ _, fun x hx y hy => by simp at hy; subst hy; exact hab x hx⟩) hl.2 ?_ ?_
          · intro x hx y hy
            rcases List.mem_append.1 hx with q | q
            · exact hb' x q y hy
            · simp at q; subst q; exact hl.1 y hy
          · intro x hx y hy
            simp at hy
            subst hy
            rcases List.mem_append.1 hx with q | q
            · exact .inl (hab x q)
            · simp at q; exact .inr q
  exact this l [] List.Pairwise.nil h (fun x hx => by cases hx) (fun x hx => by cases hx)
/-- From the cells to the list. -/
theorem flat_of {cs : α → List Value} {sz : Nat} (hc : ∀ x, (cs x).length = sz) {R : List α} {cur : Array Value} (h : ∀ i x j u, R[i]? = some x → (cs x)[j]? = some u → cur[i * sz + j]? = some u) : cur.toList.take (R.length * sz) = flatG cs R := by
  apply List.ext_getElem?
  intro t
  by_cases ht : t < R.length * sz
  · rw [List.getElem?_take_of_lt ht]
    have hsz : 0 < sz := by
      rcases Nat.eq_zero_or_pos sz with h0 | h0
      · rw [h0] at ht; simp at ht
      · exact h0
    have hq : t / sz < R.length := by rw [Nat.div_lt_iff_lt_mul hsz]; exact ht
    have hr : t % sz < sz := Nat.mod_lt _ hsz
    have htt : t = t / sz * sz + t % sz := by rw [Nat.mul_comm]; exact (Nat.div_add_mod t sz).symm
    have hx : R[t / sz]? = some (R[t / sz]'hq) := List.getElem?_eq_getElem hq
    have hj : t % sz < (cs (R[t / sz]'hq)).length := by rw [hc]; exact hr
    have h1 := h _ _ _ _ hx (List.getElem?_eq_getElem hj)
    have h2 := flatG_at hc R _ _ _ hx hr
    rw [← htt] at h1 h2
    rw [h2, List.getElem?_eq_getElem hj]
    simpa using h1
  · rw [List.getElem?_take, if_neg ht, List.getElem?_eq_none]
    rw [flatG_len hc]; omega
end
/-- One cell behind the other is set. -/
def putA (a : Array Value) (o : Nat) : List Value → Array Value
  | [] => a
  | v :: t => putA (a.setIfInBounds o v) (o + 1) t
theorem putA_size : ∀ (vs : List Value) (a : Array Value) (o : Nat), (putA a o vs).size = a.size
  | [], _, _ => rfl
  | v :: t, a, o => by rw [putA, putA_size]; simp
theorem putA_out : ∀ (vs : List Value) (a : Array Value) (o t : Nat), (t < o ∨ o + vs.length ≤ t) → (putA a o vs)[t]? = a[t]?
  | [], _, _, _, _ => rfl
  | v :: r, a, o, t, h => by
    rw [putA, putA_out r _ _ _ (by simp only [List.length_cons] at h; omega), Array.getElem?_setIfInBounds_ne]
    simp only [List.length_cons] at h; omega
theorem putA_in : ∀ (vs : List Value) (a : Array Value) (o j : Nat) (u : Value), o + vs.length ≤ a.size → vs[j]? = some u → (putA a o vs)[o + j]? = some u
  | [], _, _, _, _, _, h => by simp at h
  | v :: r, a, o, 0, u, hs, h => by
    simp only [List.length_cons] at hs
    rw [putA, putA_out r _ _ _ (.inl (by omega))]
    simp at h
    subst h
    rw [Nat.add_zero, Array.getElem?_setIfInBounds_self_of_lt (by omega)]
  | v :: r, a, o, j + 1, u, hs, h => by
    simp only [List.length_cons] at hs
    rw [putA, show o + (j + 1) = (o + 1) + j by omega]
    exact putA_in r _ _ _ _ (by rw [Array.size_setIfInBounds]; omega) (by simpa using h)
def putW (W : World) (g o : Nat) : List Value → World
  | [] => W
  | v :: t => putW (W.setCell ⟨g, o, none⟩ v) g (o + 1) t
theorem putW_heap {E : TypeId} {g : Nat} : ∀ (vs : List Value) (W : World) (a : Array Value) (o : Nat), W.heap[g]? = some (.cells a E (0, 0)) → (putW W g o vs).heap[g]? = some (.cells (putA a o vs) E (0, 0))
  | [], _, _, _, h => h
  | v :: t, W, a, o, h => putW_heap t _ _ _ (heap_setCell_same W g o a E v h)
theorem putW_mut {S : Nat → Prop} {g : Nat} {w : World} (hg : S g) : ∀ (vs : List Value) (W : World) (o : Nat), Mut S w W → Mut S w (putW W g o vs)
  | [], _, _, h => h
  | v :: t, W, o, h => putW_mut hg t _ _ (Mut.set h (.inl hg) v)
end Go.Proofs.YtcjanaldjokllaaGreat
