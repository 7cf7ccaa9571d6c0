/- The contract of aggs.table: all functions, each with the kinds of its places, how many arguments it takes at most, whether faults of its items come first, and what is called. New memory alone is made. -/
import Derived.Test.YtmfbplicakappaaGreatDoorQNT1
import Derived.Test.YtmfbplicakappaaGreatDoorQNR
import Derived.Deep.MidRow
import Derived.Laws.EntriesVeiled
import Derived.Laws.Tables
namespace Go.Proofs.YtmfbplicakappaaGreatDoor
open Go.RowKit
set_option linter.all false
theorem below_setCells {n : Nat} {w : World} {b : Nat} (hb : n ≤ b) : ∀ (vs : List Value) (o : Nat) (W : World), Below n w W → Below n w (W.setCells b o vs)
  | [], _, _, h => h
  | _ :: vs, o, W, h => below_setCells hb vs (o + 1) _ (h.setCell hb _)
theorem Own.there {W : World} {b n : Nat} {A : Array Value} (h : Own W b A) (hn : n ≤ A.size) : W.there b 0 n := fun j hj =>
  ⟨by rw [Nat.zero_add, h.cell, Array.getElem?_eq_getElem (by omega)]; rfl, h.fro _⟩
theorem results_cell1 {fn : Func} {p : Tmp} {ty : TypeId} (h : fn.results = #[.cell p ty]) (tmps : Array Value) (P : Program) (w : World) :
    (results fn tmps).run P w = ((asAddr (tmps.getD p undef)).run P w).andThen fun a w₁ => (loadVar ty a).run P w₁ := by
  simp only [results, h]
  simp [Sem.run_bind, Result.andThen]
/-- The function value at block b: what is called of all numbers. -/
def AllV (w : World) (f : Value) (b : Nat) : Prop := Own w b #[f]
/-- The like, but of no numbers nothing is found. -/
def SomeV (w : World) (f : Value) (b : Nat) : Prop := ∃ c : Nat, Own w b #[.func (.func 116) #[] #[.pointer (some ⟨c, 0, none⟩)]] ∧ Own w c #[f]
theorem AllV.keep {w w' : World} {f : Value} {b : Nat} (h : AllV w f b) (hb : Below w.heap.size w w') : AllV w' f b := Own.keep h hb
theorem SomeV.keep {w w' : World} {f : Value} {b : Nat} (h : SomeV w f b) (hb : Below w.heap.size w w') : SomeV w' f b := by
  obtain ⟨c, h1, h2⟩ := h
  exact ⟨c, h1.keep hb, h2.keep hb⟩
theorem ofall (k : Nat) (lb : Array Value) (w : World) : Calls Tryz.prog 77 #[.func (.func k) #[] lb] w fun e w' => (∃ b, e = .returned (.func (.func 110) #[] #[.pointer (some ⟨b, 0, none⟩)]) ∧ AllV w' (.func (.func k) #[] lb) b) ∧ Below w.heap.size w w' := by
  go_enter Tryz.func77, Tryz.ntmps77
  go_wp2
  go_ret
  exact ⟨⟨w.heap.size, rfl, Own.new _ _ _⟩, by with_reducible (repeat' first | assumption | exact Below.refl _ _ | refine Below.drew ?_ | refine bdrewN ?_ _ | refine Below.setCell ?_ (by first | exact Nat.le_refl _ | (simp; done) | (simp; omega) | omega) _ | refine Below.alloc ?_ (by first | exact Nat.le_refl _ | (simp; done) | (simp; omega) | omega) _)⟩
theorem ofsome (k : Nat) (w : World) : Calls Tryz.prog 80 #[.func (.func k) #[] #[]] w fun e w' => (∃ b, e = .returned (.func (.func 110) #[] #[.pointer (some ⟨b, 0, none⟩)]) ∧ SomeV w' (.func (.func k) #[] #[]) b) ∧ Below w.heap.size w w' := by
  go_enter Tryz.func80, Tryz.ntmps80
  go_wp2_with (go_at_call 77; refine (ofall _ _ _).mono ?_; rintro e w1 ⟨⟨b, rfl, ha⟩, hb⟩)
  go_ret
  exact ⟨⟨b, rfl, _, ha, Own.keep (Own.new _ _ _) hb⟩, bup (by with_reducible (repeat' first | assumption | exact Below.refl _ _ | refine Below.drew ?_ | refine bdrewN ?_ _ | refine Below.setCell ?_ (by first | exact Nat.le_refl _ | (simp; done) | (simp; omega) | omega) _ | refine Below.alloc ?_ (by first | exact Nat.le_refl _ | (simp; done) | (simp; omega) | omega) _)) hb⟩
/-- All rows of the table. -/
def tabA (b0 b1 b2 b3 b4 b5 b6 : Nat) : Array Value := #[.string ⟨#[120]⟩, .int .i64 16, .bool true, .func (.func 110) #[] #[.pointer (some ⟨b0, 0, none⟩)], .string ⟨#[120]⟩, .int .i64 16, .bool true, .func (.func 110) #[] #[.pointer (some ⟨b1, 0, none⟩)], .string ⟨#[120]⟩, .int .i64 16, .bool true, .func (.func 110) #[] #[.pointer (some ⟨b2, 0, none⟩)], .string ⟨#[120]⟩, .int .i64 16, .bool true, .func (.func 110) #[] #[.pointer (some ⟨b3, 0, none⟩)], .string ⟨#[120]⟩, .int .i64 16, .bool true, .func (.func 110) #[] #[.pointer (some ⟨b4, 0, none⟩)], .string ⟨#[120]⟩, .int .i64 16, .bool true, .func (.func 110) #[] #[.pointer (some ⟨b5, 0, none⟩)], .string ⟨#[120]⟩, .int .i64 16, .bool false, .func (.func 110) #[] #[.pointer (some ⟨b6, 0, none⟩)], .string ⟨#[120]⟩, .int .i64 16, .bool false, .func (.func 86) #[] #[], .string ⟨#[114]⟩, .int .i64 1, .bool false, .func (.func 87) #[] #[], .string ⟨#[114, 118]⟩, .int .i64 2, .bool false, .func (.func 88) #[] #[], .string ⟨#[114, 118, 114]⟩, .int .i64 3, .bool false, .func (.func 89) #[] #[], .string ⟨#[118, 114]⟩, .int .i64 2, .bool false, .func (.func 90) #[] #[], .string ⟨#[118, 114, 114]⟩, .int .i64 3, .bool false, .func (.func 91) #[] #[], .string ⟨#[114, 110, 110]⟩, .int .i64 3, .bool false, .func (.func 92) #[] #[], .string ⟨#[114, 110]⟩, .int .i64 2, .bool true, .func (.func 93) #[] #[], .string ⟨#[118, 120]⟩, .int .i64 16, .bool true, .func (.func 94) #[] #[], .string ⟨#[114]⟩, .int .i64 1, .bool false, .func (.func 95) #[] #[], .string ⟨#[114]⟩, .int .i64 1, .bool false, .func (.func 96) #[] #[]]
/-- The boxes of what is called. -/
structure TabW (b0 b1 b2 b3 b4 b5 b6 : Nat) (w : World) : Prop where
  h0 : AllV w (.func (.func 78) #[] #[]) b0
  h1 : AllV w (.func (.func 79) #[] #[]) b1
  h2 : SomeV w (.func (.func 81) #[] #[]) b2
  h3 : SomeV w (.func (.func 82) #[] #[]) b3
  h4 : SomeV w (.func (.func 83) #[] #[]) b4
  h5 : SomeV w (.func (.func 84) #[] #[]) b5
  h6 : AllV w (.func (.func 85) #[] #[]) b6
theorem TabW.keep {b0 b1 b2 b3 b4 b5 b6 : Nat} {w w' : World} (h : TabW b0 b1 b2 b3 b4 b5 b6 w) (hb : Below w.heap.size w w') : TabW b0 b1 b2 b3 b4 b5 b6 w' := ⟨h.h0.keep hb, h.h1.keep hb, h.h2.keep hb, h.h3.keep hb, h.h4.keep hb, h.h5.keep hb, h.h6.keep hb⟩
theorem Own.cells {W : World} {b : Nat} {A : Array Value} (h : Own W b A) {c : Nat} (hn : c ≠ b) : ∀ (vs : List Value) (o : Nat) (W' : World), Own W' b A → Own (W'.setCells c o vs) b A
  | [], _, _, h => h
  | _ :: vs, o, W', h' => Own.cells h hn vs (o + 1) _ (h'.aside (fun e => hn e.symm) _)
theorem own_ne {W : World} {b c : Nat} {A B : Array Value} (h : Own W b A) (h' : Own W c B) (hs : A.size = 1) (hs2 : 1 < B.size) : c ≠ b := by
  rintro rfl
  have h1 := h.cell 1
  rw [h'.cell 1, Array.getElem?_eq_getElem hs2, Array.getElem?_eq_none (by omega)] at h1
  cases h1
theorem AllV.cells {W : World} {b : Nat} {f : Value} (h : AllV W f b) {c : Nat} {B : Array Value} (h' : Own W c B) (hs2 : 1 < B.size) (vs : List Value) : AllV (W.setCells c 0 vs) f b := Own.cells h (own_ne h h' rfl hs2) vs 0 W h
theorem SomeV.cells {W : World} {b : Nat} {f : Value} (h : SomeV W f b) {c : Nat} {B : Array Value} (h' : Own W c B) (hs2 : 1 < B.size) (vs : List Value) : SomeV (W.setCells c 0 vs) f b := by
  obtain ⟨d, h1, h2⟩ := h
  exact ⟨d, Own.cells h1 (own_ne h1 h' rfl hs2) vs 0 W h1, Own.cells h2 (own_ne h2 h' rfl hs2) vs 0 W h2⟩
theorem table_end (A : Array Value) (hA : (Tryz.prog.info? 90).map (·.size) = some A.toList.length) (W : World) (B : Nat) (tmps : Array Value) (hp : tmps.getD 0 undef = .pointer (some ⟨B, 0, none⟩)) (ht : W.there B 0 A.toList.length) : (results Tryz.f53 tmps).run Tryz.prog (W.setCells B 0 A.toList) = .ok (.agg A) (W.setCells B 0 A.toList) := by
  have h := run_loadVar_mid (P := Tryz.prog) _ B 0 90 A.toList _ (World.rangeAt_setCells_same W B 0 A.toList ht) Tryz.underlying90 rfl hA
  rw [Array.toArray_toList] at h
  generalize W.setCells B 0 A.toList = W' at h ⊢
  rw [results_cell1 (p := 0) (ty := 90) rfl, hp]
  have e : (asAddr (.pointer (some ⟨B, 0, none⟩))).run Tryz.prog W' = .ok ⟨B, 0, none⟩ W' := rfl
  rw [e, Result.andThen_ok, h]
theorem wp_build_is {P : Program} {o : Oper} {a : Act} {w : World} {K : Act → World → Prop} {Q : Exit → Act → World → Prop} (t : TypeId) (parts : Array (Nat × Operand)) (cells : Array Value) (ho : o.op = .build t parts)
    (hc : P.built t (parts.map fun (i, x) => (i, a.eval x)).toList = some cells) (h : K (a.put o.dst (.agg cells)) w) : o.wp P a w K Q := by
  unfold Oper.wp execOp
  simp only [ho, Sem.run_bind, run_build w t _ cells hc, Result.andThen_ok]
  exact h
set_option maxRecDepth 100000 in
set_option maxHeartbeats 4000000 in
theorem table_any (w : World) : Calls Tryz.prog 53 #[] w fun e w' => (∃ b0 b1 b2 b3 b4 b5 b6, e = .returned (.agg (tabA b0 b1 b2 b3 b4 b5 b6)) ∧ TabW b0 b1 b2 b3 b4 b5 b6 w') ∧ Below w.heap.size w w' := by
  have t0 : True := trivial
  have t1 : True := trivial
  have t2 : True := trivial
  have t3 : True := trivial
  have t4 : True := trivial
  have t5 : True := trivial
  have t6 : True := trivial
  go_enter Tryz.func53, Tryz.ntmps53
  iterate 94 first
    | (go_at_call 77; clear t0; refine (ofall 78 #[] _).mono ?_; rintro e w0 ⟨⟨b0, rfl, hv0⟩, hb0⟩; have hB0 : Below w.heap.size w w0 := bup (by with_reducible (repeat' first | assumption | exact Below.refl _ _ | refine Below.drew ?_ | refine bdrewN ?_ _ | refine Below.setCell ?_ (by first | exact Nat.le_refl _ | (simp; done) | (simp; omega) | omega) _ | refine Below.alloc ?_ (by first | exact Nat.le_refl _ | (simp; done) | (simp; omega) | omega) _)) hb0; have z0 := hB0.size; have o0 : Own w0 w.heap.size Tryz.zeroCells90 := Own.keep (by with_reducible (repeat' first | assumption | refine Own.drew ?_ | (refine Own.at ?_; first | rfl | (simp; done)) | refine Own.past ?_ _)) hb0; dsimp only)
    | (go_at_call 77; clear t1; refine (ofall 79 #[] _).mono ?_; rintro e w1 ⟨⟨b1, rfl, hv1⟩, hb1⟩; have hB1 : Below w.heap.size w w1 := bup (by with_reducible (repeat' first | assumption | exact Below.refl _ _ | refine Below.drew ?_ | refine bdrewN ?_ _ | refine Below.setCell ?_ (by first | exact Nat.le_refl _ | (simp; done) | (simp; omega) | omega) _ | refine Below.alloc ?_ (by first | exact Nat.le_refl _ | (simp; done) | (simp; omega) | omega) _)) hb1; have z1 := hB1.size; have o1 : Own w1 w.heap.size Tryz.zeroCells90 := Own.keep (by with_reducible (repeat' first | assumption | refine Own.drew ?_ | (refine Own.at ?_; first | rfl | (simp; done)) | refine Own.past ?_ _)) hb1; dsimp only)
    | (go_at_call 80; clear t2; refine (ofsome 81 _).mono ?_; rintro e w2 ⟨⟨b2, rfl, hv2⟩, hb2⟩; have hB2 : Below w.heap.size w w2 := bup (by with_reducible (repeat' first | assumption | exact Below.refl _ _ | refine Below.drew ?_ | refine bdrewN ?_ _ | refine Below.setCell ?_ (by first | exact Nat.le_refl _ | (simp; done) | (simp; omega) | omega) _ | refine Below.alloc ?_ (by first | exact Nat.le_refl _ | (simp; done) | (simp; omega) | omega) _)) hb2; have z2 := hB2.size; have o2 : Own w2 w.heap.size Tryz.zeroCells90 := Own.keep (by with_reducible (repeat' first | assumption | refine Own.drew ?_ | (refine Own.at ?_; first | rfl | (simp; done)) | refine Own.past ?_ _)) hb2; dsimp only)
    | (go_at_call 80; clear t3; refine (ofsome 82 _).mono ?_; rintro e w3 ⟨⟨b3, rfl, hv3⟩, hb3⟩; have hB3 : Below w.heap.size w w3 := bup (by with_reducible (repeat' first | assumption | exact Below.refl _ _ | refine Below.drew ?_ | refine bdrewN ?_ _ | refine Below.setCell ?_ (by first | exact Nat.le_refl _ | (simp; done) | (simp; omega) | omega) _ | refine Below.alloc ?_ (by first | exact Nat.le_refl _ | (simp; done) | (simp; omega) | omega) _)) hb3; have z3 := hB3.size; have o3 : Own w3 w.heap.size Tryz.zeroCells90 := Own.keep (by with_reducible (repeat' first | assumption | refine Own.drew ?_ | (refine Own.at ?_; first | rfl | (simp; done)) | refine Own.past ?_ _)) hb3; dsimp only)
    | (go_at_call 80; clear t4; refine (ofsome 83 _).mono ?_; rintro e w4 ⟨⟨b4, rfl, hv4⟩, hb4⟩; have hB4 : Below w.heap.size w w4 := bup (by with_reducible (repeat' first | assumption | exact Below.refl _ _ | refine Below.drew ?_ | refine bdrewN ?_ _ | refine Below.setCell ?_ (by first | exact Nat.le_refl _ | (simp; done) | (simp; omega) | omega) _ | refine Below.alloc ?_ (by first | exact Nat.le_refl _ | (simp; done) | (simp; omega) | omega) _)) hb4; have z4 := hB4.size; have o4 : Own w4 w.heap.size Tryz.zeroCells90 := Own.keep (by with_reducible (repeat' first | assumption | refine Own.drew ?_ | (refine Own.at ?_; first | rfl | (simp; done)) | refine Own.past ?_ _)) hb4; dsimp only)
    | (go_at_call 80; clear t5; refine (ofsome 84 _).mono ?_; rintro e w5 ⟨⟨b5, rfl, hv5⟩, hb5⟩; have hB5 : Below w.heap.size w w5 := bup (by with_reducible (repeat' first | assumption | exact Below.refl _ _ | refine Below.drew ?_ | refine bdrewN ?_ _ | refine Below.setCell ?_ (by first | exact Nat.le_refl _ | (simp; done) | (simp; omega) | omega) _ | refine Below.alloc ?_ (by first | exact Nat.le_refl _ | (simp; done) | (simp; omega) | omega) _)) hb5; have z5 := hB5.size; have o5 : Own w5 w.heap.size Tryz.zeroCells90 := Own.keep (by with_reducible (repeat' first | assumption | refine Own.drew ?_ | (refine Own.at ?_; first | rfl | (simp; done)) | refine Own.past ?_ _)) hb5; dsimp only)
    | (go_at_call 77; clear t6; refine (ofall 85 #[] _).mono ?_; rintro e w6 ⟨⟨b6, rfl, hv6⟩, hb6⟩; have hB6 : Below w.heap.size w w6 := bup (by with_reducible (repeat' first | assumption | exact Below.refl _ _ | refine Below.drew ?_ | refine bdrewN ?_ _ | refine Below.setCell ?_ (by first | exact Nat.le_refl _ | (simp; done) | (simp; omega) | omega) _ | refine Below.alloc ?_ (by first | exact Nat.le_refl _ | (simp; done) | (simp; omega) | omega) _)) hb6; have z6 := hB6.size; have o6 : Own w6 w.heap.size Tryz.zeroCells90 := Own.keep (by with_reducible (repeat' first | assumption | refine Own.drew ?_ | (refine Own.at ?_; first | rfl | (simp; done)) | refine Own.past ?_ _)) hb6; dsimp only)
    | go_step
  refine wp_build_is 90 _ (tabA b0 b1 b2 b3 b4 b5 b6) rfl (by kernel_rfl) ?_
  simp only [Act.put, List.getElem_toArray, List.setIfInBounds_toArray, List.set_cons_zero, List.set_cons_succ]
  go_step
  refine wpList_store_mid rfl 90 (.tmp 0) (.tmp 26) (by with_reducible rfl) w.heap.size 0 (tabA b0 b1 b2 b3 b4 b5 b6) rfl rfl (Own.there o6 (of_decide_eq_true (by kernel_rfl))) (by kernel_rfl) (by kernel_rfl) ?_
  repeat go_step
  have k0 := ((((((hv0.keep hb1).keep hb2).keep hb3).keep hb4).keep hb5).keep hb6)
  have k1 := (((((hv1.keep hb2).keep hb3).keep hb4).keep hb5).keep hb6)
  have k2 := ((((hv2.keep hb3).keep hb4).keep hb5).keep hb6)
  have k3 := (((hv3.keep hb4).keep hb5).keep hb6)
  have k4 := ((hv4.keep hb5).keep hb6)
  have k5 := (hv5.keep hb6)
  have k6 := hv6
  have hz : 1 < Tryz.zeroCells90.size := of_decide_eq_true (by kernel_rfl)
  refine bodyPost_ret (v := .agg (tabA b0 b1 b2 b3 b4 b5 b6)) (table_end (tabA b0 b1 b2 b3 b4 b5 b6) (by kernel_rfl) _ w.heap.size _ rfl (Own.there o6 (of_decide_eq_true (by kernel_rfl)))) rfl ⟨⟨b0, b1, b2, b3, b4, b5, b6, rfl, ⟨k0.cells o6 hz _, k1.cells o6 hz _, k2.cells o6 hz _, k3.cells o6 hz _, k4.cells o6 hz _, k5.cells o6 hz _, k6.cells o6 hz _⟩⟩, below_setCells (Nat.le_refl _) _ _ _ hB6⟩
end Go.Proofs.YtmfbplicakappaaGreatDoor
