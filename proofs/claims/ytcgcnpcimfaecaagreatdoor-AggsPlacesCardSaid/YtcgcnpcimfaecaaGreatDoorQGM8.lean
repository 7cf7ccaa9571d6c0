/- The walk of the law AggsPlaces: of every argument that may be, the entry's number taken as it is. New memory alone is made. -/
import Derived.Test.YtcgcnpcimfaecaaGreatDoorQGMa
namespace Go.Proofs.YtcgcnpcimfaecaaGreatDoor
open Go.RowKit
set_option linter.all false
set_option maxRecDepth 100000 in
set_option maxHeartbeats 16000000 in
theorem places_p (t n : Int) (s : ByteArray) (b : Bool) (c r0 r1 r2 r3 : Int) (g o en ec : Nat) (es : List En) (wh : Int) (k : Nat) (x : En) (w : World) (hgl : g < w.heap.size) (HX : Hid (∀ j, j < 7 → w.cell? ⟨g, o + k * 7 + j, none⟩ = (En.cells x)[j]?)) (hE : Hid (AgE w ((⟨true, t, n, s, b, c, r0, r1, r2, r3, some ⟨g, o, none⟩, en, ec⟩ : Ag), es))) (hn : es.length = en) (hx : Hid (es[k]? = some x)) (hk : k < en) (HAL : Hid (∀ i y, es[i]? = some y → ∀ j, j < 7 → w.cell? ⟨g, o + i * 7 + j, none⟩ = (En.cells y)[j]?)) (hec : en ≤ ec) (hm : Hid (mnB ((⟨true, t, n, s, b, c, r0, r1, r2, r3, some ⟨g, o, none⟩, en, ec⟩ : Ag), es) = false)) (h1 : 0 ≤ r0) (h2 : r0 ≤ r2) (h3 : r2 ≤ 1048576) (h4 : 0 ≤ r1) (h5 : r1 ≤ r3) (h6 : r3 ≤ 1048576) (b1 : r0 ≤ x.r) (b2 : x.r ≤ r2) (b3 : r1 ≤ x.k) (b4 : x.k ≤ r3) (hr : wh.tmod (en : Int) = (k : Int)) (mt mn : Int) (ms : ByteArray) (mb : Bool) (mc : Int) (HI : Hid (∀ (W : World) (v : Value), AV W v [(⟨true, t, n, s, b, c, r0, r1, r2, r3, some ⟨g, o, none⟩, en, ec⟩ : Ag), oneW (x.r - r0 + 1), oneW (x.k - r1 + 1)] → Below w.heap.size w W → Calls Tryz.prog 9 #[.string ⟨#[73, 78, 68, 69, 88]⟩, v, .int .i64 0] W fun e w' => e = .returned (.agg #[.int .i64 x.t, .int .i64 x.n, .string x.s, .bool x.b, .int .i64 x.c]) ∧ Below W.heap.size W w')) (HM : Hid (∀ (W : World) (v : Value), AV W v [oneV x.t x.n x.s x.b x.c, (⟨true, t, n, s, b, c, r0, r1, r2, r3, some ⟨g, o, none⟩, en, ec⟩ : Ag)] → Below w.heap.size w W → Calls Tryz.prog 9 #[.string ⟨#[77, 65, 84, 67, 72]⟩, v, .int .i64 0] W fun e w' => e = .returned (.agg #[.int .i64 mt, .int .i64 mn, .string ms, .bool mb, .int .i64 mc]) ∧ Below W.heap.size W w')) (HF4 : Hid (x.t = 4 → mt = x.t ∧ mn = x.n ∧ ms = x.s ∧ mb = x.b ∧ mc = x.c)) (HFn : Hid (¬ x.t = 4 → lineB r0 r1 r2 r3 = false → mt = 4 ∧ mn = 0 ∧ ms = ⟨#[]⟩ ∧ mb = false ∧ mc = 8)) (HFl : Hid (¬ x.t = 4 → lineB r0 r1 r2 r3 = true → ∃ q : Nat, mt = 1 ∧ mn = ((q : Int) + 1) * 10000 ∧ ms = ⟨#[]⟩ ∧ mb = false ∧ mc = 0 ∧ Ln r0 r1 r2 r3 es ∧ At1 r0 r1 r2 r3 es x.t x.n x.s x.b x.c q ∧ (q : Int) ≤ plE r0 r1 x)) (HL : Hid (¬ x.t = 4 → lineB r0 r1 r2 r3 = true → Hid (∀ (W : World) (v : Value), AV W v [oneV x.t x.n x.s x.b x.c, (⟨true, t, n, s, b, c, r0, r1, r2, r3, some ⟨g, o, none⟩, en, ec⟩ : Ag), (⟨true, t, n, s, b, c, r0, r1, r2, r3, some ⟨g, o, none⟩, en, ec⟩ : Ag)] → Below w.heap.size w W → Calls Tryz.prog 9 #[.string ⟨#[76, 79, 79, 75, 85, 80]⟩, v, .int .i64 0] W fun e w' => e = .returned (.agg #[.int .i64 x.t, .int .i64 x.n, .string x.s, .bool x.b, .int .i64 x.c]) ∧ Below W.heap.size W w'))) : Calls Tryz.prog 8 #[.agg #[.bool true, .int .i64 t, .int .i64 n, .string s, .bool b, .int .i64 c, .int .i64 r0, .int .i64 r1, .int .i64 r2, .int .i64 r3, .slice (some ⟨g, o, none⟩) en ec], .int .i64 wh] w fun e w' => e = .returned (.bool true) ∧ Below w.heap.size w w' := by
  have mixed : Tryz.prog.follows .mixedOrders = true := by kernel_rfl
  have ha : Hid (∀ W, Below w.heap.size w W → Calls Tryz.prog 21 #[.agg #[.bool true, .int .i64 t, .int .i64 n, .string s, .bool b, .int .i64 c, .int .i64 r0, .int .i64 r1, .int .i64 r2, .int .i64 r3, .slice (some ⟨g, o, none⟩) en ec]] W fun e w' => e = .returned (.bool true) ∧ Below W.heap.size W w') := (show _ from fun W hb => by have h := darg_m (⟨true, t, n, s, b, c, r0, r1, r2, r3, some ⟨g, o, none⟩, en, ec⟩ : Ag) es W rfl (View.keep hE.out.vw hb) hE.out.en (by have := hE.out.few; simp only at this; omega); rw [hm.out] at h; exact h)
  have HN : Hid (es.length = en) := hn
  have h9 : (en : Int) ≤ 1099511627776 := by have := hE.out.few; simp only at this; omega
  clear hn
  have gi : Hid (IntKind.i64.wrap ((x.r - r0 + 1) * 10000) = (x.r - r0 + 1) * 10000) := (wi64 (by omega) (by omega)).2
  have gj : Hid (IntKind.i64.wrap ((x.k - r1 + 1) * 10000) = (x.k - r1 + 1) * 10000) := (wi64 (by omega) (by omega)).2
  have e33 : Hid (#[.bool true, .int .i64 t, .int .i64 n, .string s, .bool b, .int .i64 c, .int .i64 r0, .int .i64 r1, .int .i64 r2, .int .i64 r3, .slice (some ⟨g, o, none⟩) en ec, .bool false, .int .i64 1, .int .i64 ((x.r - r0 + 1) * 10000), .string ⟨#[]⟩, .bool false, .int .i64 0, .int .i64 0, .int .i64 0, .int .i64 0, .int .i64 0, .slice none 0 0, .bool false, .int .i64 1, .int .i64 ((x.k - r1 + 1) * 10000), .string ⟨#[]⟩, .bool false, .int .i64 0, .int .i64 0, .int .i64 0, .int .i64 0, .int .i64 0, .slice none 0 0] = Ag.cells (⟨true, t, n, s, b, c, r0, r1, r2, r3, some ⟨g, o, none⟩, en, ec⟩ : Ag) ++ Ag.cells (oneW (x.r - r0 + 1)) ++ Ag.cells (oneW (x.k - r1 + 1))) := (show _ = _ from by simp [Ag.cells, oneW, oneV])
  have e22 : Hid (#[.bool false, .int .i64 x.t, .int .i64 x.n, .string x.s, .bool x.b, .int .i64 x.c, .int .i64 0, .int .i64 0, .int .i64 0, .int .i64 0, .slice none 0 0, .bool true, .int .i64 t, .int .i64 n, .string s, .bool b, .int .i64 c, .int .i64 r0, .int .i64 r1, .int .i64 r2, .int .i64 r3, .slice (some ⟨g, o, none⟩) en ec] = Ag.cells (oneV x.t x.n x.s x.b x.c) ++ Ag.cells (⟨true, t, n, s, b, c, r0, r1, r2, r3, some ⟨g, o, none⟩, en, ec⟩ : Ag)) := (show _ = _ from by simp [Ag.cells, oneV])
  have e222 : Hid (#[.bool false, .int .i64 x.t, .int .i64 x.n, .string x.s, .bool x.b, .int .i64 x.c, .int .i64 0, .int .i64 0, .int .i64 0, .int .i64 0, .slice none 0 0, .bool true, .int .i64 t, .int .i64 n, .string s, .bool b, .int .i64 c, .int .i64 r0, .int .i64 r1, .int .i64 r2, .int .i64 r3, .slice (some ⟨g, o, none⟩) en ec, .bool true, .int .i64 t, .int .i64 n, .string s, .bool b, .int .i64 c, .int .i64 r0, .int .i64 r1, .int .i64 r2, .int .i64 r3, .slice (some ⟨g, o, none⟩) en ec] = Ag.cells (oneV x.t x.n x.s x.b x.c) ++ Ag.cells (⟨true, t, n, s, b, c, r0, r1, r2, r3, some ⟨g, o, none⟩, en, ec⟩ : Ag) ++ Ag.cells (⟨true, t, n, s, b, c, r0, r1, r2, r3, some ⟨g, o, none⟩, en, ec⟩ : Ag)) := (show _ = _ from by simp [Ag.cells, oneV])
  have hne := neS x.t x.n x.s x.b x.c
  have t0 : True := trivial
  have t1 : True := trivial
  have t2 : True := trivial
  have t3 : True := trivial
  go_enter Tryz.func8, Tryz.ntmps8
  go_wp2_with (first | (go_at_call 11; refine (known_law _).mono ?_; rintro e wk ⟨rfl, hbwk⟩; have hBwk : Below w.heap.size w wk := bup (by with_reducible (repeat' first | assumption | exact Below.refl _ _ | refine Below.drew ?_ | refine bdrewN ?_ _ | refine Below.setCell ?_ (by first | exact Nat.le_refl _ | (simp; done) | (simp; omega) | omega) _ | refine Below.alloc ?_ (by first | exact Nat.le_refl _ | (simp; done) | (simp; omega) | omega) _)) hbwk; have zwk := hBwk.size; have o0wk : Own wk (w.heap.size) #[.bool true, .int .i64 t, .int .i64 n, .string s, .bool b, .int .i64 c, .int .i64 r0, .int .i64 r1, .int .i64 r2, .int .i64 r3, .slice (some ⟨g, o, none⟩) en ec] := Own.keep (by with_reducible (repeat' first | assumption | refine Own.drew ?_ | refine Own.drewN ?_ _ | (refine Own.at ?_; first | rfl | (simp; done)) | refine Own.past ?_ _)) hbwk; have c0 := o0wk.cell; have f0 := o0wk.fro; have l0 := o0wk.lt) | (go_at_call 21; refine (ha.out _ (by with_reducible (repeat' first | assumption | exact Below.refl _ _ | refine Below.drew ?_ | refine bdrewN ?_ _ | refine Below.setCell ?_ (by first | exact Nat.le_refl _ | (simp; done) | (simp; omega) | omega) _ | refine Below.alloc ?_ (by first | exact Nat.le_refl _ | (simp; done) | (simp; omega) | omega) _))).mono ?_; rintro e wb ⟨rfl, hbwb⟩; have hBwb : Below w.heap.size w wb := bup (by with_reducible (repeat' first | assumption | exact Below.refl _ _ | refine Below.drew ?_ | refine bdrewN ?_ _ | refine Below.setCell ?_ (by first | exact Nat.le_refl _ | (simp; done) | (simp; omega) | omega) _ | refine Below.alloc ?_ (by first | exact Nat.le_refl _ | (simp; done) | (simp; omega) | omega) _)) hbwb; have zwb := hBwb.size; have o0wb : Own wb (w.heap.size) #[.bool true, .int .i64 t, .int .i64 n, .string s, .bool b, .int .i64 c, .int .i64 r0, .int .i64 r1, .int .i64 r2, .int .i64 r3, .slice (some ⟨g, o, none⟩) en ec] := Own.keep (by with_reducible (repeat' first | assumption | refine Own.drew ?_ | refine Own.drewN ?_ _ | (refine Own.at ?_; first | rfl | (simp; done)) | refine Own.past ?_ _)) hbwb; have c0 := o0wb.cell; have f0 := o0wb.fro; have l0 := o0wb.lt; have y0 : wb.cell? ⟨g, o + k * 7, none⟩ = some (.int .i64 x.r) := (hBwb.cell (p := ⟨g, o + k * 7, none⟩) hgl).trans (HX.out 0 (by decide)); have y1 : wb.cell? ⟨g, o + k * 7 + 1, none⟩ = some (.int .i64 x.k) := (hBwb.cell (p := ⟨g, o + k * 7 + 1, none⟩) hgl).trans (HX.out 1 (by decide)); have y2 : wb.cell? ⟨g, o + k * 7 + 2, none⟩ = some (.int .i64 x.t) := (hBwb.cell (p := ⟨g, o + k * 7 + 2, none⟩) hgl).trans (HX.out 2 (by decide)); have y3 : wb.cell? ⟨g, o + k * 7 + 3, none⟩ = some (.int .i64 x.n) := (hBwb.cell (p := ⟨g, o + k * 7 + 3, none⟩) hgl).trans (HX.out 3 (by decide)); have y4 : wb.cell? ⟨g, o + k * 7 + 4, none⟩ = some (.string x.s) := (hBwb.cell (p := ⟨g, o + k * 7 + 4, none⟩) hgl).trans (HX.out 4 (by decide)); have y5 : wb.cell? ⟨g, o + k * 7 + 5, none⟩ = some (.bool x.b) := (hBwb.cell (p := ⟨g, o + k * 7 + 5, none⟩) hgl).trans (HX.out 5 (by decide)); have y6 : wb.cell? ⟨g, o + k * 7 + 6, none⟩ = some (.int .i64 x.c) := (hBwb.cell (p := ⟨g, o + k * 7 + 6, none⟩) hgl).trans (HX.out 6 (by decide))))
  go_region_held3 (fun w' => w'.cell? ⟨w.heap.size, 0, none⟩ = some (.bool true) ∧ w'.cell? ⟨w.heap.size, 1, none⟩ = some (.int .i64 t) ∧ w'.cell? ⟨w.heap.size, 2, none⟩ = some (.int .i64 n) ∧ w'.cell? ⟨w.heap.size, 3, none⟩ = some (.string s) ∧ w'.cell? ⟨w.heap.size, 4, none⟩ = some (.bool b) ∧ w'.cell? ⟨w.heap.size, 5, none⟩ = some (.int .i64 c) ∧ w'.cell? ⟨w.heap.size, 6, none⟩ = some (.int .i64 r0) ∧ w'.cell? ⟨w.heap.size, 7, none⟩ = some (.int .i64 r1) ∧ w'.cell? ⟨w.heap.size, 8, none⟩ = some (.int .i64 r2) ∧ w'.cell? ⟨w.heap.size, 9, none⟩ = some (.int .i64 r3) ∧ w'.cell? ⟨w.heap.size, 10, none⟩ = some (.slice (some ⟨g, o, none⟩) en ec)) ((repeat' apply And.intro) <;> (first | (go_keep; done) | (go_simp; done))) (first | (go_at_call 19; clear t0; refine (number_any _ _).mono ?_; rintro e v0 ⟨rfl, hbv0⟩; have hBv0 : Below w.heap.size w v0 := bup (by with_reducible (repeat' first | assumption | exact Below.refl _ _ | refine Below.drew ?_ | refine bdrewN ?_ _ | refine Below.setCell ?_ (by first | exact Nat.le_refl _ | (simp; done) | (simp; omega) | omega) _ | refine Below.alloc ?_ (by first | exact Nat.le_refl _ | (simp; done) | (simp; omega) | omega) _)) hbv0; have zv0 := hBv0.size; have o0v0 : Own v0 (w.heap.size) #[.bool true, .int .i64 t, .int .i64 n, .string s, .bool b, .int .i64 c, .int .i64 r0, .int .i64 r1, .int .i64 r2, .int .i64 r3, .slice (some ⟨g, o, none⟩) en ec] := Own.keep (by with_reducible (repeat' first | assumption | refine Own.drew ?_ | refine Own.drewN ?_ _ | (refine Own.at ?_; first | rfl | (simp; done)) | refine Own.past ?_ _)) hbv0; have c0 := o0v0.cell; have f0 := o0v0.fro; have l0 := o0v0.lt; have o1v0 : Own v0 (wb.heap.size) #[.int .i64 x.r, .int .i64 x.k, .int .i64 x.t, .int .i64 x.n, .string x.s, .bool x.b, .int .i64 x.c] := Own.keep (by with_reducible (repeat' first | assumption | refine Own.drew ?_ | refine Own.drewN ?_ _ | (refine Own.at ?_; first | rfl | (simp; done)) | refine Own.past ?_ _)) hbv0; have c1 := o1v0.cell; have f1 := o1v0.fro; have l1 := o1v0.lt) | (go_at_call 20; clear t1; refine (single_any _ _ _ _ _ _).mono ?_; rintro e v1 ⟨rfl, hbv1⟩; have hBv1 : Below w.heap.size w v1 := bup (by with_reducible (repeat' first | assumption | exact Below.refl _ _ | refine Below.drew ?_ | refine bdrewN ?_ _ | refine Below.setCell ?_ (by first | exact Nat.le_refl _ | (simp; done) | (simp; omega) | omega) _ | refine Below.alloc ?_ (by first | exact Nat.le_refl _ | (simp; done) | (simp; omega) | omega) _)) hbv1; have zv1 := hBv1.size; have o0v1 : Own v1 (w.heap.size) #[.bool true, .int .i64 t, .int .i64 n, .string s, .bool b, .int .i64 c, .int .i64 r0, .int .i64 r1, .int .i64 r2, .int .i64 r3, .slice (some ⟨g, o, none⟩) en ec] := Own.keep (by with_reducible (repeat' first | assumption | refine Own.drew ?_ | refine Own.drewN ?_ _ | (refine Own.at ?_; first | rfl | (simp; done)) | refine Own.past ?_ _)) hbv1; have c0 := o0v1.cell; have f0 := o0v1.fro; have l0 := o0v1.lt; have o1v1 : Own v1 (wb.heap.size) #[.int .i64 x.r, .int .i64 x.k, .int .i64 x.t, .int .i64 x.n, .string x.s, .bool x.b, .int .i64 x.c] := Own.keep (by with_reducible (repeat' first | assumption | refine Own.drew ?_ | refine Own.drewN ?_ _ | (refine Own.at ?_; first | rfl | (simp; done)) | refine Own.past ?_ _)) hbv1; have c1 := o1v1.cell; have f1 := o1v1.fro; have l1 := o1v1.lt) | (go_at_call 19; clear t2; refine (number_any _ _).mono ?_; rintro e v2 ⟨rfl, hbv2⟩; have hBv2 : Below w.heap.size w v2 := bup (by with_reducible (repeat' first | assumption | exact Below.refl _ _ | refine Below.drew ?_ | refine bdrewN ?_ _ | refine Below.setCell ?_ (by first | exact Nat.le_refl _ | (simp; done) | (simp; omega) | omega) _ | refine Below.alloc ?_ (by first | exact Nat.le_refl _ | (simp; done) | (simp; omega) | omega) _)) hbv2; have zv2 := hBv2.size; have o0v2 : Own v2 (w.heap.size) #[.bool true, .int .i64 t, .int .i64 n, .string s, .bool b, .int .i64 c, .int .i64 r0, .int .i64 r1, .int .i64 r2, .int .i64 r3, .slice (some ⟨g, o, none⟩) en ec] := Own.keep (by with_reducible (repeat' first | assumption | refine Own.drew ?_ | refine Own.drewN ?_ _ | (refine Own.at ?_; first | rfl | (simp; done)) | refine Own.past ?_ _)) hbv2; have c0 := o0v2.cell; have f0 := o0v2.fro; have l0 := o0v2.lt; have o1v2 : Own v2 (wb.heap.size) #[.int .i64 x.r, .int .i64 x.k, .int .i64 x.t, .int .i64 x.n, .string x.s, .bool x.b, .int .i64 x.c] := Own.keep (by with_reducible (repeat' first | assumption | refine Own.drew ?_ | refine Own.drewN ?_ _ | (refine Own.at ?_; first | rfl | (simp; done)) | refine Own.past ?_ _)) hbv2; have c1 := o1v2.cell; have f1 := o1v2.fro; have l1 := o1v2.lt) | (go_at_call 20; clear t3; refine (single_any _ _ _ _ _ _).mono ?_; rintro e v3 ⟨rfl, hbv3⟩; have hBv3 : Below w.heap.size w v3 := bup (by with_reducible (repeat' first | assumption | exact Below.refl _ _ | refine Below.drew ?_ | refine bdrewN ?_ _ | refine Below.setCell ?_ (by first | exact Nat.le_refl _ | (simp; done) | (simp; omega) | omega) _ | refine Below.alloc ?_ (by first | exact Nat.le_refl _ | (simp; done) | (simp; omega) | omega) _)) hbv3; have zv3 := hBv3.size; have o0v3 : Own v3 (w.heap.size) #[.bool true, .int .i64 t, .int .i64 n, .string s, .bool b, .int .i64 c, .int .i64 r0, .int .i64 r1, .int .i64 r2, .int .i64 r3, .slice (some ⟨g, o, none⟩) en ec] := Own.keep (by with_reducible (repeat' first | assumption | refine Own.drew ?_ | refine Own.drewN ?_ _ | (refine Own.at ?_; first | rfl | (simp; done)) | refine Own.past ?_ _)) hbv3; have c0 := o0v3.cell; have f0 := o0v3.fro; have l0 := o0v3.lt; have o1v3 : Own v3 (wb.heap.size) #[.int .i64 x.r, .int .i64 x.k, .int .i64 x.t, .int .i64 x.n, .string x.s, .bool x.b, .int .i64 x.c] := Own.keep (by with_reducible (repeat' first | assumption | refine Own.drew ?_ | refine Own.drewN ?_ _ | (refine Own.at ?_; first | rfl | (simp; done)) | refine Own.past ?_ _)) hbv3; have c1 := o1v3.cell; have f1 := o1v3.fro; have l1 := o1v3.lt))
  rw [gi.out, gj.out]
  go_wp2
  go_region_held3 (fun w' => w'.cell? ⟨wb.heap.size, 2, none⟩ = some (.int .i64 x.t) ∧ w'.cell? ⟨wb.heap.size, 3, none⟩ = some (.int .i64 x.n) ∧ w'.cell? ⟨wb.heap.size, 4, none⟩ = some (.string x.s) ∧ w'.cell? ⟨wb.heap.size, 5, none⟩ = some (.bool x.b) ∧ w'.cell? ⟨wb.heap.size, 6, none⟩ = some (.int .i64 x.c)) ((repeat' apply And.intro) <;> (first | (go_keep; done) | (go_simp; done))) (first | (go_at_call 9; refine (HI.out _ _ (av_own3 (a := (⟨true, t, n, s, b, c, r0, r1, r2, r3, some ⟨g, o, none⟩, en, ec⟩ : Ag)) (b := oneW (x.r - r0 + 1)) (c := oneW (x.k - r1 + 1)) (g := v3.heap.size) (A := #[.bool true, .int .i64 t, .int .i64 n, .string s, .bool b, .int .i64 c, .int .i64 r0, .int .i64 r1, .int .i64 r2, .int .i64 r3, .slice (some ⟨g, o, none⟩) en ec, .bool false, .int .i64 1, .int .i64 ((x.r - r0 + 1) * 10000), .string ⟨#[]⟩, .bool false, .int .i64 0, .int .i64 0, .int .i64 0, .int .i64 0, .int .i64 0, .slice none 0 0, .bool false, .int .i64 1, .int .i64 ((x.k - r1 + 1) * 10000), .string ⟨#[]⟩, .bool false, .int .i64 0, .int .i64 0, .int .i64 0, .int .i64 0, .int .i64 0, .slice none 0 0]) (by with_reducible (repeat' first | assumption | refine Own.drew ?_ | refine Own.drewN ?_ _ | (refine Own.at ?_; first | rfl | (simp; done)) | refine Own.past ?_ _)) e33.out) (by with_reducible (repeat' first | assumption | exact Below.refl _ _ | refine Below.drew ?_ | refine bdrewN ?_ _ | refine Below.setCell ?_ (by first | exact Nat.le_refl _ | (simp; done) | (simp; omega) | omega) _ | refine Below.alloc ?_ (by first | exact Nat.le_refl _ | (simp; done) | (simp; omega) | omega) _))).mono ?_; rintro e v4 ⟨rfl, hbv4⟩; have hBv4 : Below w.heap.size w v4 := bup (by with_reducible (repeat' first | assumption | exact Below.refl _ _ | refine Below.drew ?_ | refine bdrewN ?_ _ | refine Below.setCell ?_ (by first | exact Nat.le_refl _ | (simp; done) | (simp; omega) | omega) _ | refine Below.alloc ?_ (by first | exact Nat.le_refl _ | (simp; done) | (simp; omega) | omega) _)) hbv4; have zv4 := hBv4.size; have o0v4 : Own v4 (w.heap.size) #[.bool true, .int .i64 t, .int .i64 n, .string s, .bool b, .int .i64 c, .int .i64 r0, .int .i64 r1, .int .i64 r2, .int .i64 r3, .slice (some ⟨g, o, none⟩) en ec] := Own.keep (by with_reducible (repeat' first | assumption | refine Own.drew ?_ | refine Own.drewN ?_ _ | (refine Own.at ?_; first | rfl | (simp; done)) | refine Own.past ?_ _)) hbv4; have c0 := o0v4.cell; have f0 := o0v4.fro; have l0 := o0v4.lt; have o1v4 : Own v4 (wb.heap.size) #[.int .i64 x.r, .int .i64 x.k, .int .i64 x.t, .int .i64 x.n, .string x.s, .bool x.b, .int .i64 x.c] := Own.keep (by with_reducible (repeat' first | assumption | refine Own.drew ?_ | refine Own.drewN ?_ _ | (refine Own.at ?_; first | rfl | (simp; done)) | refine Own.past ?_ _)) hbv4; have c1 := o1v4.cell; have f1 := o1v4.fro; have l1 := o1v4.lt))
  have q4 : wb.heap.size < v4.heap.size := o1v4.lt
  go_wp2
  go_region_held3 (fun w' => w'.cell? ⟨w.heap.size, 0, none⟩ = some (.bool true) ∧ w'.cell? ⟨w.heap.size, 1, none⟩ = some (.int .i64 t) ∧ w'.cell? ⟨w.heap.size, 2, none⟩ = some (.int .i64 n) ∧ w'.cell? ⟨w.heap.size, 3, none⟩ = some (.string s) ∧ w'.cell? ⟨w.heap.size, 4, none⟩ = some (.bool b) ∧ w'.cell? ⟨w.heap.size, 5, none⟩ = some (.int .i64 c) ∧ w'.cell? ⟨w.heap.size, 6, none⟩ = some (.int .i64 r0) ∧ w'.cell? ⟨w.heap.size, 7, none⟩ = some (.int .i64 r1) ∧ w'.cell? ⟨w.heap.size, 8, none⟩ = some (.int .i64 r2) ∧ w'.cell? ⟨w.heap.size, 9, none⟩ = some (.int .i64 r3) ∧ w'.cell? ⟨w.heap.size, 10, none⟩ = some (.slice (some ⟨g, o, none⟩) en ec) ∧ w'.cell? ⟨wb.heap.size, 2, none⟩ = some (.int .i64 x.t) ∧ w'.cell? ⟨wb.heap.size, 3, none⟩ = some (.int .i64 x.n) ∧ w'.cell? ⟨wb.heap.size, 4, none⟩ = some (.string x.s) ∧ w'.cell? ⟨wb.heap.size, 5, none⟩ = some (.bool x.b) ∧ w'.cell? ⟨wb.heap.size, 6, none⟩ = some (.int .i64 x.c)) ((repeat' apply And.intro) <;> (first | (go_keep; done) | (go_simp; done))) (first | (go_at_call 20; refine (single_any _ _ _ _ _ _).mono ?_; rintro e v5 ⟨rfl, hbv5⟩; have hBv5 : Below w.heap.size w v5 := bup (by with_reducible (repeat' first | assumption | exact Below.refl _ _ | refine Below.drew ?_ | refine bdrewN ?_ _ | refine Below.setCell ?_ (by first | exact Nat.le_refl _ | (simp; done) | (simp; omega) | omega) _ | refine Below.alloc ?_ (by first | exact Nat.le_refl _ | (simp; done) | (simp; omega) | omega) _)) hbv5; have zv5 := hBv5.size; have o0v5 : Own v5 (w.heap.size) #[.bool true, .int .i64 t, .int .i64 n, .string s, .bool b, .int .i64 c, .int .i64 r0, .int .i64 r1, .int .i64 r2, .int .i64 r3, .slice (some ⟨g, o, none⟩) en ec] := Own.keep (by with_reducible (repeat' first | assumption | refine Own.drew ?_ | refine Own.drewN ?_ _ | (refine Own.at ?_; first | rfl | (simp; done)) | refine Own.past ?_ _)) hbv5; have c0 := o0v5.cell; have f0 := o0v5.fro; have l0 := o0v5.lt; have o1v5 : Own v5 (wb.heap.size) #[.int .i64 x.r, .int .i64 x.k, .int .i64 x.t, .int .i64 x.n, .string x.s, .bool x.b, .int .i64 x.c] := Own.keep (by with_reducible (repeat' first | assumption | refine Own.drew ?_ | refine Own.drewN ?_ _ | (refine Own.at ?_; first | rfl | (simp; done)) | refine Own.past ?_ _)) hbv5; have c1 := o1v5.cell; have f1 := o1v5.fro; have l1 := o1v5.lt; have q5 : wb.heap.size < v5.heap.size := o1v5.lt; (try (refine with_fact (p := Own v5 (v4.heap.size) #[.int .i64 0, .int .i64 0, .string ⟨#[]⟩, .bool false, .int .i64 0]) ?_ ?_; (· (refine Own.keep ?_ hbv5; with_reducible (repeat' first | assumption | refine Own.drew ?_ | refine Own.drewN ?_ _ | (refine Own.at ?_; first | rfl | (simp; done)) | refine Own.past ?_ _); done)); intro o5; have c5 := o5.cell; have f5 := o5.fro; have l5 := o5.lt; have n5a : ¬ (v4.heap.size) = w.heap.size := (by omega); have m5a : ¬ w.heap.size = (v4.heap.size) := (by omega); have n5b : ¬ (v4.heap.size) = wb.heap.size := (by omega); have m5b : ¬ wb.heap.size = (v4.heap.size) := (by omega); have b5 : w.heap.size ≤ (v4.heap.size) := (by omega)))) | (go_at_call 9; refine (HM.out _ _ (av_own2 (a := oneV x.t x.n x.s x.b x.c) (b := (⟨true, t, n, s, b, c, r0, r1, r2, r3, some ⟨g, o, none⟩, en, ec⟩ : Ag)) (A := #[.bool false, .int .i64 x.t, .int .i64 x.n, .string x.s, .bool x.b, .int .i64 x.c, .int .i64 0, .int .i64 0, .int .i64 0, .int .i64 0, .slice none 0 0, .bool true, .int .i64 t, .int .i64 n, .string s, .bool b, .int .i64 c, .int .i64 r0, .int .i64 r1, .int .i64 r2, .int .i64 r3, .slice (some ⟨g, o, none⟩) en ec]) (by with_reducible (repeat' first | assumption | refine Own.drew ?_ | refine Own.drewN ?_ _ | (refine Own.at ?_; first | rfl | (simp; done)) | refine Own.past ?_ _)) e22.out) (by with_reducible (repeat' first | assumption | exact Below.refl _ _ | refine Below.drew ?_ | refine bdrewN ?_ _ | refine Below.setCell ?_ (by first | exact Nat.le_refl _ | (simp; done) | (simp; omega) | omega) _ | refine Below.alloc ?_ (by first | exact Nat.le_refl _ | (simp; done) | (simp; omega) | omega) _))).mono ?_; rintro e v6 ⟨rfl, hbv6⟩; have hBv6 : Below w.heap.size w v6 := bup (by with_reducible (repeat' first | assumption | exact Below.refl _ _ | refine Below.drew ?_ | refine bdrewN ?_ _ | refine Below.setCell ?_ (by first | exact Nat.le_refl _ | (simp; done) | (simp; omega) | omega) _ | refine Below.alloc ?_ (by first | exact Nat.le_refl _ | (simp; done) | (simp; omega) | omega) _)) hbv6; have zv6 := hBv6.size; have o0v6 : Own v6 (w.heap.size) #[.bool true, .int .i64 t, .int .i64 n, .string s, .bool b, .int .i64 c, .int .i64 r0, .int .i64 r1, .int .i64 r2, .int .i64 r3, .slice (some ⟨g, o, none⟩) en ec] := Own.keep (by with_reducible (repeat' first | assumption | refine Own.drew ?_ | refine Own.drewN ?_ _ | (refine Own.at ?_; first | rfl | (simp; done)) | refine Own.past ?_ _)) hbv6; have c0 := o0v6.cell; have f0 := o0v6.fro; have l0 := o0v6.lt; have o1v6 : Own v6 (wb.heap.size) #[.int .i64 x.r, .int .i64 x.k, .int .i64 x.t, .int .i64 x.n, .string x.s, .bool x.b, .int .i64 x.c] := Own.keep (by with_reducible (repeat' first | assumption | refine Own.drew ?_ | refine Own.drewN ?_ _ | (refine Own.at ?_; first | rfl | (simp; done)) | refine Own.past ?_ _)) hbv6; have c1 := o1v6.cell; have f1 := o1v6.fro; have l1 := o1v6.lt; have q6 : wb.heap.size < v6.heap.size := o1v6.lt; (try (refine with_fact (p := Own v6 (v4.heap.size) #[.int .i64 0, .int .i64 0, .string ⟨#[]⟩, .bool false, .int .i64 0]) ?_ ?_; (· (refine Own.keep ?_ hbv6; with_reducible (repeat' first | assumption | refine Own.drew ?_ | refine Own.drewN ?_ _ | (refine Own.at ?_; first | rfl | (simp; done)) | refine Own.past ?_ _); done)); intro o5; have c5 := o5.cell; have f5 := o5.fro; have l5 := o5.lt; have n5a : ¬ (v4.heap.size) = w.heap.size := (by omega); have m5a : ¬ w.heap.size = (v4.heap.size) := (by omega); have n5b : ¬ (v4.heap.size) = wb.heap.size := (by omega); have m5b : ¬ wb.heap.size = (v4.heap.size) := (by omega); have b5 : w.heap.size ≤ (v4.heap.size) := (by omega))); (try (refine with_fact (p := Own v6 (v5.heap.size) #[.int .i64 0, .int .i64 0, .string ⟨#[]⟩, .bool false, .int .i64 0]) ?_ ?_; (· (refine Own.keep ?_ hbv6; with_reducible (repeat' first | assumption | refine Own.drew ?_ | refine Own.drewN ?_ _ | (refine Own.at ?_; first | rfl | (simp; done)) | refine Own.past ?_ _); done)); intro o5; have c5 := o5.cell; have f5 := o5.fro; have l5 := o5.lt; have n5a : ¬ (v5.heap.size) = w.heap.size := (by omega); have m5a : ¬ w.heap.size = (v5.heap.size) := (by omega); have n5b : ¬ (v5.heap.size) = wb.heap.size := (by omega); have m5b : ¬ wb.heap.size = (v5.heap.size) := (by omega); have b5 : w.heap.size ≤ (v5.heap.size) := (by omega))); (try (refine with_fact (p := Own v6 (v5.heap.size + 1) #[.int .i64 0, .int .i64 0, .string ⟨#[]⟩, .bool false, .int .i64 0]) ?_ ?_; (· (refine Own.keep ?_ hbv6; with_reducible (repeat' first | assumption | refine Own.drew ?_ | refine Own.drewN ?_ _ | (refine Own.at ?_; first | rfl | (simp; done)) | refine Own.past ?_ _); done)); intro o5; have c5 := o5.cell; have f5 := o5.fro; have l5 := o5.lt; have n5a : ¬ (v5.heap.size + 1) = w.heap.size := (by omega); have m5a : ¬ w.heap.size = (v5.heap.size + 1) := (by omega); have n5b : ¬ (v5.heap.size + 1) = wb.heap.size := (by omega); have m5b : ¬ wb.heap.size = (v5.heap.size + 1) := (by omega); have b5 : w.heap.size ≤ (v5.heap.size + 1) := (by omega)))))
  · refine via_ex (fun X hX => ?_)
    have hBX : Below w.heap.size w X := (by rw [hX]; with_reducible (repeat' first | assumption | exact Below.refl _ _ | refine Below.drew ?_ | refine bdrewN ?_ _ | refine Below.setCell ?_ (by first | exact b5 | exact Nat.le_refl _ | (simp; done) | (simp; omega) | omega) _ | refine Below.alloc ?_ (by first | exact Nat.le_refl _ | (simp; done) | (simp; omega) | omega) _))
    have oA : Own X w.heap.size #[.bool true, .int .i64 t, .int .i64 n, .string s, .bool b, .int .i64 c, .int .i64 r0, .int .i64 r1, .int .i64 r2, .int .i64 r3, .slice (some ⟨g, o, none⟩) en ec] := (by rw [hX]; with_reducible (repeat' first | assumption | refine Own.drew ?_ | refine Own.drewN ?_ _ | (refine Own.at ?_; first | rfl | (simp; done)) | refine Own.past ?_ _ | refine Own.aside ?_ (by first | exact m5a | exact m5b) _))
    have oE : Own X wb.heap.size #[.int .i64 x.r, .int .i64 x.k, .int .i64 x.t, .int .i64 x.n, .string x.s, .bool x.b, .int .i64 x.c] := (by rw [hX]; with_reducible (repeat' first | assumption | refine Own.drew ?_ | refine Own.drewN ?_ _ | (refine Own.at ?_; first | rfl | (simp; done)) | refine Own.past ?_ _ | refine Own.aside ?_ (by first | exact m5a | exact m5b) _))
    have oM : Own X (v6.heap.size) #[.int .i64 mt, .int .i64 mn, .string ms, .bool mb, .int .i64 mc] := (by rw [hX]; with_reducible (repeat' first | assumption | refine Own.drew ?_ | refine Own.drewN ?_ _ | (refine Own.at ?_; first | rfl | (simp; done)) | refine Own.past ?_ _))
    have c0 := oA.cell
    have f0 := oA.fro
    have l0 := oA.lt
    have c1 := oE.cell
    have f1 := oE.fro
    have l1 := oE.lt
    have c2 := oM.cell
    have f2 := oM.fro
    have l2 := oM.lt
    clear hX
    by_cases ht : x.t = 4
    · obtain ⟨rfl, rfl, rfl, rfl, rfl⟩ := HF4.out ht
      have ht' : (x.t == 4) = true := by rw [ht]; rfl
      have HT : Hid _ := ht
      clear ht
      go_wp2
      go_ret
      exact ⟨rfl, hBX⟩
    · have ht' : (x.t == 4) = false := by rw [beq_eq_false_iff_ne]; exact ht
      have HT : Hid (¬ x.t = 4) := ht
      clear ht
      by_cases hq0 : r0 = r2
      · have hq0' : (r0 != r2) = false := by rw [bne_eq_false_iff_eq]; exact hq0
        have HQ0 : Hid (r0 = r2) := hq0
        have hL : Hid (lineB r0 r1 r2 r3 = true) := (show lineB r0 r1 r2 r3 = true from by unfold lineB; rw [decide_eq_true hq0]; rfl)
        clear hq0
        obtain ⟨q, rfl, hmn, rfl, rfl, rfl, LN, hA1, hq⟩ := HFl.out HT.out hL.out
        have HMN : Hid (mn = ((q : Int) + 1) * 10000) := hmn
        obtain ⟨nn, hnn⟩ : ∃ nn : Int, (x.r - r0 + 1 + (x.k - r1 + 1) - 1) * 10000 = nn := ⟨_, rfl⟩
        have HNN : Hid ((x.r - r0 + 1 + (x.k - r1 + 1) - 1) * 10000 = nn) := hnn
        have HA1 : Hid _ := hA1
        have HLN : Hid _ := LN
        have HQ : Hid ((q : Int) ≤ plE r0 r1 x) := hq
        have gA : decide (nn < mn) = false := decide_eq_false (by unfold plE at hq; omega)
        have gB : decide (mn < 10000) = false := decide_eq_false (by omega)
        have hl : Hid _ := HL.out HT.out hL.out
        have hNo : Hid (∀ (f : Nat) (y : En), f < 0 → es[f]? = some y → ¬ (y.t = x.t ∧ y.n = x.n ∧ y.s = x.s ∧ y.b = x.b ∧ y.c = x.c)) := (show _ from fun f y h => absurd h (Nat.not_lt_zero _))
        clear hA1 LN hq hmn hnn
        go_wp2
        rw [HNN.out]
        go_region_held3 (fun w' => w'.cell? ⟨w.heap.size, 0, none⟩ = some (.bool true) ∧ w'.cell? ⟨w.heap.size, 1, none⟩ = some (.int .i64 t) ∧ w'.cell? ⟨w.heap.size, 2, none⟩ = some (.int .i64 n) ∧ w'.cell? ⟨w.heap.size, 3, none⟩ = some (.string s) ∧ w'.cell? ⟨w.heap.size, 4, none⟩ = some (.bool b) ∧ w'.cell? ⟨w.heap.size, 5, none⟩ = some (.int .i64 c) ∧ w'.cell? ⟨w.heap.size, 6, none⟩ = some (.int .i64 r0) ∧ w'.cell? ⟨w.heap.size, 7, none⟩ = some (.int .i64 r1) ∧ w'.cell? ⟨w.heap.size, 8, none⟩ = some (.int .i64 r2) ∧ w'.cell? ⟨w.heap.size, 9, none⟩ = some (.int .i64 r3) ∧ w'.cell? ⟨w.heap.size, 10, none⟩ = some (.slice (some ⟨g, o, none⟩) en ec) ∧ w'.cell? ⟨wb.heap.size, 2, none⟩ = some (.int .i64 x.t) ∧ w'.cell? ⟨wb.heap.size, 3, none⟩ = some (.int .i64 x.n) ∧ w'.cell? ⟨wb.heap.size, 4, none⟩ = some (.string x.s) ∧ w'.cell? ⟨wb.heap.size, 5, none⟩ = some (.bool x.b) ∧ w'.cell? ⟨wb.heap.size, 6, none⟩ = some (.int .i64 x.c) ∧ w'.cell? ⟨v6.heap.size, 0, none⟩ = some (.int .i64 1) ∧ w'.cell? ⟨v6.heap.size, 1, none⟩ = some (.int .i64 mn)) ((repeat' apply And.intro) <;> (first | (go_keep; done) | (go_simp; done))) (first | (go_at_call 20; refine (single_any _ _ _ _ _ _).mono ?_; rintro e u1 ⟨rfl, hbu1⟩; have hBu1 : Below w.heap.size w u1 := bup (by with_reducible (repeat' first | assumption | exact Below.refl _ _ | refine Below.drew ?_ | refine bdrewN ?_ _ | refine Below.setCell ?_ (by first | exact Nat.le_refl _ | (simp; done) | (simp; omega) | omega) _ | refine Below.alloc ?_ (by first | exact Nat.le_refl _ | (simp; done) | (simp; omega) | omega) _)) hbu1; have zu1 := hBu1.size; have o0u1 : Own u1 (w.heap.size) #[.bool true, .int .i64 t, .int .i64 n, .string s, .bool b, .int .i64 c, .int .i64 r0, .int .i64 r1, .int .i64 r2, .int .i64 r3, .slice (some ⟨g, o, none⟩) en ec] := Own.keep (by with_reducible (repeat' first | assumption | refine Own.drew ?_ | refine Own.drewN ?_ _ | (refine Own.at ?_; first | rfl | (simp; done)) | refine Own.past ?_ _)) hbu1; have c0 := o0u1.cell; have f0 := o0u1.fro; have l0 := o0u1.lt; have o1u1 : Own u1 (wb.heap.size) #[.int .i64 x.r, .int .i64 x.k, .int .i64 x.t, .int .i64 x.n, .string x.s, .bool x.b, .int .i64 x.c] := Own.keep (by with_reducible (repeat' first | assumption | refine Own.drew ?_ | refine Own.drewN ?_ _ | (refine Own.at ?_; first | rfl | (simp; done)) | refine Own.past ?_ _)) hbu1; have c1 := o1u1.cell; have f1 := o1u1.fro; have l1 := o1u1.lt; have o2u1 : Own u1 (v6.heap.size) #[.int .i64 1, .int .i64 mn, .string ⟨#[]⟩, .bool false, .int .i64 0] := Own.keep (by with_reducible (repeat' first | assumption | refine Own.drew ?_ | refine Own.drewN ?_ _ | (refine Own.at ?_; first | rfl | (simp; done)) | refine Own.past ?_ _)) hbu1; have c2 := o2u1.cell; have f2 := o2u1.fro; have l2 := o2u1.lt) | (go_at_call 9; refine (hl.out _ _ (av_own3 (a := oneV x.t x.n x.s x.b x.c) (b := (⟨true, t, n, s, b, c, r0, r1, r2, r3, some ⟨g, o, none⟩, en, ec⟩ : Ag)) (c := (⟨true, t, n, s, b, c, r0, r1, r2, r3, some ⟨g, o, none⟩, en, ec⟩ : Ag)) (A := #[.bool false, .int .i64 x.t, .int .i64 x.n, .string x.s, .bool x.b, .int .i64 x.c, .int .i64 0, .int .i64 0, .int .i64 0, .int .i64 0, .slice none 0 0, .bool true, .int .i64 t, .int .i64 n, .string s, .bool b, .int .i64 c, .int .i64 r0, .int .i64 r1, .int .i64 r2, .int .i64 r3, .slice (some ⟨g, o, none⟩) en ec, .bool true, .int .i64 t, .int .i64 n, .string s, .bool b, .int .i64 c, .int .i64 r0, .int .i64 r1, .int .i64 r2, .int .i64 r3, .slice (some ⟨g, o, none⟩) en ec]) (by with_reducible (repeat' first | assumption | refine Own.drew ?_ | refine Own.drewN ?_ _ | (refine Own.at ?_; first | rfl | (simp; done)) | refine Own.past ?_ _)) e222.out) (by with_reducible (repeat' first | assumption | exact Below.refl _ _ | refine Below.drew ?_ | refine bdrewN ?_ _ | refine Below.setCell ?_ (by first | exact Nat.le_refl _ | (simp; done) | (simp; omega) | omega) _ | refine Below.alloc ?_ (by first | exact Nat.le_refl _ | (simp; done) | (simp; omega) | omega) _))).mono ?_; rintro e u2 ⟨rfl, hbu2⟩; have hBu2 : Below w.heap.size w u2 := bup (by with_reducible (repeat' first | assumption | exact Below.refl _ _ | refine Below.drew ?_ | refine bdrewN ?_ _ | refine Below.setCell ?_ (by first | exact Nat.le_refl _ | (simp; done) | (simp; omega) | omega) _ | refine Below.alloc ?_ (by first | exact Nat.le_refl _ | (simp; done) | (simp; omega) | omega) _)) hbu2; have zu2 := hBu2.size; have o0u2 : Own u2 (w.heap.size) #[.bool true, .int .i64 t, .int .i64 n, .string s, .bool b, .int .i64 c, .int .i64 r0, .int .i64 r1, .int .i64 r2, .int .i64 r3, .slice (some ⟨g, o, none⟩) en ec] := Own.keep (by with_reducible (repeat' first | assumption | refine Own.drew ?_ | refine Own.drewN ?_ _ | (refine Own.at ?_; first | rfl | (simp; done)) | refine Own.past ?_ _)) hbu2; have c0 := o0u2.cell; have f0 := o0u2.fro; have l0 := o0u2.lt; have o1u2 : Own u2 (wb.heap.size) #[.int .i64 x.r, .int .i64 x.k, .int .i64 x.t, .int .i64 x.n, .string x.s, .bool x.b, .int .i64 x.c] := Own.keep (by with_reducible (repeat' first | assumption | refine Own.drew ?_ | refine Own.drewN ?_ _ | (refine Own.at ?_; first | rfl | (simp; done)) | refine Own.past ?_ _)) hbu2; have c1 := o1u2.cell; have f1 := o1u2.fro; have l1 := o1u2.lt; have o2u2 : Own u2 (v6.heap.size) #[.int .i64 1, .int .i64 mn, .string ⟨#[]⟩, .bool false, .int .i64 0] := Own.keep (by with_reducible (repeat' first | assumption | refine Own.drew ?_ | refine Own.drewN ?_ _ | (refine Own.at ?_; first | rfl | (simp; done)) | refine Own.past ?_ _)) hbu2; have c2 := o2u2.cell; have f2 := o2u2.fro; have l2 := o2u2.lt))
        clear gA gB
        go_wp2
        go_loopw [12] (fun v w' => ∃ f : Nat, v = .int .i64 f ∧ f ≤ k ∧ Hid (∀ (p : Nat) (y : En), p < f → es[p]? = some y → ¬ (y.t = x.t ∧ y.n = x.n ∧ y.s = x.s ∧ y.b = x.b ∧ y.c = x.c)) ∧ Below w.heap.size w w' ∧ Own w' w.heap.size #[.bool true, .int .i64 t, .int .i64 n, .string s, .bool b, .int .i64 c, .int .i64 r0, .int .i64 r1, .int .i64 r2, .int .i64 r3, .slice (some ⟨g, o, none⟩) en ec] ∧ Own w' wb.heap.size #[.int .i64 x.r, .int .i64 x.k, .int .i64 x.t, .int .i64 x.n, .string x.s, .bool x.b, .int .i64 x.c] ∧ Own w' (v6.heap.size) #[.int .i64 1, .int .i64 mn, .string ⟨#[]⟩, .bool false, .int .i64 0]) (fun v _ => (k - intOf v).toNat)
        case atStart => exact ⟨0, rfl, Nat.zero_le _, hNo, by with_reducible (repeat' first | assumption | exact Below.refl _ _ | refine Below.drew ?_ | refine bdrewN ?_ _ | refine Below.setCell ?_ (by first | exact Nat.le_refl _ | (simp; done) | (simp; omega) | omega) _ | refine Below.alloc ?_ (by first | exact Nat.le_refl _ | (simp; done) | (simp; omega) | omega) _), by with_reducible (repeat' first | assumption | refine Own.drew ?_ | refine Own.drewN ?_ _ | (refine Own.at ?_; first | rfl | (simp; done)) | refine Own.past ?_ _), by with_reducible (repeat' first | assumption | refine Own.drew ?_ | refine Own.drewN ?_ _ | (refine Own.at ?_; first | rfl | (simp; done)) | refine Own.past ?_ _), by with_reducible (repeat' first | assumption | refine Own.drew ?_ | refine Own.drewN ?_ _ | (refine Own.at ?_; first | rfl | (simp; done)) | refine Own.past ?_ _)⟩
        case round =>
          obtain ⟨f, rfl, hfk, hNf, hB3, o3, o4, o5'⟩ := hrel
          clear c0 f0 l0 c1 f1 l1 c2 f2 l2
          have c0 := o3.cell
          have f0 := o3.fro
          have l0 := o3.lt
          have c1 := o4.cell
          have f1 := o4.fro
          have l1 := o4.lt
          have c2 := o5'.cell
          have f2 := o5'.fro
          have l2 := o5'.lt
          by_cases hlt : f < k
          · have hlti : (f : Int) < k := by omega
            have hfe : f < en := by omega
            have hf9 : (f : Int) ≤ 1099511627776 := by omega
            have hfei : (f : Int) < en := by omega
            obtain ⟨y, hy⟩ : ∃ y, es[f]? = some y := ⟨_, List.getElem?_eq_getElem (by rw [HN.out]; exact hfe)⟩
            have y0 : wr.cell? ⟨g, o + f * 7, none⟩ = some (.int .i64 y.r) := (hB3.cell (p := ⟨g, o + f * 7, none⟩) hgl).trans (HAL.out f y hy 0 (by decide))
            have y1 : wr.cell? ⟨g, o + f * 7 + 1, none⟩ = some (.int .i64 y.k) := (hB3.cell (p := ⟨g, o + f * 7 + 1, none⟩) hgl).trans (HAL.out f y hy 1 (by decide))
            have y2 : wr.cell? ⟨g, o + f * 7 + 2, none⟩ = some (.int .i64 y.t) := (hB3.cell (p := ⟨g, o + f * 7 + 2, none⟩) hgl).trans (HAL.out f y hy 2 (by decide))
            have y3 : wr.cell? ⟨g, o + f * 7 + 3, none⟩ = some (.int .i64 y.n) := (hB3.cell (p := ⟨g, o + f * 7 + 3, none⟩) hgl).trans (HAL.out f y hy 3 (by decide))
            have y4 : wr.cell? ⟨g, o + f * 7 + 4, none⟩ = some (.string y.s) := (hB3.cell (p := ⟨g, o + f * 7 + 4, none⟩) hgl).trans (HAL.out f y hy 4 (by decide))
            have y5 : wr.cell? ⟨g, o + f * 7 + 5, none⟩ = some (.bool y.b) := (hB3.cell (p := ⟨g, o + f * 7 + 5, none⟩) hgl).trans (HAL.out f y hy 5 (by decide))
            have y6 : wr.cell? ⟨g, o + f * 7 + 6, none⟩ = some (.int .i64 y.c) := (hB3.cell (p := ⟨g, o + f * 7 + 6, none⟩) hgl).trans (HAL.out f y hy 6 (by decide))
            by_cases hs : y.t = x.t ∧ y.n = x.n ∧ y.s = x.s ∧ y.b = x.b ∧ y.c = x.c
            · have hs2 : ∀ W, (binOp .eql 26 (.agg #[.int .i64 y.t, .int .i64 y.n, .string y.s, .bool y.b, .int .i64 y.c]) (.agg #[.int .i64 x.t, .int .i64 x.n, .string x.s, .bool x.b, .int .i64 x.c])).run Tryz.prog W = .ok (.bool true) W := fun W => by rw [eqv]; unfold sameB; rw [decide_eq_true hs]
              have hq2 := at1_ahead HLN.out hx.out hy hlt hs HA1.out
              have gC : mn < nn := by have h7 := HMN.out; have h8 := HNN.out; unfold plE at hq2; omega
              clear hq2
              have HS : Hid _ := hs
              have HY' : Hid _ := hy
              clear hs hy
              go_wp2
              go_region_held3 (fun w' => w'.cell? ⟨w.heap.size, 10, none⟩ = some (.slice (some ⟨g, o, none⟩) en ec) ∧ w'.cell? ⟨g, o + f * 7 + 2, none⟩ = some (.int .i64 y.t) ∧ w'.cell? ⟨g, o + f * 7 + 3, none⟩ = some (.int .i64 y.n) ∧ w'.cell? ⟨g, o + f * 7 + 4, none⟩ = some (.string y.s) ∧ w'.cell? ⟨g, o + f * 7 + 5, none⟩ = some (.bool y.b) ∧ w'.cell? ⟨g, o + f * 7 + 6, none⟩ = some (.int .i64 y.c) ∧ w'.cell? ⟨wb.heap.size, 2, none⟩ = some (.int .i64 x.t) ∧ w'.cell? ⟨wb.heap.size, 3, none⟩ = some (.int .i64 x.n) ∧ w'.cell? ⟨wb.heap.size, 4, none⟩ = some (.string x.s) ∧ w'.cell? ⟨wb.heap.size, 5, none⟩ = some (.bool x.b) ∧ w'.cell? ⟨wb.heap.size, 6, none⟩ = some (.int .i64 x.c)) ((repeat' apply And.intro) <;> (first | (go_keep; done) | (go_simp; done))) (first | fail)
              go_wp2
              go_ret
              exact ⟨rfl, by with_reducible (repeat' first | assumption | exact Below.refl _ _ | refine Below.drew ?_ | refine bdrewN ?_ _ | refine Below.setCell ?_ (by first | exact Nat.le_refl _ | (simp; done) | (simp; omega) | omega) _ | refine Below.alloc ?_ (by first | exact Nat.le_refl _ | (simp; done) | (simp; omega) | omega) _)⟩
            · have hs2 : ∀ W, (binOp .eql 26 (.agg #[.int .i64 y.t, .int .i64 y.n, .string y.s, .bool y.b, .int .i64 y.c]) (.agg #[.int .i64 x.t, .int .i64 x.n, .string x.s, .bool x.b, .int .i64 x.c])).run Tryz.prog W = .ok (.bool false) W := fun W => by rw [eqv]; unfold sameB; rw [decide_eq_false hs]
              have HS : Hid (∀ (p : Nat) (z : En), p < f + 1 → es[p]? = some z → ¬ (z.t = x.t ∧ z.n = x.n ∧ z.s = x.s ∧ z.b = x.b ∧ z.c = x.c)) := (show _ from fun p z hp hz => by
                by_cases e : p = f
                · subst e; rw [hy] at hz; cases hz; exact hs
                · exact hNf.out p z (by omega) hz)
              have HY' : Hid _ := hy
              clear hs hy
              go_wp2
              go_region_held3 (fun w' => w'.cell? ⟨w.heap.size, 10, none⟩ = some (.slice (some ⟨g, o, none⟩) en ec) ∧ w'.cell? ⟨g, o + f * 7 + 2, none⟩ = some (.int .i64 y.t) ∧ w'.cell? ⟨g, o + f * 7 + 3, none⟩ = some (.int .i64 y.n) ∧ w'.cell? ⟨g, o + f * 7 + 4, none⟩ = some (.string y.s) ∧ w'.cell? ⟨g, o + f * 7 + 5, none⟩ = some (.bool y.b) ∧ w'.cell? ⟨g, o + f * 7 + 6, none⟩ = some (.int .i64 y.c) ∧ w'.cell? ⟨wb.heap.size, 2, none⟩ = some (.int .i64 x.t) ∧ w'.cell? ⟨wb.heap.size, 3, none⟩ = some (.int .i64 x.n) ∧ w'.cell? ⟨wb.heap.size, 4, none⟩ = some (.string x.s) ∧ w'.cell? ⟨wb.heap.size, 5, none⟩ = some (.bool x.b) ∧ w'.cell? ⟨wb.heap.size, 6, none⟩ = some (.int .i64 x.c)) ((repeat' apply And.intro) <;> (first | (go_keep; done) | (go_simp; done))) (first | fail)
              go_wp2
              exact ⟨⟨f + 1, by go_num, by omega, HS, by with_reducible (repeat' first | assumption | exact Below.refl _ _ | refine Below.drew ?_ | refine bdrewN ?_ _ | refine Below.setCell ?_ (by first | exact Nat.le_refl _ | (simp; done) | (simp; omega) | omega) _ | refine Below.alloc ?_ (by first | exact Nat.le_refl _ | (simp; done) | (simp; omega) | omega) _), by with_reducible (repeat' first | assumption | refine Own.drew ?_ | refine Own.drewN ?_ _ | (refine Own.at ?_; first | rfl | (simp; done)) | refine Own.past ?_ _), by with_reducible (repeat' first | assumption | refine Own.drew ?_ | refine Own.drewN ?_ _ | (refine Own.at ?_; first | rfl | (simp; done)) | refine Own.past ?_ _), by with_reducible (repeat' first | assumption | refine Own.drew ?_ | refine Own.drewN ?_ _ | (refine Own.at ?_; first | rfl | (simp; done)) | refine Own.past ?_ _)⟩, by simp [intOf]; omega⟩
          · have hlti : ¬ (f : Int) < k := by omega
            have hfk2 : f = k := by omega
            subst hfk2
            by_cases h0 : x.t = 0
            · have h0' : (x.t == 0) = true := by rw [h0]; rfl
              have H0 : Hid _ := h0
              clear h0
              go_wp2
              go_ret
              exact ⟨rfl, hB3⟩
            · have h0' : (x.t == 0) = false := by rw [beq_eq_false_iff_ne]; exact h0
              have hq2 := at1_just HLN.out hx.out hNf.out h0 HA1.out HQ.out
              have gC : (mn == nn) = true := by rw [beq_iff_eq]; have h7 := HMN.out; have h8 := HNN.out; unfold plE at hq2; omega
              clear hq2 h0
              go_wp2
              go_ret
              exact ⟨rfl, hB3⟩
      · have hq0' : (r0 != r2) = true := by rw [bne_iff_ne]; exact hq0
        by_cases hq1 : r1 = r3
        · have hq1' : (r1 != r3) = false := by rw [bne_eq_false_iff_eq]; exact hq1
          have HQ0 : Hid (r1 = r3) := hq1
          have hL : Hid (lineB r0 r1 r2 r3 = true) := (show lineB r0 r1 r2 r3 = true from by unfold lineB; rw [decide_eq_true hq1, Bool.or_true])
          clear hq1
          obtain ⟨q, rfl, hmn, rfl, rfl, rfl, LN, hA1, hq⟩ := HFl.out HT.out hL.out
          have HMN : Hid (mn = ((q : Int) + 1) * 10000) := hmn
          obtain ⟨nn, hnn⟩ : ∃ nn : Int, (x.r - r0 + 1 + (x.k - r1 + 1) - 1) * 10000 = nn := ⟨_, rfl⟩
          have HNN : Hid ((x.r - r0 + 1 + (x.k - r1 + 1) - 1) * 10000 = nn) := hnn
          have HA1 : Hid _ := hA1
          have HLN : Hid _ := LN
          have HQ : Hid ((q : Int) ≤ plE r0 r1 x) := hq
          have gA : decide (nn < mn) = false := decide_eq_false (by unfold plE at hq; omega)
          have gB : decide (mn < 10000) = false := decide_eq_false (by omega)
          have hl : Hid _ := HL.out HT.out hL.out
          have hNo : Hid (∀ (f : Nat) (y : En), f < 0 → es[f]? = some y → ¬ (y.t = x.t ∧ y.n = x.n ∧ y.s = x.s ∧ y.b = x.b ∧ y.c = x.c)) := (show _ from fun f y h => absurd h (Nat.not_lt_zero _))
          clear hA1 LN hq hmn hnn
          go_wp2
          rw [HNN.out]
          go_region_held3 (fun w' => w'.cell? ⟨w.heap.size, 0, none⟩ = some (.bool true) ∧ w'.cell? ⟨w.heap.size, 1, none⟩ = some (.int .i64 t) ∧ w'.cell? ⟨w.heap.size, 2, none⟩ = some (.int .i64 n) ∧ w'.cell? ⟨w.heap.size, 3, none⟩ = some (.string s) ∧ w'.cell? ⟨w.heap.size, 4, none⟩ = some (.bool b) ∧ w'.cell? ⟨w.heap.size, 5, none⟩ = some (.int .i64 c) ∧ w'.cell? ⟨w.heap.size, 6, none⟩ = some (.int .i64 r0) ∧ w'.cell? ⟨w.heap.size, 7, none⟩ = some (.int .i64 r1) ∧ w'.cell? ⟨w.heap.size, 8, none⟩ = some (.int .i64 r2) ∧ w'.cell? ⟨w.heap.size, 9, none⟩ = some (.int .i64 r3) ∧ w'.cell? ⟨w.heap.size, 10, none⟩ = some (.slice (some ⟨g, o, none⟩) en ec) ∧ w'.cell? ⟨wb.heap.size, 2, none⟩ = some (.int .i64 x.t) ∧ w'.cell? ⟨wb.heap.size, 3, none⟩ = some (.int .i64 x.n) ∧ w'.cell? ⟨wb.heap.size, 4, none⟩ = some (.string x.s) ∧ w'.cell? ⟨wb.heap.size, 5, none⟩ = some (.bool x.b) ∧ w'.cell? ⟨wb.heap.size, 6, none⟩ = some (.int .i64 x.c) ∧ w'.cell? ⟨v6.heap.size, 0, none⟩ = some (.int .i64 1) ∧ w'.cell? ⟨v6.heap.size, 1, none⟩ = some (.int .i64 mn)) ((repeat' apply And.intro) <;> (first | (go_keep; done) | (go_simp; done))) (first | (go_at_call 20; refine (single_any _ _ _ _ _ _).mono ?_; rintro e u1 ⟨rfl, hbu1⟩; have hBu1 : Below w.heap.size w u1 := bup (by with_reducible (repeat' first | assumption | exact Below.refl _ _ | refine Below.drew ?_ | refine bdrewN ?_ _ | refine Below.setCell ?_ (by first | exact Nat.le_refl _ | (simp; done) | (simp; omega) | omega) _ | refine Below.alloc ?_ (by first | exact Nat.le_refl _ | (simp; done) | (simp; omega) | omega) _)) hbu1; have zu1 := hBu1.size; have o0u1 : Own u1 (w.heap.size) #[.bool true, .int .i64 t, .int .i64 n, .string s, .bool b, .int .i64 c, .int .i64 r0, .int .i64 r1, .int .i64 r2, .int .i64 r3, .slice (some ⟨g, o, none⟩) en ec] := Own.keep (by with_reducible (repeat' first | assumption | refine Own.drew ?_ | refine Own.drewN ?_ _ | (refine Own.at ?_; first | rfl | (simp; done)) | refine Own.past ?_ _)) hbu1; have c0 := o0u1.cell; have f0 := o0u1.fro; have l0 := o0u1.lt; have o1u1 : Own u1 (wb.heap.size) #[.int .i64 x.r, .int .i64 x.k, .int .i64 x.t, .int .i64 x.n, .string x.s, .bool x.b, .int .i64 x.c] := Own.keep (by with_reducible (repeat' first | assumption | refine Own.drew ?_ | refine Own.drewN ?_ _ | (refine Own.at ?_; first | rfl | (simp; done)) | refine Own.past ?_ _)) hbu1; have c1 := o1u1.cell; have f1 := o1u1.fro; have l1 := o1u1.lt; have o2u1 : Own u1 (v6.heap.size) #[.int .i64 1, .int .i64 mn, .string ⟨#[]⟩, .bool false, .int .i64 0] := Own.keep (by with_reducible (repeat' first | assumption | refine Own.drew ?_ | refine Own.drewN ?_ _ | (refine Own.at ?_; first | rfl | (simp; done)) | refine Own.past ?_ _)) hbu1; have c2 := o2u1.cell; have f2 := o2u1.fro; have l2 := o2u1.lt) | (go_at_call 9; refine (hl.out _ _ (av_own3 (a := oneV x.t x.n x.s x.b x.c) (b := (⟨true, t, n, s, b, c, r0, r1, r2, r3, some ⟨g, o, none⟩, en, ec⟩ : Ag)) (c := (⟨true, t, n, s, b, c, r0, r1, r2, r3, some ⟨g, o, none⟩, en, ec⟩ : Ag)) (A := #[.bool false, .int .i64 x.t, .int .i64 x.n, .string x.s, .bool x.b, .int .i64 x.c, .int .i64 0, .int .i64 0, .int .i64 0, .int .i64 0, .slice none 0 0, .bool true, .int .i64 t, .int .i64 n, .string s, .bool b, .int .i64 c, .int .i64 r0, .int .i64 r1, .int .i64 r2, .int .i64 r3, .slice (some ⟨g, o, none⟩) en ec, .bool true, .int .i64 t, .int .i64 n, .string s, .bool b, .int .i64 c, .int .i64 r0, .int .i64 r1, .int .i64 r2, .int .i64 r3, .slice (some ⟨g, o, none⟩) en ec]) (by with_reducible (repeat' first | assumption | refine Own.drew ?_ | refine Own.drewN ?_ _ | (refine Own.at ?_; first | rfl | (simp; done)) | refine Own.past ?_ _)) e222.out) (by with_reducible (repeat' first | assumption | exact Below.refl _ _ | refine Below.drew ?_ | refine bdrewN ?_ _ | refine Below.setCell ?_ (by first | exact Nat.le_refl _ | (simp; done) | (simp; omega) | omega) _ | refine Below.alloc ?_ (by first | exact Nat.le_refl _ | (simp; done) | (simp; omega) | omega) _))).mono ?_; rintro e u2 ⟨rfl, hbu2⟩; have hBu2 : Below w.heap.size w u2 := bup (by with_reducible (repeat' first | assumption | exact Below.refl _ _ | refine Below.drew ?_ | refine bdrewN ?_ _ | refine Below.setCell ?_ (by first | exact Nat.le_refl _ | (simp; done) | (simp; omega) | omega) _ | refine Below.alloc ?_ (by first | exact Nat.le_refl _ | (simp; done) | (simp; omega) | omega) _)) hbu2; have zu2 := hBu2.size; have o0u2 : Own u2 (w.heap.size) #[.bool true, .int .i64 t, .int .i64 n, .string s, .bool b, .int .i64 c, .int .i64 r0, .int .i64 r1, .int .i64 r2, .int .i64 r3, .slice (some ⟨g, o, none⟩) en ec] := Own.keep (by with_reducible (repeat' first | assumption | refine Own.drew ?_ | refine Own.drewN ?_ _ | (refine Own.at ?_; first | rfl | (simp; done)) | refine Own.past ?_ _)) hbu2; have c0 := o0u2.cell; have f0 := o0u2.fro; have l0 := o0u2.lt; have o1u2 : Own u2 (wb.heap.size) #[.int .i64 x.r, .int .i64 x.k, .int .i64 x.t, .int .i64 x.n, .string x.s, .bool x.b, .int .i64 x.c] := Own.keep (by with_reducible (repeat' first | assumption | refine Own.drew ?_ | refine Own.drewN ?_ _ | (refine Own.at ?_; first | rfl | (simp; done)) | refine Own.past ?_ _)) hbu2; have c1 := o1u2.cell; have f1 := o1u2.fro; have l1 := o1u2.lt; have o2u2 : Own u2 (v6.heap.size) #[.int .i64 1, .int .i64 mn, .string ⟨#[]⟩, .bool false, .int .i64 0] := Own.keep (by with_reducible (repeat' first | assumption | refine Own.drew ?_ | refine Own.drewN ?_ _ | (refine Own.at ?_; first | rfl | (simp; done)) | refine Own.past ?_ _)) hbu2; have c2 := o2u2.cell; have f2 := o2u2.fro; have l2 := o2u2.lt))
          clear gA gB
          go_wp2
          go_loopw [12] (fun v w' => ∃ f : Nat, v = .int .i64 f ∧ f ≤ k ∧ Hid (∀ (p : Nat) (y : En), p < f → es[p]? = some y → ¬ (y.t = x.t ∧ y.n = x.n ∧ y.s = x.s ∧ y.b = x.b ∧ y.c = x.c)) ∧ Below w.heap.size w w' ∧ Own w' w.heap.size #[.bool true, .int .i64 t, .int .i64 n, .string s, .bool b, .int .i64 c, .int .i64 r0, .int .i64 r1, .int .i64 r2, .int .i64 r3, .slice (some ⟨g, o, none⟩) en ec] ∧ Own w' wb.heap.size #[.int .i64 x.r, .int .i64 x.k, .int .i64 x.t, .int .i64 x.n, .string x.s, .bool x.b, .int .i64 x.c] ∧ Own w' (v6.heap.size) #[.int .i64 1, .int .i64 mn, .string ⟨#[]⟩, .bool false, .int .i64 0]) (fun v _ => (k - intOf v).toNat)
          case atStart => exact ⟨0, rfl, Nat.zero_le _, hNo, by with_reducible (repeat' first | assumption | exact Below.refl _ _ | refine Below.drew ?_ | refine bdrewN ?_ _ | refine Below.setCell ?_ (by first | exact Nat.le_refl _ | (simp; done) | (simp; omega) | omega) _ | refine Below.alloc ?_ (by first | exact Nat.le_refl _ | (simp; done) | (simp; omega) | omega) _), by with_reducible (repeat' first | assumption | refine Own.drew ?_ | refine Own.drewN ?_ _ | (refine Own.at ?_; first | rfl | (simp; done)) | refine Own.past ?_ _), by with_reducible (repeat' first | assumption | refine Own.drew ?_ | refine Own.drewN ?_ _ | (refine Own.at ?_; first | rfl | (simp; done)) | refine Own.past ?_ _), by with_reducible (repeat' first | assumption | refine Own.drew ?_ | refine Own.drewN ?_ _ | (refine Own.at ?_; first | rfl | (simp; done)) | refine Own.past ?_ _)⟩
          case round =>
            obtain ⟨f, rfl, hfk, hNf, hB3, o3, o4, o5'⟩ := hrel
            clear c0 f0 l0 c1 f1 l1 c2 f2 l2
            have c0 := o3.cell
            have f0 := o3.fro
            have l0 := o3.lt
            have c1 := o4.cell
            have f1 := o4.fro
            have l1 := o4.lt
            have c2 := o5'.cell
            have f2 := o5'.fro
            have l2 := o5'.lt
            by_cases hlt : f < k
            · have hlti : (f : Int) < k := by omega
              have hfe : f < en := by omega
              have hf9 : (f : Int) ≤ 1099511627776 := by omega
              have hfei : (f : Int) < en := by omega
              obtain ⟨y, hy⟩ : ∃ y, es[f]? = some y := ⟨_, List.getElem?_eq_getElem (by rw [HN.out]; exact hfe)⟩
              have y0 : wr.cell? ⟨g, o + f * 7, none⟩ = some (.int .i64 y.r) := (hB3.cell (p := ⟨g, o + f * 7, none⟩) hgl).trans (HAL.out f y hy 0 (by decide))
              have y1 : wr.cell? ⟨g, o + f * 7 + 1, none⟩ = some (.int .i64 y.k) := (hB3.cell (p := ⟨g, o + f * 7 + 1, none⟩) hgl).trans (HAL.out f y hy 1 (by decide))
              have y2 : wr.cell? ⟨g, o + f * 7 + 2, none⟩ = some (.int .i64 y.t) := (hB3.cell (p := ⟨g, o + f * 7 + 2, none⟩) hgl).trans (HAL.out f y hy 2 (by decide))
              have y3 : wr.cell? ⟨g, o + f * 7 + 3, none⟩ = some (.int .i64 y.n) := (hB3.cell (p := ⟨g, o + f * 7 + 3, none⟩) hgl).trans (HAL.out f y hy 3 (by decide))
              have y4 : wr.cell? ⟨g, o + f * 7 + 4, none⟩ = some (.string y.s) := (hB3.cell (p := ⟨g, o + f * 7 + 4, none⟩) hgl).trans (HAL.out f y hy 4 (by decide))
              have y5 : wr.cell? ⟨g, o + f * 7 + 5, none⟩ = some (.bool y.b) := (hB3.cell (p := ⟨g, o + f * 7 + 5, none⟩) hgl).trans (HAL.out f y hy 5 (by decide))
              have y6 : wr.cell? ⟨g, o + f * 7 + 6, none⟩ = some (.int .i64 y.c) := (hB3.cell (p := ⟨g, o + f * 7 + 6, none⟩) hgl).trans (HAL.out f y hy 6 (by decide))
              by_cases hs : y.t = x.t ∧ y.n = x.n ∧ y.s = x.s ∧ y.b = x.b ∧ y.c = x.c
              · have hs2 : ∀ W, (binOp .eql 26 (.agg #[.int .i64 y.t, .int .i64 y.n, .string y.s, .bool y.b, .int .i64 y.c]) (.agg #[.int .i64 x.t, .int .i64 x.n, .string x.s, .bool x.b, .int .i64 x.c])).run Tryz.prog W = .ok (.bool true) W := fun W => by rw [eqv]; unfold sameB; rw [decide_eq_true hs]
                have hq2 := at1_ahead HLN.out hx.out hy hlt hs HA1.out
                have gC : mn < nn := by have h7 := HMN.out; have h8 := HNN.out; unfold plE at hq2; omega
                clear hq2
                have HS : Hid _ := hs
                have HY' : Hid _ := hy
                clear hs hy
                go_wp2
                go_region_held3 (fun w' => w'.cell? ⟨w.heap.size, 10, none⟩ = some (.slice (some ⟨g, o, none⟩) en ec) ∧ w'.cell? ⟨g, o + f * 7 + 2, none⟩ = some (.int .i64 y.t) ∧ w'.cell? ⟨g, o + f * 7 + 3, none⟩ = some (.int .i64 y.n) ∧ w'.cell? ⟨g, o + f * 7 + 4, none⟩ = some (.string y.s) ∧ w'.cell? ⟨g, o + f * 7 + 5, none⟩ = some (.bool y.b) ∧ w'.cell? ⟨g, o + f * 7 + 6, none⟩ = some (.int .i64 y.c) ∧ w'.cell? ⟨wb.heap.size, 2, none⟩ = some (.int .i64 x.t) ∧ w'.cell? ⟨wb.heap.size, 3, none⟩ = some (.int .i64 x.n) ∧ w'.cell? ⟨wb.heap.size, 4, none⟩ = some (.string x.s) ∧ w'.cell? ⟨wb.heap.size, 5, none⟩ = some (.bool x.b) ∧ w'.cell? ⟨wb.heap.size, 6, none⟩ = some (.int .i64 x.c)) ((repeat' apply And.intro) <;> (first | (go_keep; done) | (go_simp; done))) (first | fail)
                go_wp2
                go_ret
                exact ⟨rfl, by with_reducible (repeat' first | assumption | exact Below.refl _ _ | refine Below.drew ?_ | refine bdrewN ?_ _ | refine Below.setCell ?_ (by first | exact Nat.le_refl _ | (simp; done) | (simp; omega) | omega) _ | refine Below.alloc ?_ (by first | exact Nat.le_refl _ | (simp; done) | (simp; omega) | omega) _)⟩
              · have hs2 : ∀ W, (binOp .eql 26 (.agg #[.int .i64 y.t, .int .i64 y.n, .string y.s, .bool y.b, .int .i64 y.c]) (.agg #[.int .i64 x.t, .int .i64 x.n, .string x.s, .bool x.b, .int .i64 x.c])).run Tryz.prog W = .ok (.bool false) W := fun W => by rw [eqv]; unfold sameB; rw [decide_eq_false hs]
                have HS : Hid (∀ (p : Nat) (z : En), p < f + 1 → es[p]? = some z → ¬ (z.t = x.t ∧ z.n = x.n ∧ z.s = x.s ∧ z.b = x.b ∧ z.c = x.c)) := (show _ from fun p z hp hz => by
                  by_cases e : p = f
                  · subst e; rw [hy] at hz; cases hz; exact hs
                  · exact hNf.out p z (by omega) hz)
                have HY' : Hid _ := hy
                clear hs hy
                go_wp2
                go_region_held3 (fun w' => w'.cell? ⟨w.heap.size, 10, none⟩ = some (.slice (some ⟨g, o, none⟩) en ec) ∧ w'.cell? ⟨g, o + f * 7 + 2, none⟩ = some (.int .i64 y.t) ∧ w'.cell? ⟨g, o + f * 7 + 3, none⟩ = some (.int .i64 y.n) ∧ w'.cell? ⟨g, o + f * 7 + 4, none⟩ = some (.string y.s) ∧ w'.cell? ⟨g, o + f * 7 + 5, none⟩ = some (.bool y.b) ∧ w'.cell? ⟨g, o + f * 7 + 6, none⟩ = some (.int .i64 y.c) ∧ w'.cell? ⟨wb.heap.size, 2, none⟩ = some (.int .i64 x.t) ∧ w'.cell? ⟨wb.heap.size, 3, none⟩ = some (.int .i64 x.n) ∧ w'.cell? ⟨wb.heap.size, 4, none⟩ = some (.string x.s) ∧ w'.cell? ⟨wb.heap.size, 5, none⟩ = some (.bool x.b) ∧ w'.cell? ⟨wb.heap.size, 6, none⟩ = some (.int .i64 x.c)) ((repeat' apply And.intro) <;> (first | (go_keep; done) | (go_simp; done))) (first | fail)
                go_wp2
                exact ⟨⟨f + 1, by go_num, by omega, HS, by with_reducible (repeat' first | assumption | exact Below.refl _ _ | refine Below.drew ?_ | refine bdrewN ?_ _ | refine Below.setCell ?_ (by first | exact Nat.le_refl _ | (simp; done) | (simp; omega) | omega) _ | refine Below.alloc ?_ (by first | exact Nat.le_refl _ | (simp; done) | (simp; omega) | omega) _), by with_reducible (repeat' first | assumption | refine Own.drew ?_ | refine Own.drewN ?_ _ | (refine Own.at ?_; first | rfl | (simp; done)) | refine Own.past ?_ _), by with_reducible (repeat' first | assumption | refine Own.drew ?_ | refine Own.drewN ?_ _ | (refine Own.at ?_; first | rfl | (simp; done)) | refine Own.past ?_ _), by with_reducible (repeat' first | assumption | refine Own.drew ?_ | refine Own.drewN ?_ _ | (refine Own.at ?_; first | rfl | (simp; done)) | refine Own.past ?_ _)⟩, by simp [intOf]; omega⟩
            · have hlti : ¬ (f : Int) < k := by omega
              have hfk2 : f = k := by omega
              subst hfk2
              by_cases h0 : x.t = 0
              · have h0' : (x.t == 0) = true := by rw [h0]; rfl
                have H0 : Hid _ := h0
                clear h0
                go_wp2
                go_ret
                exact ⟨rfl, hB3⟩
              · have h0' : (x.t == 0) = false := by rw [beq_eq_false_iff_ne]; exact h0
                have hq2 := at1_just HLN.out hx.out hNf.out h0 HA1.out HQ.out
                have gC : (mn == nn) = true := by rw [beq_iff_eq]; have h7 := HMN.out; have h8 := HNN.out; unfold plE at hq2; omega
                clear hq2 h0
                go_wp2
                go_ret
                exact ⟨rfl, hB3⟩
        · have hq1' : (r1 != r3) = true := by rw [bne_iff_ne]; exact hq1
          obtain ⟨rfl, rfl, rfl, rfl, rfl⟩ := HFn.out HT.out (by unfold lineB; rw [decide_eq_false hq0, decide_eq_false hq1]; rfl)
          clear hq1
          go_wp2
          go_ret
          exact ⟨rfl, hBX⟩
  · refine via_ex (fun X hX => ?_)
    have hBX : Below w.heap.size w X := (by rw [hX]; with_reducible (repeat' first | assumption | exact Below.refl _ _ | refine Below.drew ?_ | refine bdrewN ?_ _ | refine Below.setCell ?_ (by first | exact b5 | exact Nat.le_refl _ | (simp; done) | (simp; omega) | omega) _ | refine Below.alloc ?_ (by first | exact Nat.le_refl _ | (simp; done) | (simp; omega) | omega) _))
    have oA : Own X w.heap.size #[.bool true, .int .i64 t, .int .i64 n, .string s, .bool b, .int .i64 c, .int .i64 r0, .int .i64 r1, .int .i64 r2, .int .i64 r3, .slice (some ⟨g, o, none⟩) en ec] := (by rw [hX]; with_reducible (repeat' first | assumption | refine Own.drew ?_ | refine Own.drewN ?_ _ | (refine Own.at ?_; first | rfl | (simp; done)) | refine Own.past ?_ _ | refine Own.aside ?_ (by first | exact m5a | exact m5b) _))
    have oE : Own X wb.heap.size #[.int .i64 x.r, .int .i64 x.k, .int .i64 x.t, .int .i64 x.n, .string x.s, .bool x.b, .int .i64 x.c] := (by rw [hX]; with_reducible (repeat' first | assumption | refine Own.drew ?_ | refine Own.drewN ?_ _ | (refine Own.at ?_; first | rfl | (simp; done)) | refine Own.past ?_ _ | refine Own.aside ?_ (by first | exact m5a | exact m5b) _))
    have oM : Own X (v5.heap.size + 1) #[.int .i64 mt, .int .i64 mn, .string ms, .bool mb, .int .i64 mc] := (by rw [hX]; exact own_put5 (x0 := .int .i64 0) (x1 := .int .i64 0) (x2 := .string ⟨#[]⟩) (x3 := .bool false) (x4 := .int .i64 0) (by with_reducible (repeat' first | assumption | refine Own.drew ?_ | refine Own.drewN ?_ _ | (refine Own.at ?_; first | rfl | (simp; done)) | refine Own.past ?_ _)))
    have c0 := oA.cell
    have f0 := oA.fro
    have l0 := oA.lt
    have c1 := oE.cell
    have f1 := oE.fro
    have l1 := oE.lt
    have c2 := oM.cell
    have f2 := oM.fro
    have l2 := oM.lt
    clear hX
    by_cases ht : x.t = 4
    · obtain ⟨rfl, rfl, rfl, rfl, rfl⟩ := HF4.out ht
      have ht' : (x.t == 4) = true := by rw [ht]; rfl
      have HT : Hid _ := ht
      clear ht
      go_wp2
      go_ret
      exact ⟨rfl, hBX⟩
    · have ht' : (x.t == 4) = false := by rw [beq_eq_false_iff_ne]; exact ht
      have HT : Hid (¬ x.t = 4) := ht
      clear ht
      by_cases hq0 : r0 = r2
      · have hq0' : (r0 != r2) = false := by rw [bne_eq_false_iff_eq]; exact hq0
        have HQ0 : Hid (r0 = r2) := hq0
        have hL : Hid (lineB r0 r1 r2 r3 = true) := (show lineB r0 r1 r2 r3 = true from by unfold lineB; rw [decide_eq_true hq0]; rfl)
        clear hq0
        obtain ⟨q, rfl, hmn, rfl, rfl, rfl, LN, hA1, hq⟩ := HFl.out HT.out hL.out
        have HMN : Hid (mn = ((q : Int) + 1) * 10000) := hmn
        obtain ⟨nn, hnn⟩ : ∃ nn : Int, (x.r - r0 + 1 + (x.k - r1 + 1) - 1) * 10000 = nn := ⟨_, rfl⟩
        have HNN : Hid ((x.r - r0 + 1 + (x.k - r1 + 1) - 1) * 10000 = nn) := hnn
        have HA1 : Hid _ := hA1
        have HLN : Hid _ := LN
        have HQ : Hid ((q : Int) ≤ plE r0 r1 x) := hq
        have gA : decide (nn < mn) = false := decide_eq_false (by unfold plE at hq; omega)
        have gB : decide (mn < 10000) = false := decide_eq_false (by omega)
        have hl : Hid _ := HL.out HT.out hL.out
        have hNo : Hid (∀ (f : Nat) (y : En), f < 0 → es[f]? = some y → ¬ (y.t = x.t ∧ y.n = x.n ∧ y.s = x.s ∧ y.b = x.b ∧ y.c = x.c)) := (show _ from fun f y h => absurd h (Nat.not_lt_zero _))
        clear hA1 LN hq hmn hnn
        go_wp2
        rw [HNN.out]
        go_region_held3 (fun w' => w'.cell? ⟨w.heap.size, 0, none⟩ = some (.bool true) ∧ w'.cell? ⟨w.heap.size, 1, none⟩ = some (.int .i64 t) ∧ w'.cell? ⟨w.heap.size, 2, none⟩ = some (.int .i64 n) ∧ w'.cell? ⟨w.heap.size, 3, none⟩ = some (.string s) ∧ w'.cell? ⟨w.heap.size, 4, none⟩ = some (.bool b) ∧ w'.cell? ⟨w.heap.size, 5, none⟩ = some (.int .i64 c) ∧ w'.cell? ⟨w.heap.size, 6, none⟩ = some (.int .i64 r0) ∧ w'.cell? ⟨w.heap.size, 7, none⟩ = some (.int .i64 r1) ∧ w'.cell? ⟨w.heap.size, 8, none⟩ = some (.int .i64 r2) ∧ w'.cell? ⟨w.heap.size, 9, none⟩ = some (.int .i64 r3) ∧ w'.cell? ⟨w.heap.size, 10, none⟩ = some (.slice (some ⟨g, o, none⟩) en ec) ∧ w'.cell? ⟨wb.heap.size, 2, none⟩ = some (.int .i64 x.t) ∧ w'.cell? ⟨wb.heap.size, 3, none⟩ = some (.int .i64 x.n) ∧ w'.cell? ⟨wb.heap.size, 4, none⟩ = some (.string x.s) ∧ w'.cell? ⟨wb.heap.size, 5, none⟩ = some (.bool x.b) ∧ w'.cell? ⟨wb.heap.size, 6, none⟩ = some (.int .i64 x.c) ∧ w'.cell? ⟨v5.heap.size + 1, 0, none⟩ = some (.int .i64 1) ∧ w'.cell? ⟨v5.heap.size + 1, 1, none⟩ = some (.int .i64 mn)) ((repeat' apply And.intro) <;> (first | (go_keep; done) | (go_simp; done))) (first | (go_at_call 20; refine (single_any _ _ _ _ _ _).mono ?_; rintro e u1 ⟨rfl, hbu1⟩; have hBu1 : Below w.heap.size w u1 := bup (by with_reducible (repeat' first | assumption | exact Below.refl _ _ | refine Below.drew ?_ | refine bdrewN ?_ _ | refine Below.setCell ?_ (by first | exact Nat.le_refl _ | (simp; done) | (simp; omega) | omega) _ | refine Below.alloc ?_ (by first | exact Nat.le_refl _ | (simp; done) | (simp; omega) | omega) _)) hbu1; have zu1 := hBu1.size; have o0u1 : Own u1 (w.heap.size) #[.bool true, .int .i64 t, .int .i64 n, .string s, .bool b, .int .i64 c, .int .i64 r0, .int .i64 r1, .int .i64 r2, .int .i64 r3, .slice (some ⟨g, o, none⟩) en ec] := Own.keep (by with_reducible (repeat' first | assumption | refine Own.drew ?_ | refine Own.drewN ?_ _ | (refine Own.at ?_; first | rfl | (simp; done)) | refine Own.past ?_ _)) hbu1; have c0 := o0u1.cell; have f0 := o0u1.fro; have l0 := o0u1.lt; have o1u1 : Own u1 (wb.heap.size) #[.int .i64 x.r, .int .i64 x.k, .int .i64 x.t, .int .i64 x.n, .string x.s, .bool x.b, .int .i64 x.c] := Own.keep (by with_reducible (repeat' first | assumption | refine Own.drew ?_ | refine Own.drewN ?_ _ | (refine Own.at ?_; first | rfl | (simp; done)) | refine Own.past ?_ _)) hbu1; have c1 := o1u1.cell; have f1 := o1u1.fro; have l1 := o1u1.lt; have o2u1 : Own u1 (v5.heap.size + 1) #[.int .i64 1, .int .i64 mn, .string ⟨#[]⟩, .bool false, .int .i64 0] := Own.keep (by with_reducible (repeat' first | assumption | refine Own.drew ?_ | refine Own.drewN ?_ _ | (refine Own.at ?_; first | rfl | (simp; done)) | refine Own.past ?_ _)) hbu1; have c2 := o2u1.cell; have f2 := o2u1.fro; have l2 := o2u1.lt) | (go_at_call 9; refine (hl.out _ _ (av_own3 (a := oneV x.t x.n x.s x.b x.c) (b := (⟨true, t, n, s, b, c, r0, r1, r2, r3, some ⟨g, o, none⟩, en, ec⟩ : Ag)) (c := (⟨true, t, n, s, b, c, r0, r1, r2, r3, some ⟨g, o, none⟩, en, ec⟩ : Ag)) (A := #[.bool false, .int .i64 x.t, .int .i64 x.n, .string x.s, .bool x.b, .int .i64 x.c, .int .i64 0, .int .i64 0, .int .i64 0, .int .i64 0, .slice none 0 0, .bool true, .int .i64 t, .int .i64 n, .string s, .bool b, .int .i64 c, .int .i64 r0, .int .i64 r1, .int .i64 r2, .int .i64 r3, .slice (some ⟨g, o, none⟩) en ec, .bool true, .int .i64 t, .int .i64 n, .string s, .bool b, .int .i64 c, .int .i64 r0, .int .i64 r1, .int .i64 r2, .int .i64 r3, .slice (some ⟨g, o, none⟩) en ec]) (by with_reducible (repeat' first | assumption | refine Own.drew ?_ | refine Own.drewN ?_ _ | (refine Own.at ?_; first | rfl | (simp; done)) | refine Own.past ?_ _)) e222.out) (by with_reducible (repeat' first | assumption | exact Below.refl _ _ | refine Below.drew ?_ | refine bdrewN ?_ _ | refine Below.setCell ?_ (by first | exact Nat.le_refl _ | (simp; done) | (simp; omega) | omega) _ | refine Below.alloc ?_ (by first | exact Nat.le_refl _ | (simp; done) | (simp; omega) | omega) _))).mono ?_; rintro e u2 ⟨rfl, hbu2⟩; have hBu2 : Below w.heap.size w u2 := bup (by with_reducible (repeat' first | assumption | exact Below.refl _ _ | refine Below.drew ?_ | refine bdrewN ?_ _ | refine Below.setCell ?_ (by first | exact Nat.le_refl _ | (simp; done) | (simp; omega) | omega) _ | refine Below.alloc ?_ (by first | exact Nat.le_refl _ | (simp; done) | (simp; omega) | omega) _)) hbu2; have zu2 := hBu2.size; have o0u2 : Own u2 (w.heap.size) #[.bool true, .int .i64 t, .int .i64 n, .string s, .bool b, .int .i64 c, .int .i64 r0, .int .i64 r1, .int .i64 r2, .int .i64 r3, .slice (some ⟨g, o, none⟩) en ec] := Own.keep (by with_reducible (repeat' first | assumption | refine Own.drew ?_ | refine Own.drewN ?_ _ | (refine Own.at ?_; first | rfl | (simp; done)) | refine Own.past ?_ _)) hbu2; have c0 := o0u2.cell; have f0 := o0u2.fro; have l0 := o0u2.lt; have o1u2 : Own u2 (wb.heap.size) #[.int .i64 x.r, .int .i64 x.k, .int .i64 x.t, .int .i64 x.n, .string x.s, .bool x.b, .int .i64 x.c] := Own.keep (by with_reducible (repeat' first | assumption | refine Own.drew ?_ | refine Own.drewN ?_ _ | (refine Own.at ?_; first | rfl | (simp; done)) | refine Own.past ?_ _)) hbu2; have c1 := o1u2.cell; have f1 := o1u2.fro; have l1 := o1u2.lt; have o2u2 : Own u2 (v5.heap.size + 1) #[.int .i64 1, .int .i64 mn, .string ⟨#[]⟩, .bool false, .int .i64 0] := Own.keep (by with_reducible (repeat' first | assumption | refine Own.drew ?_ | refine Own.drewN ?_ _ | (refine Own.at ?_; first | rfl | (simp; done)) | refine Own.past ?_ _)) hbu2; have c2 := o2u2.cell; have f2 := o2u2.fro; have l2 := o2u2.lt))
        clear gA gB
        go_wp2
        go_loopw [12] (fun v w' => ∃ f : Nat, v = .int .i64 f ∧ f ≤ k ∧ Hid (∀ (p : Nat) (y : En), p < f → es[p]? = some y → ¬ (y.t = x.t ∧ y.n = x.n ∧ y.s = x.s ∧ y.b = x.b ∧ y.c = x.c)) ∧ Below w.heap.size w w' ∧ Own w' w.heap.size #[.bool true, .int .i64 t, .int .i64 n, .string s, .bool b, .int .i64 c, .int .i64 r0, .int .i64 r1, .int .i64 r2, .int .i64 r3, .slice (some ⟨g, o, none⟩) en ec] ∧ Own w' wb.heap.size #[.int .i64 x.r, .int .i64 x.k, .int .i64 x.t, .int .i64 x.n, .string x.s, .bool x.b, .int .i64 x.c] ∧ Own w' (v5.heap.size + 1) #[.int .i64 1, .int .i64 mn, .string ⟨#[]⟩, .bool false, .int .i64 0]) (fun v _ => (k - intOf v).toNat)
        case atStart => exact ⟨0, rfl, Nat.zero_le _, hNo, by with_reducible (repeat' first | assumption | exact Below.refl _ _ | refine Below.drew ?_ | refine bdrewN ?_ _ | refine Below.setCell ?_ (by first | exact Nat.le_refl _ | (simp; done) | (simp; omega) | omega) _ | refine Below.alloc ?_ (by first | exact Nat.le_refl _ | (simp; done) | (simp; omega) | omega) _), by with_reducible (repeat' first | assumption | refine Own.drew ?_ | refine Own.drewN ?_ _ | (refine Own.at ?_; first | rfl | (simp; done)) | refine Own.past ?_ _), by with_reducible (repeat' first | assumption | refine Own.drew ?_ | refine Own.drewN ?_ _ | (refine Own.at ?_; first | rfl | (simp; done)) | refine Own.past ?_ _), by with_reducible (repeat' first | assumption | refine Own.drew ?_ | refine Own.drewN ?_ _ | (refine Own.at ?_; first | rfl | (simp; done)) | refine Own.past ?_ _)⟩
        case round =>
          obtain ⟨f, rfl, hfk, hNf, hB3, o3, o4, o5'⟩ := hrel
          clear c0 f0 l0 c1 f1 l1 c2 f2 l2
          have c0 := o3.cell
          have f0 := o3.fro
          have l0 := o3.lt
          have c1 := o4.cell
          have f1 := o4.fro
          have l1 := o4.lt
          have c2 := o5'.cell
          have f2 := o5'.fro
          have l2 := o5'.lt
          by_cases hlt : f < k
          · have hlti : (f : Int) < k := by omega
            have hfe : f < en := by omega
            have hf9 : (f : Int) ≤ 1099511627776 := by omega
            have hfei : (f : Int) < en := by omega
            obtain ⟨y, hy⟩ : ∃ y, es[f]? = some y := ⟨_, List.getElem?_eq_getElem (by rw [HN.out]; exact hfe)⟩
            have y0 : wr.cell? ⟨g, o + f * 7, none⟩ = some (.int .i64 y.r) := (hB3.cell (p := ⟨g, o + f * 7, none⟩) hgl).trans (HAL.out f y hy 0 (by decide))
            have y1 : wr.cell? ⟨g, o + f * 7 + 1, none⟩ = some (.int .i64 y.k) := (hB3.cell (p := ⟨g, o + f * 7 + 1, none⟩) hgl).trans (HAL.out f y hy 1 (by decide))
            have y2 : wr.cell? ⟨g, o + f * 7 + 2, none⟩ = some (.int .i64 y.t) := (hB3.cell (p := ⟨g, o + f * 7 + 2, none⟩) hgl).trans (HAL.out f y hy 2 (by decide))
            have y3 : wr.cell? ⟨g, o + f * 7 + 3, none⟩ = some (.int .i64 y.n) := (hB3.cell (p := ⟨g, o + f * 7 + 3, none⟩) hgl).trans (HAL.out f y hy 3 (by decide))
            have y4 : wr.cell? ⟨g, o + f * 7 + 4, none⟩ = some (.string y.s) := (hB3.cell (p := ⟨g, o + f * 7 + 4, none⟩) hgl).trans (HAL.out f y hy 4 (by decide))
            have y5 : wr.cell? ⟨g, o + f * 7 + 5, none⟩ = some (.bool y.b) := (hB3.cell (p := ⟨g, o + f * 7 + 5, none⟩) hgl).trans (HAL.out f y hy 5 (by decide))
            have y6 : wr.cell? ⟨g, o + f * 7 + 6, none⟩ = some (.int .i64 y.c) := (hB3.cell (p := ⟨g, o + f * 7 + 6, none⟩) hgl).trans (HAL.out f y hy 6 (by decide))
            by_cases hs : y.t = x.t ∧ y.n = x.n ∧ y.s = x.s ∧ y.b = x.b ∧ y.c = x.c
            · have hs2 : ∀ W, (binOp .eql 26 (.agg #[.int .i64 y.t, .int .i64 y.n, .string y.s, .bool y.b, .int .i64 y.c]) (.agg #[.int .i64 x.t, .int .i64 x.n, .string x.s, .bool x.b, .int .i64 x.c])).run Tryz.prog W = .ok (.bool true) W := fun W => by rw [eqv]; unfold sameB; rw [decide_eq_true hs]
              have hq2 := at1_ahead HLN.out hx.out hy hlt hs HA1.out
              have gC : mn < nn := by have h7 := HMN.out; have h8 := HNN.out; unfold plE at hq2; omega
              clear hq2
              have HS : Hid _ := hs
              have HY' : Hid _ := hy
              clear hs hy
              go_wp2
              go_region_held3 (fun w' => w'.cell? ⟨w.heap.size, 10, none⟩ = some (.slice (some ⟨g, o, none⟩) en ec) ∧ w'.cell? ⟨g, o + f * 7 + 2, none⟩ = some (.int .i64 y.t) ∧ w'.cell? ⟨g, o + f * 7 + 3, none⟩ = some (.int .i64 y.n) ∧ w'.cell? ⟨g, o + f * 7 + 4, none⟩ = some (.string y.s) ∧ w'.cell? ⟨g, o + f * 7 + 5, none⟩ = some (.bool y.b) ∧ w'.cell? ⟨g, o + f * 7 + 6, none⟩ = some (.int .i64 y.c) ∧ w'.cell? ⟨wb.heap.size, 2, none⟩ = some (.int .i64 x.t) ∧ w'.cell? ⟨wb.heap.size, 3, none⟩ = some (.int .i64 x.n) ∧ w'.cell? ⟨wb.heap.size, 4, none⟩ = some (.string x.s) ∧ w'.cell? ⟨wb.heap.size, 5, none⟩ = some (.bool x.b) ∧ w'.cell? ⟨wb.heap.size, 6, none⟩ = some (.int .i64 x.c)) ((repeat' apply And.intro) <;> (first | (go_keep; done) | (go_simp; done))) (first | fail)
              go_wp2
              go_ret
              exact ⟨rfl, by with_reducible (repeat' first | assumption | exact Below.refl _ _ | refine Below.drew ?_ | refine bdrewN ?_ _ | refine Below.setCell ?_ (by first | exact Nat.le_refl _ | (simp; done) | (simp; omega) | omega) _ | refine Below.alloc ?_ (by first | exact Nat.le_refl _ | (simp; done) | (simp; omega) | omega) _)⟩
            · have hs2 : ∀ W, (binOp .eql 26 (.agg #[.int .i64 y.t, .int .i64 y.n, .string y.s, .bool y.b, .int .i64 y.c]) (.agg #[.int .i64 x.t, .int .i64 x.n, .string x.s, .bool x.b, .int .i64 x.c])).run Tryz.prog W = .ok (.bool false) W := fun W => by rw [eqv]; unfold sameB; rw [decide_eq_false hs]
              have HS : Hid (∀ (p : Nat) (z : En), p < f + 1 → es[p]? = some z → ¬ (z.t = x.t ∧ z.n = x.n ∧ z.s = x.s ∧ z.b = x.b ∧ z.c = x.c)) := (show _ from fun p z hp hz => by
                by_cases e : p = f
                · subst e; rw [hy] at hz; cases hz; exact hs
                · exact hNf.out p z (by omega) hz)
              have HY' : Hid _ := hy
              clear hs hy
              go_wp2
              go_region_held3 (fun w' => w'.cell? ⟨w.heap.size, 10, none⟩ = some (.slice (some ⟨g, o, none⟩) en ec) ∧ w'.cell? ⟨g, o + f * 7 + 2, none⟩ = some (.int .i64 y.t) ∧ w'.cell? ⟨g, o + f * 7 + 3, none⟩ = some (.int .i64 y.n) ∧ w'.cell? ⟨g, o + f * 7 + 4, none⟩ = some (.string y.s) ∧ w'.cell? ⟨g, o + f * 7 + 5, none⟩ = some (.bool y.b) ∧ w'.cell? ⟨g, o + f * 7 + 6, none⟩ = some (.int .i64 y.c) ∧ w'.cell? ⟨wb.heap.size, 2, none⟩ = some (.int .i64 x.t) ∧ w'.cell? ⟨wb.heap.size, 3, none⟩ = some (.int .i64 x.n) ∧ w'.cell? ⟨wb.heap.size, 4, none⟩ = some (.string x.s) ∧ w'.cell? ⟨wb.heap.size, 5, none⟩ = some (.bool x.b) ∧ w'.cell? ⟨wb.heap.size, 6, none⟩ = some (.int .i64 x.c)) ((repeat' apply And.intro) <;> (first | (go_keep; done) | (go_simp; done))) (first | fail)
              go_wp2
              exact ⟨⟨f + 1, by go_num, by omega, HS, by with_reducible (repeat' first | assumption | exact Below.refl _ _ | refine Below.drew ?_ | refine bdrewN ?_ _ | refine Below.setCell ?_ (by first | exact Nat.le_refl _ | (simp; done) | (simp; omega) | omega) _ | refine Below.alloc ?_ (by first | exact Nat.le_refl _ | (simp; done) | (simp; omega) | omega) _), by with_reducible (repeat' first | assumption | refine Own.drew ?_ | refine Own.drewN ?_ _ | (refine Own.at ?_; first | rfl | (simp; done)) | refine Own.past ?_ _), by with_reducible (repeat' first | assumption | refine Own.drew ?_ | refine Own.drewN ?_ _ | (refine Own.at ?_; first | rfl | (simp; done)) | refine Own.past ?_ _), by with_reducible (repeat' first | assumption | refine Own.drew ?_ | refine Own.drewN ?_ _ | (refine Own.at ?_; first | rfl | (simp; done)) | refine Own.past ?_ _)⟩, by simp [intOf]; omega⟩
          · have hlti : ¬ (f : Int) < k := by omega
            have hfk2 : f = k := by omega
            subst hfk2
            by_cases h0 : x.t = 0
            · have h0' : (x.t == 0) = true := by rw [h0]; rfl
              have H0 : Hid _ := h0
              clear h0
              go_wp2
              go_ret
              exact ⟨rfl, hB3⟩
            · have h0' : (x.t == 0) = false := by rw [beq_eq_false_iff_ne]; exact h0
              have hq2 := at1_just HLN.out hx.out hNf.out h0 HA1.out HQ.out
              have gC : (mn == nn) = true := by rw [beq_iff_eq]; have h7 := HMN.out; have h8 := HNN.out; unfold plE at hq2; omega
              clear hq2 h0
              go_wp2
              go_ret
              exact ⟨rfl, hB3⟩
      · have hq0' : (r0 != r2) = true := by rw [bne_iff_ne]; exact hq0
        by_cases hq1 : r1 = r3
        · have hq1' : (r1 != r3) = false := by rw [bne_eq_false_iff_eq]; exact hq1
          have HQ0 : Hid (r1 = r3) := hq1
          have hL : Hid (lineB r0 r1 r2 r3 = true) := (show lineB r0 r1 r2 r3 = true from by unfold lineB; rw [decide_eq_true hq1, Bool.or_true])
          clear hq1
          obtain ⟨q, rfl, hmn, rfl, rfl, rfl, LN, hA1, hq⟩ := HFl.out HT.out hL.out
          have HMN : Hid (mn = ((q : Int) + 1) * 10000) := hmn
          obtain ⟨nn, hnn⟩ : ∃ nn : Int, (x.r - r0 + 1 + (x.k - r1 + 1) - 1) * 10000 = nn := ⟨_, rfl⟩
          have HNN : Hid ((x.r - r0 + 1 + (x.k - r1 + 1) - 1) * 10000 = nn) := hnn
          have HA1 : Hid _ := hA1
          have HLN : Hid _ := LN
          have HQ : Hid ((q : Int) ≤ plE r0 r1 x) := hq
          have gA : decide (nn < mn) = false := decide_eq_false (by unfold plE at hq; omega)
          have gB : decide (mn < 10000) = false := decide_eq_false (by omega)
          have hl : Hid _ := HL.out HT.out hL.out
          have hNo : Hid (∀ (f : Nat) (y : En), f < 0 → es[f]? = some y → ¬ (y.t = x.t ∧ y.n = x.n ∧ y.s = x.s ∧ y.b = x.b ∧ y.c = x.c)) := (show _ from fun f y h => absurd h (Nat.not_lt_zero _))
          clear hA1 LN hq hmn hnn
          go_wp2
          rw [HNN.out]
          go_region_held3 (fun w' => w'.cell? ⟨w.heap.size, 0, none⟩ = some (.bool true) ∧ w'.cell? ⟨w.heap.size, 1, none⟩ = some (.int .i64 t) ∧ w'.cell? ⟨w.heap.size, 2, none⟩ = some (.int .i64 n) ∧ w'.cell? ⟨w.heap.size, 3, none⟩ = some (.string s) ∧ w'.cell? ⟨w.heap.size, 4, none⟩ = some (.bool b) ∧ w'.cell? ⟨w.heap.size, 5, none⟩ = some (.int .i64 c) ∧ w'.cell? ⟨w.heap.size, 6, none⟩ = some (.int .i64 r0) ∧ w'.cell? ⟨w.heap.size, 7, none⟩ = some (.int .i64 r1) ∧ w'.cell? ⟨w.heap.size, 8, none⟩ = some (.int .i64 r2) ∧ w'.cell? ⟨w.heap.size, 9, none⟩ = some (.int .i64 r3) ∧ w'.cell? ⟨w.heap.size, 10, none⟩ = some (.slice (some ⟨g, o, none⟩) en ec) ∧ w'.cell? ⟨wb.heap.size, 2, none⟩ = some (.int .i64 x.t) ∧ w'.cell? ⟨wb.heap.size, 3, none⟩ = some (.int .i64 x.n) ∧ w'.cell? ⟨wb.heap.size, 4, none⟩ = some (.string x.s) ∧ w'.cell? ⟨wb.heap.size, 5, none⟩ = some (.bool x.b) ∧ w'.cell? ⟨wb.heap.size, 6, none⟩ = some (.int .i64 x.c) ∧ w'.cell? ⟨v5.heap.size + 1, 0, none⟩ = some (.int .i64 1) ∧ w'.cell? ⟨v5.heap.size + 1, 1, none⟩ = some (.int .i64 mn)) ((repeat' apply And.intro) <;> (first | (go_keep; done) | (go_simp; done))) (first | (go_at_call 20; refine (single_any _ _ _ _ _ _).mono ?_; rintro e u1 ⟨rfl, hbu1⟩; have hBu1 : Below w.heap.size w u1 := bup (by with_reducible (repeat' first | assumption | exact Below.refl _ _ | refine Below.drew ?_ | refine bdrewN ?_ _ | refine Below.setCell ?_ (by first | exact Nat.le_refl _ | (simp; done) | (simp; omega) | omega) _ | refine Below.alloc ?_ (by first | exact Nat.le_refl _ | (simp; done) | (simp; omega) | omega) _)) hbu1; have zu1 := hBu1.size; have o0u1 : Own u1 (w.heap.size) #[.bool true, .int .i64 t, .int .i64 n, .string s, .bool b, .int .i64 c, .int .i64 r0, .int .i64 r1, .int .i64 r2, .int .i64 r3, .slice (some ⟨g, o, none⟩) en ec] := Own.keep (by with_reducible (repeat' first | assumption | refine Own.drew ?_ | refine Own.drewN ?_ _ | (refine Own.at ?_; first | rfl | (simp; done)) | refine Own.past ?_ _)) hbu1; have c0 := o0u1.cell; have f0 := o0u1.fro; have l0 := o0u1.lt; have o1u1 : Own u1 (wb.heap.size) #[.int .i64 x.r, .int .i64 x.k, .int .i64 x.t, .int .i64 x.n, .string x.s, .bool x.b, .int .i64 x.c] := Own.keep (by with_reducible (repeat' first | assumption | refine Own.drew ?_ | refine Own.drewN ?_ _ | (refine Own.at ?_; first | rfl | (simp; done)) | refine Own.past ?_ _)) hbu1; have c1 := o1u1.cell; have f1 := o1u1.fro; have l1 := o1u1.lt; have o2u1 : Own u1 (v5.heap.size + 1) #[.int .i64 1, .int .i64 mn, .string ⟨#[]⟩, .bool false, .int .i64 0] := Own.keep (by with_reducible (repeat' first | assumption | refine Own.drew ?_ | refine Own.drewN ?_ _ | (refine Own.at ?_; first | rfl | (simp; done)) | refine Own.past ?_ _)) hbu1; have c2 := o2u1.cell; have f2 := o2u1.fro; have l2 := o2u1.lt) | (go_at_call 9; refine (hl.out _ _ (av_own3 (a := oneV x.t x.n x.s x.b x.c) (b := (⟨true, t, n, s, b, c, r0, r1, r2, r3, some ⟨g, o, none⟩, en, ec⟩ : Ag)) (c := (⟨true, t, n, s, b, c, r0, r1, r2, r3, some ⟨g, o, none⟩, en, ec⟩ : Ag)) (A := #[.bool false, .int .i64 x.t, .int .i64 x.n, .string x.s, .bool x.b, .int .i64 x.c, .int .i64 0, .int .i64 0, .int .i64 0, .int .i64 0, .slice none 0 0, .bool true, .int .i64 t, .int .i64 n, .string s, .bool b, .int .i64 c, .int .i64 r0, .int .i64 r1, .int .i64 r2, .int .i64 r3, .slice (some ⟨g, o, none⟩) en ec, .bool true, .int .i64 t, .int .i64 n, .string s, .bool b, .int .i64 c, .int .i64 r0, .int .i64 r1, .int .i64 r2, .int .i64 r3, .slice (some ⟨g, o, none⟩) en ec]) (by with_reducible (repeat' first | assumption | refine Own.drew ?_ | refine Own.drewN ?_ _ | (refine Own.at ?_; first | rfl | (simp; done)) | refine Own.past ?_ _)) e222.out) (by with_reducible (repeat' first | assumption | exact Below.refl _ _ | refine Below.drew ?_ | refine bdrewN ?_ _ | refine Below.setCell ?_ (by first | exact Nat.le_refl _ | (simp; done) | (simp; omega) | omega) _ | refine Below.alloc ?_ (by first | exact Nat.le_refl _ | (simp; done) | (simp; omega) | omega) _))).mono ?_; rintro e u2 ⟨rfl, hbu2⟩; have hBu2 : Below w.heap.size w u2 := bup (by with_reducible (repeat' first | assumption | exact Below.refl _ _ | refine Below.drew ?_ | refine bdrewN ?_ _ | refine Below.setCell ?_ (by first | exact Nat.le_refl _ | (simp; done) | (simp; omega) | omega) _ | refine Below.alloc ?_ (by first | exact Nat.le_refl _ | (simp; done) | (simp; omega) | omega) _)) hbu2; have zu2 := hBu2.size; have o0u2 : Own u2 (w.heap.size) #[.bool true, .int .i64 t, .int .i64 n, .string s, .bool b, .int .i64 c, .int .i64 r0, .int .i64 r1, .int .i64 r2, .int .i64 r3, .slice (some ⟨g, o, none⟩) en ec] := Own.keep (by with_reducible (repeat' first | assumption | refine Own.drew ?_ | refine Own.drewN ?_ _ | (refine Own.at ?_; first | rfl | (simp; done)) | refine Own.past ?_ _)) hbu2; have c0 := o0u2.cell; have f0 := o0u2.fro; have l0 := o0u2.lt; have o1u2 : Own u2 (wb.heap.size) #[.int .i64 x.r, .int .i64 x.k, .int .i64 x.t, .int .i64 x.n, .string x.s, .bool x.b, .int .i64 x.c] := Own.keep (by with_reducible (repeat' first | assumption | refine Own.drew ?_ | refine Own.drewN ?_ _ | (refine Own.at ?_; first | rfl | (simp; done)) | refine Own.past ?_ _)) hbu2; have c1 := o1u2.cell; have f1 := o1u2.fro; have l1 := o1u2.lt; have o2u2 : Own u2 (v5.heap.size + 1) #[.int .i64 1, .int .i64 mn, .string ⟨#[]⟩, .bool false, .int .i64 0] := Own.keep (by with_reducible (repeat' first | assumption | refine Own.drew ?_ | refine Own.drewN ?_ _ | (refine Own.at ?_; first | rfl | (simp; done)) | refine Own.past ?_ _)) hbu2; have c2 := o2u2.cell; have f2 := o2u2.fro; have l2 := o2u2.lt))
          clear gA gB
          go_wp2
          go_loopw [12] (fun v w' => ∃ f : Nat, v = .int .i64 f ∧ f ≤ k ∧ Hid (∀ (p : Nat) (y : En), p < f → es[p]? = some y → ¬ (y.t = x.t ∧ y.n = x.n ∧ y.s = x.s ∧ y.b = x.b ∧ y.c = x.c)) ∧ Below w.heap.size w w' ∧ Own w' w.heap.size #[.bool true, .int .i64 t, .int .i64 n, .string s, .bool b, .int .i64 c, .int .i64 r0, .int .i64 r1, .int .i64 r2, .int .i64 r3, .slice (some ⟨g, o, none⟩) en ec] ∧ Own w' wb.heap.size #[.int .i64 x.r, .int .i64 x.k, .int .i64 x.t, .int .i64 x.n, .string x.s, .bool x.b, .int .i64 x.c] ∧ Own w' (v5.heap.size + 1) #[.int .i64 1, .int .i64 mn, .string ⟨#[]⟩, .bool false, .int .i64 0]) (fun v _ => (k - intOf v).toNat)
          case atStart => exact ⟨0, rfl, Nat.zero_le _, hNo, by with_reducible (repeat' first | assumption | exact Below.refl _ _ | refine Below.drew ?_ | refine bdrewN ?_ _ | refine Below.setCell ?_ (by first | exact Nat.le_refl _ | (simp; done) | (simp; omega) | omega) _ | refine Below.alloc ?_ (by first | exact Nat.le_refl _ | (simp; done) | (simp; omega) | omega) _), by with_reducible (repeat' first | assumption | refine Own.drew ?_ | refine Own.drewN ?_ _ | (refine Own.at ?_; first | rfl | (simp; done)) | refine Own.past ?_ _), by with_reducible (repeat' first | assumption | refine Own.drew ?_ | refine Own.drewN ?_ _ | (refine Own.at ?_; first | rfl | (simp; done)) | refine Own.past ?_ _), by with_reducible (repeat' first | assumption | refine Own.drew ?_ | refine Own.drewN ?_ _ | (refine Own.at ?_; first | rfl | (simp; done)) | refine Own.past ?_ _)⟩
          case round =>
            obtain ⟨f, rfl, hfk, hNf, hB3, o3, o4, o5'⟩ := hrel
            clear c0 f0 l0 c1 f1 l1 c2 f2 l2
            have c0 := o3.cell
            have f0 := o3.fro
            have l0 := o3.lt
            have c1 := o4.cell
            have f1 := o4.fro
            have l1 := o4.lt
            have c2 := o5'.cell
            have f2 := o5'.fro
            have l2 := o5'.lt
            by_cases hlt : f < k
            · have hlti : (f : Int) < k := by omega
              have hfe : f < en := by omega
              have hf9 : (f : Int) ≤ 1099511627776 := by omega
              have hfei : (f : Int) < en := by omega
              obtain ⟨y, hy⟩ : ∃ y, es[f]? = some y := ⟨_, List.getElem?_eq_getElem (by rw [HN.out]; exact hfe)⟩
              have y0 : wr.cell? ⟨g, o + f * 7, none⟩ = some (.int .i64 y.r) := (hB3.cell (p := ⟨g, o + f * 7, none⟩) hgl).trans (HAL.out f y hy 0 (by decide))
              have y1 : wr.cell? ⟨g, o + f * 7 + 1, none⟩ = some (.int .i64 y.k) := (hB3.cell (p := ⟨g, o + f * 7 + 1, none⟩) hgl).trans (HAL.out f y hy 1 (by decide))
              have y2 : wr.cell? ⟨g, o + f * 7 + 2, none⟩ = some (.int .i64 y.t) := (hB3.cell (p := ⟨g, o + f * 7 + 2, none⟩) hgl).trans (HAL.out f y hy 2 (by decide))
              have y3 : wr.cell? ⟨g, o + f * 7 + 3, none⟩ = some (.int .i64 y.n) := (hB3.cell (p := ⟨g, o + f * 7 + 3, none⟩) hgl).trans (HAL.out f y hy 3 (by decide))
              have y4 : wr.cell? ⟨g, o + f * 7 + 4, none⟩ = some (.string y.s) := (hB3.cell (p := ⟨g, o + f * 7 + 4, none⟩) hgl).trans (HAL.out f y hy 4 (by decide))
              have y5 : wr.cell? ⟨g, o + f * 7 + 5, none⟩ = some (.bool y.b) := (hB3.cell (p := ⟨g, o + f * 7 + 5, none⟩) hgl).trans (HAL.out f y hy 5 (by decide))
              have y6 : wr.cell? ⟨g, o + f * 7 + 6, none⟩ = some (.int .i64 y.c) := (hB3.cell (p := ⟨g, o + f * 7 + 6, none⟩) hgl).trans (HAL.out f y hy 6 (by decide))
              by_cases hs : y.t = x.t ∧ y.n = x.n ∧ y.s = x.s ∧ y.b = x.b ∧ y.c = x.c
              · have hs2 : ∀ W, (binOp .eql 26 (.agg #[.int .i64 y.t, .int .i64 y.n, .string y.s, .bool y.b, .int .i64 y.c]) (.agg #[.int .i64 x.t, .int .i64 x.n, .string x.s, .bool x.b, .int .i64 x.c])).run Tryz.prog W = .ok (.bool true) W := fun W => by rw [eqv]; unfold sameB; rw [decide_eq_true hs]
                have hq2 := at1_ahead HLN.out hx.out hy hlt hs HA1.out
                have gC : mn < nn := by have h7 := HMN.out; have h8 := HNN.out; unfold plE at hq2; omega
                clear hq2
                have HS : Hid _ := hs
                have HY' : Hid _ := hy
                clear hs hy
                go_wp2
                go_region_held3 (fun w' => w'.cell? ⟨w.heap.size, 10, none⟩ = some (.slice (some ⟨g, o, none⟩) en ec) ∧ w'.cell? ⟨g, o + f * 7 + 2, none⟩ = some (.int .i64 y.t) ∧ w'.cell? ⟨g, o + f * 7 + 3, none⟩ = some (.int .i64 y.n) ∧ w'.cell? ⟨g, o + f * 7 + 4, none⟩ = some (.string y.s) ∧ w'.cell? ⟨g, o + f * 7 + 5, none⟩ = some (.bool y.b) ∧ w'.cell? ⟨g, o + f * 7 + 6, none⟩ = some (.int .i64 y.c) ∧ w'.cell? ⟨wb.heap.size, 2, none⟩ = some (.int .i64 x.t) ∧ w'.cell? ⟨wb.heap.size, 3, none⟩ = some (.int .i64 x.n) ∧ w'.cell? ⟨wb.heap.size, 4, none⟩ = some (.string x.s) ∧ w'.cell? ⟨wb.heap.size, 5, none⟩ = some (.bool x.b) ∧ w'.cell? ⟨wb.heap.size, 6, none⟩ = some (.int .i64 x.c)) ((repeat' apply And.intro) <;> (first | (go_keep; done) | (go_simp; done))) (first | fail)
                go_wp2
                go_ret
                exact ⟨rfl, by with_reducible (repeat' first | assumption | exact Below.refl _ _ | refine Below.drew ?_ | refine bdrewN ?_ _ | refine Below.setCell ?_ (by first | exact Nat.le_refl _ | (simp; done) | (simp; omega) | omega) _ | refine Below.alloc ?_ (by first | exact Nat.le_refl _ | (simp; done) | (simp; omega) | omega) _)⟩
              · have hs2 : ∀ W, (binOp .eql 26 (.agg #[.int .i64 y.t, .int .i64 y.n, .string y.s, .bool y.b, .int .i64 y.c]) (.agg #[.int .i64 x.t, .int .i64 x.n, .string x.s, .bool x.b, .int .i64 x.c])).run Tryz.prog W = .ok (.bool false) W := fun W => by rw [eqv]; unfold sameB; rw [decide_eq_false hs]
                have HS : Hid (∀ (p : Nat) (z : En), p < f + 1 → es[p]? = some z → ¬ (z.t = x.t ∧ z.n = x.n ∧ z.s = x.s ∧ z.b = x.b ∧ z.c = x.c)) := (show _ from fun p z hp hz => by
                  by_cases e : p = f
                  · subst e; rw [hy] at hz; cases hz; exact hs
                  · exact hNf.out p z (by omega) hz)
                have HY' : Hid _ := hy
                clear hs hy
                go_wp2
                go_region_held3 (fun w' => w'.cell? ⟨w.heap.size, 10, none⟩ = some (.slice (some ⟨g, o, none⟩) en ec) ∧ w'.cell? ⟨g, o + f * 7 + 2, none⟩ = some (.int .i64 y.t) ∧ w'.cell? ⟨g, o + f * 7 + 3, none⟩ = some (.int .i64 y.n) ∧ w'.cell? ⟨g, o + f * 7 + 4, none⟩ = some (.string y.s) ∧ w'.cell? ⟨g, o + f * 7 + 5, none⟩ = some (.bool y.b) ∧ w'.cell? ⟨g, o + f * 7 + 6, none⟩ = some (.int .i64 y.c) ∧ w'.cell? ⟨wb.heap.size, 2, none⟩ = some (.int .i64 x.t) ∧ w'.cell? ⟨wb.heap.size, 3, none⟩ = some (.int .i64 x.n) ∧ w'.cell? ⟨wb.heap.size, 4, none⟩ = some (.string x.s) ∧ w'.cell? ⟨wb.heap.size, 5, none⟩ = some (.bool x.b) ∧ w'.cell? ⟨wb.heap.size, 6, none⟩ = some (.int .i64 x.c)) ((repeat' apply And.intro) <;> (first | (go_keep; done) | (go_simp; done))) (first | fail)
                go_wp2
                exact ⟨⟨f + 1, by go_num, by omega, HS, by with_reducible (repeat' first | assumption | exact Below.refl _ _ | refine Below.drew ?_ | refine bdrewN ?_ _ | refine Below.setCell ?_ (by first | exact Nat.le_refl _ | (simp; done) | (simp; omega) | omega) _ | refine Below.alloc ?_ (by first | exact Nat.le_refl _ | (simp; done) | (simp; omega) | omega) _), by with_reducible (repeat' first | assumption | refine Own.drew ?_ | refine Own.drewN ?_ _ | (refine Own.at ?_; first | rfl | (simp; done)) | refine Own.past ?_ _), by with_reducible (repeat' first | assumption | refine Own.drew ?_ | refine Own.drewN ?_ _ | (refine Own.at ?_; first | rfl | (simp; done)) | refine Own.past ?_ _), by with_reducible (repeat' first | assumption | refine Own.drew ?_ | refine Own.drewN ?_ _ | (refine Own.at ?_; first | rfl | (simp; done)) | refine Own.past ?_ _)⟩, by simp [intOf]; omega⟩
            · have hlti : ¬ (f : Int) < k := by omega
              have hfk2 : f = k := by omega
              subst hfk2
              by_cases h0 : x.t = 0
              · have h0' : (x.t == 0) = true := by rw [h0]; rfl
                have H0 : Hid _ := h0
                clear h0
                go_wp2
                go_ret
                exact ⟨rfl, hB3⟩
              · have h0' : (x.t == 0) = false := by rw [beq_eq_false_iff_ne]; exact h0
                have hq2 := at1_just HLN.out hx.out hNf.out h0 HA1.out HQ.out
                have gC : (mn == nn) = true := by rw [beq_iff_eq]; have h7 := HMN.out; have h8 := HNN.out; unfold plE at hq2; omega
                clear hq2 h0
                go_wp2
                go_ret
                exact ⟨rfl, hB3⟩
        · have hq1' : (r1 != r3) = true := by rw [bne_iff_ne]; exact hq1
          obtain ⟨rfl, rfl, rfl, rfl, rfl⟩ := HFn.out HT.out (by unfold lineB; rw [decide_eq_false hq0, decide_eq_false hq1]; rfl)
          clear hq1
          go_wp2
          go_ret
          exact ⟨rfl, hBX⟩
  · refine via_ex (fun X hX => ?_)
    have hBX : Below w.heap.size w X := (by rw [hX]; with_reducible (repeat' first | assumption | exact Below.refl _ _ | refine Below.drew ?_ | refine bdrewN ?_ _ | refine Below.setCell ?_ (by first | exact b5 | exact Nat.le_refl _ | (simp; done) | (simp; omega) | omega) _ | refine Below.alloc ?_ (by first | exact Nat.le_refl _ | (simp; done) | (simp; omega) | omega) _))
    have oA : Own X w.heap.size #[.bool true, .int .i64 t, .int .i64 n, .string s, .bool b, .int .i64 c, .int .i64 r0, .int .i64 r1, .int .i64 r2, .int .i64 r3, .slice (some ⟨g, o, none⟩) en ec] := (by rw [hX]; with_reducible (repeat' first | assumption | refine Own.drew ?_ | refine Own.drewN ?_ _ | (refine Own.at ?_; first | rfl | (simp; done)) | refine Own.past ?_ _ | refine Own.aside ?_ (by first | exact m5a | exact m5b) _))
    have oE : Own X wb.heap.size #[.int .i64 x.r, .int .i64 x.k, .int .i64 x.t, .int .i64 x.n, .string x.s, .bool x.b, .int .i64 x.c] := (by rw [hX]; with_reducible (repeat' first | assumption | refine Own.drew ?_ | refine Own.drewN ?_ _ | (refine Own.at ?_; first | rfl | (simp; done)) | refine Own.past ?_ _ | refine Own.aside ?_ (by first | exact m5a | exact m5b) _))
    have oM : Own X (v5.heap.size) #[.int .i64 mt, .int .i64 mn, .string ms, .bool mb, .int .i64 mc] := (by rw [hX]; exact own_put5 (x0 := .int .i64 0) (x1 := .int .i64 0) (x2 := .string ⟨#[]⟩) (x3 := .bool false) (x4 := .int .i64 0) (by with_reducible (repeat' first | assumption | refine Own.drew ?_ | refine Own.drewN ?_ _ | (refine Own.at ?_; first | rfl | (simp; done)) | refine Own.past ?_ _)))
    have c0 := oA.cell
    have f0 := oA.fro
    have l0 := oA.lt
    have c1 := oE.cell
    have f1 := oE.fro
    have l1 := oE.lt
    have c2 := oM.cell
    have f2 := oM.fro
    have l2 := oM.lt
    clear hX
    by_cases ht : x.t = 4
    · obtain ⟨rfl, rfl, rfl, rfl, rfl⟩ := HF4.out ht
      have ht' : (x.t == 4) = true := by rw [ht]; rfl
      have HT : Hid _ := ht
      clear ht
      go_wp2
      go_ret
      exact ⟨rfl, hBX⟩
    · have ht' : (x.t == 4) = false := by rw [beq_eq_false_iff_ne]; exact ht
      have HT : Hid (¬ x.t = 4) := ht
      clear ht
      by_cases hq0 : r0 = r2
      · have hq0' : (r0 != r2) = false := by rw [bne_eq_false_iff_eq]; exact hq0
        have HQ0 : Hid (r0 = r2) := hq0
        have hL : Hid (lineB r0 r1 r2 r3 = true) := (show lineB r0 r1 r2 r3 = true from by unfold lineB; rw [decide_eq_true hq0]; rfl)
        clear hq0
        obtain ⟨q, rfl, hmn, rfl, rfl, rfl, LN, hA1, hq⟩ := HFl.out HT.out hL.out
        have HMN : Hid (mn = ((q : Int) + 1) * 10000) := hmn
        obtain ⟨nn, hnn⟩ : ∃ nn : Int, (x.r - r0 + 1 + (x.k - r1 + 1) - 1) * 10000 = nn := ⟨_, rfl⟩
        have HNN : Hid ((x.r - r0 + 1 + (x.k - r1 + 1) - 1) * 10000 = nn) := hnn
        have HA1 : Hid _ := hA1
        have HLN : Hid _ := LN
        have HQ : Hid ((q : Int) ≤ plE r0 r1 x) := hq
        have gA : decide (nn < mn) = false := decide_eq_false (by unfold plE at hq; omega)
        have gB : decide (mn < 10000) = false := decide_eq_false (by omega)
        have hl : Hid _ := HL.out HT.out hL.out
        have hNo : Hid (∀ (f : Nat) (y : En), f < 0 → es[f]? = some y → ¬ (y.t = x.t ∧ y.n = x.n ∧ y.s = x.s ∧ y.b = x.b ∧ y.c = x.c)) := (show _ from fun f y h => absurd h (Nat.not_lt_zero _))
        clear hA1 LN hq hmn hnn
        go_wp2
        rw [HNN.out]
        go_region_held3 (fun w' => w'.cell? ⟨w.heap.size, 0, none⟩ = some (.bool true) ∧ w'.cell? ⟨w.heap.size, 1, none⟩ = some (.int .i64 t) ∧ w'.cell? ⟨w.heap.size, 2, none⟩ = some (.int .i64 n) ∧ w'.cell? ⟨w.heap.size, 3, none⟩ = some (.string s) ∧ w'.cell? ⟨w.heap.size, 4, none⟩ = some (.bool b) ∧ w'.cell? ⟨w.heap.size, 5, none⟩ = some (.int .i64 c) ∧ w'.cell? ⟨w.heap.size, 6, none⟩ = some (.int .i64 r0) ∧ w'.cell? ⟨w.heap.size, 7, none⟩ = some (.int .i64 r1) ∧ w'.cell? ⟨w.heap.size, 8, none⟩ = some (.int .i64 r2) ∧ w'.cell? ⟨w.heap.size, 9, none⟩ = some (.int .i64 r3) ∧ w'.cell? ⟨w.heap.size, 10, none⟩ = some (.slice (some ⟨g, o, none⟩) en ec) ∧ w'.cell? ⟨wb.heap.size, 2, none⟩ = some (.int .i64 x.t) ∧ w'.cell? ⟨wb.heap.size, 3, none⟩ = some (.int .i64 x.n) ∧ w'.cell? ⟨wb.heap.size, 4, none⟩ = some (.string x.s) ∧ w'.cell? ⟨wb.heap.size, 5, none⟩ = some (.bool x.b) ∧ w'.cell? ⟨wb.heap.size, 6, none⟩ = some (.int .i64 x.c) ∧ w'.cell? ⟨v5.heap.size, 0, none⟩ = some (.int .i64 1) ∧ w'.cell? ⟨v5.heap.size, 1, none⟩ = some (.int .i64 mn)) ((repeat' apply And.intro) <;> (first | (go_keep; done) | (go_simp; done))) (first | (go_at_call 20; refine (single_any _ _ _ _ _ _).mono ?_; rintro e u1 ⟨rfl, hbu1⟩; have hBu1 : Below w.heap.size w u1 := bup (by with_reducible (repeat' first | assumption | exact Below.refl _ _ | refine Below.drew ?_ | refine bdrewN ?_ _ | refine Below.setCell ?_ (by first | exact Nat.le_refl _ | (simp; done) | (simp; omega) | omega) _ | refine Below.alloc ?_ (by first | exact Nat.le_refl _ | (simp; done) | (simp; omega) | omega) _)) hbu1; have zu1 := hBu1.size; have o0u1 : Own u1 (w.heap.size) #[.bool true, .int .i64 t, .int .i64 n, .string s, .bool b, .int .i64 c, .int .i64 r0, .int .i64 r1, .int .i64 r2, .int .i64 r3, .slice (some ⟨g, o, none⟩) en ec] := Own.keep (by with_reducible (repeat' first | assumption | refine Own.drew ?_ | refine Own.drewN ?_ _ | (refine Own.at ?_; first | rfl | (simp; done)) | refine Own.past ?_ _)) hbu1; have c0 := o0u1.cell; have f0 := o0u1.fro; have l0 := o0u1.lt; have o1u1 : Own u1 (wb.heap.size) #[.int .i64 x.r, .int .i64 x.k, .int .i64 x.t, .int .i64 x.n, .string x.s, .bool x.b, .int .i64 x.c] := Own.keep (by with_reducible (repeat' first | assumption | refine Own.drew ?_ | refine Own.drewN ?_ _ | (refine Own.at ?_; first | rfl | (simp; done)) | refine Own.past ?_ _)) hbu1; have c1 := o1u1.cell; have f1 := o1u1.fro; have l1 := o1u1.lt; have o2u1 : Own u1 (v5.heap.size) #[.int .i64 1, .int .i64 mn, .string ⟨#[]⟩, .bool false, .int .i64 0] := Own.keep (by with_reducible (repeat' first | assumption | refine Own.drew ?_ | refine Own.drewN ?_ _ | (refine Own.at ?_; first | rfl | (simp; done)) | refine Own.past ?_ _)) hbu1; have c2 := o2u1.cell; have f2 := o2u1.fro; have l2 := o2u1.lt) | (go_at_call 9; refine (hl.out _ _ (av_own3 (a := oneV x.t x.n x.s x.b x.c) (b := (⟨true, t, n, s, b, c, r0, r1, r2, r3, some ⟨g, o, none⟩, en, ec⟩ : Ag)) (c := (⟨true, t, n, s, b, c, r0, r1, r2, r3, some ⟨g, o, none⟩, en, ec⟩ : Ag)) (A := #[.bool false, .int .i64 x.t, .int .i64 x.n, .string x.s, .bool x.b, .int .i64 x.c, .int .i64 0, .int .i64 0, .int .i64 0, .int .i64 0, .slice none 0 0, .bool true, .int .i64 t, .int .i64 n, .string s, .bool b, .int .i64 c, .int .i64 r0, .int .i64 r1, .int .i64 r2, .int .i64 r3, .slice (some ⟨g, o, none⟩) en ec, .bool true, .int .i64 t, .int .i64 n, .string s, .bool b, .int .i64 c, .int .i64 r0, .int .i64 r1, .int .i64 r2, .int .i64 r3, .slice (some ⟨g, o, none⟩) en ec]) (by with_reducible (repeat' first | assumption | refine Own.drew ?_ | refine Own.drewN ?_ _ | (refine Own.at ?_; first | rfl | (simp; done)) | refine Own.past ?_ _)) e222.out) (by with_reducible (repeat' first | assumption | exact Below.refl _ _ | refine Below.drew ?_ | refine bdrewN ?_ _ | refine Below.setCell ?_ (by first | exact Nat.le_refl _ | (simp; done) | (simp; omega) | omega) _ | refine Below.alloc ?_ (by first | exact Nat.le_refl _ | (simp; done) | (simp; omega) | omega) _))).mono ?_; rintro e u2 ⟨rfl, hbu2⟩; have hBu2 : Below w.heap.size w u2 := bup (by with_reducible (repeat' first | assumption | exact Below.refl _ _ | refine Below.drew ?_ | refine bdrewN ?_ _ | refine Below.setCell ?_ (by first | exact Nat.le_refl _ | (simp; done) | (simp; omega) | omega) _ | refine Below.alloc ?_ (by first | exact Nat.le_refl _ | (simp; done) | (simp; omega) | omega) _)) hbu2; have zu2 := hBu2.size; have o0u2 : Own u2 (w.heap.size) #[.bool true, .int .i64 t, .int .i64 n, .string s, .bool b, .int .i64 c, .int .i64 r0, .int .i64 r1, .int .i64 r2, .int .i64 r3, .slice (some ⟨g, o, none⟩) en ec] := Own.keep (by with_reducible (repeat' first | assumption | refine Own.drew ?_ | refine Own.drewN ?_ _ | (refine Own.at ?_; first | rfl | (simp; done)) | refine Own.past ?_ _)) hbu2; have c0 := o0u2.cell; have f0 := o0u2.fro; have l0 := o0u2.lt; have o1u2 : Own u2 (wb.heap.size) #[.int .i64 x.r, .int .i64 x.k, .int .i64 x.t, .int .i64 x.n, .string x.s, .bool x.b, .int .i64 x.c] := Own.keep (by with_reducible (repeat' first | assumption | refine Own.drew ?_ | refine Own.drewN ?_ _ | (refine Own.at ?_; first | rfl | (simp; done)) | refine Own.past ?_ _)) hbu2; have c1 := o1u2.cell; have f1 := o1u2.fro; have l1 := o1u2.lt; have o2u2 : Own u2 (v5.heap.size) #[.int .i64 1, .int .i64 mn, .string ⟨#[]⟩, .bool false, .int .i64 0] := Own.keep (by with_reducible (repeat' first | assumption | refine Own.drew ?_ | refine Own.drewN ?_ _ | (refine Own.at ?_; first | rfl | (simp; done)) | refine Own.past ?_ _)) hbu2; have c2 := o2u2.cell; have f2 := o2u2.fro; have l2 := o2u2.lt))
        clear gA gB
        go_wp2
        go_loopw [12] (fun v w' => ∃ f : Nat, v = .int .i64 f ∧ f ≤ k ∧ Hid (∀ (p : Nat) (y : En), p < f → es[p]? = some y → ¬ (y.t = x.t ∧ y.n = x.n ∧ y.s = x.s ∧ y.b = x.b ∧ y.c = x.c)) ∧ Below w.heap.size w w' ∧ Own w' w.heap.size #[.bool true, .int .i64 t, .int .i64 n, .string s, .bool b, .int .i64 c, .int .i64 r0, .int .i64 r1, .int .i64 r2, .int .i64 r3, .slice (some ⟨g, o, none⟩) en ec] ∧ Own w' wb.heap.size #[.int .i64 x.r, .int .i64 x.k, .int .i64 x.t, .int .i64 x.n, .string x.s, .bool x.b, .int .i64 x.c] ∧ Own w' (v5.heap.size) #[.int .i64 1, .int .i64 mn, .string ⟨#[]⟩, .bool false, .int .i64 0]) (fun v _ => (k - intOf v).toNat)
        case atStart => exact ⟨0, rfl, Nat.zero_le _, hNo, by with_reducible (repeat' first | assumption | exact Below.refl _ _ | refine Below.drew ?_ | refine bdrewN ?_ _ | refine Below.setCell ?_ (by first | exact Nat.le_refl _ | (simp; done) | (simp; omega) | omega) _ | refine Below.alloc ?_ (by first | exact Nat.le_refl _ | (simp; done) | (simp; omega) | omega) _), by with_reducible (repeat' first | assumption | refine Own.drew ?_ | refine Own.drewN ?_ _ | (refine Own.at ?_; first | rfl | (simp; done)) | refine Own.past ?_ _), by with_reducible (repeat' first | assumption | refine Own.drew ?_ | refine Own.drewN ?_ _ | (refine Own.at ?_; first | rfl | (simp; done)) | refine Own.past ?_ _), by with_reducible (repeat' first | assumption | refine Own.drew ?_ | refine Own.drewN ?_ _ | (refine Own.at ?_; first | rfl | (simp; done)) | refine Own.past ?_ _)⟩
        case round =>
          obtain ⟨f, rfl, hfk, hNf, hB3, o3, o4, o5'⟩ := hrel
          clear c0 f0 l0 c1 f1 l1 c2 f2 l2
          have c0 := o3.cell
          have f0 := o3.fro
          have l0 := o3.lt
          have c1 := o4.cell
          have f1 := o4.fro
          have l1 := o4.lt
          have c2 := o5'.cell
          have f2 := o5'.fro
          have l2 := o5'.lt
          by_cases hlt : f < k
          · have hlti : (f : Int) < k := by omega
            have hfe : f < en := by omega
            have hf9 : (f : Int) ≤ 1099511627776 := by omega
            have hfei : (f : Int) < en := by omega
            obtain ⟨y, hy⟩ : ∃ y, es[f]? = some y := ⟨_, List.getElem?_eq_getElem (by rw [HN.out]; exact hfe)⟩
            have y0 : wr.cell? ⟨g, o + f * 7, none⟩ = some (.int .i64 y.r) := (hB3.cell (p := ⟨g, o + f * 7, none⟩) hgl).trans (HAL.out f y hy 0 (by decide))
            have y1 : wr.cell? ⟨g, o + f * 7 + 1, none⟩ = some (.int .i64 y.k) := (hB3.cell (p := ⟨g, o + f * 7 + 1, none⟩) hgl).trans (HAL.out f y hy 1 (by decide))
            have y2 : wr.cell? ⟨g, o + f * 7 + 2, none⟩ = some (.int .i64 y.t) := (hB3.cell (p := ⟨g, o + f * 7 + 2, none⟩) hgl).trans (HAL.out f y hy 2 (by decide))
            have y3 : wr.cell? ⟨g, o + f * 7 + 3, none⟩ = some (.int .i64 y.n) := (hB3.cell (p := ⟨g, o + f * 7 + 3, none⟩) hgl).trans (HAL.out f y hy 3 (by decide))
            have y4 : wr.cell? ⟨g, o + f * 7 + 4, none⟩ = some (.string y.s) := (hB3.cell (p := ⟨g, o + f * 7 + 4, none⟩) hgl).trans (HAL.out f y hy 4 (by decide))
            have y5 : wr.cell? ⟨g, o + f * 7 + 5, none⟩ = some (.bool y.b) := (hB3.cell (p := ⟨g, o + f * 7 + 5, none⟩) hgl).trans (HAL.out f y hy 5 (by decide))
            have y6 : wr.cell? ⟨g, o + f * 7 + 6, none⟩ = some (.int .i64 y.c) := (hB3.cell (p := ⟨g, o + f * 7 + 6, none⟩) hgl).trans (HAL.out f y hy 6 (by decide))
            by_cases hs : y.t = x.t ∧ y.n = x.n ∧ y.s = x.s ∧ y.b = x.b ∧ y.c = x.c
            · have hs2 : ∀ W, (binOp .eql 26 (.agg #[.int .i64 y.t, .int .i64 y.n, .string y.s, .bool y.b, .int .i64 y.c]) (.agg #[.int .i64 x.t, .int .i64 x.n, .string x.s, .bool x.b, .int .i64 x.c])).run Tryz.prog W = .ok (.bool true) W := fun W => by rw [eqv]; unfold sameB; rw [decide_eq_true hs]
              have hq2 := at1_ahead HLN.out hx.out hy hlt hs HA1.out
              have gC : mn < nn := by have h7 := HMN.out; have h8 := HNN.out; unfold plE at hq2; omega
              clear hq2
              have HS : Hid _ := hs
              have HY' : Hid _ := hy
              clear hs hy
              go_wp2
              go_region_held3 (fun w' => w'.cell? ⟨w.heap.size, 10, none⟩ = some (.slice (some ⟨g, o, none⟩) en ec) ∧ w'.cell? ⟨g, o + f * 7 + 2, none⟩ = some (.int .i64 y.t) ∧ w'.cell? ⟨g, o + f * 7 + 3, none⟩ = some (.int .i64 y.n) ∧ w'.cell? ⟨g, o + f * 7 + 4, none⟩ = some (.string y.s) ∧ w'.cell? ⟨g, o + f * 7 + 5, none⟩ = some (.bool y.b) ∧ w'.cell? ⟨g, o + f * 7 + 6, none⟩ = some (.int .i64 y.c) ∧ w'.cell? ⟨wb.heap.size, 2, none⟩ = some (.int .i64 x.t) ∧ w'.cell? ⟨wb.heap.size, 3, none⟩ = some (.int .i64 x.n) ∧ w'.cell? ⟨wb.heap.size, 4, none⟩ = some (.string x.s) ∧ w'.cell? ⟨wb.heap.size, 5, none⟩ = some (.bool x.b) ∧ w'.cell? ⟨wb.heap.size, 6, none⟩ = some (.int .i64 x.c)) ((repeat' apply And.intro) <;> (first | (go_keep; done) | (go_simp; done))) (first | fail)
              go_wp2
              go_ret
              exact ⟨rfl, by with_reducible (repeat' first | assumption | exact Below.refl _ _ | refine Below.drew ?_ | refine bdrewN ?_ _ | refine Below.setCell ?_ (by first | exact Nat.le_refl _ | (simp; done) | (simp; omega) | omega) _ | refine Below.alloc ?_ (by first | exact Nat.le_refl _ | (simp; done) | (simp; omega) | omega) _)⟩
            · have hs2 : ∀ W, (binOp .eql 26 (.agg #[.int .i64 y.t, .int .i64 y.n, .string y.s, .bool y.b, .int .i64 y.c]) (.agg #[.int .i64 x.t, .int .i64 x.n, .string x.s, .bool x.b, .int .i64 x.c])).run Tryz.prog W = .ok (.bool false) W := fun W => by rw [eqv]; unfold sameB; rw [decide_eq_false hs]
              have HS : Hid (∀ (p : Nat) (z : En), p < f + 1 → es[p]? = some z → ¬ (z.t = x.t ∧ z.n = x.n ∧ z.s = x.s ∧ z.b = x.b ∧ z.c = x.c)) := (show _ from fun p z hp hz => by
                by_cases e : p = f
                · subst e; rw [hy] at hz; cases hz; exact hs
                · exact hNf.out p z (by omega) hz)
              have HY' : Hid _ := hy
              clear hs hy
              go_wp2
              go_region_held3 (fun w' => w'.cell? ⟨w.heap.size, 10, none⟩ = some (.slice (some ⟨g, o, none⟩) en ec) ∧ w'.cell? ⟨g, o + f * 7 + 2, none⟩ = some (.int .i64 y.t) ∧ w'.cell? ⟨g, o + f * 7 + 3, none⟩ = some (.int .i64 y.n) ∧ w'.cell? ⟨g, o + f * 7 + 4, none⟩ = some (.string y.s) ∧ w'.cell? ⟨g, o + f * 7 + 5, none⟩ = some (.bool y.b) ∧ w'.cell? ⟨g, o + f * 7 + 6, none⟩ = some (.int .i64 y.c) ∧ w'.cell? ⟨wb.heap.size, 2, none⟩ = some (.int .i64 x.t) ∧ w'.cell? ⟨wb.heap.size, 3, none⟩ = some (.int .i64 x.n) ∧ w'.cell? ⟨wb.heap.size, 4, none⟩ = some (.string x.s) ∧ w'.cell? ⟨wb.heap.size, 5, none⟩ = some (.bool x.b) ∧ w'.cell? ⟨wb.heap.size, 6, none⟩ = some (.int .i64 x.c)) ((repeat' apply And.intro) <;> (first | (go_keep; done) | (go_simp; done))) (first | fail)
              go_wp2
              exact ⟨⟨f + 1, by go_num, by omega, HS, by with_reducible (repeat' first | assumption | exact Below.refl _ _ | refine Below.drew ?_ | refine bdrewN ?_ _ | refine Below.setCell ?_ (by first | exact Nat.le_refl _ | (simp; done) | (simp; omega) | omega) _ | refine Below.alloc ?_ (by first | exact Nat.le_refl _ | (simp; done) | (simp; omega) | omega) _), by with_reducible (repeat' first | assumption | refine Own.drew ?_ | refine Own.drewN ?_ _ | (refine Own.at ?_; first | rfl | (simp; done)) | refine Own.past ?_ _), by with_reducible (repeat' first | assumption | refine Own.drew ?_ | refine Own.drewN ?_ _ | (refine Own.at ?_; first | rfl | (simp; done)) | refine Own.past ?_ _), by with_reducible (repeat' first | assumption | refine Own.drew ?_ | refine Own.drewN ?_ _ | (refine Own.at ?_; first | rfl | (simp; done)) | refine Own.past ?_ _)⟩, by simp [intOf]; omega⟩
          · have hlti : ¬ (f : Int) < k := by omega
            have hfk2 : f = k := by omega
            subst hfk2
            by_cases h0 : x.t = 0
            · have h0' : (x.t == 0) = true := by rw [h0]; rfl
              have H0 : Hid _ := h0
              clear h0
              go_wp2
              go_ret
              exact ⟨rfl, hB3⟩
            · have h0' : (x.t == 0) = false := by rw [beq_eq_false_iff_ne]; exact h0
              have hq2 := at1_just HLN.out hx.out hNf.out h0 HA1.out HQ.out
              have gC : (mn == nn) = true := by rw [beq_iff_eq]; have h7 := HMN.out; have h8 := HNN.out; unfold plE at hq2; omega
              clear hq2 h0
              go_wp2
              go_ret
              exact ⟨rfl, hB3⟩
      · have hq0' : (r0 != r2) = true := by rw [bne_iff_ne]; exact hq0
        by_cases hq1 : r1 = r3
        · have hq1' : (r1 != r3) = false := by rw [bne_eq_false_iff_eq]; exact hq1
          have HQ0 : Hid (r1 = r3) := hq1
          have hL : Hid (lineB r0 r1 r2 r3 = true) := (show lineB r0 r1 r2 r3 = true from by unfold lineB; rw [decide_eq_true hq1, Bool.or_true])
          clear hq1
          obtain ⟨q, rfl, hmn, rfl, rfl, rfl, LN, hA1, hq⟩ := HFl.out HT.out hL.out
          have HMN : Hid (mn = ((q : Int) + 1) * 10000) := hmn
          obtain ⟨nn, hnn⟩ : ∃ nn : Int, (x.r - r0 + 1 + (x.k - r1 + 1) - 1) * 10000 = nn := ⟨_, rfl⟩
          have HNN : Hid ((x.r - r0 + 1 + (x.k - r1 + 1) - 1) * 10000 = nn) := hnn
          have HA1 : Hid _ := hA1
          have HLN : Hid _ := LN
          have HQ : Hid ((q : Int) ≤ plE r0 r1 x) := hq
          have gA : decide (nn < mn) = false := decide_eq_false (by unfold plE at hq; omega)
          have gB : decide (mn < 10000) = false := decide_eq_false (by omega)
          have hl : Hid _ := HL.out HT.out hL.out
          have hNo : Hid (∀ (f : Nat) (y : En), f < 0 → es[f]? = some y → ¬ (y.t = x.t ∧ y.n = x.n ∧ y.s = x.s ∧ y.b = x.b ∧ y.c = x.c)) := (show _ from fun f y h => absurd h (Nat.not_lt_zero _))
          clear hA1 LN hq hmn hnn
          go_wp2
          rw [HNN.out]
          go_region_held3 (fun w' => w'.cell? ⟨w.heap.size, 0, none⟩ = some (.bool true) ∧ w'.cell? ⟨w.heap.size, 1, none⟩ = some (.int .i64 t) ∧ w'.cell? ⟨w.heap.size, 2, none⟩ = some (.int .i64 n) ∧ w'.cell? ⟨w.heap.size, 3, none⟩ = some (.string s) ∧ w'.cell? ⟨w.heap.size, 4, none⟩ = some (.bool b) ∧ w'.cell? ⟨w.heap.size, 5, none⟩ = some (.int .i64 c) ∧ w'.cell? ⟨w.heap.size, 6, none⟩ = some (.int .i64 r0) ∧ w'.cell? ⟨w.heap.size, 7, none⟩ = some (.int .i64 r1) ∧ w'.cell? ⟨w.heap.size, 8, none⟩ = some (.int .i64 r2) ∧ w'.cell? ⟨w.heap.size, 9, none⟩ = some (.int .i64 r3) ∧ w'.cell? ⟨w.heap.size, 10, none⟩ = some (.slice (some ⟨g, o, none⟩) en ec) ∧ w'.cell? ⟨wb.heap.size, 2, none⟩ = some (.int .i64 x.t) ∧ w'.cell? ⟨wb.heap.size, 3, none⟩ = some (.int .i64 x.n) ∧ w'.cell? ⟨wb.heap.size, 4, none⟩ = some (.string x.s) ∧ w'.cell? ⟨wb.heap.size, 5, none⟩ = some (.bool x.b) ∧ w'.cell? ⟨wb.heap.size, 6, none⟩ = some (.int .i64 x.c) ∧ w'.cell? ⟨v5.heap.size, 0, none⟩ = some (.int .i64 1) ∧ w'.cell? ⟨v5.heap.size, 1, none⟩ = some (.int .i64 mn)) ((repeat' apply And.intro) <;> (first | (go_keep; done) | (go_simp; done))) (first | (go_at_call 20; refine (single_any _ _ _ _ _ _).mono ?_; rintro e u1 ⟨rfl, hbu1⟩; have hBu1 : Below w.heap.size w u1 := bup (by with_reducible (repeat' first | assumption | exact Below.refl _ _ | refine Below.drew ?_ | refine bdrewN ?_ _ | refine Below.setCell ?_ (by first | exact Nat.le_refl _ | (simp; done) | (simp; omega) | omega) _ | refine Below.alloc ?_ (by first | exact Nat.le_refl _ | (simp; done) | (simp; omega) | omega) _)) hbu1; have zu1 := hBu1.size; have o0u1 : Own u1 (w.heap.size) #[.bool true, .int .i64 t, .int .i64 n, .string s, .bool b, .int .i64 c, .int .i64 r0, .int .i64 r1, .int .i64 r2, .int .i64 r3, .slice (some ⟨g, o, none⟩) en ec] := Own.keep (by with_reducible (repeat' first | assumption | refine Own.drew ?_ | refine Own.drewN ?_ _ | (refine Own.at ?_; first | rfl | (simp; done)) | refine Own.past ?_ _)) hbu1; have c0 := o0u1.cell; have f0 := o0u1.fro; have l0 := o0u1.lt; have o1u1 : Own u1 (wb.heap.size) #[.int .i64 x.r, .int .i64 x.k, .int .i64 x.t, .int .i64 x.n, .string x.s, .bool x.b, .int .i64 x.c] := Own.keep (by with_reducible (repeat' first | assumption | refine Own.drew ?_ | refine Own.drewN ?_ _ | (refine Own.at ?_; first | rfl | (simp; done)) | refine Own.past ?_ _)) hbu1; have c1 := o1u1.cell; have f1 := o1u1.fro; have l1 := o1u1.lt; have o2u1 : Own u1 (v5.heap.size) #[.int .i64 1, .int .i64 mn, .string ⟨#[]⟩, .bool false, .int .i64 0] := Own.keep (by with_reducible (repeat' first | assumption | refine Own.drew ?_ | refine Own.drewN ?_ _ | (refine Own.at ?_; first | rfl | (simp; done)) | refine Own.past ?_ _)) hbu1; have c2 := o2u1.cell; have f2 := o2u1.fro; have l2 := o2u1.lt) | (go_at_call 9; refine (hl.out _ _ (av_own3 (a := oneV x.t x.n x.s x.b x.c) (b := (⟨true, t, n, s, b, c, r0, r1, r2, r3, some ⟨g, o, none⟩, en, ec⟩ : Ag)) (c := (⟨true, t, n, s, b, c, r0, r1, r2, r3, some ⟨g, o, none⟩, en, ec⟩ : Ag)) (A := #[.bool false, .int .i64 x.t, .int .i64 x.n, .string x.s, .bool x.b, .int .i64 x.c, .int .i64 0, .int .i64 0, .int .i64 0, .int .i64 0, .slice none 0 0, .bool true, .int .i64 t, .int .i64 n, .string s, .bool b, .int .i64 c, .int .i64 r0, .int .i64 r1, .int .i64 r2, .int .i64 r3, .slice (some ⟨g, o, none⟩) en ec, .bool true, .int .i64 t, .int .i64 n, .string s, .bool b, .int .i64 c, .int .i64 r0, .int .i64 r1, .int .i64 r2, .int .i64 r3, .slice (some ⟨g, o, none⟩) en ec]) (by with_reducible (repeat' first | assumption | refine Own.drew ?_ | refine Own.drewN ?_ _ | (refine Own.at ?_; first | rfl | (simp; done)) | refine Own.past ?_ _)) e222.out) (by with_reducible (repeat' first | assumption | exact Below.refl _ _ | refine Below.drew ?_ | refine bdrewN ?_ _ | refine Below.setCell ?_ (by first | exact Nat.le_refl _ | (simp; done) | (simp; omega) | omega) _ | refine Below.alloc ?_ (by first | exact Nat.le_refl _ | (simp; done) | (simp; omega) | omega) _))).mono ?_; rintro e u2 ⟨rfl, hbu2⟩; have hBu2 : Below w.heap.size w u2 := bup (by with_reducible (repeat' first | assumption | exact Below.refl _ _ | refine Below.drew ?_ | refine bdrewN ?_ _ | refine Below.setCell ?_ (by first | exact Nat.le_refl _ | (simp; done) | (simp; omega) | omega) _ | refine Below.alloc ?_ (by first | exact Nat.le_refl _ | (simp; done) | (simp; omega) | omega) _)) hbu2; have zu2 := hBu2.size; have o0u2 : Own u2 (w.heap.size) #[.bool true, .int .i64 t, .int .i64 n, .string s, .bool b, .int .i64 c, .int .i64 r0, .int .i64 r1, .int .i64 r2, .int .i64 r3, .slice (some ⟨g, o, none⟩) en ec] := Own.keep (by with_reducible (repeat' first | assumption | refine Own.drew ?_ | refine Own.drewN ?_ _ | (refine Own.at ?_; first | rfl | (simp; done)) | refine Own.past ?_ _)) hbu2; have c0 := o0u2.cell; have f0 := o0u2.fro; have l0 := o0u2.lt; have o1u2 : Own u2 (wb.heap.size) #[.int .i64 x.r, .int .i64 x.k, .int .i64 x.t, .int .i64 x.n, .string x.s, .bool x.b, .int .i64 x.c] := Own.keep (by with_reducible (repeat' first | assumption | refine Own.drew ?_ | refine Own.drewN ?_ _ | (refine Own.at ?_; first | rfl | (simp; done)) | refine Own.past ?_ _)) hbu2; have c1 := o1u2.cell; have f1 := o1u2.fro; have l1 := o1u2.lt; have o2u2 : Own u2 (v5.heap.size) #[.int .i64 1, .int .i64 mn, .string ⟨#[]⟩, .bool false, .int .i64 0] := Own.keep (by with_reducible (repeat' first | assumption | refine Own.drew ?_ | refine Own.drewN ?_ _ | (refine Own.at ?_; first | rfl | (simp; done)) | refine Own.past ?_ _)) hbu2; have c2 := o2u2.cell; have f2 := o2u2.fro; have l2 := o2u2.lt))
          clear gA gB
          go_wp2
          go_loopw [12] (fun v w' => ∃ f : Nat, v = .int .i64 f ∧ f ≤ k ∧ Hid (∀ (p : Nat) (y : En), p < f → es[p]? = some y → ¬ (y.t = x.t ∧ y.n = x.n ∧ y.s = x.s ∧ y.b = x.b ∧ y.c = x.c)) ∧ Below w.heap.size w w' ∧ Own w' w.heap.size #[.bool true, .int .i64 t, .int .i64 n, .string s, .bool b, .int .i64 c, .int .i64 r0, .int .i64 r1, .int .i64 r2, .int .i64 r3, .slice (some ⟨g, o, none⟩) en ec] ∧ Own w' wb.heap.size #[.int .i64 x.r, .int .i64 x.k, .int .i64 x.t, .int .i64 x.n, .string x.s, .bool x.b, .int .i64 x.c] ∧ Own w' (v5.heap.size) #[.int .i64 1, .int .i64 mn, .string ⟨#[]⟩, .bool false, .int .i64 0]) (fun v _ => (k - intOf v).toNat)
          case atStart => exact ⟨0, rfl, Nat.zero_le _, hNo, by with_reducible (repeat' first | assumption | exact Below.refl _ _ | refine Below.drew ?_ | refine bdrewN ?_ _ | refine Below.setCell ?_ (by first | exact Nat.le_refl _ | (simp; done) | (simp; omega) | omega) _ | refine Below.alloc ?_ (by first | exact Nat.le_refl _ | (simp; done) | (simp; omega) | omega) _), by with_reducible (repeat' first | assumption | refine Own.drew ?_ | refine Own.drewN ?_ _ | (refine Own.at ?_; first | rfl | (simp; done)) | refine Own.past ?_ _), by with_reducible (repeat' first | assumption | refine Own.drew ?_ | refine Own.drewN ?_ _ | (refine Own.at ?_; first | rfl | (simp; done)) | refine Own.past ?_ _), by with_reducible (repeat' first | assumption | refine Own.drew ?_ | refine Own.drewN ?_ _ | (refine Own.at ?_; first | rfl | (simp; done)) | refine Own.past ?_ _)⟩
          case round =>
            obtain ⟨f, rfl, hfk, hNf, hB3, o3, o4, o5'⟩ := hrel
            clear c0 f0 l0 c1 f1 l1 c2 f2 l2
            have c0 := o3.cell
            have f0 := o3.fro
            have l0 := o3.lt
            have c1 := o4.cell
            have f1 := o4.fro
            have l1 := o4.lt
            have c2 := o5'.cell
            have f2 := o5'.fro
            have l2 := o5'.lt
            by_cases hlt : f < k
            · have hlti : (f : Int) < k := by omega
              have hfe : f < en := by omega
              have hf9 : (f : Int) ≤ 1099511627776 := by omega
              have hfei : (f : Int) < en := by omega
              obtain ⟨y, hy⟩ : ∃ y, es[f]? = some y := ⟨_, List.getElem?_eq_getElem (by rw [HN.out]; exact hfe)⟩
              have y0 : wr.cell? ⟨g, o + f * 7, none⟩ = some (.int .i64 y.r) := (hB3.cell (p := ⟨g, o + f * 7, none⟩) hgl).trans (HAL.out f y hy 0 (by decide))
              have y1 : wr.cell? ⟨g, o + f * 7 + 1, none⟩ = some (.int .i64 y.k) := (hB3.cell (p := ⟨g, o + f * 7 + 1, none⟩) hgl).trans (HAL.out f y hy 1 (by decide))
              have y2 : wr.cell? ⟨g, o + f * 7 + 2, none⟩ = some (.int .i64 y.t) := (hB3.cell (p := ⟨g, o + f * 7 + 2, none⟩) hgl).trans (HAL.out f y hy 2 (by decide))
              have y3 : wr.cell? ⟨g, o + f * 7 + 3, none⟩ = some (.int .i64 y.n) := (hB3.cell (p := ⟨g, o + f * 7 + 3, none⟩) hgl).trans (HAL.out f y hy 3 (by decide))
              have y4 : wr.cell? ⟨g, o + f * 7 + 4, none⟩ = some (.string y.s) := (hB3.cell (p := ⟨g, o + f * 7 + 4, none⟩) hgl).trans (HAL.out f y hy 4 (by decide))
              have y5 : wr.cell? ⟨g, o + f * 7 + 5, none⟩ = some (.bool y.b) := (hB3.cell (p := ⟨g, o + f * 7 + 5, none⟩) hgl).trans (HAL.out f y hy 5 (by decide))
              have y6 : wr.cell? ⟨g, o + f * 7 + 6, none⟩ = some (.int .i64 y.c) := (hB3.cell (p := ⟨g, o + f * 7 + 6, none⟩) hgl).trans (HAL.out f y hy 6 (by decide))
              by_cases hs : y.t = x.t ∧ y.n = x.n ∧ y.s = x.s ∧ y.b = x.b ∧ y.c = x.c
              · have hs2 : ∀ W, (binOp .eql 26 (.agg #[.int .i64 y.t, .int .i64 y.n, .string y.s, .bool y.b, .int .i64 y.c]) (.agg #[.int .i64 x.t, .int .i64 x.n, .string x.s, .bool x.b, .int .i64 x.c])).run Tryz.prog W = .ok (.bool true) W := fun W => by rw [eqv]; unfold sameB; rw [decide_eq_true hs]
                have hq2 := at1_ahead HLN.out hx.out hy hlt hs HA1.out
                have gC : mn < nn := by have h7 := HMN.out; have h8 := HNN.out; unfold plE at hq2; omega
                clear hq2
                have HS : Hid _ := hs
                have HY' : Hid _ := hy
                clear hs hy
                go_wp2
                go_region_held3 (fun w' => w'.cell? ⟨w.heap.size, 10, none⟩ = some (.slice (some ⟨g, o, none⟩) en ec) ∧ w'.cell? ⟨g, o + f * 7 + 2, none⟩ = some (.int .i64 y.t) ∧ w'.cell? ⟨g, o + f * 7 + 3, none⟩ = some (.int .i64 y.n) ∧ w'.cell? ⟨g, o + f * 7 + 4, none⟩ = some (.string y.s) ∧ w'.cell? ⟨g, o + f * 7 + 5, none⟩ = some (.bool y.b) ∧ w'.cell? ⟨g, o + f * 7 + 6, none⟩ = some (.int .i64 y.c) ∧ w'.cell? ⟨wb.heap.size, 2, none⟩ = some (.int .i64 x.t) ∧ w'.cell? ⟨wb.heap.size, 3, none⟩ = some (.int .i64 x.n) ∧ w'.cell? ⟨wb.heap.size, 4, none⟩ = some (.string x.s) ∧ w'.cell? ⟨wb.heap.size, 5, none⟩ = some (.bool x.b) ∧ w'.cell? ⟨wb.heap.size, 6, none⟩ = some (.int .i64 x.c)) ((repeat' apply And.intro) <;> (first | (go_keep; done) | (go_simp; done))) (first | fail)
                go_wp2
                go_ret
                exact ⟨rfl, by with_reducible (repeat' first | assumption | exact Below.refl _ _ | refine Below.drew ?_ | refine bdrewN ?_ _ | refine Below.setCell ?_ (by first | exact Nat.le_refl _ | (simp; done) | (simp; omega) | omega) _ | refine Below.alloc ?_ (by first | exact Nat.le_refl _ | (simp; done) | (simp; omega) | omega) _)⟩
              · have hs2 : ∀ W, (binOp .eql 26 (.agg #[.int .i64 y.t, .int .i64 y.n, .string y.s, .bool y.b, .int .i64 y.c]) (.agg #[.int .i64 x.t, .int .i64 x.n, .string x.s, .bool x.b, .int .i64 x.c])).run Tryz.prog W = .ok (.bool false) W := fun W => by rw [eqv]; unfold sameB; rw [decide_eq_false hs]
                have HS : Hid (∀ (p : Nat) (z : En), p < f + 1 → es[p]? = some z → ¬ (z.t = x.t ∧ z.n = x.n ∧ z.s = x.s ∧ z.b = x.b ∧ z.c = x.c)) := (show _ from fun p z hp hz => by
                  by_cases e : p = f
                  · subst e; rw [hy] at hz; cases hz; exact hs
                  · exact hNf.out p z (by omega) hz)
                have HY' : Hid _ := hy
                clear hs hy
                go_wp2
                go_region_held3 (fun w' => w'.cell? ⟨w.heap.size, 10, none⟩ = some (.slice (some ⟨g, o, none⟩) en ec) ∧ w'.cell? ⟨g, o + f * 7 + 2, none⟩ = some (.int .i64 y.t) ∧ w'.cell? ⟨g, o + f * 7 + 3, none⟩ = some (.int .i64 y.n) ∧ w'.cell? ⟨g, o + f * 7 + 4, none⟩ = some (.string y.s) ∧ w'.cell? ⟨g, o + f * 7 + 5, none⟩ = some (.bool y.b) ∧ w'.cell? ⟨g, o + f * 7 + 6, none⟩ = some (.int .i64 y.c) ∧ w'.cell? ⟨wb.heap.size, 2, none⟩ = some (.int .i64 x.t) ∧ w'.cell? ⟨wb.heap.size, 3, none⟩ = some (.int .i64 x.n) ∧ w'.cell? ⟨wb.heap.size, 4, none⟩ = some (.string x.s) ∧ w'.cell? ⟨wb.heap.size, 5, none⟩ = some (.bool x.b) ∧ w'.cell? ⟨wb.heap.size, 6, none⟩ = some (.int .i64 x.c)) ((repeat' apply And.intro) <;> (first | (go_keep; done) | (go_simp; done))) (first | fail)
                go_wp2
                exact ⟨⟨f + 1, by go_num, by omega, HS, by with_reducible (repeat' first | assumption | exact Below.refl _ _ | refine Below.drew ?_ | refine bdrewN ?_ _ | refine Below.setCell ?_ (by first | exact Nat.le_refl _ | (simp; done) | (simp; omega) | omega) _ | refine Below.alloc ?_ (by first | exact Nat.le_refl _ | (simp; done) | (simp; omega) | omega) _), by with_reducible (repeat' first | assumption | refine Own.drew ?_ | refine Own.drewN ?_ _ | (refine Own.at ?_; first | rfl | (simp; done)) | refine Own.past ?_ _), by with_reducible (repeat' first | assumption | refine Own.drew ?_ | refine Own.drewN ?_ _ | (refine Own.at ?_; first | rfl | (simp; done)) | refine Own.past ?_ _), by with_reducible (repeat' first | assumption | refine Own.drew ?_ | refine Own.drewN ?_ _ | (refine Own.at ?_; first | rfl | (simp; done)) | refine Own.past ?_ _)⟩, by simp [intOf]; omega⟩
            · have hlti : ¬ (f : Int) < k := by omega
              have hfk2 : f = k := by omega
              subst hfk2
              by_cases h0 : x.t = 0
              · have h0' : (x.t == 0) = true := by rw [h0]; rfl
                have H0 : Hid _ := h0
                clear h0
                go_wp2
                go_ret
                exact ⟨rfl, hB3⟩
              · have h0' : (x.t == 0) = false := by rw [beq_eq_false_iff_ne]; exact h0
                have hq2 := at1_just HLN.out hx.out hNf.out h0 HA1.out HQ.out
                have gC : (mn == nn) = true := by rw [beq_iff_eq]; have h7 := HMN.out; have h8 := HNN.out; unfold plE at hq2; omega
                clear hq2 h0
                go_wp2
                go_ret
                exact ⟨rfl, hB3⟩
        · have hq1' : (r1 != r3) = true := by rw [bne_iff_ne]; exact hq1
          obtain ⟨rfl, rfl, rfl, rfl, rfl⟩ := HFn.out HT.out (by unfold lineB; rw [decide_eq_false hq0, decide_eq_false hq1]; rfl)
          clear hq1
          go_wp2
          go_ret
          exact ⟨rfl, hBX⟩
  · refine via_ex (fun X hX => ?_)
    have hBX : Below w.heap.size w X := (by rw [hX]; with_reducible (repeat' first | assumption | exact Below.refl _ _ | refine Below.drew ?_ | refine bdrewN ?_ _ | refine Below.setCell ?_ (by first | exact b5 | exact Nat.le_refl _ | (simp; done) | (simp; omega) | omega) _ | refine Below.alloc ?_ (by first | exact Nat.le_refl _ | (simp; done) | (simp; omega) | omega) _))
    have oA : Own X w.heap.size #[.bool true, .int .i64 t, .int .i64 n, .string s, .bool b, .int .i64 c, .int .i64 r0, .int .i64 r1, .int .i64 r2, .int .i64 r3, .slice (some ⟨g, o, none⟩) en ec] := (by rw [hX]; with_reducible (repeat' first | assumption | refine Own.drew ?_ | refine Own.drewN ?_ _ | (refine Own.at ?_; first | rfl | (simp; done)) | refine Own.past ?_ _ | refine Own.aside ?_ (by first | exact m5a | exact m5b) _))
    have oE : Own X wb.heap.size #[.int .i64 x.r, .int .i64 x.k, .int .i64 x.t, .int .i64 x.n, .string x.s, .bool x.b, .int .i64 x.c] := (by rw [hX]; with_reducible (repeat' first | assumption | refine Own.drew ?_ | refine Own.drewN ?_ _ | (refine Own.at ?_; first | rfl | (simp; done)) | refine Own.past ?_ _ | refine Own.aside ?_ (by first | exact m5a | exact m5b) _))
    have oM : Own X (v4.heap.size) #[.int .i64 mt, .int .i64 mn, .string ms, .bool mb, .int .i64 mc] := (by rw [hX]; exact own_put5 (x0 := .int .i64 0) (x1 := .int .i64 0) (x2 := .string ⟨#[]⟩) (x3 := .bool false) (x4 := .int .i64 0) (by with_reducible (repeat' first | assumption | refine Own.drew ?_ | refine Own.drewN ?_ _ | (refine Own.at ?_; first | rfl | (simp; done)) | refine Own.past ?_ _)))
    have c0 := oA.cell
    have f0 := oA.fro
    have l0 := oA.lt
    have c1 := oE.cell
    have f1 := oE.fro
    have l1 := oE.lt
    have c2 := oM.cell
    have f2 := oM.fro
    have l2 := oM.lt
    clear hX
    by_cases ht : x.t = 4
    · obtain ⟨rfl, rfl, rfl, rfl, rfl⟩ := HF4.out ht
      have ht' : (x.t == 4) = true := by rw [ht]; rfl
      have HT : Hid _ := ht
      clear ht
      go_wp2
      go_ret
      exact ⟨rfl, hBX⟩
    · have ht' : (x.t == 4) = false := by rw [beq_eq_false_iff_ne]; exact ht
      have HT : Hid (¬ x.t = 4) := ht
      clear ht
      by_cases hq0 : r0 = r2
      · have hq0' : (r0 != r2) = false := by rw [bne_eq_false_iff_eq]; exact hq0
        have HQ0 : Hid (r0 = r2) := hq0
        have hL : Hid (lineB r0 r1 r2 r3 = true) := (show lineB r0 r1 r2 r3 = true from by unfold lineB; rw [decide_eq_true hq0]; rfl)
        clear hq0
        obtain ⟨q, rfl, hmn, rfl, rfl, rfl, LN, hA1, hq⟩ := HFl.out HT.out hL.out
        have HMN : Hid (mn = ((q : Int) + 1) * 10000) := hmn
        obtain ⟨nn, hnn⟩ : ∃ nn : Int, (x.r - r0 + 1 + (x.k - r1 + 1) - 1) * 10000 = nn := ⟨_, rfl⟩
        have HNN : Hid ((x.r - r0 + 1 + (x.k - r1 + 1) - 1) * 10000 = nn) := hnn
        have HA1 : Hid _ := hA1
        have HLN : Hid _ := LN
        have HQ : Hid ((q : Int) ≤ plE r0 r1 x) := hq
        have gA : decide (nn < mn) = false := decide_eq_false (by unfold plE at hq; omega)
        have gB : decide (mn < 10000) = false := decide_eq_false (by omega)
        have hl : Hid _ := HL.out HT.out hL.out
        have hNo : Hid (∀ (f : Nat) (y : En), f < 0 → es[f]? = some y → ¬ (y.t = x.t ∧ y.n = x.n ∧ y.s = x.s ∧ y.b = x.b ∧ y.c = x.c)) := (show _ from fun f y h => absurd h (Nat.not_lt_zero _))
        clear hA1 LN hq hmn hnn
        go_wp2
        rw [HNN.out]
        go_region_held3 (fun w' => w'.cell? ⟨w.heap.size, 0, none⟩ = some (.bool true) ∧ w'.cell? ⟨w.heap.size, 1, none⟩ = some (.int .i64 t) ∧ w'.cell? ⟨w.heap.size, 2, none⟩ = some (.int .i64 n) ∧ w'.cell? ⟨w.heap.size, 3, none⟩ = some (.string s) ∧ w'.cell? ⟨w.heap.size, 4, none⟩ = some (.bool b) ∧ w'.cell? ⟨w.heap.size, 5, none⟩ = some (.int .i64 c) ∧ w'.cell? ⟨w.heap.size, 6, none⟩ = some (.int .i64 r0) ∧ w'.cell? ⟨w.heap.size, 7, none⟩ = some (.int .i64 r1) ∧ w'.cell? ⟨w.heap.size, 8, none⟩ = some (.int .i64 r2) ∧ w'.cell? ⟨w.heap.size, 9, none⟩ = some (.int .i64 r3) ∧ w'.cell? ⟨w.heap.size, 10, none⟩ = some (.slice (some ⟨g, o, none⟩) en ec) ∧ w'.cell? ⟨wb.heap.size, 2, none⟩ = some (.int .i64 x.t) ∧ w'.cell? ⟨wb.heap.size, 3, none⟩ = some (.int .i64 x.n) ∧ w'.cell? ⟨wb.heap.size, 4, none⟩ = some (.string x.s) ∧ w'.cell? ⟨wb.heap.size, 5, none⟩ = some (.bool x.b) ∧ w'.cell? ⟨wb.heap.size, 6, none⟩ = some (.int .i64 x.c) ∧ w'.cell? ⟨v4.heap.size, 0, none⟩ = some (.int .i64 1) ∧ w'.cell? ⟨v4.heap.size, 1, none⟩ = some (.int .i64 mn)) ((repeat' apply And.intro) <;> (first | (go_keep; done) | (go_simp; done))) (first | (go_at_call 20; refine (single_any _ _ _ _ _ _).mono ?_; rintro e u1 ⟨rfl, hbu1⟩; have hBu1 : Below w.heap.size w u1 := bup (by with_reducible (repeat' first | assumption | exact Below.refl _ _ | refine Below.drew ?_ | refine bdrewN ?_ _ | refine Below.setCell ?_ (by first | exact Nat.le_refl _ | (simp; done) | (simp; omega) | omega) _ | refine Below.alloc ?_ (by first | exact Nat.le_refl _ | (simp; done) | (simp; omega) | omega) _)) hbu1; have zu1 := hBu1.size; have o0u1 : Own u1 (w.heap.size) #[.bool true, .int .i64 t, .int .i64 n, .string s, .bool b, .int .i64 c, .int .i64 r0, .int .i64 r1, .int .i64 r2, .int .i64 r3, .slice (some ⟨g, o, none⟩) en ec] := Own.keep (by with_reducible (repeat' first | assumption | refine Own.drew ?_ | refine Own.drewN ?_ _ | (refine Own.at ?_; first | rfl | (simp; done)) | refine Own.past ?_ _)) hbu1; have c0 := o0u1.cell; have f0 := o0u1.fro; have l0 := o0u1.lt; have o1u1 : Own u1 (wb.heap.size) #[.int .i64 x.r, .int .i64 x.k, .int .i64 x.t, .int .i64 x.n, .string x.s, .bool x.b, .int .i64 x.c] := Own.keep (by with_reducible (repeat' first | assumption | refine Own.drew ?_ | refine Own.drewN ?_ _ | (refine Own.at ?_; first | rfl | (simp; done)) | refine Own.past ?_ _)) hbu1; have c1 := o1u1.cell; have f1 := o1u1.fro; have l1 := o1u1.lt; have o2u1 : Own u1 (v4.heap.size) #[.int .i64 1, .int .i64 mn, .string ⟨#[]⟩, .bool false, .int .i64 0] := Own.keep (by with_reducible (repeat' first | assumption | refine Own.drew ?_ | refine Own.drewN ?_ _ | (refine Own.at ?_; first | rfl | (simp; done)) | refine Own.past ?_ _)) hbu1; have c2 := o2u1.cell; have f2 := o2u1.fro; have l2 := o2u1.lt) | (go_at_call 9; refine (hl.out _ _ (av_own3 (a := oneV x.t x.n x.s x.b x.c) (b := (⟨true, t, n, s, b, c, r0, r1, r2, r3, some ⟨g, o, none⟩, en, ec⟩ : Ag)) (c := (⟨true, t, n, s, b, c, r0, r1, r2, r3, some ⟨g, o, none⟩, en, ec⟩ : Ag)) (A := #[.bool false, .int .i64 x.t, .int .i64 x.n, .string x.s, .bool x.b, .int .i64 x.c, .int .i64 0, .int .i64 0, .int .i64 0, .int .i64 0, .slice none 0 0, .bool true, .int .i64 t, .int .i64 n, .string s, .bool b, .int .i64 c, .int .i64 r0, .int .i64 r1, .int .i64 r2, .int .i64 r3, .slice (some ⟨g, o, none⟩) en ec, .bool true, .int .i64 t, .int .i64 n, .string s, .bool b, .int .i64 c, .int .i64 r0, .int .i64 r1, .int .i64 r2, .int .i64 r3, .slice (some ⟨g, o, none⟩) en ec]) (by with_reducible (repeat' first | assumption | refine Own.drew ?_ | refine Own.drewN ?_ _ | (refine Own.at ?_; first | rfl | (simp; done)) | refine Own.past ?_ _)) e222.out) (by with_reducible (repeat' first | assumption | exact Below.refl _ _ | refine Below.drew ?_ | refine bdrewN ?_ _ | refine Below.setCell ?_ (by first | exact Nat.le_refl _ | (simp; done) | (simp; omega) | omega) _ | refine Below.alloc ?_ (by first | exact Nat.le_refl _ | (simp; done) | (simp; omega) | omega) _))).mono ?_; rintro e u2 ⟨rfl, hbu2⟩; have hBu2 : Below w.heap.size w u2 := bup (by with_reducible (repeat' first | assumption | exact Below.refl _ _ | refine Below.drew ?_ | refine bdrewN ?_ _ | refine Below.setCell ?_ (by first | exact Nat.le_refl _ | (simp; done) | (simp; omega) | omega) _ | refine Below.alloc ?_ (by first | exact Nat.le_refl _ | (simp; done) | (simp; omega) | omega) _)) hbu2; have zu2 := hBu2.size; have o0u2 : Own u2 (w.heap.size) #[.bool true, .int .i64 t, .int .i64 n, .string s, .bool b, .int .i64 c, .int .i64 r0, .int .i64 r1, .int .i64 r2, .int .i64 r3, .slice (some ⟨g, o, none⟩) en ec] := Own.keep (by with_reducible (repeat' first | assumption | refine Own.drew ?_ | refine Own.drewN ?_ _ | (refine Own.at ?_; first | rfl | (simp; done)) | refine Own.past ?_ _)) hbu2; have c0 := o0u2.cell; have f0 := o0u2.fro; have l0 := o0u2.lt; have o1u2 : Own u2 (wb.heap.size) #[.int .i64 x.r, .int .i64 x.k, .int .i64 x.t, .int .i64 x.n, .string x.s, .bool x.b, .int .i64 x.c] := Own.keep (by with_reducible (repeat' first | assumption | refine Own.drew ?_ | refine Own.drewN ?_ _ | (refine Own.at ?_; first | rfl | (simp; done)) | refine Own.past ?_ _)) hbu2; have c1 := o1u2.cell; have f1 := o1u2.fro; have l1 := o1u2.lt; have o2u2 : Own u2 (v4.heap.size) #[.int .i64 1, .int .i64 mn, .string ⟨#[]⟩, .bool false, .int .i64 0] := Own.keep (by with_reducible (repeat' first | assumption | refine Own.drew ?_ | refine Own.drewN ?_ _ | (refine Own.at ?_; first | rfl | (simp; done)) | refine Own.past ?_ _)) hbu2; have c2 := o2u2.cell; have f2 := o2u2.fro; have l2 := o2u2.lt))
        clear gA gB
        go_wp2
        go_loopw [12] (fun v w' => ∃ f : Nat, v = .int .i64 f ∧ f ≤ k ∧ Hid (∀ (p : Nat) (y : En), p < f → es[p]? = some y → ¬ (y.t = x.t ∧ y.n = x.n ∧ y.s = x.s ∧ y.b = x.b ∧ y.c = x.c)) ∧ Below w.heap.size w w' ∧ Own w' w.heap.size #[.bool true, .int .i64 t, .int .i64 n, .string s, .bool b, .int .i64 c, .int .i64 r0, .int .i64 r1, .int .i64 r2, .int .i64 r3, .slice (some ⟨g, o, none⟩) en ec] ∧ Own w' wb.heap.size #[.int .i64 x.r, .int .i64 x.k, .int .i64 x.t, .int .i64 x.n, .string x.s, .bool x.b, .int .i64 x.c] ∧ Own w' (v4.heap.size) #[.int .i64 1, .int .i64 mn, .string ⟨#[]⟩, .bool false, .int .i64 0]) (fun v _ => (k - intOf v).toNat)
        case atStart => exact ⟨0, rfl, Nat.zero_le _, hNo, by with_reducible (repeat' first | assumption | exact Below.refl _ _ | refine Below.drew ?_ | refine bdrewN ?_ _ | refine Below.setCell ?_ (by first | exact Nat.le_refl _ | (simp; done) | (simp; omega) | omega) _ | refine Below.alloc ?_ (by first | exact Nat.le_refl _ | (simp; done) | (simp; omega) | omega) _), by with_reducible (repeat' first | assumption | refine Own.drew ?_ | refine Own.drewN ?_ _ | (refine Own.at ?_; first | rfl | (simp; done)) | refine Own.past ?_ _), by with_reducible (repeat' first | assumption | refine Own.drew ?_ | refine Own.drewN ?_ _ | (refine Own.at ?_; first | rfl | (simp; done)) | refine Own.past ?_ _), by with_reducible (repeat' first | assumption | refine Own.drew ?_ | refine Own.drewN ?_ _ | (refine Own.at ?_; first | rfl | (simp; done)) | refine Own.past ?_ _)⟩
        case round =>
          obtain ⟨f, rfl, hfk, hNf, hB3, o3, o4, o5'⟩ := hrel
          clear c0 f0 l0 c1 f1 l1 c2 f2 l2
          have c0 := o3.cell
          have f0 := o3.fro
          have l0 := o3.lt
          have c1 := o4.cell
          have f1 := o4.fro
          have l1 := o4.lt
          have c2 := o5'.cell
          have f2 := o5'.fro
          have l2 := o5'.lt
          by_cases hlt : f < k
          · have hlti : (f : Int) < k := by omega
            have hfe : f < en := by omega
            have hf9 : (f : Int) ≤ 1099511627776 := by omega
            have hfei : (f : Int) < en := by omega
            obtain ⟨y, hy⟩ : ∃ y, es[f]? = some y := ⟨_, List.getElem?_eq_getElem (by rw [HN.out]; exact hfe)⟩
            have y0 : wr.cell? ⟨g, o + f * 7, none⟩ = some (.int .i64 y.r) := (hB3.cell (p := ⟨g, o + f * 7, none⟩) hgl).trans (HAL.out f y hy 0 (by decide))
            have y1 : wr.cell? ⟨g, o + f * 7 + 1, none⟩ = some (.int .i64 y.k) := (hB3.cell (p := ⟨g, o + f * 7 + 1, none⟩) hgl).trans (HAL.out f y hy 1 (by decide))
            have y2 : wr.cell? ⟨g, o + f * 7 + 2, none⟩ = some (.int .i64 y.t) := (hB3.cell (p := ⟨g, o + f * 7 + 2, none⟩) hgl).trans (HAL.out f y hy 2 (by decide))
            have y3 : wr.cell? ⟨g, o + f * 7 + 3, none⟩ = some (.int .i64 y.n) := (hB3.cell (p := ⟨g, o + f * 7 + 3, none⟩) hgl).trans (HAL.out f y hy 3 (by decide))
            have y4 : wr.cell? ⟨g, o + f * 7 + 4, none⟩ = some (.string y.s) := (hB3.cell (p := ⟨g, o + f * 7 + 4, none⟩) hgl).trans (HAL.out f y hy 4 (by decide))
            have y5 : wr.cell? ⟨g, o + f * 7 + 5, none⟩ = some (.bool y.b) := (hB3.cell (p := ⟨g, o + f * 7 + 5, none⟩) hgl).trans (HAL.out f y hy 5 (by decide))
            have y6 : wr.cell? ⟨g, o + f * 7 + 6, none⟩ = some (.int .i64 y.c) := (hB3.cell (p := ⟨g, o + f * 7 + 6, none⟩) hgl).trans (HAL.out f y hy 6 (by decide))
            by_cases hs : y.t = x.t ∧ y.n = x.n ∧ y.s = x.s ∧ y.b = x.b ∧ y.c = x.c
            · have hs2 : ∀ W, (binOp .eql 26 (.agg #[.int .i64 y.t, .int .i64 y.n, .string y.s, .bool y.b, .int .i64 y.c]) (.agg #[.int .i64 x.t, .int .i64 x.n, .string x.s, .bool x.b, .int .i64 x.c])).run Tryz.prog W = .ok (.bool true) W := fun W => by rw [eqv]; unfold sameB; rw [decide_eq_true hs]
              have hq2 := at1_ahead HLN.out hx.out hy hlt hs HA1.out
              have gC : mn < nn := by have h7 := HMN.out; have h8 := HNN.out; unfold plE at hq2; omega
              clear hq2
              have HS : Hid _ := hs
              have HY' : Hid _ := hy
              clear hs hy
              go_wp2
              go_region_held3 (fun w' => w'.cell? ⟨w.heap.size, 10, none⟩ = some (.slice (some ⟨g, o, none⟩) en ec) ∧ w'.cell? ⟨g, o + f * 7 + 2, none⟩ = some (.int .i64 y.t) ∧ w'.cell? ⟨g, o + f * 7 + 3, none⟩ = some (.int .i64 y.n) ∧ w'.cell? ⟨g, o + f * 7 + 4, none⟩ = some (.string y.s) ∧ w'.cell? ⟨g, o + f * 7 + 5, none⟩ = some (.bool y.b) ∧ w'.cell? ⟨g, o + f * 7 + 6, none⟩ = some (.int .i64 y.c) ∧ w'.cell? ⟨wb.heap.size, 2, none⟩ = some (.int .i64 x.t) ∧ w'.cell? ⟨wb.heap.size, 3, none⟩ = some (.int .i64 x.n) ∧ w'.cell? ⟨wb.heap.size, 4, none⟩ = some (.string x.s) ∧ w'.cell? ⟨wb.heap.size, 5, none⟩ = some (.bool x.b) ∧ w'.cell? ⟨wb.heap.size, 6, none⟩ = some (.int .i64 x.c)) ((repeat' apply And.intro) <;> (first | (go_keep; done) | (go_simp; done))) (first | fail)
              go_wp2
              go_ret
              exact ⟨rfl, by with_reducible (repeat' first | assumption | exact Below.refl _ _ | refine Below.drew ?_ | refine bdrewN ?_ _ | refine Below.setCell ?_ (by first | exact Nat.le_refl _ | (simp; done) | (simp; omega) | omega) _ | refine Below.alloc ?_ (by first | exact Nat.le_refl _ | (simp; done) | (simp; omega) | omega) _)⟩
            · have hs2 : ∀ W, (binOp .eql 26 (.agg #[.int .i64 y.t, .int .i64 y.n, .string y.s, .bool y.b, .int .i64 y.c]) (.agg #[.int .i64 x.t, .int .i64 x.n, .string x.s, .bool x.b, .int .i64 x.c])).run Tryz.prog W = .ok (.bool false) W := fun W => by rw [eqv]; unfold sameB; rw [decide_eq_false hs]
              have HS : Hid (∀ (p : Nat) (z : En), p < f + 1 → es[p]? = some z → ¬ (z.t = x.t ∧ z.n = x.n ∧ z.s = x.s ∧ z.b = x.b ∧ z.c = x.c)) := (show _ from fun p z hp hz => by
                by_cases e : p = f
                · subst e; rw [hy] at hz; cases hz; exact hs
                · exact hNf.out p z (by omega) hz)
              have HY' : Hid _ := hy
              clear hs hy
              go_wp2
              go_region_held3 (fun w' => w'.cell? ⟨w.heap.size, 10, none⟩ = some (.slice (some ⟨g, o, none⟩) en ec) ∧ w'.cell? ⟨g, o + f * 7 + 2, none⟩ = some (.int .i64 y.t) ∧ w'.cell? ⟨g, o + f * 7 + 3, none⟩ = some (.int .i64 y.n) ∧ w'.cell? ⟨g, o + f * 7 + 4, none⟩ = some (.string y.s) ∧ w'.cell? ⟨g, o + f * 7 + 5, none⟩ = some (.bool y.b) ∧ w'.cell? ⟨g, o + f * 7 + 6, none⟩ = some (.int .i64 y.c) ∧ w'.cell? ⟨wb.heap.size, 2, none⟩ = some (.int .i64 x.t) ∧ w'.cell? ⟨wb.heap.size, 3, none⟩ = some (.int .i64 x.n) ∧ w'.cell? ⟨wb.heap.size, 4, none⟩ = some (.string x.s) ∧ w'.cell? ⟨wb.heap.size, 5, none⟩ = some (.bool x.b) ∧ w'.cell? ⟨wb.heap.size, 6, none⟩ = some (.int .i64 x.c)) ((repeat' apply And.intro) <;> (first | (go_keep; done) | (go_simp; done))) (first | fail)
              go_wp2
              exact ⟨⟨f + 1, by go_num, by omega, HS, by with_reducible (repeat' first | assumption | exact Below.refl _ _ | refine Below.drew ?_ | refine bdrewN ?_ _ | refine Below.setCell ?_ (by first | exact Nat.le_refl _ | (simp; done) | (simp; omega) | omega) _ | refine Below.alloc ?_ (by first | exact Nat.le_refl _ | (simp; done) | (simp; omega) | omega) _), by with_reducible (repeat' first | assumption | refine Own.drew ?_ | refine Own.drewN ?_ _ | (refine Own.at ?_; first | rfl | (simp; done)) | refine Own.past ?_ _), by with_reducible (repeat' first | assumption | refine Own.drew ?_ | refine Own.drewN ?_ _ | (refine Own.at ?_; first | rfl | (simp; done)) | refine Own.past ?_ _), by with_reducible (repeat' first | assumption | refine Own.drew ?_ | refine Own.drewN ?_ _ | (refine Own.at ?_; first | rfl | (simp; done)) | refine Own.past ?_ _)⟩, by simp [intOf]; omega⟩
          · have hlti : ¬ (f : Int) < k := by omega
            have hfk2 : f = k := by omega
            subst hfk2
            by_cases h0 : x.t = 0
            · have h0' : (x.t == 0) = true := by rw [h0]; rfl
              have H0 : Hid _ := h0
              clear h0
              go_wp2
              go_ret
              exact ⟨rfl, hB3⟩
            · have h0' : (x.t == 0) = false := by rw [beq_eq_false_iff_ne]; exact h0
              have hq2 := at1_just HLN.out hx.out hNf.out h0 HA1.out HQ.out
              have gC : (mn == nn) = true := by rw [beq_iff_eq]; have h7 := HMN.out; have h8 := HNN.out; unfold plE at hq2; omega
              clear hq2 h0
              go_wp2
              go_ret
              exact ⟨rfl, hB3⟩
      · have hq0' : (r0 != r2) = true := by rw [bne_iff_ne]; exact hq0
        by_cases hq1 : r1 = r3
        · have hq1' : (r1 != r3) = false := by rw [bne_eq_false_iff_eq]; exact hq1
          have HQ0 : Hid (r1 = r3) := hq1
          have hL : Hid (lineB r0 r1 r2 r3 = true) := (show lineB r0 r1 r2 r3 = true from by unfold lineB; rw [decide_eq_true hq1, Bool.or_true])
          clear hq1
          obtain ⟨q, rfl, hmn, rfl, rfl, rfl, LN, hA1, hq⟩ := HFl.out HT.out hL.out
          have HMN : Hid (mn = ((q : Int) + 1) * 10000) := hmn
          obtain ⟨nn, hnn⟩ : ∃ nn : Int, (x.r - r0 + 1 + (x.k - r1 + 1) - 1) * 10000 = nn := ⟨_, rfl⟩
          have HNN : Hid ((x.r - r0 + 1 + (x.k - r1 + 1) - 1) * 10000 = nn) := hnn
          have HA1 : Hid _ := hA1
          have HLN : Hid _ := LN
          have HQ : Hid ((q : Int) ≤ plE r0 r1 x) := hq
          have gA : decide (nn < mn) = false := decide_eq_false (by unfold plE at hq; omega)
          have gB : decide (mn < 10000) = false := decide_eq_false (by omega)
          have hl : Hid _ := HL.out HT.out hL.out
          have hNo : Hid (∀ (f : Nat) (y : En), f < 0 → es[f]? = some y → ¬ (y.t = x.t ∧ y.n = x.n ∧ y.s = x.s ∧ y.b = x.b ∧ y.c = x.c)) := (show _ from fun f y h => absurd h (Nat.not_lt_zero _))
          clear hA1 LN hq hmn hnn
          go_wp2
          rw [HNN.out]
          go_region_held3 (fun w' => w'.cell? ⟨w.heap.size, 0, none⟩ = some (.bool true) ∧ w'.cell? ⟨w.heap.size, 1, none⟩ = some (.int .i64 t) ∧ w'.cell? ⟨w.heap.size, 2, none⟩ = some (.int .i64 n) ∧ w'.cell? ⟨w.heap.size, 3, none⟩ = some (.string s) ∧ w'.cell? ⟨w.heap.size, 4, none⟩ = some (.bool b) ∧ w'.cell? ⟨w.heap.size, 5, none⟩ = some (.int .i64 c) ∧ w'.cell? ⟨w.heap.size, 6, none⟩ = some (.int .i64 r0) ∧ w'.cell? ⟨w.heap.size, 7, none⟩ = some (.int .i64 r1) ∧ w'.cell? ⟨w.heap.size, 8, none⟩ = some (.int .i64 r2) ∧ w'.cell? ⟨w.heap.size, 9, none⟩ = some (.int .i64 r3) ∧ w'.cell? ⟨w.heap.size, 10, none⟩ = some (.slice (some ⟨g, o, none⟩) en ec) ∧ w'.cell? ⟨wb.heap.size, 2, none⟩ = some (.int .i64 x.t) ∧ w'.cell? ⟨wb.heap.size, 3, none⟩ = some (.int .i64 x.n) ∧ w'.cell? ⟨wb.heap.size, 4, none⟩ = some (.string x.s) ∧ w'.cell? ⟨wb.heap.size, 5, none⟩ = some (.bool x.b) ∧ w'.cell? ⟨wb.heap.size, 6, none⟩ = some (.int .i64 x.c) ∧ w'.cell? ⟨v4.heap.size, 0, none⟩ = some (.int .i64 1) ∧ w'.cell? ⟨v4.heap.size, 1, none⟩ = some (.int .i64 mn)) ((repeat' apply And.intro) <;> (first | (go_keep; done) | (go_simp; done))) (first | (go_at_call 20; refine (single_any _ _ _ _ _ _).mono ?_; rintro e u1 ⟨rfl, hbu1⟩; have hBu1 : Below w.heap.size w u1 := bup (by with_reducible (repeat' first | assumption | exact Below.refl _ _ | refine Below.drew ?_ | refine bdrewN ?_ _ | refine Below.setCell ?_ (by first | exact Nat.le_refl _ | (simp; done) | (simp; omega) | omega) _ | refine Below.alloc ?_ (by first | exact Nat.le_refl _ | (simp; done) | (simp; omega) | omega) _)) hbu1; have zu1 := hBu1.size; have o0u1 : Own u1 (w.heap.size) #[.bool true, .int .i64 t, .int .i64 n, .string s, .bool b, .int .i64 c, .int .i64 r0, .int .i64 r1, .int .i64 r2, .int .i64 r3, .slice (some ⟨g, o, none⟩) en ec] := Own.keep (by with_reducible (repeat' first | assumption | refine Own.drew ?_ | refine Own.drewN ?_ _ | (refine Own.at ?_; first | rfl | (simp; done)) | refine Own.past ?_ _)) hbu1; have c0 := o0u1.cell; have f0 := o0u1.fro; have l0 := o0u1.lt; have o1u1 : Own u1 (wb.heap.size) #[.int .i64 x.r, .int .i64 x.k, .int .i64 x.t, .int .i64 x.n, .string x.s, .bool x.b, .int .i64 x.c] := Own.keep (by with_reducible (repeat' first | assumption | refine Own.drew ?_ | refine Own.drewN ?_ _ | (refine Own.at ?_; first | rfl | (simp; done)) | refine Own.past ?_ _)) hbu1; have c1 := o1u1.cell; have f1 := o1u1.fro; have l1 := o1u1.lt; have o2u1 : Own u1 (v4.heap.size) #[.int .i64 1, .int .i64 mn, .string ⟨#[]⟩, .bool false, .int .i64 0] := Own.keep (by with_reducible (repeat' first | assumption | refine Own.drew ?_ | refine Own.drewN ?_ _ | (refine Own.at ?_; first | rfl | (simp; done)) | refine Own.past ?_ _)) hbu1; have c2 := o2u1.cell; have f2 := o2u1.fro; have l2 := o2u1.lt) | (go_at_call 9; refine (hl.out _ _ (av_own3 (a := oneV x.t x.n x.s x.b x.c) (b := (⟨true, t, n, s, b, c, r0, r1, r2, r3, some ⟨g, o, none⟩, en, ec⟩ : Ag)) (c := (⟨true, t, n, s, b, c, r0, r1, r2, r3, some ⟨g, o, none⟩, en, ec⟩ : Ag)) (A := #[.bool false, .int .i64 x.t, .int .i64 x.n, .string x.s, .bool x.b, .int .i64 x.c, .int .i64 0, .int .i64 0, .int .i64 0, .int .i64 0, .slice none 0 0, .bool true, .int .i64 t, .int .i64 n, .string s, .bool b, .int .i64 c, .int .i64 r0, .int .i64 r1, .int .i64 r2, .int .i64 r3, .slice (some ⟨g, o, none⟩) en ec, .bool true, .int .i64 t, .int .i64 n, .string s, .bool b, .int .i64 c, .int .i64 r0, .int .i64 r1, .int .i64 r2, .int .i64 r3, .slice (some ⟨g, o, none⟩) en ec]) (by with_reducible (repeat' first | assumption | refine Own.drew ?_ | refine Own.drewN ?_ _ | (refine Own.at ?_; first | rfl | (simp; done)) | refine Own.past ?_ _)) e222.out) (by with_reducible (repeat' first | assumption | exact Below.refl _ _ | refine Below.drew ?_ | refine bdrewN ?_ _ | refine Below.setCell ?_ (by first | exact Nat.le_refl _ | (simp; done) | (simp; omega) | omega) _ | refine Below.alloc ?_ (by first | exact Nat.le_refl _ | (simp; done) | (simp; omega) | omega) _))).mono ?_; rintro e u2 ⟨rfl, hbu2⟩; have hBu2 : Below w.heap.size w u2 := bup (by with_reducible (repeat' first | assumption | exact Below.refl _ _ | refine Below.drew ?_ | refine bdrewN ?_ _ | refine Below.setCell ?_ (by first | exact Nat.le_refl _ | (simp; done) | (simp; omega) | omega) _ | refine Below.alloc ?_ (by first | exact Nat.le_refl _ | (simp; done) | (simp; omega) | omega) _)) hbu2; have zu2 := hBu2.size; have o0u2 : Own u2 (w.heap.size) #[.bool true, .int .i64 t, .int .i64 n, .string s, .bool b, .int .i64 c, .int .i64 r0, .int .i64 r1, .int .i64 r2, .int .i64 r3, .slice (some ⟨g, o, none⟩) en ec] := Own.keep (by with_reducible (repeat' first | assumption | refine Own.drew ?_ | refine Own.drewN ?_ _ | (refine Own.at ?_; first | rfl | (simp; done)) | refine Own.past ?_ _)) hbu2; have c0 := o0u2.cell; have f0 := o0u2.fro; have l0 := o0u2.lt; have o1u2 : Own u2 (wb.heap.size) #[.int .i64 x.r, .int .i64 x.k, .int .i64 x.t, .int .i64 x.n, .string x.s, .bool x.b, .int .i64 x.c] := Own.keep (by with_reducible (repeat' first | assumption | refine Own.drew ?_ | refine Own.drewN ?_ _ | (refine Own.at ?_; first | rfl | (simp; done)) | refine Own.past ?_ _)) hbu2; have c1 := o1u2.cell; have f1 := o1u2.fro; have l1 := o1u2.lt; have o2u2 : Own u2 (v4.heap.size) #[.int .i64 1, .int .i64 mn, .string ⟨#[]⟩, .bool false, .int .i64 0] := Own.keep (by with_reducible (repeat' first | assumption | refine Own.drew ?_ | refine Own.drewN ?_ _ | (refine Own.at ?_; first | rfl | (simp; done)) | refine Own.past ?_ _)) hbu2; have c2 := o2u2.cell; have f2 := o2u2.fro; have l2 := o2u2.lt))
          clear gA gB
          go_wp2
          go_loopw [12] (fun v w' => ∃ f : Nat, v = .int .i64 f ∧ f ≤ k ∧ Hid (∀ (p : Nat) (y : En), p < f → es[p]? = some y → ¬ (y.t = x.t ∧ y.n = x.n ∧ y.s = x.s ∧ y.b = x.b ∧ y.c = x.c)) ∧ Below w.heap.size w w' ∧ Own w' w.heap.size #[.bool true, .int .i64 t, .int .i64 n, .string s, .bool b, .int .i64 c, .int .i64 r0, .int .i64 r1, .int .i64 r2, .int .i64 r3, .slice (some ⟨g, o, none⟩) en ec] ∧ Own w' wb.heap.size #[.int .i64 x.r, .int .i64 x.k, .int .i64 x.t, .int .i64 x.n, .string x.s, .bool x.b, .int .i64 x.c] ∧ Own w' (v4.heap.size) #[.int .i64 1, .int .i64 mn, .string ⟨#[]⟩, .bool false, .int .i64 0]) (fun v _ => (k - intOf v).toNat)
          case atStart => exact ⟨0, rfl, Nat.zero_le _, hNo, by with_reducible (repeat' first | assumption | exact Below.refl _ _ | refine Below.drew ?_ | refine bdrewN ?_ _ | refine Below.setCell ?_ (by first | exact Nat.le_refl _ | (simp; done) | (simp; omega) | omega) _ | refine Below.alloc ?_ (by first | exact Nat.le_refl _ | (simp; done) | (simp; omega) | omega) _), by with_reducible (repeat' first | assumption | refine Own.drew ?_ | refine Own.drewN ?_ _ | (refine Own.at ?_; first | rfl | (simp; done)) | refine Own.past ?_ _), by with_reducible (repeat' first | assumption | refine Own.drew ?_ | refine Own.drewN ?_ _ | (refine Own.at ?_; first | rfl | (simp; done)) | refine Own.past ?_ _), by with_reducible (repeat' first | assumption | refine Own.drew ?_ | refine Own.drewN ?_ _ | (refine Own.at ?_; first | rfl | (simp; done)) | refine Own.past ?_ _)⟩
          case round =>
            obtain ⟨f, rfl, hfk, hNf, hB3, o3, o4, o5'⟩ := hrel
            clear c0 f0 l0 c1 f1 l1 c2 f2 l2
            have c0 := o3.cell
            have f0 := o3.fro
            have l0 := o3.lt
            have c1 := o4.cell
            have f1 := o4.fro
            have l1 := o4.lt
            have c2 := o5'.cell
            have f2 := o5'.fro
            have l2 := o5'.lt
            by_cases hlt : f < k
            · have hlti : (f : Int) < k := by omega
              have hfe : f < en := by omega
              have hf9 : (f : Int) ≤ 1099511627776 := by omega
              have hfei : (f : Int) < en := by omega
              obtain ⟨y, hy⟩ : ∃ y, es[f]? = some y := ⟨_, List.getElem?_eq_getElem (by rw [HN.out]; exact hfe)⟩
              have y0 : wr.cell? ⟨g, o + f * 7, none⟩ = some (.int .i64 y.r) := (hB3.cell (p := ⟨g, o + f * 7, none⟩) hgl).trans (HAL.out f y hy 0 (by decide))
              have y1 : wr.cell? ⟨g, o + f * 7 + 1, none⟩ = some (.int .i64 y.k) := (hB3.cell (p := ⟨g, o + f * 7 + 1, none⟩) hgl).trans (HAL.out f y hy 1 (by decide))
              have y2 : wr.cell? ⟨g, o + f * 7 + 2, none⟩ = some (.int .i64 y.t) := (hB3.cell (p := ⟨g, o + f * 7 + 2, none⟩) hgl).trans (HAL.out f y hy 2 (by decide))
              have y3 : wr.cell? ⟨g, o + f * 7 + 3, none⟩ = some (.int .i64 y.n) := (hB3.cell (p := ⟨g, o + f * 7 + 3, none⟩) hgl).trans (HAL.out f y hy 3 (by decide))
              have y4 : wr.cell? ⟨g, o + f * 7 + 4, none⟩ = some (.string y.s) := (hB3.cell (p := ⟨g, o + f * 7 + 4, none⟩) hgl).trans (HAL.out f y hy 4 (by decide))
              have y5 : wr.cell? ⟨g, o + f * 7 + 5, none⟩ = some (.bool y.b) := (hB3.cell (p := ⟨g, o + f * 7 + 5, none⟩) hgl).trans (HAL.out f y hy 5 (by decide))
              have y6 : wr.cell? ⟨g, o + f * 7 + 6, none⟩ = some (.int .i64 y.c) := (hB3.cell (p := ⟨g, o + f * 7 + 6, none⟩) hgl).trans (HAL.out f y hy 6 (by decide))
              by_cases hs : y.t = x.t ∧ y.n = x.n ∧ y.s = x.s ∧ y.b = x.b ∧ y.c = x.c
              · have hs2 : ∀ W, (binOp .eql 26 (.agg #[.int .i64 y.t, .int .i64 y.n, .string y.s, .bool y.b, .int .i64 y.c]) (.agg #[.int .i64 x.t, .int .i64 x.n, .string x.s, .bool x.b, .int .i64 x.c])).run Tryz.prog W = .ok (.bool true) W := fun W => by rw [eqv]; unfold sameB; rw [decide_eq_true hs]
                have hq2 := at1_ahead HLN.out hx.out hy hlt hs HA1.out
                have gC : mn < nn := by have h7 := HMN.out; have h8 := HNN.out; unfold plE at hq2; omega
                clear hq2
                have HS : Hid _ := hs
                have HY' : Hid _ := hy
                clear hs hy
                go_wp2
                go_region_held3 (fun w' => w'.cell? ⟨w.heap.size, 10, none⟩ = some (.slice (some ⟨g, o, none⟩) en ec) ∧ w'.cell? ⟨g, o + f * 7 + 2, none⟩ = some (.int .i64 y.t) ∧ w'.cell? ⟨g, o + f * 7 + 3, none⟩ = some (.int .i64 y.n) ∧ w'.cell? ⟨g, o + f * 7 + 4, none⟩ = some (.string y.s) ∧ w'.cell? ⟨g, o + f * 7 + 5, none⟩ = some (.bool y.b) ∧ w'.cell? ⟨g, o + f * 7 + 6, none⟩ = some (.int .i64 y.c) ∧ w'.cell? ⟨wb.heap.size, 2, none⟩ = some (.int .i64 x.t) ∧ w'.cell? ⟨wb.heap.size, 3, none⟩ = some (.int .i64 x.n) ∧ w'.cell? ⟨wb.heap.size, 4, none⟩ = some (.string x.s) ∧ w'.cell? ⟨wb.heap.size, 5, none⟩ = some (.bool x.b) ∧ w'.cell? ⟨wb.heap.size, 6, none⟩ = some (.int .i64 x.c)) ((repeat' apply And.intro) <;> (first | (go_keep; done) | (go_simp; done))) (first | fail)
                go_wp2
                go_ret
                exact ⟨rfl, by with_reducible (repeat' first | assumption | exact Below.refl _ _ | refine Below.drew ?_ | refine bdrewN ?_ _ | refine Below.setCell ?_ (by first | exact Nat.le_refl _ | (simp; done) | (simp; omega) | omega) _ | refine Below.alloc ?_ (by first | exact Nat.le_refl _ | (simp; done) | (simp; omega) | omega) _)⟩
              · have hs2 : ∀ W, (binOp .eql 26 (.agg #[.int .i64 y.t, .int .i64 y.n, .string y.s, .bool y.b, .int .i64 y.c]) (.agg #[.int .i64 x.t, .int .i64 x.n, .string x.s, .bool x.b, .int .i64 x.c])).run Tryz.prog W = .ok (.bool false) W := fun W => by rw [eqv]; unfold sameB; rw [decide_eq_false hs]
                have HS : Hid (∀ (p : Nat) (z : En), p < f + 1 → es[p]? = some z → ¬ (z.t = x.t ∧ z.n = x.n ∧ z.s = x.s ∧ z.b = x.b ∧ z.c = x.c)) := (show _ from fun p z hp hz => by
                  by_cases e : p = f
                  · subst e; rw [hy] at hz; cases hz; exact hs
                  · exact hNf.out p z (by omega) hz)
                have HY' : Hid _ := hy
                clear hs hy
                go_wp2
                go_region_held3 (fun w' => w'.cell? ⟨w.heap.size, 10, none⟩ = some (.slice (some ⟨g, o, none⟩) en ec) ∧ w'.cell? ⟨g, o + f * 7 + 2, none⟩ = some (.int .i64 y.t) ∧ w'.cell? ⟨g, o + f * 7 + 3, none⟩ = some (.int .i64 y.n) ∧ w'.cell? ⟨g, o + f * 7 + 4, none⟩ = some (.string y.s) ∧ w'.cell? ⟨g, o + f * 7 + 5, none⟩ = some (.bool y.b) ∧ w'.cell? ⟨g, o + f * 7 + 6, none⟩ = some (.int .i64 y.c) ∧ w'.cell? ⟨wb.heap.size, 2, none⟩ = some (.int .i64 x.t) ∧ w'.cell? ⟨wb.heap.size, 3, none⟩ = some (.int .i64 x.n) ∧ w'.cell? ⟨wb.heap.size, 4, none⟩ = some (.string x.s) ∧ w'.cell? ⟨wb.heap.size, 5, none⟩ = some (.bool x.b) ∧ w'.cell? ⟨wb.heap.size, 6, none⟩ = some (.int .i64 x.c)) ((repeat' apply And.intro) <;> (first | (go_keep; done) | (go_simp; done))) (first | fail)
                go_wp2
                exact ⟨⟨f + 1, by go_num, by omega, HS, by with_reducible (repeat' first | assumption | exact Below.refl _ _ | refine Below.drew ?_ | refine bdrewN ?_ _ | refine Below.setCell ?_ (by first | exact Nat.le_refl _ | (simp; done) | (simp; omega) | omega) _ | refine Below.alloc ?_ (by first | exact Nat.le_refl _ | (simp; done) | (simp; omega) | omega) _), by with_reducible (repeat' first | assumption | refine Own.drew ?_ | refine Own.drewN ?_ _ | (refine Own.at ?_; first | rfl | (simp; done)) | refine Own.past ?_ _), by with_reducible (repeat' first | assumption | refine Own.drew ?_ | refine Own.drewN ?_ _ | (refine Own.at ?_; first | rfl | (simp; done)) | refine Own.past ?_ _), by with_reducible (repeat' first | assumption | refine Own.drew ?_ | refine Own.drewN ?_ _ | (refine Own.at ?_; first | rfl | (simp; done)) | refine Own.past ?_ _)⟩, by simp [intOf]; omega⟩
            · have hlti : ¬ (f : Int) < k := by omega
              have hfk2 : f = k := by omega
              subst hfk2
              by_cases h0 : x.t = 0
              · have h0' : (x.t == 0) = true := by rw [h0]; rfl
                have H0 : Hid _ := h0
                clear h0
                go_wp2
                go_ret
                exact ⟨rfl, hB3⟩
              · have h0' : (x.t == 0) = false := by rw [beq_eq_false_iff_ne]; exact h0
                have hq2 := at1_just HLN.out hx.out hNf.out h0 HA1.out HQ.out
                have gC : (mn == nn) = true := by rw [beq_iff_eq]; have h7 := HMN.out; have h8 := HNN.out; unfold plE at hq2; omega
                clear hq2 h0
                go_wp2
                go_ret
                exact ⟨rfl, hB3⟩
        · have hq1' : (r1 != r3) = true := by rw [bne_iff_ne]; exact hq1
          obtain ⟨rfl, rfl, rfl, rfl, rfl⟩ := HFn.out HT.out (by unfold lineB; rw [decide_eq_false hq0, decide_eq_false hq1]; rfl)
          clear hq1
          go_wp2
          go_ret
          exact ⟨rfl, hBX⟩
end Go.Proofs.YtcgcnpcimfaecaaGreatDoor
