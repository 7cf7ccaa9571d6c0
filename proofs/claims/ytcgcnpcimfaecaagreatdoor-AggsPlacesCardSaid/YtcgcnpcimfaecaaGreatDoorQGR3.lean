/- The contracts of aggs.countBlank and countSame (of Blank). New memory alone is made. The contract of aggs.countFilled: how many items are not Blank. New memory alone is made. -/
import Derived.Test.YtcgcnpcimfaecaaGreatDoorQGR1
import Derived.Test.YtcgcnpcimfaecaaGreatDoorQGTw
namespace Go.Proofs.YtcgcnpcimfaecaaGreatDoor
open Go.RowKit
set_option linter.all false
set_option maxRecDepth 100000 in
set_option maxHeartbeats 2000000 in
theorem cblank_any (w : World) (ab ao an ac : Nat) (uq : Option Addr) (un uc : Nat) (x : Int) (a : Ag) (l : List En) (hab : ab < w.heap.size) (han : 0 < an) (HA : ∀ j, j < 11 → w.cell? ⟨ab, ao + j, none⟩ = (Ag.cells a)[j]?) (hE : AgE w (a, l)) (h1 : 0 ≤ a.r0) (h2 : a.r0 ≤ a.r2) (h3 : a.r2 ≤ 1048576) (h4 : 0 ≤ a.r1) (h5 : a.r1 ≤ a.r3) (h6 : a.r3 ≤ 1048576) (hfit : (l.length : Int) ≤ (a.r2 - a.r0 + 1) * (a.r3 - a.r1 + 1)) (h40 : (a.r2 - a.r0 + 1) * (a.r3 - a.r1 + 1) ≤ 549755813888) : Calls Tryz.prog 87 #[.agg #[.slice (some ⟨ab, ao, none⟩) an ac, .slice uq un uc, .int .i64 x]] w fun e w' => e = .returned (.agg #[.int .i64 (1), .int .i64 ((((a.r2 - a.r0 + 1) * (a.r3 - a.r1 + 1) - (l.length : Int) + cwI 0 0 ⟨#[]⟩ false 0 l) * 10000)), .string ⟨#[]⟩, .bool false, .int .i64 (0)]) ∧ Below w.heap.size w w' := by
  have mixed : Tryz.prog.follows .mixedOrders = true := by kernel_rfl
  have y0 : w.cell? ⟨ab, ao, none⟩ = some (.bool a.many) := by simpa [Ag.cells] using HA 0 (by decide)
  have y1 : w.cell? ⟨ab, ao + 1, none⟩ = some (.int .i64 a.t) := by simpa [Ag.cells] using HA 1 (by decide)
  have y2 : w.cell? ⟨ab, ao + 2, none⟩ = some (.int .i64 a.n) := by simpa [Ag.cells] using HA 2 (by decide)
  have y3 : w.cell? ⟨ab, ao + 3, none⟩ = some (.string a.s) := by simpa [Ag.cells] using HA 3 (by decide)
  have y4 : w.cell? ⟨ab, ao + 4, none⟩ = some (.bool a.b) := by simpa [Ag.cells] using HA 4 (by decide)
  have y5 : w.cell? ⟨ab, ao + 5, none⟩ = some (.int .i64 a.c) := by simpa [Ag.cells] using HA 5 (by decide)
  have y6 : w.cell? ⟨ab, ao + 6, none⟩ = some (.int .i64 a.r0) := by simpa [Ag.cells] using HA 6 (by decide)
  have y7 : w.cell? ⟨ab, ao + 7, none⟩ = some (.int .i64 a.r1) := by simpa [Ag.cells] using HA 7 (by decide)
  have y8 : w.cell? ⟨ab, ao + 8, none⟩ = some (.int .i64 a.r2) := by simpa [Ag.cells] using HA 8 (by decide)
  have y9 : w.cell? ⟨ab, ao + 9, none⟩ = some (.int .i64 a.r3) := by simpa [Ag.cells] using HA 9 (by decide)
  have y10 : w.cell? ⟨ab, ao + 10, none⟩ = some (.slice a.ep a.en a.ec) := by simpa [Ag.cells] using HA 10 (by decide)
  have hle := cw_le 0 0 ⟨#[]⟩ false 0 l
  have HE : Hid (AgE w (a, l)) := hE
  have hA := fun (W : World) (hb : Below w.heap.size w W) => cw_any W a.many a.t a.n a.s a.b a.c a.r0 a.r1 a.r2 a.r3 a.ep a.en a.ec l 0 ⟨#[]⟩ false 0 (HE.out.keep hb).vw HE.out.few h1 h2 h3 h4 h5 h6
  clear hE HA
  have hB := fun W => counted_any ((a.r2 - a.r0 + 1) * (a.r3 - a.r1 + 1) - (l.length : Int) + cwI 0 0 ⟨#[]⟩ false 0 l) W (by omega) (by omega)
  generalize (a.r2 - a.r0 + 1) * (a.r3 - a.r1 + 1) - (l.length : Int) + cwI 0 0 ⟨#[]⟩ false 0 l = P at hA hB ⊢
  have han' : (0 : Int) < (an : Int) := by omega
  go_enter Tryz.func87, Tryz.ntmps87
  go_wp2_with (first | (go_at_call 122; refine (hA _ (by with_reducible (repeat' first | assumption | exact Below.refl _ _ | refine Below.drew ?_ | refine bdrewN ?_ _ | refine Below.setCell ?_ (by first | exact Nat.le_refl _ | (simp; done) | (simp; omega) | omega) _ | refine Below.alloc ?_ (by first | exact Nat.le_refl _ | (simp; done) | (simp; omega) | omega) _))).mono ?_; rintro e wa ⟨rfl, hbwa⟩; have hBwa : Below w.heap.size w wa := bup (by with_reducible (repeat' first | assumption | exact Below.refl _ _ | refine Below.drew ?_ | refine bdrewN ?_ _ | refine Below.setCell ?_ (by first | exact Nat.le_refl _ | (simp; done) | (simp; omega) | omega) _ | refine Below.alloc ?_ (by first | exact Nat.le_refl _ | (simp; done) | (simp; omega) | omega) _)) hbwa; have zwa := hBwa.size; have o0wa : Own wa (w.heap.size) #[.slice (some ⟨ab, ao, none⟩) an ac, .slice uq un uc, .int .i64 x] := Own.keep (by with_reducible (repeat' first | assumption | refine Own.drew ?_ | refine Own.drewN ?_ _ | (refine Own.at ?_; first | rfl | (simp; done)) | refine Own.past ?_ _)) hbwa; have c0 := o0wa.cell; have f0 := o0wa.fro; have l0 := o0wa.lt; have o1wa : Own wa (w.heap.size + 1) #[.int .i64 0, .int .i64 0, .string ⟨#[]⟩, .bool false, .int .i64 0] := Own.keep (by with_reducible (repeat' first | assumption | refine Own.drew ?_ | refine Own.drewN ?_ _ | (refine Own.at ?_; first | rfl | (simp; done)) | refine Own.past ?_ _)) hbwa; have c1 := o1wa.cell; have f1 := o1wa.fro; have l1 := o1wa.lt) | (go_at_call 121; refine (hB _).mono ?_; rintro e wb ⟨rfl, hbwb⟩; have hBwb : Below w.heap.size w wb := bup (by with_reducible (repeat' first | assumption | exact Below.refl _ _ | refine Below.drew ?_ | refine bdrewN ?_ _ | refine Below.setCell ?_ (by first | exact Nat.le_refl _ | (simp; done) | (simp; omega) | omega) _ | refine Below.alloc ?_ (by first | exact Nat.le_refl _ | (simp; done) | (simp; omega) | omega) _)) hbwb; have zwb := hBwb.size; have o0wb : Own wb (w.heap.size + 1) #[.int .i64 0, .int .i64 0, .string ⟨#[]⟩, .bool false, .int .i64 0] := Own.keep (by with_reducible (repeat' first | assumption | refine Own.drew ?_ | refine Own.drewN ?_ _ | (refine Own.at ?_; first | rfl | (simp; done)) | refine Own.past ?_ _)) hbwb; have c0 := o0wb.cell; have f0 := o0wb.fro; have l0 := o0wb.lt))
  exact bodyPost_ret (v := (.agg #[.int .i64 (1), .int .i64 ((P * 10000)), .string ⟨#[]⟩, .bool false, .int .i64 (0)])) (by simp [results, Tryz.results87, go_sem, c0, f0, l0]) rfl ⟨rfl, by with_reducible (repeat' first | assumption | exact Below.refl _ _ | refine Below.drew ?_ | refine bdrewN ?_ _ | refine Below.setCell ?_ (by first | exact Nat.le_refl _ | (simp; done) | (simp; omega) | omega) _ | refine Below.alloc ?_ (by first | exact Nat.le_refl _ | (simp; done) | (simp; omega) | omega) _)⟩
set_option maxRecDepth 100000 in
set_option maxHeartbeats 2000000 in
theorem csame_0 (w : World) (ab ao an ac : Nat) (uq : Option Addr) (un uc : Nat) (x : Int) (a : Ag) (l : List En) (HB : ∀ j, j < 6 → w.cell? ⟨ab, ao + 11 + j, none⟩ = (#[.bool false, .int .i64 0, .int .i64 0, .string ⟨#[]⟩, .bool false, .int .i64 0] : Array Value)[j]?) (ha1 : 1 < an) (hab : ab < w.heap.size) (han : 0 < an) (HA : ∀ j, j < 11 → w.cell? ⟨ab, ao + j, none⟩ = (Ag.cells a)[j]?) (hE : AgE w (a, l)) (h1 : 0 ≤ a.r0) (h2 : a.r0 ≤ a.r2) (h3 : a.r2 ≤ 1048576) (h4 : 0 ≤ a.r1) (h5 : a.r1 ≤ a.r3) (h6 : a.r3 ≤ 1048576) (hfit : (l.length : Int) ≤ (a.r2 - a.r0 + 1) * (a.r3 - a.r1 + 1)) (h40 : (a.r2 - a.r0 + 1) * (a.r3 - a.r1 + 1) ≤ 549755813888) : Calls Tryz.prog 88 #[.agg #[.slice (some ⟨ab, ao, none⟩) an ac, .slice uq un uc, .int .i64 x]] w fun e w' => e = .returned (.agg #[.int .i64 (1), .int .i64 ((((a.r2 - a.r0 + 1) * (a.r3 - a.r1 + 1) - (l.length : Int) + cwI 0 0 ⟨#[]⟩ false 0 l) * 10000)), .string ⟨#[]⟩, .bool false, .int .i64 (0)]) ∧ Below w.heap.size w w' := by
  have mixed : Tryz.prog.follows .mixedOrders = true := by kernel_rfl
  have y0 : w.cell? ⟨ab, ao, none⟩ = some (.bool a.many) := by simpa [Ag.cells] using HA 0 (by decide)
  have y1 : w.cell? ⟨ab, ao + 1, none⟩ = some (.int .i64 a.t) := by simpa [Ag.cells] using HA 1 (by decide)
  have y2 : w.cell? ⟨ab, ao + 2, none⟩ = some (.int .i64 a.n) := by simpa [Ag.cells] using HA 2 (by decide)
  have y3 : w.cell? ⟨ab, ao + 3, none⟩ = some (.string a.s) := by simpa [Ag.cells] using HA 3 (by decide)
  have y4 : w.cell? ⟨ab, ao + 4, none⟩ = some (.bool a.b) := by simpa [Ag.cells] using HA 4 (by decide)
  have y5 : w.cell? ⟨ab, ao + 5, none⟩ = some (.int .i64 a.c) := by simpa [Ag.cells] using HA 5 (by decide)
  have y6 : w.cell? ⟨ab, ao + 6, none⟩ = some (.int .i64 a.r0) := by simpa [Ag.cells] using HA 6 (by decide)
  have y7 : w.cell? ⟨ab, ao + 7, none⟩ = some (.int .i64 a.r1) := by simpa [Ag.cells] using HA 7 (by decide)
  have y8 : w.cell? ⟨ab, ao + 8, none⟩ = some (.int .i64 a.r2) := by simpa [Ag.cells] using HA 8 (by decide)
  have y9 : w.cell? ⟨ab, ao + 9, none⟩ = some (.int .i64 a.r3) := by simpa [Ag.cells] using HA 9 (by decide)
  have y10 : w.cell? ⟨ab, ao + 10, none⟩ = some (.slice a.ep a.en a.ec) := by simpa [Ag.cells] using HA 10 (by decide)
  have hle := cw_le 0 0 ⟨#[]⟩ false 0 l
  have HE : Hid (AgE w (a, l)) := hE
  have hA := fun (W : World) (hb : Below w.heap.size w W) => cw_any W a.many a.t a.n a.s a.b a.c a.r0 a.r1 a.r2 a.r3 a.ep a.en a.ec l 0 ⟨#[]⟩ false 0 (HE.out.keep hb).vw HE.out.few h1 h2 h3 h4 h5 h6
  clear hE HA
  have hB := fun W => counted_any ((a.r2 - a.r0 + 1) * (a.r3 - a.r1 + 1) - (l.length : Int) + cwI 0 0 ⟨#[]⟩ false 0 l) W (by omega) (by omega)
  generalize (a.r2 - a.r0 + 1) * (a.r3 - a.r1 + 1) - (l.length : Int) + cwI 0 0 ⟨#[]⟩ false 0 l = P at hA hB ⊢
  have han' : (0 : Int) < (an : Int) := by omega
  have ha1' : (1 : Int) < (an : Int) := by omega
  have s1 : w.cell? ⟨ab, ao + 12, none⟩ = some (.int .i64 0) := HB 1 (by decide)
  have s2 : w.cell? ⟨ab, ao + 13, none⟩ = some (.int .i64 0) := HB 2 (by decide)
  have s3 : w.cell? ⟨ab, ao + 14, none⟩ = some (.string ⟨#[]⟩) := HB 3 (by decide)
  have s4 : w.cell? ⟨ab, ao + 15, none⟩ = some (.bool false) := HB 4 (by decide)
  have s5 : w.cell? ⟨ab, ao + 16, none⟩ = some (.int .i64 0) := HB 5 (by decide)
  clear HB
  go_enter Tryz.func88, Tryz.ntmps88
  go_wp2
  go_region_held3 (fun w' => w'.cell? ⟨w.heap.size, 0, none⟩ = some (.slice (some ⟨ab, ao, none⟩) an ac) ∧ w'.cell? ⟨ab, ao, none⟩ = some (.bool a.many) ∧ w'.cell? ⟨ab, ao + 1, none⟩ = some (.int .i64 a.t) ∧ w'.cell? ⟨ab, ao + 2, none⟩ = some (.int .i64 a.n) ∧ w'.cell? ⟨ab, ao + 3, none⟩ = some (.string a.s) ∧ w'.cell? ⟨ab, ao + 4, none⟩ = some (.bool a.b) ∧ w'.cell? ⟨ab, ao + 5, none⟩ = some (.int .i64 a.c) ∧ w'.cell? ⟨ab, ao + 6, none⟩ = some (.int .i64 a.r0) ∧ w'.cell? ⟨ab, ao + 7, none⟩ = some (.int .i64 a.r1) ∧ w'.cell? ⟨ab, ao + 8, none⟩ = some (.int .i64 a.r2) ∧ w'.cell? ⟨ab, ao + 9, none⟩ = some (.int .i64 a.r3) ∧ w'.cell? ⟨ab, ao + 10, none⟩ = some (.slice a.ep a.en a.ec) ∧ w'.cell? ⟨ab, ao + 12, none⟩ = some (.int .i64 0) ∧ w'.cell? ⟨ab, ao + 13, none⟩ = some (.int .i64 0) ∧ w'.cell? ⟨ab, ao + 14, none⟩ = some (.string ⟨#[]⟩) ∧ w'.cell? ⟨ab, ao + 15, none⟩ = some (.bool false) ∧ w'.cell? ⟨ab, ao + 16, none⟩ = some (.int .i64 0)) ((repeat' apply And.intro) <;> (first | (go_keep; done) | (go_simp; done))) (first | (go_at_call 122; refine (hA _ (by with_reducible (repeat' first | assumption | exact Below.refl _ _ | refine Below.drew ?_ | refine bdrewN ?_ _ | refine Below.setCell ?_ (by first | exact Nat.le_refl _ | (simp; done) | (simp; omega) | omega) _ | refine Below.alloc ?_ (by first | exact Nat.le_refl _ | (simp; done) | (simp; omega) | omega) _))).mono ?_; rintro e wa ⟨rfl, hbwa⟩; have hBwa : Below w.heap.size w wa := bup (by with_reducible (repeat' first | assumption | exact Below.refl _ _ | refine Below.drew ?_ | refine bdrewN ?_ _ | refine Below.setCell ?_ (by first | exact Nat.le_refl _ | (simp; done) | (simp; omega) | omega) _ | refine Below.alloc ?_ (by first | exact Nat.le_refl _ | (simp; done) | (simp; omega) | omega) _)) hbwa; have zwa := hBwa.size; have o0wa : Own wa (w.heap.size) #[.slice (some ⟨ab, ao, none⟩) an ac, .slice uq un uc, .int .i64 x] := Own.keep (by with_reducible (repeat' first | assumption | refine Own.drew ?_ | refine Own.drewN ?_ _ | (refine Own.at ?_; first | rfl | (simp; done)) | refine Own.past ?_ _)) hbwa; have c0 := o0wa.cell; have f0 := o0wa.fro; have l0 := o0wa.lt; have o1wa : Own wa (w.heap.size + 1) #[.int .i64 0, .int .i64 0, .string ⟨#[]⟩, .bool false, .int .i64 0] := Own.keep (by with_reducible (repeat' first | assumption | refine Own.drew ?_ | refine Own.drewN ?_ _ | (refine Own.at ?_; first | rfl | (simp; done)) | refine Own.past ?_ _)) hbwa; have c1 := o1wa.cell; have f1 := o1wa.fro; have l1 := o1wa.lt; have d0 := (hBwa.cell (p := ⟨ab, ao, none⟩) hab).trans y0; have d1 := (hBwa.cell (p := ⟨ab, ao + 1, none⟩) hab).trans y1; have d2 := (hBwa.cell (p := ⟨ab, ao + 2, none⟩) hab).trans y2; have d3 := (hBwa.cell (p := ⟨ab, ao + 3, none⟩) hab).trans y3; have d4 := (hBwa.cell (p := ⟨ab, ao + 4, none⟩) hab).trans y4; have d5 := (hBwa.cell (p := ⟨ab, ao + 5, none⟩) hab).trans y5; have d6 := (hBwa.cell (p := ⟨ab, ao + 6, none⟩) hab).trans y6; have d7 := (hBwa.cell (p := ⟨ab, ao + 7, none⟩) hab).trans y7; have d8 := (hBwa.cell (p := ⟨ab, ao + 8, none⟩) hab).trans y8; have d9 := (hBwa.cell (p := ⟨ab, ao + 9, none⟩) hab).trans y9; have d10 := (hBwa.cell (p := ⟨ab, ao + 10, none⟩) hab).trans y10; have d12 := (hBwa.cell (p := ⟨ab, ao + 12, none⟩) hab).trans s1; have d13 := (hBwa.cell (p := ⟨ab, ao + 13, none⟩) hab).trans s2; have d14 := (hBwa.cell (p := ⟨ab, ao + 14, none⟩) hab).trans s3; have d15 := (hBwa.cell (p := ⟨ab, ao + 15, none⟩) hab).trans s4; have d16 := (hBwa.cell (p := ⟨ab, ao + 16, none⟩) hab).trans s5) | (go_at_call 121; refine (hB _).mono ?_; rintro e wb ⟨rfl, hbwb⟩; have hBwb : Below w.heap.size w wb := bup (by with_reducible (repeat' first | assumption | exact Below.refl _ _ | refine Below.drew ?_ | refine bdrewN ?_ _ | refine Below.setCell ?_ (by first | exact Nat.le_refl _ | (simp; done) | (simp; omega) | omega) _ | refine Below.alloc ?_ (by first | exact Nat.le_refl _ | (simp; done) | (simp; omega) | omega) _)) hbwb; have zwb := hBwb.size; have o0wb : Own wb (w.heap.size + 1) #[.int .i64 0, .int .i64 0, .string ⟨#[]⟩, .bool false, .int .i64 0] := Own.keep (by with_reducible (repeat' first | assumption | refine Own.drew ?_ | refine Own.drewN ?_ _ | (refine Own.at ?_; first | rfl | (simp; done)) | refine Own.past ?_ _)) hbwb; have c0 := o0wb.cell; have f0 := o0wb.fro; have l0 := o0wb.lt; have o1wb : Own wb (w.heap.size) #[.slice (some ⟨ab, ao, none⟩) an ac, .slice uq un uc, .int .i64 x] := Own.keep (by with_reducible (repeat' first | assumption | refine Own.drew ?_ | refine Own.drewN ?_ _ | (refine Own.at ?_; first | rfl | (simp; done)) | refine Own.past ?_ _)) hbwb; have c1 := o1wb.cell; have f1 := o1wb.fro; have l1 := o1wb.lt; have d0 := (hBwb.cell (p := ⟨ab, ao, none⟩) hab).trans y0; have d1 := (hBwb.cell (p := ⟨ab, ao + 1, none⟩) hab).trans y1; have d2 := (hBwb.cell (p := ⟨ab, ao + 2, none⟩) hab).trans y2; have d3 := (hBwb.cell (p := ⟨ab, ao + 3, none⟩) hab).trans y3; have d4 := (hBwb.cell (p := ⟨ab, ao + 4, none⟩) hab).trans y4; have d5 := (hBwb.cell (p := ⟨ab, ao + 5, none⟩) hab).trans y5; have d6 := (hBwb.cell (p := ⟨ab, ao + 6, none⟩) hab).trans y6; have d7 := (hBwb.cell (p := ⟨ab, ao + 7, none⟩) hab).trans y7; have d8 := (hBwb.cell (p := ⟨ab, ao + 8, none⟩) hab).trans y8; have d9 := (hBwb.cell (p := ⟨ab, ao + 9, none⟩) hab).trans y9; have d10 := (hBwb.cell (p := ⟨ab, ao + 10, none⟩) hab).trans y10; have d12 := (hBwb.cell (p := ⟨ab, ao + 12, none⟩) hab).trans s1; have d13 := (hBwb.cell (p := ⟨ab, ao + 13, none⟩) hab).trans s2; have d14 := (hBwb.cell (p := ⟨ab, ao + 14, none⟩) hab).trans s3; have d15 := (hBwb.cell (p := ⟨ab, ao + 15, none⟩) hab).trans s4; have d16 := (hBwb.cell (p := ⟨ab, ao + 16, none⟩) hab).trans s5))
  go_wp2
  exact bodyPost_ret (v := (.agg #[.int .i64 (1), .int .i64 ((P * 10000)), .string ⟨#[]⟩, .bool false, .int .i64 (0)])) (by simp [results, Tryz.results88, go_sem, c0, f0, l0]) rfl ⟨rfl, by with_reducible (repeat' first | assumption | exact Below.refl _ _ | refine Below.drew ?_ | refine bdrewN ?_ _ | refine Below.setCell ?_ (by first | exact Nat.le_refl _ | (simp; done) | (simp; omega) | omega) _ | refine Below.alloc ?_ (by first | exact Nat.le_refl _ | (simp; done) | (simp; omega) | omega) _)⟩
end Go.Proofs.YtcgcnpcimfaecaaGreatDoor
namespace Go.Proofs.YtcgcnpcimfaecaaGreatDoor
open Go.Shelf Go.RowKit
set_option linter.all false
attribute [local go_sem] Oper.semAt_some
/-- How many items are not Blank. -/
def filI (l : List It) : Nat := (l.filter (fun x => !(x.t == 0))).length
theorem filI_snoc {l : List It} {i : Nat} {x : It} (h : l[i]? = some x) : filI (l.take (i + 1)) = filI (l.take i) + (if x.t == 0 then 0 else 1) := by
  unfold filI
  rw [List.take_succ, h, Option.toList_some, List.filter_append, List.length_append]
  congr 1
  simp only [List.filter_cons, List.filter_nil]
  cases (x.t == 0) <;> rfl
theorem filI_len (l : List It) : filI l ≤ l.length := List.length_filter_le ..
set_option maxHeartbeats 4000000 in
set_option maxRecDepth 100000 in
theorem fil_any (w : World) (vq uq : Option Addr) (vn vc un uc : Nat) (y : Int) (L : List (Ag × List En)) (hv : AV w (.slice vq vn vc) (L.map Prod.fst)) (h40 : L.length ≤ 1099511627776) (hE : Hid (∀ p ∈ L, AgE w p)) (hM : (itms L).length ≤ 1099511627776) :
    Calls Tryz.prog 86 #[.agg #[.slice vq vn vc, .slice uq un uc, .int .i64 y]] w fun e w' => e = .returned (.agg #[.int .i64 (1), .int .i64 (((filI (itms L) : Int) * 10000)), .string ⟨#[]⟩, .bool false, .int .i64 (0)]) ∧ Below w.heap.size w w' := by
  refine (callsIn_wide (n := 9)).1 ?_
  refine callsIn_of_wp_marks Tryz.func86 rfl trivial ?_ rfl
  simp only [Tryz.ntmps86, List.size_toArray, List.length_cons, List.length_nil, Nat.reduceAdd, Nat.reduceSub, Array.replicate_succ, Array.replicate_zero, List.push_toArray, List.append_toArray, List.nil_append, List.cons_append]
  have hlm := fun w => items_mk vq vn vc w
  gi_wp2_with (refine ⟨trivial, ?_⟩; gi_at_call 61; refine (callsIn_wide.2 (hlm _)).mono ?_; rintro e w1 ⟨rfl, rfl⟩)
  clear hlm
  obtain ⟨b, hb⟩ : ∃ b, w.heap.size = b := ⟨_, rfl⟩
  obtain ⟨V, hV⟩ : ∃ V, ((((w.alloc (.cells #[.slice vq vn vc, .slice uq un uc, .int .i64 y] 67)).alloc (.cells #[.int .i64 0, .int .i64 0, .string ⟨#[]⟩, .bool false, .int .i64 0] 26)).alloc (.cells #[.int .i64 0] 3)).alloc (.cells #[.slice vq vn vc] 22)) = V := ⟨_, rfl⟩
  have v1 : Own V (b + 1) #[.int .i64 0, .int .i64 0, .string ⟨#[]⟩, .bool false, .int .i64 0] := by rw [← hV, ← hb]; exact ((Own.at (by simp)).past _).past _
  have v0 : Own V (b + 2) #[.int .i64 0] := by rw [← hV, ← hb]; exact (Own.at (by simp)).past _
  have v2 : Own V (b + 3) #[.slice vq vn vc] := by rw [← hV, ← hb]; exact Own.at (by simp)
  have hVs : V.heap.size = b + 4 := by rw [← hV, ← hb]; simp
  have hBV : Below b w V := by
    rw [← hV, ← hb]
    exact ((((Below.refl _ w).alloc (Nat.le_refl _) _).alloc (by simp) _).alloc (by simp; omega) _).alloc (by simp; omega) _
  rw [hV, hb]
  have hgv := items_gives L (b + 3) w V (.slice vq vn vc) (v2.cell 0) hv h40 hE.out (fun q hq => hBV.block q (by omega))
  have HGV : Hid _ := hgv
  have HM : Hid _ := hM
  clear hV hgv hM
  refine range_out (gf := 104) (lb := #[.pointer (some ⟨b + 3, 0, none⟩)]) rfl (enters_of Tryz.func104 (by kernel_rfl) rfl)
    HGV.out (fun _ => rfl) (fun q => q = b + 2) ?own ?F0
    (fun k Ft A => Own A (b + 2) #[.int .i64 (filI ((itms L).take k) : Int)] ∧ Own A (b + 1) #[.int .i64 0, .int .i64 0, .string ⟨#[]⟩, .bool false, .int .i64 0] ∧ (Ft = fun q => q = b + 2) ∧ Below b w A)
    (fun c k Ft A => False)
    ?hI ?hIx ?h0 ?round ?done ?stop
  case own =>
    rintro k (rfl | hk)
    · exact ⟨rfl, by omega, by omega⟩
    · exact ⟨rfl, by omega, by omega⟩
  case F0 => rintro k h; omega
  case hI =>
    rintro k Ft A A' ⟨o0, o1, rfl, hB⟩ hk
    have hsm : ∀ x, x < b + 4 → x < A.heap.size → A'.heap[x]? = A.heap[x]? := fun x h1 h2 => hk.block x h2 (.inl (by omega))
    exact ⟨o0.of_block (hsm _ (by omega) o0.lt), o1.of_block (hsm _ (by omega) o1.lt), rfl, hB.trans ⟨hk.os, hk.tape, hk.output, hk.size, fun x hx => hsm x (by omega) (by have := o0.lt; omega)⟩⟩
  case hIx => rintro c k Ft A A' h; exact h.elim
  case h0 => exact ⟨v0, v1, rfl, hBV⟩
  case stop => rintro D c k Ft A hD hDA hk h; exact h.elim
  case done =>
    rintro D Ft A hD hDA ⟨o0, o1, rfl, hB⟩ hFD hlt hfr hK
    rw [List.take_length] at o0
    have hle := filI_len (itms L)
    have hC := fun W => counted_any (filI (itms L) : Int) W (by omega) (by have := HM.out; omega)
    have c0 := o0.cell
    have l0 := o0.lt
    have HK : Hid _ := hK
    clear hK
    have f0 := o0.fro
    gi_wp2_with (refine ⟨trivial, ?_⟩; gi_at_call 121; refine (callsIn_wide.2 (hC _)).mono ?_; rintro e wc ⟨rfl, hbc⟩; have p1 : Own wc (b + 1) #[.int .i64 0, .int .i64 0, .string ⟨#[]⟩, .bool false, .int .i64 0] := Own.keep o1 hbc; have c1 := p1.cell; have f1 := p1.fro; have l1 := p1.lt; have zc := hbc.size)
    have W6 := own_put5 (y0 := .int .i64 1) (y1 := .int .i64 ((filI (itms L) : Int) * 10000)) (y2 := .string ⟨#[]⟩) (y3 := .bool false) (y4 := .int .i64 0) p1
    have hDc : wc.heap[D]? = A.heap[D]? := hbc.block D hDA
    have hBc : Below b w wc := hB.trans ⟨hbc.os, hbc.tape, hbc.output, hbc.size, fun x hx => hbc.block x (by have := o0.lt; omega)⟩
    refine ⟨by simp, .inl ⟨_, _, rfl, run_takeDeferred ((put5_other (by omega)).trans (hDc.trans HK.out)), ?_⟩⟩
    have r0 := Own.of_block W6 (World.putObj_heap_other (r := D) (o := .deferred none) (show b + 1 ≠ D by omega))
    clear W6 c0 f0 l0 c1 f1 l1
    have c0 := r0.cell
    have f0 := r0.fro
    have l0 := r0.lt
    refine ⟨(.agg #[.int .i64 (1), .int .i64 (((filI (itms L) : Int) * 10000)), .string ⟨#[]⟩, .bool false, .int .i64 (0)]), by simp [results, Tryz.results86, go_sem, c0, f0, l0], rfl, ?_⟩
    rw [hb]
    exact below_putObj (D := D) (below_put5 hBc (show b ≤ b + 1 by omega) _ _ _ _ _) (show b ≤ D by omega) _
  case round =>
    rintro L' k x Ft A hx ⟨o0, o1, rfl, hB⟩ hL hLA hFL hlt hfr
    unfold encI
    dsimp only
    gi_wp2
    refine ⟨bal _ _, fun W2 hset r hr => ?_⟩
    have hTL : A.heap.size ≠ L' := by omega
    have oT : Own W2 A.heap.size #[.int .i64 x.t, .int .i64 x.n, .string x.s, .bool x.b, .int .i64 x.c] := (Own.new A #[.int .i64 x.t, .int .i64 x.n, .string x.s, .bool x.b, .int .i64 x.c] 26).of_block (hset.block _ hTL)
    have hAW : ∀ y, y < A.heap.size → y ≠ L' → W2.heap[y]? = A.heap[y]? := fun y h1 h2 => (hset.block y h2).trans (Below.heap_alloc A _ y h1)
    replace o0 := o0.of_block (hAW _ o0.lt (by omega))
    replace o1 := o1.of_block (hAW _ o1.lt (by omega))
    have hz : W2.heap.size = A.heap.size + 1 := by rw [hset.size]; simp
    have hBW : Below b w W2 := hB.trans ⟨hset.os, hset.tape, hset.output, by omega, fun y hy => hAW y (by omega) (by omega)⟩
    have hsn := filI_snoc hx
    have hle : filI ((itms L).take k) ≤ 1099511627776 := Nat.le_trans (filI_len _) (Nat.le_trans (by rw [List.length_take]; exact Nat.min_le_right _ _) HM.out)
    have HSN : Hid _ := hsn
    clear hset hr r hB hx hsn
    generalize filI ((itms L).take k) = N at hle o0 HSN
    have c0 := o0.cell
    have f0 := o0.fro
    have l0 := o0.lt
    have cT := oT.cell
    have lT := oT.lt
    have hFW : ∀ q, q = b + 2 → q < W2.heap.size := by omega
    cases hs : (x.t == 0)
    · have HS : Hid _ := hs
      gi_wp2
      refine ⟨(fun q => q = b + 2), Turn.set (Turn.same hFW) (a := ⟨b + 2, 0, none⟩) rfl _, ?_, o1.of_block (set_other (by show b + 1 ≠ b + 2; omega)), rfl, hBW.setCell (p := ⟨b + 2, 0, none⟩) (by show b ≤ b + 2; omega) _⟩
      rw [HSN.out, HS.out]
      have q := own_put1 o0 (y := .int .i64 ((N : Int) + 1))
      simpa using q
    · have HS : Hid _ := hs
      gi_wp2
      refine ⟨(fun q => q = b + 2), Turn.same hFW, ?_, o1, rfl, hBW⟩
      rw [HSN.out, HS.out]
      simpa using o0
end Go.Proofs.YtcgcnpcimfaecaaGreatDoor
