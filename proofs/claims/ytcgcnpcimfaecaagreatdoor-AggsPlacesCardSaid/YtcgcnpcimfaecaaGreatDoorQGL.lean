/- The contract of aggs.fromGreatest: a rectangle's number at a place, counted from the greatest on. New memory alone is made. The contract of slices.Sort is handed in. The library's contract of slices.Sort, laid at this program's numbers of 64 bits: the table of numbers and that the program bears these very bodies. No condition. -/
import Derived.Test.YtcgcnpcimfaecaaGreatDoorQTM
import Derived.Shelf.SlGeneric
import Derived.Ground.SlgnProg
import Derived.Shelf.SortG.Plain
import Derived.Test.YtcgcnpcimfaecaaGreatDoorProg
namespace Go.Proofs.YtcgcnpcimfaecaaGreatDoor
open Go.RowKit
set_option linter.all false
/-- Numbers by their size. -/
def srt (l : List Int) : List Int := l.mergeSort (fun x y => decide (x ≤ y))
theorem srt_len (l : List Int) : (srt l).length = l.length := List.length_mergeSort ..
set_option maxRecDepth 100000 in
set_option maxHeartbeats 2000000 in
theorem fg_lo (w : World) (ab ao ac ub uo uc : Nat) (x k : Int) (L : List (Ag × List En)) (hv : AV w (.slice (some ⟨ab, ao, none⟩) 1 ac) (L.map Prod.fst)) (h40 : L.length ≤ 1099511627776) (hE : Hid (∀ p ∈ L, AgE w p)) (hM : (itms L).length ≤ 1099511627776) (hac1 : (1 : Int) ≤ (ac : Int)) (hac : 1 ≤ ac) (hub : ub < w.heap.size) (hk : w.cell? ⟨ub, uo, none⟩ = some (.int .i64 k)) (hk1 : k < 1) : Calls Tryz.prog 93 #[.agg #[.slice (some ⟨ab, ao, none⟩) 2 ac, .slice (some ⟨ub, uo, none⟩) 1 uc, .int .i64 x]] w fun e w' => e = .returned (.agg #[.int .i64 (4), .int .i64 (0), .string ⟨#[]⟩, .bool false, .int .i64 (5)]) ∧ Below w.heap.size w w' := by
  have mixed : Tryz.prog.follows .mixedOrders = true := by kernel_rfl
  have HV : Hid (AV w (.slice (some ⟨ab, ao, none⟩) 1 ac) (L.map Prod.fst)) := hv
  clear hv
  have HVL : Hid ((numsI (itms L)).length ≤ 1099511627776) := (show _ from Nat.le_trans (numsI_len _) hM)
  go_enter Tryz.func93, Tryz.ntmps93
  go_wp2
  go_region_held3 (fun w' => w'.cell? ⟨w.heap.size, 0, none⟩ = some (.slice (some ⟨ab, ao, none⟩) 2 ac) ∧ w'.cell? ⟨w.heap.size, 1, none⟩ = some (.slice (some ⟨ub, uo, none⟩) 1 uc) ∧ w'.cell? ⟨ub, uo, none⟩ = some (.int .i64 k)) ((repeat' apply And.intro) <;> (first | (go_keep; done) | (go_simp; done))) ((go_at_call 111; refine (nof_v _ _ _ _ L (View.keep HV.out (by with_reducible (repeat' first | assumption | exact Below.refl _ _ | refine Below.drew ?_ | refine bdrewN ?_ _ | refine Below.setCell ?_ (by first | exact Nat.le_refl _ | (simp; done) | (simp; omega) | omega) _ | refine Below.alloc ?_ (by first | exact Nat.le_refl _ | (simp; done) | (simp; omega) | omega) _))) h40 (show Hid _ from fun p hp => (hE.out p hp).keep (by with_reducible (repeat' first | assumption | exact Below.refl _ _ | refine Below.drew ?_ | refine bdrewN ?_ _ | refine Below.setCell ?_ (by first | exact Nat.le_refl _ | (simp; done) | (simp; omega) | omega) _ | refine Below.alloc ?_ (by first | exact Nat.le_refl _ | (simp; done) | (simp; omega) | omega) _))) hM).mono ?_; rintro e wa ⟨⟨p, m, c, rfl, hnv⟩, hbwa⟩; have hBwa : Below w.heap.size w wa := bup (by with_reducible (repeat' first | assumption | exact Below.refl _ _ | refine Below.drew ?_ | refine bdrewN ?_ _ | refine Below.setCell ?_ (by first | exact Nat.le_refl _ | (simp; done) | (simp; omega) | omega) _ | refine Below.alloc ?_ (by first | exact Nat.le_refl _ | (simp; done) | (simp; omega) | omega) _)) hbwa; have zwa := hBwa.size; have o0wa : Own wa (w.heap.size) #[.slice (some ⟨ab, ao, none⟩) 2 ac, .slice (some ⟨ub, uo, none⟩) 1 uc, .int .i64 x] := Own.keep (by with_reducible (repeat' first | assumption | refine Own.drew ?_ | refine Own.drewN ?_ _ | (refine Own.at ?_; first | rfl | (simp; done)) | refine Own.past ?_ _)) hbwa; have c0 := o0wa.cell; have f0 := o0wa.fro; have l0 := o0wa.lt; have o1wa : Own wa (w.heap.size + 1) #[.int .i64 0, .int .i64 0, .string ⟨#[]⟩, .bool false, .int .i64 0] := Own.keep (by with_reducible (repeat' first | assumption | refine Own.drew ?_ | refine Own.drewN ?_ _ | (refine Own.at ?_; first | rfl | (simp; done)) | refine Own.past ?_ _)) hbwa; have c1 := o1wa.cell; have f1 := o1wa.fro; have l1 := o1wa.lt; have hnv2 : Hid (NV wa p m (numsI (itms L)) ∧ m ≤ c ∧ Row icell 1 2 wa (w.heap.size + 2) (.slice p m c) (numsI (itms L))) := (show NV wa p m (numsI (itms L)) ∧ m ≤ c ∧ Row icell 1 2 wa (w.heap.size + 2) (.slice p m c) (numsI (itms L)) from ⟨hnv.out.1, hnv.out.2.1, Row.mono hnv.out.2.2 (by first | (simp; done) | (simp; omega))⟩); have ck := (hBwa.cell (p := ⟨ub, uo, none⟩) hub).trans hk; have hm : Hid ((numsI (itms L)).length = m) := hnv.out.1.len))
  go_wp2_with (go_at_call 27; refine (err_ok _ _ (by decide) (by decide)).mono ?_; rintro e wb ⟨rfl, hbwb⟩; have hBwb : Below w.heap.size w wb := bup (by with_reducible (repeat' first | assumption | exact Below.refl _ _ | refine Below.drew ?_ | refine bdrewN ?_ _ | refine Below.setCell ?_ (by first | exact Nat.le_refl _ | (simp; done) | (simp; omega) | omega) _ | refine Below.alloc ?_ (by first | exact Nat.le_refl _ | (simp; done) | (simp; omega) | omega) _)) hbwb; have zwb := hBwb.size; have o0wb : Own wb (w.heap.size + 1) #[.int .i64 0, .int .i64 0, .string ⟨#[]⟩, .bool false, .int .i64 0] := Own.keep (by with_reducible (repeat' first | assumption | refine Own.drew ?_ | refine Own.drewN ?_ _ | (refine Own.at ?_; first | rfl | (simp; done)) | refine Own.past ?_ _)) hbwb; have c0 := o0wb.cell; have f0 := o0wb.fro; have l0 := o0wb.lt)
  exact bodyPost_ret (v := (.agg #[.int .i64 (4), .int .i64 (0), .string ⟨#[]⟩, .bool false, .int .i64 (5)])) (by simp [results, Tryz.results93, go_sem, c0, f0, l0]) rfl ⟨rfl, by with_reducible (repeat' first | assumption | exact Below.refl _ _ | refine Below.drew ?_ | refine bdrewN ?_ _ | refine Below.setCell ?_ (by first | exact Nat.le_refl _ | (simp; done) | (simp; omega) | omega) _ | refine Below.alloc ?_ (by first | exact Nat.le_refl _ | (simp; done) | (simp; omega) | omega) _)⟩
set_option maxRecDepth 100000 in
set_option maxHeartbeats 2000000 in
theorem fg_hi (w : World) (ab ao ac ub uo uc : Nat) (x k : Int) (L : List (Ag × List En)) (hv : AV w (.slice (some ⟨ab, ao, none⟩) 1 ac) (L.map Prod.fst)) (h40 : L.length ≤ 1099511627776) (hE : Hid (∀ p ∈ L, AgE w p)) (hM : (itms L).length ≤ 1099511627776) (hac1 : (1 : Int) ≤ (ac : Int)) (hac : 1 ≤ ac) (hub : ub < w.heap.size) (hk : w.cell? ⟨ub, uo, none⟩ = some (.int .i64 k)) (hk1 : 1 ≤ k) (hk2 : ((numsI (itms L)).length : Int) < k) : Calls Tryz.prog 93 #[.agg #[.slice (some ⟨ab, ao, none⟩) 2 ac, .slice (some ⟨ub, uo, none⟩) 1 uc, .int .i64 x]] w fun e w' => e = .returned (.agg #[.int .i64 (4), .int .i64 (0), .string ⟨#[]⟩, .bool false, .int .i64 (5)]) ∧ Below w.heap.size w w' := by
  have mixed : Tryz.prog.follows .mixedOrders = true := by kernel_rfl
  have HV : Hid (AV w (.slice (some ⟨ab, ao, none⟩) 1 ac) (L.map Prod.fst)) := hv
  clear hv
  have HVL : Hid ((numsI (itms L)).length ≤ 1099511627776) := (show _ from Nat.le_trans (numsI_len _) hM)
  go_enter Tryz.func93, Tryz.ntmps93
  go_wp2
  go_region_held3 (fun w' => w'.cell? ⟨w.heap.size, 0, none⟩ = some (.slice (some ⟨ab, ao, none⟩) 2 ac) ∧ w'.cell? ⟨w.heap.size, 1, none⟩ = some (.slice (some ⟨ub, uo, none⟩) 1 uc) ∧ w'.cell? ⟨ub, uo, none⟩ = some (.int .i64 k)) ((repeat' apply And.intro) <;> (first | (go_keep; done) | (go_simp; done))) ((go_at_call 111; refine (nof_v _ _ _ _ L (View.keep HV.out (by with_reducible (repeat' first | assumption | exact Below.refl _ _ | refine Below.drew ?_ | refine bdrewN ?_ _ | refine Below.setCell ?_ (by first | exact Nat.le_refl _ | (simp; done) | (simp; omega) | omega) _ | refine Below.alloc ?_ (by first | exact Nat.le_refl _ | (simp; done) | (simp; omega) | omega) _))) h40 (show Hid _ from fun p hp => (hE.out p hp).keep (by with_reducible (repeat' first | assumption | exact Below.refl _ _ | refine Below.drew ?_ | refine bdrewN ?_ _ | refine Below.setCell ?_ (by first | exact Nat.le_refl _ | (simp; done) | (simp; omega) | omega) _ | refine Below.alloc ?_ (by first | exact Nat.le_refl _ | (simp; done) | (simp; omega) | omega) _))) hM).mono ?_; rintro e wa ⟨⟨p, m, c, rfl, hnv⟩, hbwa⟩; have hBwa : Below w.heap.size w wa := bup (by with_reducible (repeat' first | assumption | exact Below.refl _ _ | refine Below.drew ?_ | refine bdrewN ?_ _ | refine Below.setCell ?_ (by first | exact Nat.le_refl _ | (simp; done) | (simp; omega) | omega) _ | refine Below.alloc ?_ (by first | exact Nat.le_refl _ | (simp; done) | (simp; omega) | omega) _)) hbwa; have zwa := hBwa.size; have o0wa : Own wa (w.heap.size) #[.slice (some ⟨ab, ao, none⟩) 2 ac, .slice (some ⟨ub, uo, none⟩) 1 uc, .int .i64 x] := Own.keep (by with_reducible (repeat' first | assumption | refine Own.drew ?_ | refine Own.drewN ?_ _ | (refine Own.at ?_; first | rfl | (simp; done)) | refine Own.past ?_ _)) hbwa; have c0 := o0wa.cell; have f0 := o0wa.fro; have l0 := o0wa.lt; have o1wa : Own wa (w.heap.size + 1) #[.int .i64 0, .int .i64 0, .string ⟨#[]⟩, .bool false, .int .i64 0] := Own.keep (by with_reducible (repeat' first | assumption | refine Own.drew ?_ | refine Own.drewN ?_ _ | (refine Own.at ?_; first | rfl | (simp; done)) | refine Own.past ?_ _)) hbwa; have c1 := o1wa.cell; have f1 := o1wa.fro; have l1 := o1wa.lt; have hnv2 : Hid (NV wa p m (numsI (itms L)) ∧ m ≤ c ∧ Row icell 1 2 wa (w.heap.size + 2) (.slice p m c) (numsI (itms L))) := (show NV wa p m (numsI (itms L)) ∧ m ≤ c ∧ Row icell 1 2 wa (w.heap.size + 2) (.slice p m c) (numsI (itms L)) from ⟨hnv.out.1, hnv.out.2.1, Row.mono hnv.out.2.2 (by first | (simp; done) | (simp; omega))⟩); have ck := (hBwa.cell (p := ⟨ub, uo, none⟩) hub).trans hk; have hm : Hid ((numsI (itms L)).length = m) := hnv.out.1.len))
  have hm2 : ((numsI (itms L)).length : Int) = (m : Int) := by rw [hm.out]
  have hk3 : (m : Int) < k := by omega
  have hk4 : ¬ k < 1 := by omega
  clear hm2 hk2
  go_wp2_with (go_at_call 27; refine (err_ok _ _ (by decide) (by decide)).mono ?_; rintro e wb ⟨rfl, hbwb⟩; have hBwb : Below w.heap.size w wb := bup (by with_reducible (repeat' first | assumption | exact Below.refl _ _ | refine Below.drew ?_ | refine bdrewN ?_ _ | refine Below.setCell ?_ (by first | exact Nat.le_refl _ | (simp; done) | (simp; omega) | omega) _ | refine Below.alloc ?_ (by first | exact Nat.le_refl _ | (simp; done) | (simp; omega) | omega) _)) hbwb; have zwb := hBwb.size; have o0wb : Own wb (w.heap.size + 1) #[.int .i64 0, .int .i64 0, .string ⟨#[]⟩, .bool false, .int .i64 0] := Own.keep (by with_reducible (repeat' first | assumption | refine Own.drew ?_ | refine Own.drewN ?_ _ | (refine Own.at ?_; first | rfl | (simp; done)) | refine Own.past ?_ _)) hbwb; have c0 := o0wb.cell; have f0 := o0wb.fro; have l0 := o0wb.lt)
  exact bodyPost_ret (v := (.agg #[.int .i64 (4), .int .i64 (0), .string ⟨#[]⟩, .bool false, .int .i64 (5)])) (by simp [results, Tryz.results93, go_sem, c0, f0, l0]) rfl ⟨rfl, by with_reducible (repeat' first | assumption | exact Below.refl _ _ | refine Below.drew ?_ | refine bdrewN ?_ _ | refine Below.setCell ?_ (by first | exact Nat.le_refl _ | (simp; done) | (simp; omega) | omega) _ | refine Below.alloc ?_ (by first | exact Nat.le_refl _ | (simp; done) | (simp; omega) | omega) _)⟩
set_option maxRecDepth 100000 in
set_option maxHeartbeats 2000000 in
theorem fg_ok (w : World) (ab ao ac ub uo uc : Nat) (x k : Int) (L : List (Ag × List En)) (hv : AV w (.slice (some ⟨ab, ao, none⟩) 1 ac) (L.map Prod.fst)) (h40 : L.length ≤ 1099511627776) (hE : Hid (∀ p ∈ L, AgE w p)) (hM : (itms L).length ≤ 1099511627776) (hac1 : (1 : Int) ≤ (ac : Int)) (hac : 1 ≤ ac) (hub : ub < w.heap.size) (hk : w.cell? ⟨ub, uo, none⟩ = some (.int .i64 k)) (hk1 : 1 ≤ k) (hk2 : k ≤ ((numsI (itms L)).length : Int)) (j : Nat) (y : Int) (hj : (j : Int) = ((numsI (itms L)).length : Int) - k) (HY : Hid ((srt (numsI (itms L)))[j]? = some y)) (rt rn rc : Int) (hnum : Hid (∀ W : World, Calls Tryz.prog 115 #[.int .i64 y] W fun e w' => e = .returned (.agg #[.int .i64 (rt), .int .i64 (rn), .string ⟨#[]⟩, .bool false, .int .i64 (rc)]) ∧ Below W.heap.size W w')) (HS : Hid (∀ (W : World) (p : Option Addr) (m c : Nat), 0 < m → Hid (NV W p m (numsI (itms L)) ∧ m ≤ c ∧ Row icell 1 2 W (w.heap.size + 2) (.slice p m c) (numsI (itms L))) → Calls Tryz.prog 120 #[.slice p m c] W fun e w' => e = .returned (.tuple #[]) ∧ Hid (NV w' p m (srt (numsI (itms L)))) ∧ Mut (fun q => (Value.slice p m c).ownBlock = some q) W w')) : Calls Tryz.prog 93 #[.agg #[.slice (some ⟨ab, ao, none⟩) 2 ac, .slice (some ⟨ub, uo, none⟩) 1 uc, .int .i64 x]] w fun e w' => e = .returned (.agg #[.int .i64 (rt), .int .i64 (rn), .string ⟨#[]⟩, .bool false, .int .i64 (rc)]) ∧ Below w.heap.size w w' := by
  have mixed : Tryz.prog.follows .mixedOrders = true := by kernel_rfl
  have HV : Hid (AV w (.slice (some ⟨ab, ao, none⟩) 1 ac) (L.map Prod.fst)) := hv
  clear hv
  have HVL : Hid ((numsI (itms L)).length ≤ 1099511627776) := (show _ from Nat.le_trans (numsI_len _) hM)
  go_enter Tryz.func93, Tryz.ntmps93
  go_wp2
  go_region_held3 (fun w' => w'.cell? ⟨w.heap.size, 0, none⟩ = some (.slice (some ⟨ab, ao, none⟩) 2 ac) ∧ w'.cell? ⟨w.heap.size, 1, none⟩ = some (.slice (some ⟨ub, uo, none⟩) 1 uc) ∧ w'.cell? ⟨ub, uo, none⟩ = some (.int .i64 k)) ((repeat' apply And.intro) <;> (first | (go_keep; done) | (go_simp; done))) ((go_at_call 111; refine (nof_v _ _ _ _ L (View.keep HV.out (by with_reducible (repeat' first | assumption | exact Below.refl _ _ | refine Below.drew ?_ | refine bdrewN ?_ _ | refine Below.setCell ?_ (by first | exact Nat.le_refl _ | (simp; done) | (simp; omega) | omega) _ | refine Below.alloc ?_ (by first | exact Nat.le_refl _ | (simp; done) | (simp; omega) | omega) _))) h40 (show Hid _ from fun p hp => (hE.out p hp).keep (by with_reducible (repeat' first | assumption | exact Below.refl _ _ | refine Below.drew ?_ | refine bdrewN ?_ _ | refine Below.setCell ?_ (by first | exact Nat.le_refl _ | (simp; done) | (simp; omega) | omega) _ | refine Below.alloc ?_ (by first | exact Nat.le_refl _ | (simp; done) | (simp; omega) | omega) _))) hM).mono ?_; rintro e wa ⟨⟨p, m, c, rfl, hnv⟩, hbwa⟩; have hBwa : Below w.heap.size w wa := bup (by with_reducible (repeat' first | assumption | exact Below.refl _ _ | refine Below.drew ?_ | refine bdrewN ?_ _ | refine Below.setCell ?_ (by first | exact Nat.le_refl _ | (simp; done) | (simp; omega) | omega) _ | refine Below.alloc ?_ (by first | exact Nat.le_refl _ | (simp; done) | (simp; omega) | omega) _)) hbwa; have zwa := hBwa.size; have o0wa : Own wa (w.heap.size) #[.slice (some ⟨ab, ao, none⟩) 2 ac, .slice (some ⟨ub, uo, none⟩) 1 uc, .int .i64 x] := Own.keep (by with_reducible (repeat' first | assumption | refine Own.drew ?_ | refine Own.drewN ?_ _ | (refine Own.at ?_; first | rfl | (simp; done)) | refine Own.past ?_ _)) hbwa; have c0 := o0wa.cell; have f0 := o0wa.fro; have l0 := o0wa.lt; have o1wa : Own wa (w.heap.size + 1) #[.int .i64 0, .int .i64 0, .string ⟨#[]⟩, .bool false, .int .i64 0] := Own.keep (by with_reducible (repeat' first | assumption | refine Own.drew ?_ | refine Own.drewN ?_ _ | (refine Own.at ?_; first | rfl | (simp; done)) | refine Own.past ?_ _)) hbwa; have c1 := o1wa.cell; have f1 := o1wa.fro; have l1 := o1wa.lt; have hnv2 : Hid (NV wa p m (numsI (itms L)) ∧ m ≤ c ∧ Row icell 1 2 wa (w.heap.size + 2) (.slice p m c) (numsI (itms L))) := (show NV wa p m (numsI (itms L)) ∧ m ≤ c ∧ Row icell 1 2 wa (w.heap.size + 2) (.slice p m c) (numsI (itms L)) from ⟨hnv.out.1, hnv.out.2.1, Row.mono hnv.out.2.2 (by first | (simp; done) | (simp; omega))⟩); have ck := (hBwa.cell (p := ⟨ub, uo, none⟩) hub).trans hk; have hm : Hid ((numsI (itms L)).length = m) := hnv.out.1.len))
  have hm2 : ((numsI (itms L)).length : Int) = (m : Int) := by rw [hm.out]
  have hk3 : ¬ (m : Int) < k := by omega
  have hk4 : ¬ k < 1 := by omega
  have hj2 : (m : Int) - k = (j : Int) := by omega
  have hj0 : (0 : Int) ≤ (j : Int) := by omega
  have hj9 : (j : Int) ≤ 9223372036854775807 := by have h5 := HVL.out; omega
  have hj8 : -9223372036854775808 ≤ (j : Int) := by omega
  have hjm : (j : Int) < (m : Int) := by omega
  have hm0 : 0 < m := by omega
  clear hm2 hk2 hj
  go_wp2_with (first | (go_at_call 120; refine (HS.out _ _ _ _ hm0 hnv2).mono ?_; rintro e wb ⟨rfl, hsv, hmt⟩; have hgb : Hid (∀ g, (Value.slice p m c).ownBlock = some g → w.heap.size + 2 ≤ g) := (show ∀ g, (Value.slice p m c).ownBlock = some g → w.heap.size + 2 ≤ g from fun g hg => (Row.lt hnv2.out.2.2 g hg).1); have hBwb : Below w.heap.size w wb := Below.ofMut hBwa hmt zwa (fun b hb => Nat.le_trans (by omega) (hgb.out b hb)); have zwb := hBwb.size; have o1wb : Own wb (w.heap.size + 1) #[.int .i64 0, .int .i64 0, .string ⟨#[]⟩, .bool false, .int .i64 0] := Own.mut o1wa hmt (fun h => by have := hgb.out _ h; omega); obtain ⟨gb, go, hpe, hgl, hgc⟩ := hsv.out.at_ (by omega); have cy := hgc j y HY.out; clear hgc; subst hpe) | (go_at_call 115; refine (hnum.out _).mono ?_; rintro e wd ⟨rfl, hbwd⟩; have hBwd : Below w.heap.size w wd := bup (by with_reducible (repeat' first | assumption | exact Below.refl _ _ | refine Below.drew ?_ | refine bdrewN ?_ _ | refine Below.setCell ?_ (by first | exact Nat.le_refl _ | (simp; done) | (simp; omega) | omega) _ | refine Below.alloc ?_ (by first | exact Nat.le_refl _ | (simp; done) | (simp; omega) | omega) _)) hbwd; have zwd := hBwd.size; have o0wd : Own wd (w.heap.size + 1) #[.int .i64 0, .int .i64 0, .string ⟨#[]⟩, .bool false, .int .i64 0] := Own.keep (by with_reducible (repeat' first | assumption | refine Own.drew ?_ | refine Own.drewN ?_ _ | (refine Own.at ?_; first | rfl | (simp; done)) | refine Own.past ?_ _)) hbwd; have c0 := o0wd.cell; have f0 := o0wd.fro; have l0 := o0wd.lt))
  exact bodyPost_ret (v := (.agg #[.int .i64 (rt), .int .i64 (rn), .string ⟨#[]⟩, .bool false, .int .i64 (rc)])) (by simp [results, Tryz.results93, go_sem, c0, f0, l0]) rfl ⟨rfl, by with_reducible (repeat' first | assumption | exact Below.refl _ _ | refine Below.drew ?_ | refine bdrewN ?_ _ | refine Below.setCell ?_ (by first | exact Nat.le_refl _ | (simp; done) | (simp; omega) | omega) _ | refine Below.alloc ?_ (by first | exact Nat.le_refl _ | (simp; done) | (simp; omega) | omega) _)⟩
end Go.Proofs.YtcgcnpcimfaecaaGreatDoor
namespace Go.Proofs
open Go.Shelf
def Tryz.sortI64_ren : Go.Shelf.Ren := ⟨fun | 53 => 120 | 64 => 152 | 63 => 151 | 78 => 170 | 79 => 171 | 70 => 161 | 71 => 162 | 72 => 163 | 73 => 164 | 74 => 165 | 75 => 166 | 59 => 167 | 76 => 168 | 77 => 169 | 88 => 177 | 89 => 178 | 90 => 179 | 91 => 180 | 92 => 181 | 68 => 182 | 96 => 190 | n => n, fun | 22 => 42 | 23 => 2 | 3 => 3 | 51 => 122 | 0 => 0 | 67 => 179 | 69 => 123 | 4 => 4 | 61 => 172 | 60 => 171 | 44 => 82 | 5 => 5 | 9 => 9 | 75 => 185 | 79 => 189 | 83 => 200 | 84 => 201 | n => n, fun | n => n⟩
theorem Tryz.sortI64 : Go.Proofs.SlLaysN.n53 Tryz.prog Tryz.sortI64_ren := {
  mixed := by kernel_rfl
  f53 := ⟨Tryz.f120.name, by decide, Tryz.func120.trans (congrArg some (by kernel_rfl))⟩
  f59 := ⟨Tryz.f167.name, by decide, Tryz.func167.trans (congrArg some (by kernel_rfl))⟩
  f63 := ⟨Tryz.f151.name, by decide, Tryz.func151.trans (congrArg some (by kernel_rfl))⟩
  f64 := Tryz.func152.trans (congrArg some (by kernel_rfl))
  f68 := ⟨Tryz.f182.name, by decide, Tryz.func182.trans (congrArg some (by kernel_rfl))⟩
  f70 := ⟨Tryz.f161.name, by decide, Tryz.func161.trans (congrArg some (by kernel_rfl))⟩
  f71 := ⟨Tryz.f162.name, by decide, Tryz.func162.trans (congrArg some (by kernel_rfl))⟩
  f72 := ⟨Tryz.f163.name, by decide, Tryz.func163.trans (congrArg some (by kernel_rfl))⟩
  f73 := ⟨Tryz.f164.name, by decide, Tryz.func164.trans (congrArg some (by kernel_rfl))⟩
  f74 := ⟨Tryz.f165.name, by decide, Tryz.func165.trans (congrArg some (by kernel_rfl))⟩
  f75 := ⟨Tryz.f166.name, by decide, Tryz.func166.trans (congrArg some (by kernel_rfl))⟩
  f76 := ⟨Tryz.f168.name, by decide, Tryz.func168.trans (congrArg some (by kernel_rfl))⟩
  f77 := ⟨Tryz.f169.name, by decide, Tryz.func169.trans (congrArg some (by kernel_rfl))⟩
  f78 := Tryz.func170.trans (congrArg some (by kernel_rfl))
  f79 := Tryz.func171.trans (congrArg some (by kernel_rfl))
  f88 := ⟨Tryz.f177.name, by decide, Tryz.func177.trans (congrArg some (by kernel_rfl))⟩
  f89 := Tryz.func178.trans (congrArg some (by kernel_rfl))
  f90 := Tryz.func179.trans (congrArg some (by kernel_rfl))
  f91 := ⟨Tryz.f180.name, by decide, Tryz.func180.trans (congrArg some (by kernel_rfl))⟩
  f92 := ⟨Tryz.f181.name, by decide, Tryz.func181.trans (congrArg some (by kernel_rfl))⟩
  f96 := ⟨Tryz.f190.name, by decide, Tryz.func190.trans (congrArg some (by kernel_rfl))⟩
  t0 := Tryz.underlying0
  a0 := Tryz.isAgg0
  z0 := Tryz.sizeOf0
  v0 := Tryz.zeroValue0
  t3 := Tryz.underlying3
  a3 := Tryz.isAgg3
  z3 := Tryz.sizeOf3
  v3 := Tryz.zeroValue3
  t4 := Tryz.underlying4
  a4 := Tryz.isAgg4
  z4 := Tryz.sizeOf4
  v4 := Tryz.zeroValue4
  t5 := Tryz.underlying5
  a5 := Tryz.isAgg5
  z5 := Tryz.sizeOf5
  v5 := Tryz.zeroValue5
  t9 := Tryz.underlying9
  a9 := Tryz.isAgg9
  z9 := Tryz.sizeOf9
  v9 := Tryz.zeroValue9
  t22 := Tryz.underlying42
  a22 := Tryz.isAgg42
  z22 := Tryz.sizeOf42
  v22 := Tryz.zeroValue42
  t23 := Tryz.underlying2
  a23 := Tryz.isAgg2
  z23 := Tryz.sizeOf2
  v23 := Tryz.zeroValue2
  t44 := Tryz.underlying82
  a44 := Tryz.isAgg82
  z44 := Tryz.sizeOf82
  v44 := Tryz.zeroValue82
  t51 := Tryz.underlying122
  a51 := Tryz.isAgg122
  z51 := Tryz.sizeOf122
  v51 := Tryz.zeroValue122
  t60 := Tryz.underlying171
  a60 := Tryz.isAgg171
  z60 := Tryz.sizeOf171
  v60 := Tryz.zeroValue171
  t61 := Tryz.underlying172
  a61 := Tryz.isAgg172
  z61 := Tryz.sizeOf172
  v61 := Tryz.zeroValue172
  t67 := Tryz.underlying179
  a67 := Tryz.isAgg179
  z67 := Tryz.sizeOf179
  v67 := Tryz.zeroValue179
  t69 := Tryz.underlying123
  a69 := Tryz.isAgg123
  z69 := Tryz.sizeOf123
  v69 := Tryz.zeroValue123
  t75 := Tryz.underlying185
  a75 := Tryz.isAgg185
  z75 := Tryz.sizeOf185
  v75 := Tryz.zeroValue185
  t79 := Tryz.underlying189
  a79 := Tryz.isAgg189
  z79 := Tryz.sizeOf189
  v79 := Tryz.zeroValue189
  t83 := Tryz.underlying200
  a83 := Tryz.isAgg200
  z83 := Tryz.sizeOf200
  v83 := Tryz.zeroValue200
  t84 := Tryz.underlying201
  a84 := Tryz.isAgg201
  z84 := Tryz.sizeOf201
  v84 := Tryz.zeroValue201 }
end Go.Proofs
