/- The contracts of aggs.inOrder and mayNot. New memory alone is made. The contracts of aggs.mayNot and of slices.IndexFunc and ContainsFunc with it. New memory alone is made. The condition: numbers that fit, entries that stand as they were read. -/
import Derived.Test.YtbpbocgbfeblmaaGreatDoorQAdA5
namespace Go.Proofs.YtbpbocgbfeblmaaGreatDoor
open Go.RowKit
set_option linter.all false
theorem ord_0 (m : Bool) (t n : Int) (s : ByteArray) (b : Bool) (c r0 r1 r2 r3 : Int) (ep : Option Addr) (ec : Nat) (w : World) : Calls Tryz.prog 51 #[.agg #[.bool m, .int .i64 t, .int .i64 n, .string s, .bool b, .int .i64 c, .int .i64 r0, .int .i64 r1, .int .i64 r2, .int .i64 r3, .slice ep 0 ec]] w fun e w' => e = .returned (.bool true) ∧ Below w.heap.size w w' := by
  go_enter Tryz.func51, Tryz.ntmps51
  go_wp2
  go_loopw [8] (fun v w' => v = .int .i64 0 ∧ Below w.heap.size w w') (fun _ _ => 0)
  case atStart => exact ⟨rfl, by with_reducible (repeat' first | assumption | exact Below.refl _ _ | refine Below.drew ?_ | refine bdrewN ?_ _ | refine Below.setCell ?_ (by first | exact Nat.le_refl _ | (simp; done) | (simp; omega) | omega) _ | refine Below.alloc ?_ (by first | exact Nat.le_refl _ | (simp; done) | (simp; omega) | omega) _)⟩
  case round =>
    obtain ⟨rfl, hB3⟩ := hrel
    go_wp2
    go_ret
    exact ⟨rfl, by with_reducible (repeat' first | assumption | exact Below.refl _ _ | refine Below.drew ?_ | refine bdrewN ?_ _ | refine Below.setCell ?_ (by first | exact Nat.le_refl _ | (simp; done) | (simp; omega) | omega) _ | refine Below.alloc ?_ (by first | exact Nat.le_refl _ | (simp; done) | (simp; omega) | omega) _)⟩
set_option maxRecDepth 100000 in
set_option maxHeartbeats 4000000 in
theorem ord_y (m : Bool) (t n : Int) (s : ByteArray) (b : Bool) (c r0 r1 r2 r3 : Int) (eb eo k ec : Nat) (es : List En) (w : World) (hla : eb < w.heap.size) (HA : ∀ i x, es[i]? = some x → ∀ j, j < 7 → w.cell? ⟨eb, eo + i * 7 + j, none⟩ = (En.cells x)[j]?) (hn : es.length = k) (hc : k ≤ ec) (hl : k ≤ 1099511627776) (hN : Hid (∀ x ∈ es, I64 x.n)) : Calls Tryz.prog 51 #[.agg #[.bool m, .int .i64 t, .int .i64 n, .string s, .bool b, .int .i64 c, .int .i64 r0, .int .i64 r1, .int .i64 r2, .int .i64 r3, .slice (some ⟨eb, eo, none⟩) k ec]] w fun e w' => e = .returned (.bool (entsB r0 r1 r2 r3 es)) ∧ Below w.heap.size w w' := by
  have mixed : Tryz.prog.follows .mixedOrders = true := by kernel_rfl
  have HA' : Hid _ := HA
  have HL : Hid (es.length = k) := hn
  clear HA hn
  go_enter Tryz.func51, Tryz.ntmps51
  go_wp2
  go_loopw [8] (fun v w' => ∃ i : Nat, v = .int .i64 i ∧ i ≤ k ∧ Hid (∀ j x, j < i → es[j]? = some x → entA r0 r1 r2 r3 es j x = true) ∧ Below w.heap.size w w' ∧ Own w' w.heap.size #[.bool m, .int .i64 t, .int .i64 n, .string s, .bool b, .int .i64 c, .int .i64 r0, .int .i64 r1, .int .i64 r2, .int .i64 r3, .slice (some ⟨eb, eo, none⟩) k ec]) (fun v _ => k - (intOf v).toNat)
  case atStart => exact ⟨0, rfl, by omega, (show Hid _ from fun j x hj => absurd hj (by omega)), by with_reducible (repeat' first | assumption | exact Below.refl _ _ | refine Below.drew ?_ | refine bdrewN ?_ _ | refine Below.setCell ?_ (by first | exact Nat.le_refl _ | (simp; done) | (simp; omega) | omega) _ | refine Below.alloc ?_ (by first | exact Nat.le_refl _ | (simp; done) | (simp; omega) | omega) _), by with_reducible (repeat' first | assumption | refine Own.drew ?_ | refine Own.drewN ?_ _ | (refine Own.at ?_; first | rfl | (simp; done)) | refine Own.past ?_ _)⟩
  case round =>
    obtain ⟨i, rfl, hi, htk, hB3, o3⟩ := hrel
    have z3 := hB3.size
    have c0 := o3.cell
    have f0 := o3.fro
    have l0 := o3.lt
    by_cases hlt : i < k
    · have hlt' : (i : Int) < k := by omega
      have hai : es[i]? = some (es[i]'(by rw [HL.out]; exact hlt)) := List.getElem?_eq_getElem _
      have hin : I64 (es[i]'(by rw [HL.out]; exact hlt)).n := hN.out _ (List.getElem_mem _)
      have HAi : Hid _ := hai
      revert HAi hin
      generalize (es[i]'(by rw [HL.out]; exact hlt)) = x
      intro hin HAi
      clear hai
      have y0 : w.cell? ⟨eb, eo + i * 7, none⟩ = some (.int .i64 x.r) := HA'.out i _ HAi.out 0 (by decide)
      have x0 := (hB3.cell (p := ⟨eb, eo + i * 7, none⟩) hla).trans y0
      clear y0
      have y1 : w.cell? ⟨eb, eo + i * 7 + 1, none⟩ = some (.int .i64 x.k) := HA'.out i _ HAi.out 1 (by decide)
      have x1 := (hB3.cell (p := ⟨eb, eo + i * 7 + 1, none⟩) hla).trans y1
      clear y1
      have y2 : w.cell? ⟨eb, eo + i * 7 + 2, none⟩ = some (.int .i64 x.t) := HA'.out i _ HAi.out 2 (by decide)
      have x2 := (hB3.cell (p := ⟨eb, eo + i * 7 + 2, none⟩) hla).trans y2
      clear y2
      have y3 : w.cell? ⟨eb, eo + i * 7 + 3, none⟩ = some (.int .i64 x.n) := HA'.out i _ HAi.out 3 (by decide)
      have x3 := (hB3.cell (p := ⟨eb, eo + i * 7 + 3, none⟩) hla).trans y3
      clear y3
      have y4 : w.cell? ⟨eb, eo + i * 7 + 4, none⟩ = some (.string x.s) := HA'.out i _ HAi.out 4 (by decide)
      have x4 := (hB3.cell (p := ⟨eb, eo + i * 7 + 4, none⟩) hla).trans y4
      clear y4
      have y5 : w.cell? ⟨eb, eo + i * 7 + 5, none⟩ = some (.bool x.b) := HA'.out i _ HAi.out 5 (by decide)
      have x5 := (hB3.cell (p := ⟨eb, eo + i * 7 + 5, none⟩) hla).trans y5
      clear y5
      have y6 : w.cell? ⟨eb, eo + i * 7 + 6, none⟩ = some (.int .i64 x.c) := HA'.out i _ HAi.out 6 (by decide)
      have x6 := (hB3.cell (p := ⟨eb, eo + i * 7 + 6, none⟩) hla).trans y6
      clear y6
      have hI1 := fun w1 => Ad.in_any r0 r1 r2 r3 x.r x.k w1
      have hM1 := fun w1 => mayV x.t x.n x.s x.b x.c w1 hin
      cases hI : Ad.inB r0 r1 r2 r3 x.r x.k
      · rw [hI] at hI1
        have HR : Hid (entsB r0 r1 r2 r3 es = false) := (show _ from ents_no HAi.out (by unfold entA; rw [hI]; rfl))
        clear hM1 hI
        go_wp2_with (first | (go_at_call 94; refine (hI1 _).mono ?_; rintro e wa ⟨rfl, hbwa⟩; have hBwa : Below w.heap.size w wa := bup (by with_reducible (repeat' first | assumption | exact Below.refl _ _ | refine Below.drew ?_ | refine bdrewN ?_ _ | refine Below.setCell ?_ (by first | exact Nat.le_refl _ | (simp; done) | (simp; omega) | omega) _ | refine Below.alloc ?_ (by first | exact Nat.le_refl _ | (simp; done) | (simp; omega) | omega) _)) hbwa; have zwa := hBwa.size; have o0wa : Own wa (w.heap.size) #[.bool m, .int .i64 t, .int .i64 n, .string s, .bool b, .int .i64 c, .int .i64 r0, .int .i64 r1, .int .i64 r2, .int .i64 r3, .slice (some ⟨eb, eo, none⟩) k ec] := Own.keep (by with_reducible (repeat' first | assumption | refine Own.drew ?_ | refine Own.drewN ?_ _ | (refine Own.at ?_; first | rfl | (simp; done)) | refine Own.past ?_ _)) hbwa; have c0 := o0wa.cell; have f0 := o0wa.fro; have l0 := o0wa.lt; have o1wa : Own wa (wr.heap.size) #[.int .i64 x.r, .int .i64 x.k, .int .i64 x.t, .int .i64 x.n, .string x.s, .bool x.b, .int .i64 x.c] := Own.keep (by with_reducible (repeat' first | assumption | refine Own.drew ?_ | refine Own.drewN ?_ _ | (refine Own.at ?_; first | rfl | (simp; done)) | refine Own.past ?_ _)) hbwa; have c1 := o1wa.cell; have f1 := o1wa.fro; have l1 := o1wa.lt))
        go_ret
        exact ⟨by rw [HR.out]; rfl, by with_reducible (repeat' first | assumption | exact Below.refl _ _ | refine Below.drew ?_ | refine bdrewN ?_ _ | refine Below.setCell ?_ (by first | exact Nat.le_refl _ | (simp; done) | (simp; omega) | omega) _ | refine Below.alloc ?_ (by first | exact Nat.le_refl _ | (simp; done) | (simp; omega) | omega) _)⟩
      cases hM : mayB x.t x.n x.s x.b x.c
      · rw [hI] at hI1
        rw [hM] at hM1
        have HR : Hid (entsB r0 r1 r2 r3 es = false) := (show _ from ents_no HAi.out (by unfold entA; rw [hI, hM]; rfl))
        clear hM hI
        go_wp2_with (first | (go_at_call 94; refine (hI1 _).mono ?_; rintro e wa ⟨rfl, hbwa⟩; have hBwa : Below w.heap.size w wa := bup (by with_reducible (repeat' first | assumption | exact Below.refl _ _ | refine Below.drew ?_ | refine bdrewN ?_ _ | refine Below.setCell ?_ (by first | exact Nat.le_refl _ | (simp; done) | (simp; omega) | omega) _ | refine Below.alloc ?_ (by first | exact Nat.le_refl _ | (simp; done) | (simp; omega) | omega) _)) hbwa; have zwa := hBwa.size; have o0wa : Own wa (w.heap.size) #[.bool m, .int .i64 t, .int .i64 n, .string s, .bool b, .int .i64 c, .int .i64 r0, .int .i64 r1, .int .i64 r2, .int .i64 r3, .slice (some ⟨eb, eo, none⟩) k ec] := Own.keep (by with_reducible (repeat' first | assumption | refine Own.drew ?_ | refine Own.drewN ?_ _ | (refine Own.at ?_; first | rfl | (simp; done)) | refine Own.past ?_ _)) hbwa; have c0 := o0wa.cell; have f0 := o0wa.fro; have l0 := o0wa.lt; have o1wa : Own wa (wr.heap.size) #[.int .i64 x.r, .int .i64 x.k, .int .i64 x.t, .int .i64 x.n, .string x.s, .bool x.b, .int .i64 x.c] := Own.keep (by with_reducible (repeat' first | assumption | refine Own.drew ?_ | refine Own.drewN ?_ _ | (refine Own.at ?_; first | rfl | (simp; done)) | refine Own.past ?_ _)) hbwa; have c1 := o1wa.cell; have f1 := o1wa.fro; have l1 := o1wa.lt) | (go_at_call 95; refine (hM1 _).mono ?_; rintro e wb ⟨rfl, hbwb⟩; have hBwb : Below w.heap.size w wb := bup (by with_reducible (repeat' first | assumption | exact Below.refl _ _ | refine Below.drew ?_ | refine bdrewN ?_ _ | refine Below.setCell ?_ (by first | exact Nat.le_refl _ | (simp; done) | (simp; omega) | omega) _ | refine Below.alloc ?_ (by first | exact Nat.le_refl _ | (simp; done) | (simp; omega) | omega) _)) hbwb; have zwb := hBwb.size; have o0wb : Own wb (w.heap.size) #[.bool m, .int .i64 t, .int .i64 n, .string s, .bool b, .int .i64 c, .int .i64 r0, .int .i64 r1, .int .i64 r2, .int .i64 r3, .slice (some ⟨eb, eo, none⟩) k ec] := Own.keep (by with_reducible (repeat' first | assumption | refine Own.drew ?_ | refine Own.drewN ?_ _ | (refine Own.at ?_; first | rfl | (simp; done)) | refine Own.past ?_ _)) hbwb; have c0 := o0wb.cell; have f0 := o0wb.fro; have l0 := o0wb.lt; have o1wb : Own wb (wr.heap.size) #[.int .i64 x.r, .int .i64 x.k, .int .i64 x.t, .int .i64 x.n, .string x.s, .bool x.b, .int .i64 x.c] := Own.keep (by with_reducible (repeat' first | assumption | refine Own.drew ?_ | refine Own.drewN ?_ _ | (refine Own.at ?_; first | rfl | (simp; done)) | refine Own.past ?_ _)) hbwb; have c1 := o1wb.cell; have f1 := o1wb.fro; have l1 := o1wb.lt))
        go_ret
        exact ⟨by rw [HR.out]; rfl, by with_reducible (repeat' first | assumption | exact Below.refl _ _ | refine Below.drew ?_ | refine bdrewN ?_ _ | refine Below.setCell ?_ (by first | exact Nat.le_refl _ | (simp; done) | (simp; omega) | omega) _ | refine Below.alloc ?_ (by first | exact Nat.le_refl _ | (simp; done) | (simp; omega) | omega) _)⟩
      rw [hI] at hI1
      rw [hM] at hM1
      have HI : Hid _ := hI
      have HM : Hid _ := hM
      clear hI hM
      by_cases hi0 : i = 0
      · subst hi0
        have HT : Hid (∀ j x, j < 1 → es[j]? = some x → entA r0 r1 r2 r3 es j x = true) := (show ∀ j x, j < 1 → es[j]? = some x → entA r0 r1 r2 r3 es j x = true from fun j x' hj hx' => by
          have : j = 0 := by omega
          subst this
          have := HAi.out.symm.trans hx'
          cases this
          unfold entA
          rw [HI.out, HM.out, show 0 - 1 = 0 from rfl, HAi.out]; rfl)
        replace x0 : wr.cell? ⟨eb, eo, none⟩ = some (.int .i64 x.r) := by simpa using x0
        replace x1 : wr.cell? ⟨eb, eo + 1, none⟩ = some (.int .i64 x.k) := by simpa using x1
        replace x2 : wr.cell? ⟨eb, eo + 2, none⟩ = some (.int .i64 x.t) := by simpa using x2
        replace x3 : wr.cell? ⟨eb, eo + 3, none⟩ = some (.int .i64 x.n) := by simpa using x3
        replace x4 : wr.cell? ⟨eb, eo + 4, none⟩ = some (.string x.s) := by simpa using x4
        replace x5 : wr.cell? ⟨eb, eo + 5, none⟩ = some (.bool x.b) := by simpa using x5
        replace x6 : wr.cell? ⟨eb, eo + 6, none⟩ = some (.int .i64 x.c) := by simpa using x6
        go_wp2_with (first | (go_at_call 94; refine (hI1 _).mono ?_; rintro e wa ⟨rfl, hbwa⟩; have hBwa : Below w.heap.size w wa := bup (by with_reducible (repeat' first | assumption | exact Below.refl _ _ | refine Below.drew ?_ | refine bdrewN ?_ _ | refine Below.setCell ?_ (by first | exact Nat.le_refl _ | (simp; done) | (simp; omega) | omega) _ | refine Below.alloc ?_ (by first | exact Nat.le_refl _ | (simp; done) | (simp; omega) | omega) _)) hbwa; have zwa := hBwa.size; have o0wa : Own wa (w.heap.size) #[.bool m, .int .i64 t, .int .i64 n, .string s, .bool b, .int .i64 c, .int .i64 r0, .int .i64 r1, .int .i64 r2, .int .i64 r3, .slice (some ⟨eb, eo, none⟩) k ec] := Own.keep (by with_reducible (repeat' first | assumption | refine Own.drew ?_ | refine Own.drewN ?_ _ | (refine Own.at ?_; first | rfl | (simp; done)) | refine Own.past ?_ _)) hbwa; have c0 := o0wa.cell; have f0 := o0wa.fro; have l0 := o0wa.lt; have o1wa : Own wa (wr.heap.size) #[.int .i64 x.r, .int .i64 x.k, .int .i64 x.t, .int .i64 x.n, .string x.s, .bool x.b, .int .i64 x.c] := Own.keep (by with_reducible (repeat' first | assumption | refine Own.drew ?_ | refine Own.drewN ?_ _ | (refine Own.at ?_; first | rfl | (simp; done)) | refine Own.past ?_ _)) hbwa; have c1 := o1wa.cell; have f1 := o1wa.fro; have l1 := o1wa.lt) | (go_at_call 95; refine (hM1 _).mono ?_; rintro e wb ⟨rfl, hbwb⟩; have hBwb : Below w.heap.size w wb := bup (by with_reducible (repeat' first | assumption | exact Below.refl _ _ | refine Below.drew ?_ | refine bdrewN ?_ _ | refine Below.setCell ?_ (by first | exact Nat.le_refl _ | (simp; done) | (simp; omega) | omega) _ | refine Below.alloc ?_ (by first | exact Nat.le_refl _ | (simp; done) | (simp; omega) | omega) _)) hbwb; have zwb := hBwb.size; have o0wb : Own wb (w.heap.size) #[.bool m, .int .i64 t, .int .i64 n, .string s, .bool b, .int .i64 c, .int .i64 r0, .int .i64 r1, .int .i64 r2, .int .i64 r3, .slice (some ⟨eb, eo, none⟩) k ec] := Own.keep (by with_reducible (repeat' first | assumption | refine Own.drew ?_ | refine Own.drewN ?_ _ | (refine Own.at ?_; first | rfl | (simp; done)) | refine Own.past ?_ _)) hbwb; have c0 := o0wb.cell; have f0 := o0wb.fro; have l0 := o0wb.lt; have o1wb : Own wb (wr.heap.size) #[.int .i64 x.r, .int .i64 x.k, .int .i64 x.t, .int .i64 x.n, .string x.s, .bool x.b, .int .i64 x.c] := Own.keep (by with_reducible (repeat' first | assumption | refine Own.drew ?_ | refine Own.drewN ?_ _ | (refine Own.at ?_; first | rfl | (simp; done)) | refine Own.past ?_ _)) hbwb; have c1 := o1wb.cell; have f1 := o1wb.fro; have l1 := o1wb.lt))
        refine wp_region_held_drew (S := fun w' => w'.cell? ⟨w.heap.size, 10, none⟩ = some (.slice (some ⟨eb, eo, none⟩) k ec) ∧ w'.cell? ⟨wr.heap.size, 0, none⟩ = some (.int .i64 x.r) ∧ w'.cell? ⟨wr.heap.size, 1, none⟩ = some (.int .i64 x.k)) (by kernel_rfl) (by (try dsimp only); ((repeat' apply And.intro) <;> (first | (go_keep; done) | (go_simp; done)))) (fun hHeld => ?_)
        refine wpAnyH_take (i := 0) (v := .int .i64 0) rfl (by kernel_rfl) (by kernel_rfl) (by kernel_rfl) (fun _ _ _ h => h) (Or.inl ⟨by first | rfl | kernel_rfl, by intro wz hSw; (try dsimp only at hSw); go_simp⟩) (by assumption) ?_
        (try simp only [Act.put, List.getElem_toArray, List.getElem_cons_succ, List.getElem_cons_zero, List.setIfInBounds_toArray, List.set_cons_zero, List.set_cons_succ])
        refine wpAnyH_take (i := 1) (v := .bool false) rfl (by kernel_rfl) (by kernel_rfl) (by kernel_rfl) (fun _ _ _ h => h) (Or.inl ⟨by first | rfl | kernel_rfl, by intro wz hSw; (try dsimp only at hSw); go_simp⟩) (by assumption) ?_
        (try simp only [Act.put, List.getElem_toArray, List.getElem_cons_succ, List.getElem_cons_zero, List.setIfInBounds_toArray, List.set_cons_zero, List.set_cons_succ])
        refine wpAnyH_take (i := 2) (v := .bool false) rfl (by kernel_rfl) (by kernel_rfl) (by kernel_rfl) (fun _ _ _ h => h) (Or.inl ⟨by first | rfl | kernel_rfl, by intro wz hSw; (try dsimp only at hSw); go_simp⟩) (by assumption) ?_
        (try simp only [Act.put, List.getElem_toArray, List.getElem_cons_succ, List.getElem_cons_zero, List.setIfInBounds_toArray, List.set_cons_zero, List.set_cons_succ])
        refine wpAnyH_take (i := 3) (v := undef) rfl (by kernel_rfl) (by kernel_rfl) (by kernel_rfl) (fun _ _ _ h => h) (Or.inr ⟨by kernel_rfl, rfl⟩) (by assumption) ?_
        (try simp only [Act.put, List.getElem_toArray, List.getElem_cons_succ, List.getElem_cons_zero, List.setIfInBounds_toArray, List.set_cons_zero, List.set_cons_succ])
        refine wpAnyH_take (i := 4) (v := undef) rfl (by kernel_rfl) (by kernel_rfl) (by kernel_rfl) (fun _ _ _ h => h) (Or.inr ⟨by kernel_rfl, rfl⟩) (by assumption) ?_
        (try simp only [Act.put, List.getElem_toArray, List.getElem_cons_succ, List.getElem_cons_zero, List.setIfInBounds_toArray, List.set_cons_zero, List.set_cons_succ])
        refine wpAnyH_take (i := 5) (v := undef) rfl (by kernel_rfl) (by kernel_rfl) (by kernel_rfl) (fun _ _ _ h => h) (Or.inr ⟨by kernel_rfl, rfl⟩) (by assumption) ?_
        (try simp only [Act.put, List.getElem_toArray, List.getElem_cons_succ, List.getElem_cons_zero, List.setIfInBounds_toArray, List.set_cons_zero, List.set_cons_succ])
        refine wpAnyH_take (i := 6) (v := undef) rfl (by kernel_rfl) (by kernel_rfl) (by kernel_rfl) (fun _ _ _ h => h) (Or.inr ⟨by kernel_rfl, rfl⟩) (by assumption) ?_
        (try simp only [Act.put, List.getElem_toArray, List.getElem_cons_succ, List.getElem_cons_zero, List.setIfInBounds_toArray, List.set_cons_zero, List.set_cons_succ])
        refine wpAnyH_take (i := 7) (v := undef) rfl (by kernel_rfl) (by kernel_rfl) (by kernel_rfl) (fun _ _ _ h => h) (Or.inr ⟨by kernel_rfl, rfl⟩) (by assumption) ?_
        (try simp only [Act.put, List.getElem_toArray, List.getElem_cons_succ, List.getElem_cons_zero, List.setIfInBounds_toArray, List.set_cons_zero, List.set_cons_succ])
        refine wpAnyH_take (i := 8) (v := undef) rfl (by kernel_rfl) (by kernel_rfl) (by kernel_rfl) (fun _ _ _ h => h) (Or.inr ⟨by kernel_rfl, rfl⟩) (by assumption) ?_
        (try simp only [Act.put, List.getElem_toArray, List.getElem_cons_succ, List.getElem_cons_zero, List.setIfInBounds_toArray, List.set_cons_zero, List.set_cons_succ])
        refine wpAnyH_take (i := 9) (v := undef) rfl (by kernel_rfl) (by kernel_rfl) (by kernel_rfl) (fun _ _ _ h => h) (Or.inr ⟨by kernel_rfl, rfl⟩) (by assumption) ?_
        (try simp only [Act.put, List.getElem_toArray, List.getElem_cons_succ, List.getElem_cons_zero, List.setIfInBounds_toArray, List.set_cons_zero, List.set_cons_succ])
        refine wpAnyH_take (i := 10) (v := undef) rfl (by kernel_rfl) (by kernel_rfl) (by kernel_rfl) (fun _ _ _ h => h) (Or.inr ⟨by kernel_rfl, rfl⟩) (by assumption) ?_
        (try simp only [Act.put, List.getElem_toArray, List.getElem_cons_succ, List.getElem_cons_zero, List.setIfInBounds_toArray, List.set_cons_zero, List.set_cons_succ])
        refine wpAnyH_take (i := 11) (v := undef) rfl (by kernel_rfl) (by kernel_rfl) (by kernel_rfl) (fun _ _ _ h => h) (Or.inr ⟨by kernel_rfl, rfl⟩) (by assumption) ?_
        (try simp only [Act.put, List.getElem_toArray, List.getElem_cons_succ, List.getElem_cons_zero, List.setIfInBounds_toArray, List.set_cons_zero, List.set_cons_succ])
        refine wpAnyH_take (i := 12) (v := undef) rfl (by kernel_rfl) (by kernel_rfl) (by kernel_rfl) (fun _ _ _ h => h) (Or.inr ⟨by kernel_rfl, rfl⟩) (by assumption) ?_
        (try simp only [Act.put, List.getElem_toArray, List.getElem_cons_succ, List.getElem_cons_zero, List.setIfInBounds_toArray, List.set_cons_zero, List.set_cons_succ])
        refine wpAnyH_take (i := 13) (v := undef) rfl (by kernel_rfl) (by kernel_rfl) (by kernel_rfl) (fun _ _ _ h => h) (Or.inr ⟨by kernel_rfl, rfl⟩) (by assumption) ?_
        (try simp only [Act.put, List.getElem_toArray, List.getElem_cons_succ, List.getElem_cons_zero, List.setIfInBounds_toArray, List.set_cons_zero, List.set_cons_succ])
        refine wpAnyH_take (i := 14) (v := .bool false) rfl (by kernel_rfl) (by kernel_rfl) (by kernel_rfl) (fun _ _ _ h => h) (Or.inl ⟨by first | rfl | kernel_rfl, by intro wz hSw; (try dsimp only at hSw); go_simp⟩) (by assumption) ?_
        (try simp only [Act.put, List.getElem_toArray, List.getElem_cons_succ, List.getElem_cons_zero, List.setIfInBounds_toArray, List.set_cons_zero, List.set_cons_succ])
        refine wpAnyH_done (by kernel_rfl) ?_ _
        go_wp2
        exact ⟨⟨1, by go_num, by omega, HT, by with_reducible (repeat' first | assumption | exact Below.refl _ _ | refine Below.drew ?_ | refine bdrewN ?_ _ | refine Below.setCell ?_ (by first | exact Nat.le_refl _ | (simp; done) | (simp; omega) | omega) _ | refine Below.alloc ?_ (by first | exact Nat.le_refl _ | (simp; done) | (simp; omega) | omega) _), by with_reducible (repeat' first | assumption | refine Own.drew ?_ | refine Own.drewN ?_ _ | (refine Own.at ?_; first | rfl | (simp; done)) | refine Own.past ?_ _)⟩, by simp [intOf]; omega⟩
      · obtain ⟨i0, hi1⟩ : ∃ i0, i = i0 + 1 := ⟨i - 1, by omega⟩
        have hay : es[i0]? = some (es[i0]'(by rw [HL.out]; omega)) := List.getElem?_eq_getElem _
        have HAy : Hid _ := hay
        revert HAy
        generalize (es[i0]'(by rw [HL.out]; omega)) = y
        intro HAy
        clear hay
        have w0 : w.cell? ⟨eb, eo + i0 * 7, none⟩ = some (.int .i64 y.r) := HA'.out i0 _ HAy.out 0 (by decide)
        have w1 : w.cell? ⟨eb, eo + i0 * 7 + 1, none⟩ = some (.int .i64 y.k) := HA'.out i0 _ HAy.out 1 (by decide)
        have hsub : IntKind.i64.wrap ((i : Int) - 1) = (i0 : Int) := by rw [show (i : Int) - 1 = (i0 : Int) by omega]; rw [IntKind.wrap_i64]; omega
        have hi0k : (i0 : Int) < (k : Int) := by omega
        have hi00 : (0 : Int) ≤ (i0 : Int) := by omega
        have hpos : (0 : Int) < (i : Int) := by omega
        have hd1 : decide (0 < i) = true := by simp; omega
        have hd2 : decide ((0 : Int) < (i : Int)) = true := by simp; omega
        have HI1 : Hid (i = i0 + 1) := hi1
        have HI0 : Hid (¬ i = 0) := hi0
        clear hi1 hi0
        have hB1 := fun w1 => Ad.bef_any y.r y.k x.r x.k w1
        cases hBe : Ad.befB y.r y.k x.r x.k
        · rw [hBe] at hB1
          have HR : Hid (entsB r0 r1 r2 r3 es = false) := (show _ from ents_no HAi.out (by unfold entA; rw [HI.out, HM.out, show i - 1 = i0 by have := HI1.out; omega, HAy.out]; dsimp only; rw [decide_eq_false HI0.out, hBe]; rfl))
          clear hBe
          go_wp2_with (first | (go_at_call 94; refine (hI1 _).mono ?_; rintro e wa ⟨rfl, hbwa⟩; have hBwa : Below w.heap.size w wa := bup (by with_reducible (repeat' first | assumption | exact Below.refl _ _ | refine Below.drew ?_ | refine bdrewN ?_ _ | refine Below.setCell ?_ (by first | exact Nat.le_refl _ | (simp; done) | (simp; omega) | omega) _ | refine Below.alloc ?_ (by first | exact Nat.le_refl _ | (simp; done) | (simp; omega) | omega) _)) hbwa; have zwa := hBwa.size; have o0wa : Own wa (w.heap.size) #[.bool m, .int .i64 t, .int .i64 n, .string s, .bool b, .int .i64 c, .int .i64 r0, .int .i64 r1, .int .i64 r2, .int .i64 r3, .slice (some ⟨eb, eo, none⟩) k ec] := Own.keep (by with_reducible (repeat' first | assumption | refine Own.drew ?_ | refine Own.drewN ?_ _ | (refine Own.at ?_; first | rfl | (simp; done)) | refine Own.past ?_ _)) hbwa; have c0 := o0wa.cell; have f0 := o0wa.fro; have l0 := o0wa.lt; have o1wa : Own wa (wr.heap.size) #[.int .i64 x.r, .int .i64 x.k, .int .i64 x.t, .int .i64 x.n, .string x.s, .bool x.b, .int .i64 x.c] := Own.keep (by with_reducible (repeat' first | assumption | refine Own.drew ?_ | refine Own.drewN ?_ _ | (refine Own.at ?_; first | rfl | (simp; done)) | refine Own.past ?_ _)) hbwa; have c1 := o1wa.cell; have f1 := o1wa.fro; have l1 := o1wa.lt) | (go_at_call 95; refine (hM1 _).mono ?_; rintro e wb ⟨rfl, hbwb⟩; have hBwb : Below w.heap.size w wb := bup (by with_reducible (repeat' first | assumption | exact Below.refl _ _ | refine Below.drew ?_ | refine bdrewN ?_ _ | refine Below.setCell ?_ (by first | exact Nat.le_refl _ | (simp; done) | (simp; omega) | omega) _ | refine Below.alloc ?_ (by first | exact Nat.le_refl _ | (simp; done) | (simp; omega) | omega) _)) hbwb; have zwb := hBwb.size; have o0wb : Own wb (w.heap.size) #[.bool m, .int .i64 t, .int .i64 n, .string s, .bool b, .int .i64 c, .int .i64 r0, .int .i64 r1, .int .i64 r2, .int .i64 r3, .slice (some ⟨eb, eo, none⟩) k ec] := Own.keep (by with_reducible (repeat' first | assumption | refine Own.drew ?_ | refine Own.drewN ?_ _ | (refine Own.at ?_; first | rfl | (simp; done)) | refine Own.past ?_ _)) hbwb; have c0 := o0wb.cell; have f0 := o0wb.fro; have l0 := o0wb.lt; have o1wb : Own wb (wr.heap.size) #[.int .i64 x.r, .int .i64 x.k, .int .i64 x.t, .int .i64 x.n, .string x.s, .bool x.b, .int .i64 x.c] := Own.keep (by with_reducible (repeat' first | assumption | refine Own.drew ?_ | refine Own.drewN ?_ _ | (refine Own.at ?_; first | rfl | (simp; done)) | refine Own.past ?_ _)) hbwb; have c1 := o1wb.cell; have f1 := o1wb.fro; have l1 := o1wb.lt; have p0 := (hBwb.cell (p := ⟨eb, eo + i0 * 7, none⟩) hla).trans w0; have p1 := (hBwb.cell (p := ⟨eb, eo + i0 * 7 + 1, none⟩) hla).trans w1))
          go_region_held3 (fun w' => w'.cell? ⟨w.heap.size, 10, none⟩ = some (.slice (some ⟨eb, eo, none⟩) k ec) ∧ w'.cell? ⟨eb, eo + i0 * 7, none⟩ = some (.int .i64 y.r) ∧ w'.cell? ⟨eb, eo + i0 * 7 + 1, none⟩ = some (.int .i64 y.k) ∧ w'.cell? ⟨wr.heap.size, 0, none⟩ = some (.int .i64 x.r) ∧ w'.cell? ⟨wr.heap.size, 1, none⟩ = some (.int .i64 x.k)) ((repeat' apply And.intro) <;> (first | (go_keep; done) | (go_simp; done))) ((go_at_call 96; refine (hB1 _).mono ?_; rintro e wc ⟨rfl, hbwc⟩; have hBwc : Below w.heap.size w wc := bup (by with_reducible (repeat' first | assumption | exact Below.refl _ _ | refine Below.drew ?_ | refine bdrewN ?_ _ | refine Below.setCell ?_ (by first | exact Nat.le_refl _ | (simp; done) | (simp; omega) | omega) _ | refine Below.alloc ?_ (by first | exact Nat.le_refl _ | (simp; done) | (simp; omega) | omega) _)) hbwc; have zwc := hBwc.size; have o0wc : Own wc (w.heap.size) #[.bool m, .int .i64 t, .int .i64 n, .string s, .bool b, .int .i64 c, .int .i64 r0, .int .i64 r1, .int .i64 r2, .int .i64 r3, .slice (some ⟨eb, eo, none⟩) k ec] := Own.keep (by with_reducible (repeat' first | assumption | refine Own.drew ?_ | refine Own.drewN ?_ _ | (refine Own.at ?_; first | rfl | (simp; done)) | refine Own.past ?_ _)) hbwc; have c0 := o0wc.cell; have f0 := o0wc.fro; have l0 := o0wc.lt; have o1wc : Own wc (wr.heap.size) #[.int .i64 x.r, .int .i64 x.k, .int .i64 x.t, .int .i64 x.n, .string x.s, .bool x.b, .int .i64 x.c] := Own.keep (by with_reducible (repeat' first | assumption | refine Own.drew ?_ | refine Own.drewN ?_ _ | (refine Own.at ?_; first | rfl | (simp; done)) | refine Own.past ?_ _)) hbwc; have c1 := o1wc.cell; have f1 := o1wc.fro; have l1 := o1wc.lt; have p0c := (hBwc.cell (p := ⟨eb, eo + i0 * 7, none⟩) hla).trans w0; have p1c := (hBwc.cell (p := ⟨eb, eo + i0 * 7 + 1, none⟩) hla).trans w1))
          go_wp2
          go_ret
          exact ⟨by rw [HR.out]; rfl, by with_reducible (repeat' first | assumption | exact Below.refl _ _ | refine Below.drew ?_ | refine bdrewN ?_ _ | refine Below.setCell ?_ (by first | exact Nat.le_refl _ | (simp; done) | (simp; omega) | omega) _ | refine Below.alloc ?_ (by first | exact Nat.le_refl _ | (simp; done) | (simp; omega) | omega) _)⟩
        · rw [hBe] at hB1
          have HT : Hid (∀ j x, j < i + 1 → es[j]? = some x → entA r0 r1 r2 r3 es j x = true) := (show ∀ j x, j < i + 1 → es[j]? = some x → entA r0 r1 r2 r3 es j x = true from fun j x' hj hx' => by
            by_cases e : j < i
            · exact htk.out j x' e hx'
            · have : j = i := by omega
              subst this
              have := HAi.out.symm.trans hx'
              cases this
              unfold entA
              rw [HI.out, HM.out, show j - 1 = i0 by have := HI1.out; omega, HAy.out]; simp [hBe])
          clear hBe
          go_wp2_with (first | (go_at_call 94; refine (hI1 _).mono ?_; rintro e wa ⟨rfl, hbwa⟩; have hBwa : Below w.heap.size w wa := bup (by with_reducible (repeat' first | assumption | exact Below.refl _ _ | refine Below.drew ?_ | refine bdrewN ?_ _ | refine Below.setCell ?_ (by first | exact Nat.le_refl _ | (simp; done) | (simp; omega) | omega) _ | refine Below.alloc ?_ (by first | exact Nat.le_refl _ | (simp; done) | (simp; omega) | omega) _)) hbwa; have zwa := hBwa.size; have o0wa : Own wa (w.heap.size) #[.bool m, .int .i64 t, .int .i64 n, .string s, .bool b, .int .i64 c, .int .i64 r0, .int .i64 r1, .int .i64 r2, .int .i64 r3, .slice (some ⟨eb, eo, none⟩) k ec] := Own.keep (by with_reducible (repeat' first | assumption | refine Own.drew ?_ | refine Own.drewN ?_ _ | (refine Own.at ?_; first | rfl | (simp; done)) | refine Own.past ?_ _)) hbwa; have c0 := o0wa.cell; have f0 := o0wa.fro; have l0 := o0wa.lt; have o1wa : Own wa (wr.heap.size) #[.int .i64 x.r, .int .i64 x.k, .int .i64 x.t, .int .i64 x.n, .string x.s, .bool x.b, .int .i64 x.c] := Own.keep (by with_reducible (repeat' first | assumption | refine Own.drew ?_ | refine Own.drewN ?_ _ | (refine Own.at ?_; first | rfl | (simp; done)) | refine Own.past ?_ _)) hbwa; have c1 := o1wa.cell; have f1 := o1wa.fro; have l1 := o1wa.lt) | (go_at_call 95; refine (hM1 _).mono ?_; rintro e wb ⟨rfl, hbwb⟩; have hBwb : Below w.heap.size w wb := bup (by with_reducible (repeat' first | assumption | exact Below.refl _ _ | refine Below.drew ?_ | refine bdrewN ?_ _ | refine Below.setCell ?_ (by first | exact Nat.le_refl _ | (simp; done) | (simp; omega) | omega) _ | refine Below.alloc ?_ (by first | exact Nat.le_refl _ | (simp; done) | (simp; omega) | omega) _)) hbwb; have zwb := hBwb.size; have o0wb : Own wb (w.heap.size) #[.bool m, .int .i64 t, .int .i64 n, .string s, .bool b, .int .i64 c, .int .i64 r0, .int .i64 r1, .int .i64 r2, .int .i64 r3, .slice (some ⟨eb, eo, none⟩) k ec] := Own.keep (by with_reducible (repeat' first | assumption | refine Own.drew ?_ | refine Own.drewN ?_ _ | (refine Own.at ?_; first | rfl | (simp; done)) | refine Own.past ?_ _)) hbwb; have c0 := o0wb.cell; have f0 := o0wb.fro; have l0 := o0wb.lt; have o1wb : Own wb (wr.heap.size) #[.int .i64 x.r, .int .i64 x.k, .int .i64 x.t, .int .i64 x.n, .string x.s, .bool x.b, .int .i64 x.c] := Own.keep (by with_reducible (repeat' first | assumption | refine Own.drew ?_ | refine Own.drewN ?_ _ | (refine Own.at ?_; first | rfl | (simp; done)) | refine Own.past ?_ _)) hbwb; have c1 := o1wb.cell; have f1 := o1wb.fro; have l1 := o1wb.lt; have p0 := (hBwb.cell (p := ⟨eb, eo + i0 * 7, none⟩) hla).trans w0; have p1 := (hBwb.cell (p := ⟨eb, eo + i0 * 7 + 1, none⟩) hla).trans w1))
          go_region_held3 (fun w' => w'.cell? ⟨w.heap.size, 10, none⟩ = some (.slice (some ⟨eb, eo, none⟩) k ec) ∧ w'.cell? ⟨eb, eo + i0 * 7, none⟩ = some (.int .i64 y.r) ∧ w'.cell? ⟨eb, eo + i0 * 7 + 1, none⟩ = some (.int .i64 y.k) ∧ w'.cell? ⟨wr.heap.size, 0, none⟩ = some (.int .i64 x.r) ∧ w'.cell? ⟨wr.heap.size, 1, none⟩ = some (.int .i64 x.k)) ((repeat' apply And.intro) <;> (first | (go_keep; done) | (go_simp; done))) ((go_at_call 96; refine (hB1 _).mono ?_; rintro e wc ⟨rfl, hbwc⟩; have hBwc : Below w.heap.size w wc := bup (by with_reducible (repeat' first | assumption | exact Below.refl _ _ | refine Below.drew ?_ | refine bdrewN ?_ _ | refine Below.setCell ?_ (by first | exact Nat.le_refl _ | (simp; done) | (simp; omega) | omega) _ | refine Below.alloc ?_ (by first | exact Nat.le_refl _ | (simp; done) | (simp; omega) | omega) _)) hbwc; have zwc := hBwc.size; have o0wc : Own wc (w.heap.size) #[.bool m, .int .i64 t, .int .i64 n, .string s, .bool b, .int .i64 c, .int .i64 r0, .int .i64 r1, .int .i64 r2, .int .i64 r3, .slice (some ⟨eb, eo, none⟩) k ec] := Own.keep (by with_reducible (repeat' first | assumption | refine Own.drew ?_ | refine Own.drewN ?_ _ | (refine Own.at ?_; first | rfl | (simp; done)) | refine Own.past ?_ _)) hbwc; have c0 := o0wc.cell; have f0 := o0wc.fro; have l0 := o0wc.lt; have o1wc : Own wc (wr.heap.size) #[.int .i64 x.r, .int .i64 x.k, .int .i64 x.t, .int .i64 x.n, .string x.s, .bool x.b, .int .i64 x.c] := Own.keep (by with_reducible (repeat' first | assumption | refine Own.drew ?_ | refine Own.drewN ?_ _ | (refine Own.at ?_; first | rfl | (simp; done)) | refine Own.past ?_ _)) hbwc; have c1 := o1wc.cell; have f1 := o1wc.fro; have l1 := o1wc.lt; have p0c := (hBwc.cell (p := ⟨eb, eo + i0 * 7, none⟩) hla).trans w0; have p1c := (hBwc.cell (p := ⟨eb, eo + i0 * 7 + 1, none⟩) hla).trans w1))
          go_wp2
          exact ⟨⟨i + 1, by go_num, by omega, HT, by with_reducible (repeat' first | assumption | exact Below.refl _ _ | refine Below.drew ?_ | refine bdrewN ?_ _ | refine Below.setCell ?_ (by first | exact Nat.le_refl _ | (simp; done) | (simp; omega) | omega) _ | refine Below.alloc ?_ (by first | exact Nat.le_refl _ | (simp; done) | (simp; omega) | omega) _), by with_reducible (repeat' first | assumption | refine Own.drew ?_ | refine Own.drewN ?_ _ | (refine Own.at ?_; first | rfl | (simp; done)) | refine Own.past ?_ _)⟩, by simp [intOf]; omega⟩
    · have hlt' : ¬ (i : Int) < k := by omega
      have HR : Hid (entsB r0 r1 r2 r3 es = true) := (show _ from (ents_all r0 r1 r2 r3 es).2 (fun j x hj => htk.out j x (by have := (List.getElem?_eq_some_iff.1 hj).1; rw [HL.out] at this; omega) hj))
      go_wp2
      go_ret
      exact ⟨by rw [HR.out]; rfl, by with_reducible (repeat' first | assumption | exact Below.refl _ _ | refine Below.drew ?_ | refine bdrewN ?_ _ | refine Below.setCell ?_ (by first | exact Nat.le_refl _ | (simp; done) | (simp; omega) | omega) _ | refine Below.alloc ?_ (by first | exact Nat.le_refl _ | (simp; done) | (simp; omega) | omega) _)⟩
end Go.Proofs.YtbpbocgbfeblmaaGreatDoor
namespace Go.Proofs.YtbpbocgbfeblmaaGreatDoor
open Go.RowKit
set_option linter.all false
theorem neV0 (t n : Int) (s : ByteArray) (b : Bool) (c : Int) (w : World) : (binOp .neq 26 (.agg #[.int .i64 t, .int .i64 n, .string s, .bool b, .int .i64 c]) (.agg #[.int .i64 0, .int .i64 0, .string ⟨#[]⟩, .bool false, .int .i64 0])).run Tryz.prog w = .ok (.bool (!vz5 t n s b c)) w := by
  rw [run_neq_struct, run_equalIn_agg w 9999 26 _ _ (by kernel_rfl) (by kernel_rfl)]
  unfold vz5
  go_simp
  by_cases h1 : t = 0
  · by_cases h2 : n = 0
    · by_cases h3 : s = ⟨#[]⟩
      · by_cases h4 : b = false
        · by_cases h5 : c = 0 <;> simp [h1, h2, h3, h4, h5]
        · simp [h1, h2, h3, h4]
      · have h3' : ¬ s.toList = (⟨#[]⟩ : ByteArray).toList := fun h => h3 (toList_inj h)
        simp [h1, h2, h3]
        intro hh
        exact absurd (hh.trans (by first | rfl | simp)) h3'
    · simp [h1, h2]
  · simp [h1]
theorem mn_s (t n : Int) (s : ByteArray) (b : Bool) (c r0 r1 r2 r3 : Int) (ep : Option Addr) (en ec : Nat) (w : World) (hn : I64 n) : Calls Tryz.prog 18 #[.agg #[.bool false, .int .i64 t, .int .i64 n, .string s, .bool b, .int .i64 c, .int .i64 r0, .int .i64 r1, .int .i64 r2, .int .i64 r3, .slice ep en ec]] w fun e w' => e = .returned (.bool (nosB ⟨false, t, n, s, b, c, r0, r1, r2, r3, ep, en, ec⟩)) ∧ Below w.heap.size w w' := by
  have hq := fun W => sin_any ⟨false, t, n, s, b, c, r0, r1, r2, r3, ep, en, ec⟩ W hn
  generalize nosB ⟨false, t, n, s, b, c, r0, r1, r2, r3, ep, en, ec⟩ = q at *
  dsimp only at hq
  go_enter Tryz.func18, Tryz.ntmps18
  go_wp2_with (go_at_call 52; refine (hq _).mono ?_; rintro e w1 ⟨rfl, hb⟩; have hB : Below w.heap.size w w1 := bup (by with_reducible (repeat' first | assumption | exact Below.refl _ _ | refine Below.drew ?_ | refine bdrewN ?_ _ | refine Below.setCell ?_ (by first | exact Nat.le_refl _ | (simp; done) | (simp; omega) | omega) _ | refine Below.alloc ?_ (by first | exact Nat.le_refl _ | (simp; done) | (simp; omega) | omega) _)) hb; have o0 : Own w1 (w.heap.size) #[.bool false, .int .i64 t, .int .i64 n, .string s, .bool b, .int .i64 c, .int .i64 r0, .int .i64 r1, .int .i64 r2, .int .i64 r3, .slice ep en ec] := Own.keep (by with_reducible (repeat' first | assumption | refine Own.drew ?_ | refine Own.drewN ?_ _ | (refine Own.at ?_; first | rfl | (simp; done)) | refine Own.past ?_ _)) hb; have c0 := o0.cell; have f0 := o0.fro; have l0 := o0.lt)
  go_ret
  exact ⟨retBl (by simp), by with_reducible (repeat' first | assumption | exact Below.refl _ _ | refine Below.drew ?_ | refine bdrewN ?_ _ | refine Below.setCell ?_ (by first | exact Nat.le_refl _ | (simp; done) | (simp; omega) | omega) _ | refine Below.alloc ?_ (by first | exact Nat.le_refl _ | (simp; done) | (simp; omega) | omega) _)⟩
theorem mn_v (t n : Int) (s : ByteArray) (b : Bool) (c r0 r1 r2 r3 : Int) (ep : Option Addr) (en ec : Nat) (w : World) (hv : vz5 t n s b c = false) : Calls Tryz.prog 18 #[.agg #[.bool true, .int .i64 t, .int .i64 n, .string s, .bool b, .int .i64 c, .int .i64 r0, .int .i64 r1, .int .i64 r2, .int .i64 r3, .slice ep en ec]] w fun e w' => e = .returned (.bool true) ∧ Below w.heap.size w w' := by
  have hne := neV0 t n s b c
  rw [hv] at hne
  go_enter Tryz.func18, Tryz.ntmps18
  go_wp2
  go_ret
  exact ⟨rfl, by with_reducible (repeat' first | assumption | exact Below.refl _ _ | refine Below.drew ?_ | refine bdrewN ?_ _ | refine Below.setCell ?_ (by first | exact Nat.le_refl _ | (simp; done) | (simp; omega) | omega) _ | refine Below.alloc ?_ (by first | exact Nat.le_refl _ | (simp; done) | (simp; omega) | omega) _)⟩
theorem mn_r (r0 r1 r2 r3 : Int) (ep : Option Addr) (en ec : Nat) (w : World) (hr : Ad.mayR r0 r1 r2 r3 = false) : Calls Tryz.prog 18 #[.agg #[.bool true, .int .i64 0, .int .i64 0, .string ⟨#[]⟩, .bool false, .int .i64 0, .int .i64 r0, .int .i64 r1, .int .i64 r2, .int .i64 r3, .slice ep en ec]] w fun e w' => e = .returned (.bool true) ∧ Below w.heap.size w w' := by
  have hne := neV0 0 0 ⟨#[]⟩ false 0
  have hq := fun W => Ad.mayR_any r0 r1 r2 r3 W
  rw [hr] at hq
  go_enter Tryz.func18, Tryz.ntmps18
  go_wp2_with (go_at_call 50; refine (hq _).mono ?_; rintro e w1 ⟨rfl, hb⟩; have hB : Below w.heap.size w w1 := bup (by with_reducible (repeat' first | assumption | exact Below.refl _ _ | refine Below.drew ?_ | refine bdrewN ?_ _ | refine Below.setCell ?_ (by first | exact Nat.le_refl _ | (simp; done) | (simp; omega) | omega) _ | refine Below.alloc ?_ (by first | exact Nat.le_refl _ | (simp; done) | (simp; omega) | omega) _)) hb; have o0 : Own w1 (w.heap.size) #[.bool true, .int .i64 0, .int .i64 0, .string ⟨#[]⟩, .bool false, .int .i64 0, .int .i64 r0, .int .i64 r1, .int .i64 r2, .int .i64 r3, .slice ep en ec] := Own.keep (by with_reducible (repeat' first | assumption | refine Own.drew ?_ | refine Own.drewN ?_ _ | (refine Own.at ?_; first | rfl | (simp; done)) | refine Own.past ?_ _)) hb; have c0 := o0.cell; have f0 := o0.fro; have l0 := o0.lt)
  go_ret
  exact ⟨rfl, by with_reducible (repeat' first | assumption | exact Below.refl _ _ | refine Below.drew ?_ | refine bdrewN ?_ _ | refine Below.setCell ?_ (by first | exact Nat.le_refl _ | (simp; done) | (simp; omega) | omega) _ | refine Below.alloc ?_ (by first | exact Nat.le_refl _ | (simp; done) | (simp; omega) | omega) _)⟩
theorem mn_o (r0 r1 r2 r3 : Int) (ep : Option Addr) (en ec : Nat) (w : World) (hr : Ad.mayR r0 r1 r2 r3 = true) (q : Bool) (HO : Hid (∀ W, Below w.heap.size w W → Calls Tryz.prog 51 #[.agg #[.bool true, .int .i64 0, .int .i64 0, .string ⟨#[]⟩, .bool false, .int .i64 0, .int .i64 r0, .int .i64 r1, .int .i64 r2, .int .i64 r3, .slice ep en ec]] W fun e w' => e = .returned (.bool q) ∧ Below W.heap.size W w')) : Calls Tryz.prog 18 #[.agg #[.bool true, .int .i64 0, .int .i64 0, .string ⟨#[]⟩, .bool false, .int .i64 0, .int .i64 r0, .int .i64 r1, .int .i64 r2, .int .i64 r3, .slice ep en ec]] w fun e w' => e = .returned (.bool (!q)) ∧ Below w.heap.size w w' := by
  have hne := neV0 0 0 ⟨#[]⟩ false 0
  have hq := fun W => Ad.mayR_any r0 r1 r2 r3 W
  rw [hr] at hq
  go_enter Tryz.func18, Tryz.ntmps18
  go_wp2_with (first | (go_at_call 50; refine (hq _).mono ?_; rintro e w1 ⟨rfl, hb⟩; have hB : Below w.heap.size w w1 := bup (by with_reducible (repeat' first | assumption | exact Below.refl _ _ | refine Below.drew ?_ | refine bdrewN ?_ _ | refine Below.setCell ?_ (by first | exact Nat.le_refl _ | (simp; done) | (simp; omega) | omega) _ | refine Below.alloc ?_ (by first | exact Nat.le_refl _ | (simp; done) | (simp; omega) | omega) _)) hb; have o0 : Own w1 (w.heap.size) #[.bool true, .int .i64 0, .int .i64 0, .string ⟨#[]⟩, .bool false, .int .i64 0, .int .i64 r0, .int .i64 r1, .int .i64 r2, .int .i64 r3, .slice ep en ec] := Own.keep (by with_reducible (repeat' first | assumption | refine Own.drew ?_ | refine Own.drewN ?_ _ | (refine Own.at ?_; first | rfl | (simp; done)) | refine Own.past ?_ _)) hb; have c0 := o0.cell; have f0 := o0.fro; have l0 := o0.lt) | (go_at_call 51; refine (HO.out _ (by assumption)).mono ?_; rintro e w1 ⟨rfl, hb⟩; have hB2 : Below w.heap.size w w1 := bup (by with_reducible (repeat' first | assumption | exact Below.refl _ _ | refine Below.drew ?_ | refine bdrewN ?_ _ | refine Below.setCell ?_ (by first | exact Nat.le_refl _ | (simp; done) | (simp; omega) | omega) _ | refine Below.alloc ?_ (by first | exact Nat.le_refl _ | (simp; done) | (simp; omega) | omega) _)) hb; have o0 : Own w1 (w.heap.size) #[.bool true, .int .i64 0, .int .i64 0, .string ⟨#[]⟩, .bool false, .int .i64 0, .int .i64 r0, .int .i64 r1, .int .i64 r2, .int .i64 r3, .slice ep en ec] := Own.keep (by with_reducible (repeat' first | assumption | refine Own.drew ?_ | refine Own.drewN ?_ _ | (refine Own.at ?_; first | rfl | (simp; done)) | refine Own.past ?_ _)) hb; have c0 := o0.cell; have f0 := o0.fro; have l0 := o0.lt))
  go_ret
  exact ⟨retBl (by simp), by with_reducible (repeat' first | assumption | exact Below.refl _ _ | refine Below.drew ?_ | refine bdrewN ?_ _ | refine Below.setCell ?_ (by first | exact Nat.le_refl _ | (simp; done) | (simp; omega) | omega) _ | refine Below.alloc ?_ (by first | exact Nat.le_refl _ | (simp; done) | (simp; omega) | omega) _)⟩
theorem mn_any (p : Ag × List En) (w : World) (h : AgE w p) : Calls Tryz.prog 18 #[.agg #[.bool p.1.many, .int .i64 p.1.t, .int .i64 p.1.n, .string p.1.s, .bool p.1.b, .int .i64 p.1.c, .int .i64 p.1.r0, .int .i64 p.1.r1, .int .i64 p.1.r2, .int .i64 p.1.r3, .slice p.1.ep p.1.en p.1.ec]] w fun e w' => e = .returned (.bool (mnB p)) ∧ Below w.heap.size w w' := by
  obtain ⟨⟨m, t, n, s, b, c, r0, r1, r2, r3, ep, en, ec⟩, es⟩ := p
  obtain ⟨⟨q, cap, e0, hc, hf⟩, hN, hn, hl⟩ := h
  injection e0 with e1 e2 e3
  simp only at e1 e2 e3 hN hn hl hc hf
  cases m
  · exact mn_s t n s b c r0 r1 r2 r3 ep en ec w hn
  unfold mnB
  simp only [if_true]
  cases hv : vz5 t n s b c
  · exact mn_v t n s b c r0 r1 r2 r3 ep en ec w hv
  have hv2 : t = 0 ∧ n = 0 ∧ s = ⟨#[]⟩ ∧ b = false ∧ c = 0 := by unfold vz5 at hv; exact of_decide_eq_true hv
  obtain ⟨rfl, rfl, rfl, rfl, rfl⟩ := hv2
  cases hr : Ad.mayR r0 r1 r2 r3
  · exact mn_r r0 r1 r2 r3 ep en ec w hr
  refine mn_o r0 r1 r2 r3 ep en ec w hr (entsB r0 r1 r2 r3 es) (show Hid _ from fun W hW => ?_)
  by_cases h0 : 0 < es.length
  · obtain ⟨eb, eo, hp, hla, hcell⟩ := hf h0
    rw [hp] at e1
    subst e1
    exact ord_y true 0 0 ⟨#[]⟩ false 0 r0 r1 r2 r3 eb eo en ec es W (Nat.lt_of_lt_of_le hla hW.size) (fun i x hi j hj => (hW.cell (p := ⟨eb, eo + i * 7 + j, none⟩) hla).trans (hcell i x hi j hj)) e2.symm (by omega) (by omega) hN
  · have h1 : en = 0 := by omega
    have h2 : es = [] := List.eq_nil_of_length_eq_zero (by omega)
    subst h1 h2
    exact ord_0 true 0 0 ⟨#[]⟩ false 0 r0 r1 r2 r3 ep ec W
theorem any_takeG {α : Type} {f : α → Bool} {l : List α} {i : Nat} {x : α} (h : l[i]? = some x) (h1 : (l.take i).any f = false) (h2 : f x = false) : (l.take (i + 1)).any f = false := by
  rw [List.take_succ, h, List.any_append, h1]; simp [h2]
theorem any_atG {α : Type} {f : α → Bool} {l : List α} {i : Nat} {x : α} (h : l[i]? = some x) (h2 : f x = true) : l.any f = true := List.any_eq_true.2 ⟨x, List.mem_of_getElem? h, h2⟩
theorem any_allG {α : Type} {f : α → Bool} {l : List α} {i : Nat} (h : l.length ≤ i) (h1 : (l.take i).any f = false) : l.any f = false := by rwa [List.take_of_length_le h] at h1
set_option maxRecDepth 100000 in
set_option maxHeartbeats 2000000 in
theorem ixm_y (w : World) (b o c n : Nat) (L : List (Ag × List En)) (hla : b < w.heap.size) (HA : ∀ i x, (L.map Prod.fst)[i]? = some x → ∀ j, j < 11 → w.cell? ⟨b, o + i * 11 + j, none⟩ = (Ag.cells x)[j]?) (hn : L.length = n) (hc : n ≤ c) (h0 : 0 < n) (hl : n ≤ 9223372036854775807) (hE : Hid (∀ p ∈ L, AgE w p)) :
    Calls Tryz.prog 49 #[.slice (some ⟨b, o, none⟩) n c, (.func (.func 18) #[] #[])] w fun e w' => (∃ r : Int, e = .returned (.int .i64 r) ∧ decide (0 ≤ r) = L.any mnB) ∧ Below w.heap.size w w' := by
  have HA' : Hid _ := HA
  have HL : Hid (L.length = n) := hn
  clear HA hn
  go_enter Tryz.func49, Tryz.ntmps49
  go_wp2
  go_loopw [8] (fun v w' => ∃ i : Nat, v = .int .i64 i ∧ i ≤ n ∧ Hid ((L.take i).any mnB = false) ∧ Below w.heap.size w w') (fun v _ => n - (intOf v).toNat)
  case atStart => exact ⟨0, rfl, by omega, rfl, Below.refl _ _⟩
  case round =>
    obtain ⟨i, rfl, hi, htk, hB3⟩ := hrel
    by_cases hlt : i < n
    · have hlt' : (i : Int) < n := by omega
      have hai : L[i]? = some (L[i]'(by rw [HL.out]; exact hlt)) := List.getElem?_eq_getElem _
      have hae := hE.out _ (List.mem_of_getElem? hai)
      have ca' := fun j hj => (show w.cell? ⟨b, o + i * 11 + j, none⟩ = _ from HA'.out i (L[i]'(by rw [HL.out]; exact hlt)).1 (by rw [List.getElem?_map, hai]; rfl) j hj)
      have HAi : Hid _ := hai
      revert ca' HAi hae
      generalize (L[i]'(by rw [HL.out]; exact hlt)) = q
      intro hae ca' HAi
      clear hai
      have x0 : wr.cell? ⟨b, o + i * 11, none⟩ = some (.bool q.1.many) := (hB3.cell (p := ⟨b, o + i * 11, none⟩) hla).trans (ca' 0 (by decide))
      have x1 : wr.cell? ⟨b, o + i * 11 + 1, none⟩ = some (.int .i64 q.1.t) := (hB3.cell (p := ⟨b, o + i * 11 + 1, none⟩) hla).trans (ca' 1 (by decide))
      have x2 : wr.cell? ⟨b, o + i * 11 + 2, none⟩ = some (.int .i64 q.1.n) := (hB3.cell (p := ⟨b, o + i * 11 + 2, none⟩) hla).trans (ca' 2 (by decide))
      have x3 : wr.cell? ⟨b, o + i * 11 + 3, none⟩ = some (.string q.1.s) := (hB3.cell (p := ⟨b, o + i * 11 + 3, none⟩) hla).trans (ca' 3 (by decide))
      have x4 : wr.cell? ⟨b, o + i * 11 + 4, none⟩ = some (.bool q.1.b) := (hB3.cell (p := ⟨b, o + i * 11 + 4, none⟩) hla).trans (ca' 4 (by decide))
      have x5 : wr.cell? ⟨b, o + i * 11 + 5, none⟩ = some (.int .i64 q.1.c) := (hB3.cell (p := ⟨b, o + i * 11 + 5, none⟩) hla).trans (ca' 5 (by decide))
      have x6 : wr.cell? ⟨b, o + i * 11 + 6, none⟩ = some (.int .i64 q.1.r0) := (hB3.cell (p := ⟨b, o + i * 11 + 6, none⟩) hla).trans (ca' 6 (by decide))
      have x7 : wr.cell? ⟨b, o + i * 11 + 7, none⟩ = some (.int .i64 q.1.r1) := (hB3.cell (p := ⟨b, o + i * 11 + 7, none⟩) hla).trans (ca' 7 (by decide))
      have x8 : wr.cell? ⟨b, o + i * 11 + 8, none⟩ = some (.int .i64 q.1.r2) := (hB3.cell (p := ⟨b, o + i * 11 + 8, none⟩) hla).trans (ca' 8 (by decide))
      have x9 : wr.cell? ⟨b, o + i * 11 + 9, none⟩ = some (.int .i64 q.1.r3) := (hB3.cell (p := ⟨b, o + i * 11 + 9, none⟩) hla).trans (ca' 9 (by decide))
      have x10 : wr.cell? ⟨b, o + i * 11 + 10, none⟩ = some (.slice q.1.ep q.1.en q.1.ec) := (hB3.cell (p := ⟨b, o + i * 11 + 10, none⟩) hla).trans (ca' 10 (by decide))
      clear ca'
      have HAE : Hid (AgE w q) := hae
      clear hae
      have hM := fun W (hW : Below w.heap.size w W) => mn_any q W (HAE.out.keep hW)
      cases hs : mnB q
      · have HS : Hid (mnB q = false) := hs
        rw [hs] at hM
        go_wp2_with (go_at_call 18; refine (hM _ (by with_reducible (repeat' first | assumption | exact Below.refl _ _ | refine Below.drew ?_ | refine bdrewN ?_ _ | refine Below.setCell ?_ (by first | exact Nat.le_refl _ | (simp; done) | (simp; omega) | omega) _ | refine Below.alloc ?_ (by first | exact Nat.le_refl _ | (simp; done) | (simp; omega) | omega) _))).mono ?_; rintro e w1 ⟨rfl, hb⟩; have hB1 : Below w.heap.size w w1 := bup (by with_reducible (repeat' first | assumption | exact Below.refl _ _ | refine Below.drew ?_ | refine bdrewN ?_ _ | refine Below.setCell ?_ (by first | exact Nat.le_refl _ | (simp; done) | (simp; omega) | omega) _ | refine Below.alloc ?_ (by first | exact Nat.le_refl _ | (simp; done) | (simp; omega) | omega) _)) hb)
        exact ⟨⟨i + 1, by go_num, by omega, any_takeG HAi.out htk.out HS.out, by with_reducible (repeat' first | assumption | exact Below.refl _ _ | refine Below.drew ?_ | refine bdrewN ?_ _ | refine Below.setCell ?_ (by first | exact Nat.le_refl _ | (simp; done) | (simp; omega) | omega) _ | refine Below.alloc ?_ (by first | exact Nat.le_refl _ | (simp; done) | (simp; omega) | omega) _)⟩, by simp [intOf]; omega⟩
      · have HS : Hid (mnB q = true) := hs
        rw [hs] at hM
        go_wp2_with (go_at_call 18; refine (hM _ (by with_reducible (repeat' first | assumption | exact Below.refl _ _ | refine Below.drew ?_ | refine bdrewN ?_ _ | refine Below.setCell ?_ (by first | exact Nat.le_refl _ | (simp; done) | (simp; omega) | omega) _ | refine Below.alloc ?_ (by first | exact Nat.le_refl _ | (simp; done) | (simp; omega) | omega) _))).mono ?_; rintro e w1 ⟨rfl, hb⟩; have hB1 : Below w.heap.size w w1 := bup (by with_reducible (repeat' first | assumption | exact Below.refl _ _ | refine Below.drew ?_ | refine bdrewN ?_ _ | refine Below.setCell ?_ (by first | exact Nat.le_refl _ | (simp; done) | (simp; omega) | omega) _ | refine Below.alloc ?_ (by first | exact Nat.le_refl _ | (simp; done) | (simp; omega) | omega) _)) hb)
        go_ret
        exact ⟨⟨_, rfl, by rw [any_atG HAi.out HS.out]; simp⟩, by with_reducible (repeat' first | assumption | exact Below.refl _ _ | refine Below.drew ?_ | refine bdrewN ?_ _ | refine Below.setCell ?_ (by first | exact Nat.le_refl _ | (simp; done) | (simp; omega) | omega) _ | refine Below.alloc ?_ (by first | exact Nat.le_refl _ | (simp; done) | (simp; omega) | omega) _)⟩
    · have hlt' : ¬ (i : Int) < n := by omega
      go_wp2
      go_ret
      exact ⟨⟨_, rfl, by rw [any_allG (by rw [HL.out]; omega) htk.out]; rfl⟩, by with_reducible (repeat' first | assumption | exact Below.refl _ _ | refine Below.drew ?_ | refine bdrewN ?_ _ | refine Below.setCell ?_ (by first | exact Nat.le_refl _ | (simp; done) | (simp; omega) | omega) _ | refine Below.alloc ?_ (by first | exact Nat.le_refl _ | (simp; done) | (simp; omega) | omega) _)⟩
theorem ixm_0 (w : World) (p : Option Addr) (c : Nat) : Calls Tryz.prog 49 #[.slice p 0 c, (.func (.func 18) #[] #[])] w fun e w' => (∃ r : Int, e = .returned (.int .i64 r) ∧ decide (0 ≤ r) = false) ∧ Below w.heap.size w w' := by
  go_enter Tryz.func49, Tryz.ntmps49
  go_wp2
  go_loopw [8] (fun v w' => v = .int .i64 0 ∧ w' = w) (fun _ _ => 0)
  case atStart => exact ⟨rfl, rfl⟩
  case round =>
    obtain ⟨rfl, rfl⟩ := hrel
    go_wp2
    go_ret
    exact ⟨⟨_, rfl, rfl⟩, Below.refl _ _⟩
theorem ixm_any (w : World) (v : Value) (L : List (Ag × List En)) (h : AV w v (L.map Prod.fst)) (hl : L.length ≤ 9223372036854775807) (hE : Hid (∀ p ∈ L, AgE w p)) : Calls Tryz.prog 49 #[v, (.func (.func 18) #[] #[])] w fun e w' => (∃ r : Int, e = .returned (.int .i64 r) ∧ decide (0 ≤ r) = L.any mnB) ∧ Below w.heap.size w w' := by
  obtain ⟨p, c, rfl, hc, hf⟩ := h
  rw [List.length_map] at hc hf ⊢
  by_cases h0 : 0 < L.length
  · obtain ⟨b, o, rfl, hlt, HA⟩ := hf h0
    exact ixm_y w b o c L.length L hlt HA rfl hc h0 hl hE
  · have e : L = [] := List.eq_nil_of_length_eq_zero (by omega)
    subst e
    exact ixm_0 w p c
theorem contm_any (w : World) (v : Value) (L : List (Ag × List En)) (h : AV w v (L.map Prod.fst)) (hl : L.length ≤ 9223372036854775807) (hE : Hid (∀ p ∈ L, AgE w p)) : Calls Tryz.prog 17 #[v, (.func (.func 18) #[] #[])] w fun e w' => e = .returned (.bool (L.any mnB)) ∧ Below w.heap.size w w' := by
  go_enter Tryz.func17, Tryz.ntmps17
  go_wp2_with (go_at_call 49; refine (ixm_any _ _ _ h hl hE).mono ?_; rintro e w1 ⟨⟨r, rfl, hr⟩, hb⟩)
  go_ret
  exact ⟨retBl (by first | exact hr | (rw [← hr])), hb⟩
end Go.Proofs.YtbpbocgbfeblmaaGreatDoor
