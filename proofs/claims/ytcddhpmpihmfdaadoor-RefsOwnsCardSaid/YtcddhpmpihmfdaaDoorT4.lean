/- The walk of RefsOwns over the contracts of what it calls: whoever writes into a list of references, and behind it, changes no other. The conditions are those of the contracts. -/
import Derived.Test.YtcddhpmpihmfdaaDoorT3
namespace Go.Proofs.YtcddhpmpihmfdaaDoor
open Go.Shelf Go.RowKit
set_option linter.all false
set_option maxRecDepth 100000 in
set_option maxHeartbeats 8000000 in
theorem owns_any (w : World) (p : Option Addr) (n cap m : Nat) (l : List Rf) (hm : l.length = m) (hm1 : m ≤ 1024)
    (h1 : ∀ w1, Below w.heap.size w w1 → Calls Tryd.prog 17 #[.agg #[.slice p n cap]] w1 fun e w' => ∃ pa ca, e = .returned (.slice pa m ca) ∧ RRow w' w1.heap.size (.slice pa m ca) l ∧ Below w1.heap.size w1 w')
    (h2 : ∀ w1, Below w.heap.size w w1 → Calls Tryd.prog 18 #[.agg #[.slice p n cap]] w1 fun e w' => ∃ pa ca, e = .returned (.slice pa m ca) ∧ RRow w' w1.heap.size (.slice pa m ca) l ∧ Below w1.heap.size w1 w') :
    Calls Tryd.prog 8 #[.agg #[.slice p n cap]] w fun e w' => e = .returned (.bool true) ∧ Below w.heap.size w w' := by
  have mixed : Tryd.prog.follows .mixedOrders = true := by kernel_rfl
  have H1 : Hid _ := h1
  have H2 : Hid _ := h2
  have H5 : Hid _ := lives_any
  have HM : Hid (l.length = m) := hm
  clear h1 h2 hm
  have hmc : ¬ ((m : Int) < 0) := by omega
  go_enter Tryd.func8, Tryd.ntmps8
  go_wp2_with (go_at_call 17; refine Calls.mono (H1.out _ (by with_reducible (repeat' first | assumption | exact Below.refl _ _ | refine Below.drew ?_ | refine bdrewN ?_ _ | refine Below.setCell ?_ (by first | exact Nat.le_refl _ | (simp; done) | (simp; omega) | omega) _ | refine Below.alloc ?_ (by first | exact Nat.le_refl _ | (simp; done) | (simp; omega) | omega) _))) ?_; rintro e w1 ⟨pa0, ca0, rfl, hr0, hb⟩; have hB : Below w.heap.size w w1 := bup (by with_reducible (repeat' first | assumption | exact Below.refl _ _ | refine Below.drew ?_ | refine bdrewN ?_ _ | refine Below.setCell ?_ (by first | exact Nat.le_refl _ | (simp; done) | (simp; omega) | omega) _ | refine Below.alloc ?_ (by first | exact Nat.le_refl _ | (simp; done) | (simp; omega) | omega) _)) hb; have o0 : Own w1 w.heap.size #[.slice p n cap] := Own.keep (by with_reducible (repeat' first | assumption | refine Own.drew ?_ | refine Own.drewN ?_ _ | (refine Own.at ?_; first | rfl | (simp; done)) | refine Own.past ?_ _ | refine Own.aside ?_ (by first | (simp; done) | (simp; omega) | omega) _)) hb; have c0 := o0.cell; have l0 := o0.lt; have zz := hB.size; have hr0 : RRow w1 (w.heap.size + 1) (.slice pa0 m ca0) l := Row.mono hr0 (by simp))
  have hB1 := hB
  have oB := o0
  rcases Row.two Rf.cells_size hr0 with ⟨e0, e1⟩ | ⟨ga0, c0a, e0, hg1, hg2, hg3, hg4, -, -⟩
  · have e2 : pa0 = none := by injection e0
    have e3 : ca0 = 0 := by injection e0
    have e4 : m = 0 := by injection e0
    subst e2 e3 e4
    go_wp2
    go_loopw [5] (fun v w' => v = .int .i64 0 ∧ w' = w1) (fun _ _ => 0)
    case atStart => exact ⟨rfl, rfl⟩
    case round =>
      obtain ⟨rfl, rfl⟩ := hrel
      go_wp2_with (first | (go_at_call 17; refine Calls.mono (H1.out _ (by with_reducible (repeat' first | assumption | exact Below.refl _ _ | refine Below.drew ?_ | refine bdrewN ?_ _ | refine Below.setCell ?_ (by first | exact Nat.le_refl _ | (simp; done) | (simp; omega) | omega) _ | refine Below.alloc ?_ (by first | exact Nat.le_refl _ | (simp; done) | (simp; omega) | omega) _))) ?_; rintro e w3 ⟨pa, ca, rfl, hra, hb3⟩; have hB : Below w.heap.size w w3 := bup (by with_reducible (repeat' first | assumption | exact Below.refl _ _ | refine Below.drew ?_ | refine bdrewN ?_ _ | refine Below.setCell ?_ (by first | exact Nat.le_refl _ | (simp; done) | (simp; omega) | omega) _ | refine Below.alloc ?_ (by first | exact Nat.le_refl _ | (simp; done) | (simp; omega) | omega) _)) hb3; have o0 : Own w3 w.heap.size #[.slice p n cap] := Own.keep (by with_reducible (repeat' first | assumption | refine Own.drew ?_ | refine Own.drewN ?_ _ | (refine Own.at ?_; first | rfl | (simp; done)) | refine Own.past ?_ _ | refine Own.aside ?_ (by first | (simp; done) | (simp; omega) | omega) _)) hb3; have c0 := o0.cell; have l0 := o0.lt; have zz := hB.size) | (go_at_call 18; refine Calls.mono (H2.out _ (by with_reducible (repeat' first | assumption | exact Below.refl _ _ | refine Below.drew ?_ | refine bdrewN ?_ _ | refine Below.setCell ?_ (by first | exact Nat.le_refl _ | (simp; done) | (simp; omega) | omega) _ | refine Below.alloc ?_ (by first | exact Nat.le_refl _ | (simp; done) | (simp; omega) | omega) _))) ?_; rintro e w4 ⟨pb, cb, rfl, hrb, hb4⟩; have hB : Below w.heap.size w w4 := bup (by with_reducible (repeat' first | assumption | exact Below.refl _ _ | refine Below.drew ?_ | refine bdrewN ?_ _ | refine Below.setCell ?_ (by first | exact Nat.le_refl _ | (simp; done) | (simp; omega) | omega) _ | refine Below.alloc ?_ (by first | exact Nat.le_refl _ | (simp; done) | (simp; omega) | omega) _)) hb4; have o0 : Own w4 w.heap.size #[.slice p n cap] := Own.keep (by with_reducible (repeat' first | assumption | refine Own.drew ?_ | refine Own.drewN ?_ _ | (refine Own.at ?_; first | rfl | (simp; done)) | refine Own.past ?_ _ | refine Own.aside ?_ (by first | (simp; done) | (simp; omega) | omega) _)) hb4; have c0 := o0.cell; have l0 := o0.lt; have zz := hB.size; have hra : RRow w4 _ (.slice pa 0 ca) l := Row.keep (by with_reducible (repeat' first | assumption | refine Row.drew ?_ | refine Row.drewN ?_ _ | refine Row.past ?_ _)) hb4))
      go_loopw [8] (fun v w' => ∃ k : Nat, v = .int .i64 k ∧ k ≤ 0 ∧ ∃ q, w' = w4.drewN q) (fun v _ => 0 - (intOf v).toNat)
      case atStart => exact ⟨0, rfl, by omega, 0, rfl⟩
      case round =>
        obtain ⟨k, rfl, hk, q, rfl⟩ := hrel
        by_cases hkl : k < 0
        · have hkl' : (k : Int) < 0 := by omega
          have hne0 : l ≠ [] := fun e => by have := HM.out; rw [e] at this; simp at this; omega
          rcases Row.two Rf.cells_size hra with ⟨e0, e1⟩ | ⟨ga, ca2, e0, ga1, ga2, ga3, ga4, ga5, ga6⟩
          · exact absurd e1 hne0
          rcases Row.two Rf.cells_size hrb with ⟨e3, e4⟩ | ⟨gb, cb2, e3, gb1, gb2, gb3, gb4, gb5, gb6⟩
          · exact absurd e4 hne0
          have e2 : pa = some ⟨ga, 0, none⟩ := by injection e0
          have e5 : pb = some ⟨gb, 0, none⟩ := by injection e3
          subst e2 e5
          have hki : l[k]? = some (l[k]'(by rw [HM.out]; exact hkl)) := List.getElem?_eq_getElem _
          have cx := fun j hj => ga5 k _ hki j hj
          have cy := fun j hj => gb5 k _ hki j hj
          revert cx cy
          generalize (l[k]'(by rw [HM.out]; exact hkl)) = x
          intro cx cy
          clear hki ga5 gb5 ga6 gb6 e0 e3
          have x0 : w4.cell? ⟨ga, k * 5, none⟩ = some (.bool x.many) := cx 0 (by decide)
          have x1 : w4.cell? ⟨ga, k * 5 + 1, none⟩ = some (.int .i64 x.top) := cx 1 (by decide)
          have x2 : w4.cell? ⟨ga, k * 5 + 2, none⟩ = some (.int .i64 x.left) := cx 2 (by decide)
          have x3 : w4.cell? ⟨ga, k * 5 + 3, none⟩ = some (.int .i64 x.bot) := cx 3 (by decide)
          have x4 : w4.cell? ⟨ga, k * 5 + 4, none⟩ = some (.int .i64 x.right) := cx 4 (by decide)
          have y0 : w4.cell? ⟨gb, k * 5, none⟩ = some (.bool x.many) := cy 0 (by decide)
          have y1 : w4.cell? ⟨gb, k * 5 + 1, none⟩ = some (.int .i64 x.top) := cy 1 (by decide)
          have y2 : w4.cell? ⟨gb, k * 5 + 2, none⟩ = some (.int .i64 x.left) := cy 2 (by decide)
          have y3 : w4.cell? ⟨gb, k * 5 + 3, none⟩ = some (.int .i64 x.bot) := cy 3 (by decide)
          have y4 : w4.cell? ⟨gb, k * 5 + 4, none⟩ = some (.int .i64 x.right) := cy 4 (by decide)
          clear cx cy
          have hne := neRf x x
          rw [sameRf_refl] at hne
          go_wp2
          go_quiet (fail)
          go_wp2
          exact ⟨⟨k + 1, by go_num, by omega, _, rfl⟩, by simp [intOf]; omega⟩
        · have hkl' : ¬ (k : Int) < 0 := by omega
          go_wp2_with (go_at_call 14; refine Calls.mono (H5.out _) ?_; rintro e w7 ⟨rfl, hb7⟩; have hB : Below w.heap.size w w7 := bup (by with_reducible (repeat' first | assumption | exact Below.refl _ _ | refine Below.drew ?_ | refine bdrewN ?_ _ | refine Below.setCell ?_ (by first | exact Nat.le_refl _ | (simp; done) | (simp; omega) | omega) _ | refine Below.alloc ?_ (by first | exact Nat.le_refl _ | (simp; done) | (simp; omega) | omega) _)) hb7; have o0 : Own w7 w.heap.size #[.slice p n cap] := Own.keep (by with_reducible (repeat' first | assumption | refine Own.drew ?_ | refine Own.drewN ?_ _ | (refine Own.at ?_; first | rfl | (simp; done)) | refine Own.past ?_ _ | refine Own.aside ?_ (by first | (simp; done) | (simp; omega) | omega) _)) hb7; have c0 := o0.cell; have l0 := o0.lt; have zz := hB.size)
          go_ret
          exact ⟨rfl, hB⟩
  · have e2 : pa0 = some ⟨ga0, 0, none⟩ := by injection e0
    have e3 : ca0 = c0a := by injection e0
    subst e2 e3
    have hev := EV.of_row hr0
    have hg0 : w.heap.size + 1 ≤ ga0 := hg1
    have hcm : ca0 ≤ 9223372036854775807 := by unfold maxLen at hg4; omega
    have hmc2 : (m : Int) ≤ ca0 := by have := HM.out; omega
    clear hr0 e0
    go_wp2
    go_loopw [5] (fun v w' => ∃ i : Nat, v = .int .i64 i ∧ i ≤ ca0 ∧ Below w.heap.size w w' ∧ Own w' w.heap.size #[.slice p n cap] ∧ EV w' ga0 (ca0 * 5)) (fun v _ => ca0 - (intOf v).toNat)
    case atStart => exact ⟨0, rfl, by omega, hB1, oB, hev⟩
    case round =>
      obtain ⟨i, rfl, hi, hBi, oBi, hevi⟩ := hrel
      have cB := oBi.cell
      have lB := oBi.lt
      have zB := hBi.size
      by_cases hlt : i < ca0
      · have hlt' : (i : Int) < ca0 := by omega
        obtain ⟨v0, y0⟩ := hevi.cell (i * 5) (by omega)
        obtain ⟨v1, y1⟩ := hevi.cell (i * 5 + 1) (by omega)
        obtain ⟨v2, y2⟩ := hevi.cell (i * 5 + 2) (by omega)
        obtain ⟨v3, y3⟩ := hevi.cell (i * 5 + 3) (by omega)
        obtain ⟨v4, y4⟩ := hevi.cell (i * 5 + 4) (by omega)
        have fu := hevi.fro
        have lu := hevi.lt
        have q1 : EV (setN wr ga0 (i * 5) [.bool true, .int .i64 0, .int .i64 0, .int .i64 0, .int .i64 0]) ga0 (ca0 * 5) := hevi.put _ _ (by simp; omega)
        have q2 : Own (setN wr ga0 (i * 5) [.bool true, .int .i64 0, .int .i64 0, .int .i64 0, .int .i64 0]) w.heap.size #[.slice p n cap] := oBi.of_block (setN_block ga0 _ _ _ _ (by omega))
        have HQ1 : Hid _ := q1
        have HQ2 : Hid _ := q2
        clear q1 q2
        go_wp2
        exact ⟨⟨i + 1, by go_num, by omega, by with_reducible (repeat' first | assumption | exact Below.refl _ _ | refine Below.drew ?_ | refine bdrewN ?_ _ | refine Below.setCell ?_ (by first | exact Nat.le_refl _ | (simp; done) | (simp; omega) | omega) _ | refine Below.alloc ?_ (by first | exact Nat.le_refl _ | (simp; done) | (simp; omega) | omega) _), HQ2.out, HQ1.out⟩, by simp [intOf]; omega⟩
      · have hlt' : ¬ (i : Int) < ca0 := by omega
        clear hevi
        go_wp2_with (first | (go_at_call 17; refine Calls.mono (H1.out _ (by with_reducible (repeat' first | assumption | exact Below.refl _ _ | refine Below.drew ?_ | refine bdrewN ?_ _ | refine Below.setCell ?_ (by first | exact Nat.le_refl _ | (simp; done) | (simp; omega) | omega) _ | refine Below.alloc ?_ (by first | exact Nat.le_refl _ | (simp; done) | (simp; omega) | omega) _))) ?_; rintro e w3 ⟨pa, ca, rfl, hra, hb3⟩; have hB : Below w.heap.size w w3 := bup (by with_reducible (repeat' first | assumption | exact Below.refl _ _ | refine Below.drew ?_ | refine bdrewN ?_ _ | refine Below.setCell ?_ (by first | exact Nat.le_refl _ | (simp; done) | (simp; omega) | omega) _ | refine Below.alloc ?_ (by first | exact Nat.le_refl _ | (simp; done) | (simp; omega) | omega) _)) hb3; have o0 : Own w3 w.heap.size #[.slice p n cap] := Own.keep (by with_reducible (repeat' first | assumption | refine Own.drew ?_ | refine Own.drewN ?_ _ | (refine Own.at ?_; first | rfl | (simp; done)) | refine Own.past ?_ _ | refine Own.aside ?_ (by first | (simp; done) | (simp; omega) | omega) _)) hb3; have c0 := o0.cell; have l0 := o0.lt; have zz := hB.size) | (go_at_call 18; refine Calls.mono (H2.out _ (by with_reducible (repeat' first | assumption | exact Below.refl _ _ | refine Below.drew ?_ | refine bdrewN ?_ _ | refine Below.setCell ?_ (by first | exact Nat.le_refl _ | (simp; done) | (simp; omega) | omega) _ | refine Below.alloc ?_ (by first | exact Nat.le_refl _ | (simp; done) | (simp; omega) | omega) _))) ?_; rintro e w4 ⟨pb, cb, rfl, hrb, hb4⟩; have hB : Below w.heap.size w w4 := bup (by with_reducible (repeat' first | assumption | exact Below.refl _ _ | refine Below.drew ?_ | refine bdrewN ?_ _ | refine Below.setCell ?_ (by first | exact Nat.le_refl _ | (simp; done) | (simp; omega) | omega) _ | refine Below.alloc ?_ (by first | exact Nat.le_refl _ | (simp; done) | (simp; omega) | omega) _)) hb4; have o0 : Own w4 w.heap.size #[.slice p n cap] := Own.keep (by with_reducible (repeat' first | assumption | refine Own.drew ?_ | refine Own.drewN ?_ _ | (refine Own.at ?_; first | rfl | (simp; done)) | refine Own.past ?_ _ | refine Own.aside ?_ (by first | (simp; done) | (simp; omega) | omega) _)) hb4; have c0 := o0.cell; have l0 := o0.lt; have zz := hB.size; have hra : RRow w4 _ (.slice pa m ca) l := Row.keep (by with_reducible (repeat' first | assumption | refine Row.drew ?_ | refine Row.drewN ?_ _ | refine Row.past ?_ _)) hb4))
        go_loopw [8] (fun v w' => ∃ k : Nat, v = .int .i64 k ∧ k ≤ m ∧ ∃ q, w' = w4.drewN q) (fun v _ => m - (intOf v).toNat)
        case atStart => exact ⟨0, rfl, by omega, 0, rfl⟩
        case round =>
          obtain ⟨k, rfl, hk, q, rfl⟩ := hrel
          by_cases hkl : k < m
          · have hkl' : (k : Int) < m := by omega
            have hne0 : l ≠ [] := fun e => by have := HM.out; rw [e] at this; simp at this; omega
            rcases Row.two Rf.cells_size hra with ⟨e0, e1⟩ | ⟨ga, ca2, e0, ga1, ga2, ga3, ga4, ga5, ga6⟩
            · exact absurd e1 hne0
            rcases Row.two Rf.cells_size hrb with ⟨e3, e4⟩ | ⟨gb, cb2, e3, gb1, gb2, gb3, gb4, gb5, gb6⟩
            · exact absurd e4 hne0
            have e2 : pa = some ⟨ga, 0, none⟩ := by injection e0
            have e5 : pb = some ⟨gb, 0, none⟩ := by injection e3
            subst e2 e5
            have hki : l[k]? = some (l[k]'(by rw [HM.out]; exact hkl)) := List.getElem?_eq_getElem _
            have cx := fun j hj => ga5 k _ hki j hj
            have cy := fun j hj => gb5 k _ hki j hj
            revert cx cy
            generalize (l[k]'(by rw [HM.out]; exact hkl)) = x
            intro cx cy
            clear hki ga5 gb5 ga6 gb6 e0 e3
            have x0 : w4.cell? ⟨ga, k * 5, none⟩ = some (.bool x.many) := cx 0 (by decide)
            have x1 : w4.cell? ⟨ga, k * 5 + 1, none⟩ = some (.int .i64 x.top) := cx 1 (by decide)
            have x2 : w4.cell? ⟨ga, k * 5 + 2, none⟩ = some (.int .i64 x.left) := cx 2 (by decide)
            have x3 : w4.cell? ⟨ga, k * 5 + 3, none⟩ = some (.int .i64 x.bot) := cx 3 (by decide)
            have x4 : w4.cell? ⟨ga, k * 5 + 4, none⟩ = some (.int .i64 x.right) := cx 4 (by decide)
            have y0 : w4.cell? ⟨gb, k * 5, none⟩ = some (.bool x.many) := cy 0 (by decide)
            have y1 : w4.cell? ⟨gb, k * 5 + 1, none⟩ = some (.int .i64 x.top) := cy 1 (by decide)
            have y2 : w4.cell? ⟨gb, k * 5 + 2, none⟩ = some (.int .i64 x.left) := cy 2 (by decide)
            have y3 : w4.cell? ⟨gb, k * 5 + 3, none⟩ = some (.int .i64 x.bot) := cy 3 (by decide)
            have y4 : w4.cell? ⟨gb, k * 5 + 4, none⟩ = some (.int .i64 x.right) := cy 4 (by decide)
            clear cx cy
            have hne := neRf x x
            rw [sameRf_refl] at hne
            go_wp2
            go_quiet (fail)
            go_wp2
            exact ⟨⟨k + 1, by go_num, by omega, _, rfl⟩, by simp [intOf]; omega⟩
          · have hkl' : ¬ (k : Int) < m := by omega
            go_wp2_with (go_at_call 14; refine Calls.mono (H5.out _) ?_; rintro e w7 ⟨rfl, hb7⟩; have hB : Below w.heap.size w w7 := bup (by with_reducible (repeat' first | assumption | exact Below.refl _ _ | refine Below.drew ?_ | refine bdrewN ?_ _ | refine Below.setCell ?_ (by first | exact Nat.le_refl _ | (simp; done) | (simp; omega) | omega) _ | refine Below.alloc ?_ (by first | exact Nat.le_refl _ | (simp; done) | (simp; omega) | omega) _)) hb7; have o0 : Own w7 w.heap.size #[.slice p n cap] := Own.keep (by with_reducible (repeat' first | assumption | refine Own.drew ?_ | refine Own.drewN ?_ _ | (refine Own.at ?_; first | rfl | (simp; done)) | refine Own.past ?_ _ | refine Own.aside ?_ (by first | (simp; done) | (simp; omega) | omega) _)) hb7; have c0 := o0.cell; have l0 := o0.lt; have zz := hB.size)
            go_ret
            exact ⟨rfl, hB⟩
end Go.Proofs.YtcddhpmpihmfdaaDoor
