/- The contract of the document's Same: of any two formulas whether they have the same nodes. New memory alone is made. The condition: lists of at most 2^47 nodes. -/
import Derived.Test.YtekpmdpmcbjkkaaDoorN3
namespace Go.Proofs.YtekpmdpmcbjkkaaDoor
open Go.RowKit
set_option linter.all false
set_option maxRecDepth 100000 in
set_option maxHeartbeats 2000000 in
theorem rsame_any_y (w : World) (ba oa ca bb ob cb n : Nat) (xs ys : List Nd) (hla : ba < w.heap.size) (hlb : bb < w.heap.size)
    (HA : ∀ i x, xs[i]? = some x → ∀ j, j < 15 → w.cell? ⟨ba, oa + i * 15 + j, none⟩ = (Nd.cells x)[j]?) (HB : ∀ i x, ys[i]? = some x → ∀ j, j < 15 → w.cell? ⟨bb, ob + i * 15 + j, none⟩ = (Nd.cells x)[j]?)
    (hxn : xs.length = n) (hyn : ys.length = n) (hca : n ≤ ca) (hcb : n ≤ cb) (h0 : 0 < n) (hl : n ≤ 140737488355328) :
    Calls Tryd.prog 7 #[.agg #[.slice (some ⟨ba, oa, none⟩) n ca], .agg #[.slice (some ⟨bb, ob, none⟩) n cb]] w fun e w' => e = .returned (.bool (sameL xs ys)) ∧ Below w.heap.size w w' := by
  have mixed : Tryd.prog.follows .mixedOrders = true := by kernel_rfl
  have HA' : Hid _ := HA
  have HB' : Hid _ := HB
  have HL : Hid (ys.length = n) := hyn
  have HL2 : Hid (xs.length = n) := hxn
  clear HA HB hxn hyn
  go_enter Tryd.func7, Tryd.ntmps7
  go_wp2
  go_loopw [5] (fun v w' => ∃ i : Nat, v = .int .i64 i ∧ i ≤ n ∧ Hid (xs.take i = ys.take i) ∧ Below w.heap.size w w' ∧ Own w' w.heap.size #[.slice (some ⟨ba, oa, none⟩) n ca] ∧ Own w' (w.heap.size + 1) #[.slice (some ⟨bb, ob, none⟩) n cb]) (fun v _ => n - (intOf v).toNat)
  case atStart => exact ⟨0, rfl, by omega, rfl, by with_reducible (repeat' first | assumption | exact Below.refl _ _ | refine Below.drew ?_ | refine Below.setCell ?_ (by first | exact Nat.le_refl _ | (simp; done) | (simp; omega) | omega) _ | refine Below.alloc ?_ (by first | exact Nat.le_refl _ | (simp; done) | (simp; omega) | omega) _), by with_reducible (repeat' first | assumption | refine Own.drew ?_ | (refine Own.at ?_; first | rfl | (simp; done)) | refine Own.past ?_ _), by with_reducible (repeat' first | assumption | refine Own.drew ?_ | (refine Own.at ?_; first | rfl | (simp; done)) | refine Own.past ?_ _)⟩
  case round =>
    obtain ⟨i, rfl, hi, htk, hB, o0, o1⟩ := hrel
    have c0 := o0.cell
    have c1 := o1.cell
    have l0 := o0.lt
    have l1 := o1.lt
    have HO0 : Hid _ := o0
    have HO1 : Hid _ := o1
    have HBw : Hid _ := hB
    clear o0 o1
    by_cases hlt : i < n
    · have hlt' : (i : Int) < n := by omega
      have hai : xs[i]? = some (xs[i]'(by rw [HL2.out]; exact hlt)) := List.getElem?_eq_getElem _
      have hbi : ys[i]? = some (ys[i]'(by rw [HL.out]; exact hlt)) := List.getElem?_eq_getElem _
      have ca' := fun j hj => (show wr.cell? ⟨ba, oa + i * 15 + j, none⟩ = _ from (hB.cell (p := ⟨ba, oa + i * 15 + j, none⟩) hla).trans (HA'.out i _ hai j hj))
      have cb' := fun j hj => (show wr.cell? ⟨bb, ob + i * 15 + j, none⟩ = _ from (hB.cell (p := ⟨bb, ob + i * 15 + j, none⟩) hlb).trans (HB'.out i _ hbi j hj))
      have HAi : Hid _ := hai
      have HBi : Hid _ := hbi
      revert ca' cb' HAi HBi
      generalize (xs[i]'(by rw [HL2.out]; exact hlt)) = x
      generalize (ys[i]'(by rw [HL.out]; exact hlt)) = y
      intro ca' cb' HAi HBi
      clear hai hbi
      have hne := neN x y
      have x0 : wr.cell? ⟨ba, oa + i * 15, none⟩ = some (.int .i64 x.kind) := ca' 0 (by decide)
      have x1 : wr.cell? ⟨ba, oa + i * 15 + 1, none⟩ = some (.int .i64 x.tag) := ca' 1 (by decide)
      have x2 : wr.cell? ⟨ba, oa + i * 15 + 2, none⟩ = some (.int .i64 x.num) := ca' 2 (by decide)
      have x3 : wr.cell? ⟨ba, oa + i * 15 + 3, none⟩ = some (.string x.str) := ca' 3 (by decide)
      have x4 : wr.cell? ⟨ba, oa + i * 15 + 4, none⟩ = some (.bool x.is) := ca' 4 (by decide)
      have x5 : wr.cell? ⟨ba, oa + i * 15 + 5, none⟩ = some (.int .i64 x.code) := ca' 5 (by decide)
      have x6 : wr.cell? ⟨ba, oa + i * 15 + 6, none⟩ = some (.int .i64 x.row) := ca' 6 (by decide)
      have x7 : wr.cell? ⟨ba, oa + i * 15 + 7, none⟩ = some (.int .i64 x.col) := ca' 7 (by decide)
      have x8 : wr.cell? ⟨ba, oa + i * 15 + 8, none⟩ = some (.int .i64 x.top) := ca' 8 (by decide)
      have x9 : wr.cell? ⟨ba, oa + i * 15 + 9, none⟩ = some (.int .i64 x.left) := ca' 9 (by decide)
      have x10 : wr.cell? ⟨ba, oa + i * 15 + 10, none⟩ = some (.int .i64 x.bot) := ca' 10 (by decide)
      have x11 : wr.cell? ⟨ba, oa + i * 15 + 11, none⟩ = some (.int .i64 x.right) := ca' 11 (by decide)
      have x12 : wr.cell? ⟨ba, oa + i * 15 + 12, none⟩ = some (.int .i64 x.op) := ca' 12 (by decide)
      have x13 : wr.cell? ⟨ba, oa + i * 15 + 13, none⟩ = some (.string x.name) := ca' 13 (by decide)
      have x14 : wr.cell? ⟨ba, oa + i * 15 + 14, none⟩ = some (.int .i64 x.args) := ca' 14 (by decide)
      have y0 : wr.cell? ⟨bb, ob + i * 15, none⟩ = some (.int .i64 y.kind) := cb' 0 (by decide)
      have y1 : wr.cell? ⟨bb, ob + i * 15 + 1, none⟩ = some (.int .i64 y.tag) := cb' 1 (by decide)
      have y2 : wr.cell? ⟨bb, ob + i * 15 + 2, none⟩ = some (.int .i64 y.num) := cb' 2 (by decide)
      have y3 : wr.cell? ⟨bb, ob + i * 15 + 3, none⟩ = some (.string y.str) := cb' 3 (by decide)
      have y4 : wr.cell? ⟨bb, ob + i * 15 + 4, none⟩ = some (.bool y.is) := cb' 4 (by decide)
      have y5 : wr.cell? ⟨bb, ob + i * 15 + 5, none⟩ = some (.int .i64 y.code) := cb' 5 (by decide)
      have y6 : wr.cell? ⟨bb, ob + i * 15 + 6, none⟩ = some (.int .i64 y.row) := cb' 6 (by decide)
      have y7 : wr.cell? ⟨bb, ob + i * 15 + 7, none⟩ = some (.int .i64 y.col) := cb' 7 (by decide)
      have y8 : wr.cell? ⟨bb, ob + i * 15 + 8, none⟩ = some (.int .i64 y.top) := cb' 8 (by decide)
      have y9 : wr.cell? ⟨bb, ob + i * 15 + 9, none⟩ = some (.int .i64 y.left) := cb' 9 (by decide)
      have y10 : wr.cell? ⟨bb, ob + i * 15 + 10, none⟩ = some (.int .i64 y.bot) := cb' 10 (by decide)
      have y11 : wr.cell? ⟨bb, ob + i * 15 + 11, none⟩ = some (.int .i64 y.right) := cb' 11 (by decide)
      have y12 : wr.cell? ⟨bb, ob + i * 15 + 12, none⟩ = some (.int .i64 y.op) := cb' 12 (by decide)
      have y13 : wr.cell? ⟨bb, ob + i * 15 + 13, none⟩ = some (.string y.name) := cb' 13 (by decide)
      have y14 : wr.cell? ⟨bb, ob + i * 15 + 14, none⟩ = some (.int .i64 y.args) := cb' 14 (by decide)
      clear ca' cb'
      cases hs : sameN x y
      · rw [hs] at hne
        have HS : Hid (sameN x y = false) := hs
        clear hs
        go_wp2
        go_quiet (fail)
        go_wp2
        go_ret
        exact ⟨retB (sameL_f (ne_at HAi.out HBi.out HS.out)).symm, bdrewN HBw.out _⟩
      · rw [hs] at hne
        have HS : Hid (sameN x y = true) := hs
        clear hs
        go_wp2
        go_quiet (fail)
        go_wp2
        exact ⟨⟨i + 1, by go_num, by omega, take_more HAi.out HBi.out HS.out htk.out, bdrewN HBw.out _, Own.drewN HO0.out _, Own.drewN HO1.out _⟩, by simp [intOf]; omega⟩
    · have hlt' : ¬ (i : Int) < n := by omega
      go_wp2
      go_ret
      have e : xs = ys := by
        have h := htk.out
        rw [List.take_of_length_le (by rw [HL2.out]; omega), List.take_of_length_le (by rw [HL.out]; omega)] at h
        exact h
      exact ⟨retB (by rw [e, sameL_refl]), HBw.out⟩
set_option maxHeartbeats 1000000 in
theorem rsame_any_e (w : World) (pa pb : Option Addr) (ca cb : Nat) : Calls Tryd.prog 7 #[.agg #[.slice pa 0 ca], .agg #[.slice pb 0 cb]] w fun e w' => e = .returned (.bool true) ∧ Below w.heap.size w w' := by
  go_enter Tryd.func7, Tryd.ntmps7
  go_wp2
  go_loopw [5] (fun v w' => v = .int .i64 0 ∧ Below w.heap.size w w' ∧ Own w' w.heap.size #[.slice pa 0 ca] ∧ Own w' (w.heap.size + 1) #[.slice pb 0 cb]) (fun v _ => 0)
  case atStart => exact ⟨rfl, by with_reducible (repeat' first | assumption | exact Below.refl _ _ | refine Below.drew ?_ | refine Below.setCell ?_ (by first | exact Nat.le_refl _ | (simp; done) | (simp; omega) | omega) _ | refine Below.alloc ?_ (by first | exact Nat.le_refl _ | (simp; done) | (simp; omega) | omega) _), by with_reducible (repeat' first | assumption | refine Own.drew ?_ | (refine Own.at ?_; first | rfl | (simp; done)) | refine Own.past ?_ _), by with_reducible (repeat' first | assumption | refine Own.drew ?_ | (refine Own.at ?_; first | rfl | (simp; done)) | refine Own.past ?_ _)⟩
  case round =>
    obtain ⟨rfl, hB, o0, o1⟩ := hrel
    have c0 := o0.cell
    have c1 := o1.cell
    have l0 := o0.lt
    have l1 := o1.lt
    go_wp2
    go_ret
    exact ⟨rfl, hB⟩
set_option maxHeartbeats 1000000 in
theorem rsame_any_n (w : World) (pa pb : Option Addr) (na nb ca cb : Nat) (hn : ((na : Int) == (nb : Int)) = false) : Calls Tryd.prog 7 #[.agg #[.slice pa na ca], .agg #[.slice pb nb cb]] w fun e w' => e = .returned (.bool false) ∧ Below w.heap.size w w' := by
  have hn2 : ¬ (na : Int) = (nb : Int) := by simpa using hn
  go_enter Tryd.func7, Tryd.ntmps7
  go_wp2
  go_ret
  exact ⟨rfl, by with_reducible (repeat' first | assumption | exact Below.refl _ _ | refine Below.drew ?_ | refine Below.setCell ?_ (by first | exact Nat.le_refl _ | (simp; done) | (simp; omega) | omega) _ | refine Below.alloc ?_ (by first | exact Nat.le_refl _ | (simp; done) | (simp; omega) | omega) _)⟩
theorem rsame_any (w : World) (va vb : Value) (xs ys : List Nd) (ha : NV w va xs) (hb : NV w vb ys) (hl : xs.length ≤ 140737488355328) :
    Calls Tryd.prog 7 #[.agg #[va], .agg #[vb]] w fun e w' => e = .returned (.bool (sameL xs ys)) ∧ Below w.heap.size w w' := by
  obtain ⟨pa, ca, rfl, hca, fa⟩ := ha
  obtain ⟨pb, cb, rfl, hcb, fb⟩ := hb
  by_cases hlen : xs.length = ys.length
  · by_cases h0 : 0 < xs.length
    · obtain ⟨ba, oa, rfl, hla, HA⟩ := fa h0
      obtain ⟨bb, ob, rfl, hlb, HB⟩ := fb (by omega)
      rw [← hlen]
      exact rsame_any_y w ba oa ca bb ob cb xs.length xs ys hla hlb HA HB rfl hlen.symm hca (by omega) h0 hl
    · obtain rfl : xs = [] := List.length_eq_zero_iff.1 (by omega)
      obtain rfl : ys = [] := List.length_eq_zero_iff.1 hlen.symm
      exact rsame_any_e w pa pb ca cb
  · rw [sameL_f (fun e => hlen (by rw [e]))]
    exact rsame_any_n w pa pb xs.length ys.length ca cb (by simpa using (by omega : ¬ (xs.length : Int) = (ys.length : Int)))
set_option maxHeartbeats 1000000 in
theorem same_any (w : World) (va vb : Value) (xs ys : List Nd) (ha : NV w va xs) (hb : NV w vb ys) (hl : xs.length ≤ 140737488355328) :
    Calls Tryd.prog 15 #[.agg #[va], .agg #[vb]] w fun e w' => e = .returned (.bool (sameL xs ys)) ∧ Below w.heap.size w w' := by
  have hE : ∀ w1, Below w.heap.size w w1 → Calls Tryd.prog 19 #[va, vb] w1 fun e w' => e = .returned (.bool (sameL xs ys)) ∧ Below w1.heap.size w1 w' := fun w1 h => equal_any w1 va vb xs ys (ha.keep h) (hb.keep h) hl
  obtain ⟨pa, ca, rfl, -, -⟩ := ha
  obtain ⟨pb, cb, rfl, -, -⟩ := hb
  have HE : Hid _ := hE
  clear hE
  go_enter Tryd.func15, Tryd.ntmps15
  go_wp2_with (go_at_call 19; refine (HE.out _ (by with_reducible (repeat' first | assumption | exact Below.refl _ _ | refine Below.drew ?_ | refine Below.setCell ?_ (by first | exact Nat.le_refl _ | (simp; done) | (simp; omega) | omega) _ | refine Below.alloc ?_ (by first | exact Nat.le_refl _ | (simp; done) | (simp; omega) | omega) _))).mono ?_; rintro e w1 ⟨rfl, hb⟩; have hB : Below w.heap.size w w1 := bup (by with_reducible (repeat' first | assumption | exact Below.refl _ _ | refine Below.drew ?_ | refine Below.setCell ?_ (by first | exact Nat.le_refl _ | (simp; done) | (simp; omega) | omega) _ | refine Below.alloc ?_ (by first | exact Nat.le_refl _ | (simp; done) | (simp; omega) | omega) _)) hb)
  go_ret
  exact ⟨rfl, hB⟩
end Go.Proofs.YtekpmdpmcbjkkaaDoor
