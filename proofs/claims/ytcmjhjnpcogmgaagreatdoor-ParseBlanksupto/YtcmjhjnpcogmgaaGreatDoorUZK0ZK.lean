/- The contract of the laws' own same: whether two formulas are, node by node -/
import Derived.Test.YtcmjhjnpcogmgaaGreatDoorUAuto
import Derived.Test.YtcmjhjnpcogmgaaGreatDoorURfN3RfN5RfN6
import Derived.Test.YtcmjhjnpcogmgaaGreatDoorUShelfMZF
set_option linter.all false
set_option maxRecDepth 100000
set_option maxHeartbeats 4000000
namespace Go.Proofs.YtcmjhjnpcogmgaaGreatDoor.Rf
open Go.RowKit
theorem lsame_any_y (w : World) (ba oa ca bb ob cb n : Nat) (xs ys : List Nd) (hla : ba < w.heap.size) (hlb : bb < w.heap.size)
  (HA : ∀ i x, xs[i]? = some x → ∀ j, j < 15 → w.cell? ⟨ba, oa + i * 15 + j, none⟩ = (Nd.cells x)[j]?) (HB : ∀ i x, ys[i]? = some x → ∀ j, j < 15 → w.cell? ⟨bb, ob + i * 15 + j, none⟩ = (Nd.cells x)[j]?)
  (hxn : xs.length = n) (hyn : ys.length = n) (hca : n ≤ ca) (hcb : n ≤ cb) (h0 : 0 < n) (hl : n ≤ 140737488355328) :
  Calls Tryz.prog 11 #[.agg #[.slice (some ⟨ba, oa, none⟩) n ca], .agg #[.slice (some ⟨bb, ob, none⟩) n cb]] w fun e w' => e = .returned (.bool (sameL xs ys)) ∧ Below w.heap.size w w' := by
 have mixed : Tryz.prog.follows .mixedOrders = true := by kernel_rfl
 have HA' : Hid _ := HA
 have HB' : Hid _ := HB
 have HL : Hid (ys.length = n) := hyn
 have HL2 : Hid (xs.length = n) := hxn
 clear HA HB hxn hyn
 go_enter Tryz.func11, Tryz.ntmps11
 go_wp2
 go_loopw [5] (fun v w' => ∃ i : Nat, v = .int .i64 i ∧ i ≤ n ∧ Hid (xs.take i = ys.take i) ∧ Below w.heap.size w w' ∧ Own w' w.heap.size #[.slice (some ⟨ba, oa, none⟩) n ca] ∧ Own w' (w.heap.size + 1) #[.slice (some ⟨bb, ob, none⟩) n cb]) (fun v _ => n - (intOf v).toNat)
 case atStart => exact ⟨0, rfl, zq17, rfl, zq2, zq5, zq5⟩
 case round =>
  obtain ⟨i, rfl, hi, htk, hB, o0, o1⟩ := hrel
  have c0 := o0.cell
  have c1 := o1.cell
  have l0 := o0.lt
  have l1 := o1.lt
  have HO0 : Hid _ := o0
  have HO1 : Hid _ := o1
  have HBw : Hid _ := hB
  clear o0 o1
  by_cases hlt : i < n
  ·have hlt' : (i : Int) < n := by omega
   have hai : xs[i]? = some (xs[i]'(by rw [HL2.out]; exact hlt)) := List.getElem?_eq_getElem _
   have hbi : ys[i]? = some (ys[i]'(by rw [HL.out]; exact hlt)) := List.getElem?_eq_getElem _
   have ca' := fun j hj => (show wr.cell? ⟨ba, oa + i * 15 + j, none⟩ = _ from (hB.cell (p := ⟨ba, oa + i * 15 + j, none⟩) hla).trans (HA'.out i _ hai j hj))
   have cb' := fun j hj => (show wr.cell? ⟨bb, ob + i * 15 + j, none⟩ = _ from (hB.cell (p := ⟨bb, ob + i * 15 + j, none⟩) hlb).trans (HB'.out i _ hbi j hj))
   have HAi : Hid _ := hai
   have HBi : Hid _ := hbi
   revert ca' cb' HAi HBi
   generalize (xs[i]'(by rw [HL2.out]; exact hlt)) = x
   generalize (ys[i]'(by rw [HL.out]; exact hlt)) = y
   intro ca' cb' HAi HBi
   clear hai hbi
   have hne := neN x y
   have x0 : wr.cell? ⟨ba, oa + i * 15, none⟩ = some (.int .i64 x.kind) := ca' 0 zq16
   have x1 : wr.cell? ⟨ba, oa + i * 15 + 1, none⟩ = some (.int .i64 x.tag) := ca' 1 zq16
   have x2 : wr.cell? ⟨ba, oa + i * 15 + 2, none⟩ = some (.int .i64 x.num) := ca' 2 zq16
   have x3 : wr.cell? ⟨ba, oa + i * 15 + 3, none⟩ = some (.string x.str) := ca' 3 zq16
   have x4 : wr.cell? ⟨ba, oa + i * 15 + 4, none⟩ = some (.bool x.is) := ca' 4 zq16
   have x5 : wr.cell? ⟨ba, oa + i * 15 + 5, none⟩ = some (.int .i64 x.code) := ca' 5 zq16
   have x6 : wr.cell? ⟨ba, oa + i * 15 + 6, none⟩ = some (.int .i64 x.row) := ca' 6 zq16
   have x7 : wr.cell? ⟨ba, oa + i * 15 + 7, none⟩ = some (.int .i64 x.col) := ca' 7 zq16
   have x8 : wr.cell? ⟨ba, oa + i * 15 + 8, none⟩ = some (.int .i64 x.top) := ca' 8 zq16
   have x9 : wr.cell? ⟨ba, oa + i * 15 + 9, none⟩ = some (.int .i64 x.left) := ca' 9 zq16
   have x10 : wr.cell? ⟨ba, oa + i * 15 + 10, none⟩ = some (.int .i64 x.bot) := ca' 10 zq16
   have x11 : wr.cell? ⟨ba, oa + i * 15 + 11, none⟩ = some (.int .i64 x.right) := ca' 11 zq16
   have x12 : wr.cell? ⟨ba, oa + i * 15 + 12, none⟩ = some (.int .i64 x.op) := ca' 12 zq16
   have x13 : wr.cell? ⟨ba, oa + i * 15 + 13, none⟩ = some (.string x.name) := ca' 13 zq16
   have x14 : wr.cell? ⟨ba, oa + i * 15 + 14, none⟩ = some (.int .i64 x.args) := ca' 14 zq16
   have y0 : wr.cell? ⟨bb, ob + i * 15, none⟩ = some (.int .i64 y.kind) := cb' 0 zq16
   have y1 : wr.cell? ⟨bb, ob + i * 15 + 1, none⟩ = some (.int .i64 y.tag) := cb' 1 zq16
   have y2 : wr.cell? ⟨bb, ob + i * 15 + 2, none⟩ = some (.int .i64 y.num) := cb' 2 zq16
   have y3 : wr.cell? ⟨bb, ob + i * 15 + 3, none⟩ = some (.string y.str) := cb' 3 zq16
   have y4 : wr.cell? ⟨bb, ob + i * 15 + 4, none⟩ = some (.bool y.is) := cb' 4 zq16
   have y5 : wr.cell? ⟨bb, ob + i * 15 + 5, none⟩ = some (.int .i64 y.code) := cb' 5 zq16
   have y6 : wr.cell? ⟨bb, ob + i * 15 + 6, none⟩ = some (.int .i64 y.row) := cb' 6 zq16
   have y7 : wr.cell? ⟨bb, ob + i * 15 + 7, none⟩ = some (.int .i64 y.col) := cb' 7 zq16
   have y8 : wr.cell? ⟨bb, ob + i * 15 + 8, none⟩ = some (.int .i64 y.top) := cb' 8 zq16
   have y9 : wr.cell? ⟨bb, ob + i * 15 + 9, none⟩ = some (.int .i64 y.left) := cb' 9 zq16
   have y10 : wr.cell? ⟨bb, ob + i * 15 + 10, none⟩ = some (.int .i64 y.bot) := cb' 10 zq16
   have y11 : wr.cell? ⟨bb, ob + i * 15 + 11, none⟩ = some (.int .i64 y.right) := cb' 11 zq16
   have y12 : wr.cell? ⟨bb, ob + i * 15 + 12, none⟩ = some (.int .i64 y.op) := cb' 12 zq16
   have y13 : wr.cell? ⟨bb, ob + i * 15 + 13, none⟩ = some (.string y.name) := cb' 13 zq16
   have y14 : wr.cell? ⟨bb, ob + i * 15 + 14, none⟩ = some (.int .i64 y.args) := cb' 14 zq16
   clear ca' cb'
   cases hs : sameN x y
   ·rw [hs] at hne
    have HS : Hid (sameN x y = false) := hs
    clear hs
    go_wp2
    go_quiet (fail)
    go_wp2
    go_ret
    exact ⟨retB (sameL_f (ne_at HAi.out HBi.out HS.out)).symm, bdrewN HBw.out _⟩
   ·rw [hs] at hne
    have HS : Hid (sameN x y = true) := hs
    clear hs
    go_wp2
    go_quiet (fail)
    go_wp2
    exact ⟨⟨i + 1, by go_num, zq17, take_more HAi.out HBi.out HS.out htk.out, bdrewN HBw.out _, Own.drewN HO0.out _, Own.drewN HO1.out _⟩, by simp [intOf]; omega⟩
  ·have hlt' : ¬ (i : Int) < n := by omega
   go_wp2
   go_ret
   have e : xs = ys := by
    have h := htk.out
    rw [List.take_of_length_le (by rw [HL2.out]; omega), List.take_of_length_le (by rw [HL.out]; omega)] at h
    exact h
   exact ⟨retB (by rw [e, sameL_refl]), HBw.out⟩
theorem lsame_any_e (w : World) (pa pb : Option Addr) (ca cb : Nat) : Calls Tryz.prog 11 #[.agg #[.slice pa 0 ca], .agg #[.slice pb 0 cb]] w fun e w' => e = .returned (.bool true) ∧ Below w.heap.size w w' := by
 go_enter Tryz.func11, Tryz.ntmps11
 go_wp2
 go_loopw [5] (fun v w' => v = .int .i64 0 ∧ Below w.heap.size w w' ∧ Own w' w.heap.size #[.slice pa 0 ca] ∧ Own w' (w.heap.size + 1) #[.slice pb 0 cb]) (fun v _ => 0)
 case atStart => exact ⟨rfl, zq2, zq5, zq5⟩
 case round =>
  obtain ⟨rfl, hB, o0, o1⟩ := hrel
  have c0 := o0.cell
  have c1 := o1.cell
  have l0 := o0.lt
  have l1 := o1.lt
  go_wp2
  go_ret
  exact ⟨rfl, hB⟩
theorem lsame_any_n (w : World) (pa pb : Option Addr) (na nb ca cb : Nat) (hn : ((na : Int) == (nb : Int)) = false) : Calls Tryz.prog 11 #[.agg #[.slice pa na ca], .agg #[.slice pb nb cb]] w fun e w' => e = .returned (.bool false) ∧ Below w.heap.size w w' := by
 have hn2 : ¬ (na : Int) = (nb : Int) := by simpa using hn
 go_enter Tryz.func11, Tryz.ntmps11
 go_wp2
 go_ret
 exact ⟨rfl, zq2⟩
theorem lsame_any (w : World) (va vb : Value) (xs ys : List Nd) (ha : NV w va xs) (hb : NV w vb ys) (hl : xs.length ≤ 140737488355328) :
  Calls Tryz.prog 11 #[.agg #[va], .agg #[vb]] w fun e w' => e = .returned (.bool (sameL xs ys)) ∧ Below w.heap.size w w' := by
 obtain ⟨pa, ca, rfl, hca, fa⟩ := ha
 obtain ⟨pb, cb, rfl, hcb, fb⟩ := hb
 by_cases hlen : xs.length = ys.length
 ·by_cases h0 : 0 < xs.length
  ·obtain ⟨ba, oa, rfl, hla, HA⟩ := fa h0
   obtain ⟨bb, ob, rfl, hlb, HB⟩ := fb zq17
   rw [← hlen]
   exact lsame_any_y w ba oa ca bb ob cb xs.length xs ys hla hlb HA HB rfl hlen.symm hca zq17 h0 hl
  ·obtain rfl : xs = [] := List.length_eq_zero_iff.1 zq17
   obtain rfl : ys = [] := List.length_eq_zero_iff.1 hlen.symm
   exact lsame_any_e w pa pb ca cb
 ·rw [sameL_f (fun e => hlen (by rw [e]))]
  exact lsame_any_n w pa pb xs.length ys.length ca cb (by simpa using (by omega : ¬ (xs.length : Int) = (ys.length : Int)))
end Go.Proofs.YtcmjhjnpcogmgaaGreatDoor.Rf
namespace Go.Proofs.YtcmjhjnpcogmgaaGreatDoor
open Go.Shelf Go.RowKit
theorem kn1 : readS (knownB []) (takesB []) (toks ⟨#[61, 65, 49, 43, 50]⟩) = .ok [⟨2, 0, 0, ⟨#[]⟩, false, 0, 1, 1, 0, 0, 0, 0, 0, ⟨#[]⟩, 0⟩, ⟨1, 1, 20000, ⟨#[]⟩, false, 0, 0, 0, 0, 0, 0, 0, 0, ⟨#[]⟩, 0⟩, opNd 5] := by kernel_rfl
theorem kn2 : readS (knownB []) (takesB []) (toks ⟨#[61, 49, 43]⟩) = .error (8, 3) := by kernel_rfl
theorem three_row {w : World} {v : Value} {a b c : Rf.Nd} (h : NRow w v [a, b, c]) : ∃ g cap, v = .slice (some ⟨g, 0, none⟩) 3 cap ∧ g < w.heap.size ∧ 3 ≤ cap ∧ w.cell? ⟨g, 6, none⟩ = some (.int .i64 a.row) ∧ w.cell? ⟨g, 7, none⟩ = some (.int .i64 a.col) ∧ w.cell? ⟨g, 42, none⟩ = some (.int .i64 c.op) := by
 rcases Rf.Row.two Nd_cells_size h with ⟨_, e⟩ | ⟨g, cap, e, _, hlt, hc, _, hcs, _⟩
 ·cases e
 ·exact ⟨g, cap, e, hlt, hc, hcs 0 a rfl 6 zq16, hcs 0 a rfl 7 zq16, hcs 2 c rfl 12 zq16⟩
theorem known6_any (w : World) (hS : Sgn w) (hN : Vv.Nam w) (hM : Mx w) : Calls Tryz.prog 12 #[] w fun e w' => e = .returned (.bool true) ∧ Below w.heap.size w w' := by
 have HP1 : Hid (∀ w1 p c, Below w.heap.size w w1 → Calls Tryz.prog 9 #[.string ⟨#[61, 65, 49, 43, 50]⟩, .iface 29 (.slice p 0 c)] w1 (ParseP w1 (readS (knownB []) (takesB []) (toks ⟨#[61, 65, 49, 43, 50]⟩)))) := fun w1 p c hb =>
  prs_any ⟨#[61, 65, 49, 43, 50]⟩ p 0 c [] w1 zq16 (by have := toks_len ⟨#[61, 65, 49, 43, 50]⟩; simp [ByteArray.size] at this; omega) (fun t ht => Nat.le_trans (toks_str ⟨#[61, 65, 49, 43, 50]⟩ t ht) zq16) ⟨_, _, rfl, Nat.zero_le _, fun h => absurd h (by simp)⟩ zq16 (fun x hx => by cases hx) (hS.of (hb.block _ hS.lt)) (hN.stays hb) (hM.stays hb)
 rw [kn1] at HP1
 have HP2 : Hid (∀ w1 p c, Below w.heap.size w w1 → Calls Tryz.prog 9 #[.string ⟨#[61, 49, 43]⟩, .iface 29 (.slice p 0 c)] w1 (ParseP w1 (readS (knownB []) (takesB []) (toks ⟨#[61, 49, 43]⟩)))) := fun w1 p c hb =>
  prs_any ⟨#[61, 49, 43]⟩ p 0 c [] w1 zq16 (by have := toks_len ⟨#[61, 49, 43]⟩; simp [ByteArray.size] at this; omega) (fun t ht => Nat.le_trans (toks_str ⟨#[61, 49, 43]⟩ t ht) zq16) ⟨_, _, rfl, Nat.zero_le _, fun h => absurd h (by simp)⟩ zq16 (fun x hx => by cases hx) (hS.of (hb.block _ hS.lt)) (hN.stays hb) (hM.stays hb)
 rw [kn2] at HP2
 clear hS hN hM
 have heq : ∀ w, (binOp .eql 38 (.agg #[.int .i64 1, .int .i64 1]) (.agg #[.int .i64 1, .int .i64 1])).run Tryz.prog w = .ok (.bool true) w := fun _ => by kernel_rfl
 go_enter Tryz.func12, Tryz.ntmps12
 go_wp2_with (first | (go_at_call 9; refine (HP1.out _ _ _ zq1).mono ?_; clear HP1; rintro e w1 ⟨v1, rfl, hr1, hg1, hb1⟩; obtain ⟨g1, c1, rfl, hl1, hc1, x6, x7, x42⟩ := three_row hr1; clear hr1; have hB1 := bux w zq1 hb1; have hz1 : w.heap.size ≤ w1.heap.size := hB1.size; clear hb1 hg1) | (go_at_call 9; refine (HP2.out _ _ _ zq1).mono ?_; clear HP2; rintro e w2 ⟨rfl, hb2⟩; have hB2 := bux w zq1 hb2; have hz2 := hb2.size; have oF : Own w2 w1.heap.size #[.slice (some ⟨g1, 0, none⟩) 3 c1] := Own.keep zq4 hb2; have cF := oF.cell; have lF := oF.lt; have hA2 : Below w1.heap.size w1 w2 := bup zq1 hb2; have hz3 : w1.heap.size ≤ w2.heap.size := hA2.size; have hz4 : w.heap.size ≤ w2.heap.size := hB2.size; have y6 : ∀ q, (w2.alloc q).cell? ⟨g1, 6, none⟩ = some (.int .i64 1) := fun q => (World.cell?_of_block (Below.heap_alloc w2 _ _ (by show g1 < _; omega))).trans ((hA2.cell (p := ⟨g1, 6, none⟩) hl1).trans x6); have y7 : ∀ q, (w2.alloc q).cell? ⟨g1, 7, none⟩ = some (.int .i64 1) := fun q => (World.cell?_of_block (Below.heap_alloc w2 _ _ (by show g1 < _; omega))).trans ((hA2.cell (p := ⟨g1, 7, none⟩) hl1).trans x7); have y42 : ∀ q, (w2.alloc q).cell? ⟨g1, 42, none⟩ = some (.int .i64 5) := fun q => (World.cell?_of_block (Below.heap_alloc w2 _ _ (by show g1 < _; omega))).trans ((hA2.cell (p := ⟨g1, 42, none⟩) hl1).trans x42); clear hb2 x6 x7 x42))
 go_ret
 exact ⟨rfl, zq1⟩
end Go.Proofs.YtcmjhjnpcogmgaaGreatDoor
