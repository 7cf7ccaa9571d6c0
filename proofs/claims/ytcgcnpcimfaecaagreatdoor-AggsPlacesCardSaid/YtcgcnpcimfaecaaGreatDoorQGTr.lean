/- The contracts of aggs.rectsOf and Takes. New memory alone is made. The contract of dec.Whole, of any int64. Nothing is written. -/
import Derived.Test.YtcgcnpcimfaecaaGreatDoorQGT9
import Derived.Test.YtcgcnpcimfaecaaGreatDoorQNR
import Derived.Test.YtcgcnpcimfaecaaGreatDoorQGI
import Derived.Test.YtcgcnpcimfaecaaGreatDoorQSums
namespace Go.Proofs.YtcgcnpcimfaecaaGreatDoor
open Go.RowKit
set_option linter.all false
def bvA (l : List Bool) : Array Value := (l.map (fun x => Value.bool x)).toArray
def halfB (l : List Ag) (i : Nat) : List Bool := (l.take i).map (·.many) ++ List.replicate (l.length - i) false
theorem halfB_len (l : List Ag) {i : Nat} (h : i ≤ l.length) : (halfB l i).length = l.length := by
  unfold halfB; rw [List.length_append, List.length_map, List.length_take, List.length_replicate]; omega
theorem bv_at (l : List Bool) (i : Nat) : (bvA l)[i]? = (l[i]?).map (fun x => Value.bool x) := by
  unfold bvA; rw [List.getElem?_toArray, List.getElem?_map]
theorem halfB_at (l : List Ag) {i : Nat} (h : i < l.length) : (halfB l i)[i]? = some false := by
  unfold halfB
  rw [List.getElem?_append_right (by rw [List.length_map, List.length_take]; omega), List.length_map, List.length_take, Nat.min_eq_left (by omega), Nat.sub_self, List.getElem?_replicate, if_pos (by omega)]
theorem bv_set0 (L : List Bool) (i : Nat) (x : Bool) (hk : i < (bvA L).size) : (bvA L).set i (.bool x) hk = bvA (L.set i x) := by
  simp [bvA, List.map_set]
theorem bv_set (l : List Ag) {i : Nat} {x : Ag} (h : l[i]? = some x) (hk : i < (bvA (halfB l i)).size) : (bvA (halfB l i)).set i (.bool x.many) hk = bvA (halfB l (i + 1)) := by
  have hi := (List.getElem?_eq_some_iff.1 h).1
  have e : (halfB l i).set i x.many = halfB l (i + 1) := by
    unfold halfB
    rw [List.take_succ, h, List.map_append, List.set_append_right _ _ (by rw [List.length_map, List.length_take]; omega), List.length_map, List.length_take, Nat.min_eq_left (by omega), Nat.sub_self, List.append_assoc]
    congr 1
    rw [show l.length - i = (l.length - (i + 1)) + 1 by omega, List.replicate_succ]
    rfl
  rw [bv_set0, e]
theorem halfB_all {l : List Ag} {i : Nat} (h : l.length = i) : halfB l i = l.map (·.many) := by
  unfold halfB; rw [List.take_of_length_le (by omega), h, Nat.sub_self]; simp
theorem own_at0 {w : World} {g i : Nat} {l : List Ag} (o : Own w g (bvA (halfB l i))) (h : i < l.length) : w.cell? ⟨g, i, none⟩ = some (.bool false) := by
  have e := o.cell i
  rw [bv_at, halfB_at l h] at e
  exact e
theorem made_bvA (l : List Ag) (n : Nat) (hn : l.length = n) : madeCells #[.bool false] (n * 1) = bvA (halfB l 0) := by
  apply Array.ext_getElem?
  intro i
  rw [bv_at]
  unfold madeCells
  rw [Array.getElem?_map, Array.getElem?_range]
  by_cases h : i < n * 1
  · rw [if_pos h]
    unfold halfB
    rw [List.take_zero, List.map_nil, List.nil_append, List.getElem?_replicate, if_pos (by omega)]
    simp [Nat.mod_one]
  · rw [if_neg h]
    unfold halfB
    rw [List.take_zero, List.map_nil, List.nil_append, List.getElem?_replicate, if_neg (by omega)]
    rfl
theorem infoBool : (Tryz.prog.info? 4).map (fun i => (i.zero, i.size, i.bytes)) = some (some (.bool false), 1, 1) := by kernel_rfl
theorem bv_view {w : World} {b : Nat} {l : List Bool} (h : Own w b (bvA l)) (hb : b < w.heap.size) : BV w (.slice (some ⟨b, 0, none⟩) l.length l.length) l := by
  refine ⟨_, _, rfl, Nat.le_refl _, fun _ => ⟨b, 0, rfl, hb, fun i x hi j hj => ?_⟩⟩
  have hj0 : j = 0 := by omega
  subst hj0
  rw [Nat.mul_one, Nat.add_zero, Nat.zero_add, h.cell, bv_at, hi]; rfl
theorem makeB (n : Nat) (hn : n ≤ 1099511627776) (w : World) : (Instr.makeSlice 30 (.int .i64 (n : Int)) (.int .i64 (n : Int))).run Tryz.prog w = .ok (.slice (some ⟨w.heap.size, 0, none⟩) n n) (w.alloc (.cells (madeCells #[.bool false] (n * 1)) 4)) := by
  obtain ⟨i0, hi, hz0, hz1, hz2⟩ := info_parts infoBool
  have h := run_make (P := Tryz.prog) w 30 4 i0 _ Tryz.underlying30 hi hz0 .i64 .i64 n (n : Int) (by omega) (by omega) (by rw [hz2]; omega) (by omega)
  rw [hz1] at h
  have e1 : ((n : Int)).toNat = n := by omega
  rw [e1] at h
  exact h
set_option maxRecDepth 100000 in
set_option maxHeartbeats 1000000 in
theorem rects_y (w : World) (b o c n : Nat) (l : List Ag) (hla : b < w.heap.size) (HA : ∀ i x, l[i]? = some x → ∀ j, j < 11 → w.cell? ⟨b, o + i * 11 + j, none⟩ = (Ag.cells x)[j]?) (hn : l.length = n) (hc : n ≤ c) (h0 : 0 < n) (hl : n ≤ 9223372036854775807) (hN : Hid (Nums l)) (h40 : n ≤ 1099511627776) :
    Calls Tryz.prog 24 #[.slice (some ⟨b, o, none⟩) n c] w fun e w' => (e = .returned (.slice (some ⟨w.heap.size, 0, none⟩) n n) ∧ Own w' w.heap.size (bvA (l.map (·.many)))) ∧ Below w.heap.size w w' := by
  have hmk := makeB n h40
  have hmd := made_bvA l n hn
  rw [Nat.mul_one] at hmd
  have mixed : Tryz.prog.follows .mixedOrders = true := by kernel_rfl
  have HA' : Hid _ := HA
  have HL : Hid (l.length = n) := hn
  clear HA hn
  go_enter Tryz.func24, Tryz.ntmps24
  go_wp2
  go_loopw [11] (fun v w' => ∃ i : Nat, v = .int .i64 i ∧ i ≤ n ∧ Below w.heap.size w w' ∧ Own w' w.heap.size (bvA (halfB l i))) (fun v _ => n - (intOf v).toNat)
  case atStart => exact ⟨0, rfl, by omega, by with_reducible (repeat' first | assumption | exact Below.refl _ _ | refine Below.drew ?_ | refine bdrewN ?_ _ | refine Below.setCell ?_ (by first | exact Nat.le_refl _ | (simp; done) | (simp; omega) | omega) _ | refine Below.alloc ?_ (by first | exact Nat.le_refl _ | (simp; done) | (simp; omega) | omega) _), by with_reducible (repeat' first | assumption | refine Own.drew ?_ | refine Own.drewN ?_ _ | (refine Own.at ?_; first | rfl | (simp; done)) | refine Own.past ?_ _)⟩
  case round =>
    obtain ⟨i, rfl, hi, hB3, o0⟩ := hrel
    have z3 := hB3.size
    have l0 := o0.lt
    clear hmd hmk
    by_cases hlt : i < n
    · have hlt' : (i : Int) < n := by omega
      have hai : l[i]? = some (l[i]'(by rw [HL.out]; exact hlt)) := List.getElem?_eq_getElem _
      have ca' := fun j hj => (show w.cell? ⟨b, o + i * 11 + j, none⟩ = _ from HA'.out i _ hai j hj)
      have hin : I64 (l[i]'(by rw [HL.out]; exact hlt)).n := hN.out _ (List.getElem_mem _)
      have HAi : Hid _ := hai
      revert ca' HAi hin
      generalize (l[i]'(by rw [HL.out]; exact hlt)) = x
      intro ca' hin HAi
      clear hai
      have y0 : w.cell? ⟨b, o + i * 11, none⟩ = some (.bool x.many) := ca' 0 (by decide)
      have y1 : w.cell? ⟨b, o + i * 11 + 1, none⟩ = some (.int .i64 x.t) := ca' 1 (by decide)
      have y2 : w.cell? ⟨b, o + i * 11 + 2, none⟩ = some (.int .i64 x.n) := ca' 2 (by decide)
      have y3 : w.cell? ⟨b, o + i * 11 + 3, none⟩ = some (.string x.s) := ca' 3 (by decide)
      have y4 : w.cell? ⟨b, o + i * 11 + 4, none⟩ = some (.bool x.b) := ca' 4 (by decide)
      have y5 : w.cell? ⟨b, o + i * 11 + 5, none⟩ = some (.int .i64 x.c) := ca' 5 (by decide)
      have y6 : w.cell? ⟨b, o + i * 11 + 6, none⟩ = some (.int .i64 x.r0) := ca' 6 (by decide)
      have y7 : w.cell? ⟨b, o + i * 11 + 7, none⟩ = some (.int .i64 x.r1) := ca' 7 (by decide)
      have y8 : w.cell? ⟨b, o + i * 11 + 8, none⟩ = some (.int .i64 x.r2) := ca' 8 (by decide)
      have y9 : w.cell? ⟨b, o + i * 11 + 9, none⟩ = some (.int .i64 x.r3) := ca' 9 (by decide)
      have y10 : w.cell? ⟨b, o + i * 11 + 10, none⟩ = some (.slice x.ep x.en x.ec) := ca' 10 (by decide)
      clear ca'
      have x0 := (hB3.cell (p := ⟨b, o + i * 11, none⟩) hla).trans y0
      have x1 := (hB3.cell (p := ⟨b, o + i * 11 + 1, none⟩) hla).trans y1
      have x2 := (hB3.cell (p := ⟨b, o + i * 11 + 2, none⟩) hla).trans y2
      have x3 := (hB3.cell (p := ⟨b, o + i * 11 + 3, none⟩) hla).trans y3
      have x4 := (hB3.cell (p := ⟨b, o + i * 11 + 4, none⟩) hla).trans y4
      have x5 := (hB3.cell (p := ⟨b, o + i * 11 + 5, none⟩) hla).trans y5
      have x6 := (hB3.cell (p := ⟨b, o + i * 11 + 6, none⟩) hla).trans y6
      have x7 := (hB3.cell (p := ⟨b, o + i * 11 + 7, none⟩) hla).trans y7
      have x8 := (hB3.cell (p := ⟨b, o + i * 11 + 8, none⟩) hla).trans y8
      have x9 := (hB3.cell (p := ⟨b, o + i * 11 + 9, none⟩) hla).trans y9
      have x10 := (hB3.cell (p := ⟨b, o + i * 11 + 10, none⟩) hla).trans y10
      clear y0 y1 y2 y3 y4 y5 y6 y7 y8 y9 y10
      have o0' : Hid _ := o0
      have q0 := own_at0 o0 (by rw [HL.out]; exact hlt)
      have f0 := o0.fro i
      have hne : ¬ wr.heap.size = w.heap.size := by omega
      have hne2 : ¬ w.heap.size = wr.heap.size := by omega
      clear o0
      go_wp2
      refine ⟨⟨i + 1, by go_num, by omega, by with_reducible (repeat' first | assumption | exact Below.refl _ _ | refine Below.drew ?_ | refine bdrewN ?_ _ | refine Below.setCell ?_ (by first | exact Nat.le_refl _ | (simp; done) | (simp; omega) | omega) _ | refine Below.alloc ?_ (by first | exact Nat.le_refl _ | (simp; done) | (simp; omega) | omega) _), ?_⟩, by simp [intOf]; omega⟩
      have hq := own_put (x := .bool x.many) o0'.out (k := i) (by show i < (bvA (halfB l i)).size; unfold bvA; rw [List.size_toArray, List.length_map, halfB_len l (by rw [HL.out]; omega), HL.out]; exact hlt)
      rw [bv_set l HAi.out] at hq
      exact Own.past hq _
    · have hlt' : ¬ (i : Int) < n := by omega
      have hin : i = n := by omega
      subst hin
      go_wp2
      go_ret
      exact ⟨⟨rfl, by rw [← halfB_all HL.out]; exact o0⟩, by with_reducible (repeat' first | assumption | exact Below.refl _ _ | refine Below.drew ?_ | refine bdrewN ?_ _ | refine Below.setCell ?_ (by first | exact Nat.le_refl _ | (simp; done) | (simp; omega) | omega) _ | refine Below.alloc ?_ (by first | exact Nat.le_refl _ | (simp; done) | (simp; omega) | omega) _)⟩
theorem rects_0 (w : World) (p : Option Addr) (c : Nat) : Calls Tryz.prog 24 #[.slice p 0 c] w fun e w' => e = .returned (.slice (some ⟨w.heap.size, 0, none⟩) 0 0) ∧ Below w.heap.size w w' := by
  have hmk : ∀ w : World, (Instr.makeSlice 30 (.int .i64 0) (.int .i64 0)).run Tryz.prog w = .ok (.slice (some ⟨w.heap.size, 0, none⟩) 0 0) (w.alloc (.cells (madeCells #[.bool false] 0) 4)) := makeB 0 (by decide)
  go_enter Tryz.func24, Tryz.ntmps24
  go_wp2
  go_loopw [11] (fun v w' => v = .int .i64 0 ∧ Below w.heap.size w w') (fun _ _ => 0)
  case atStart => exact ⟨rfl, by with_reducible (repeat' first | assumption | exact Below.refl _ _ | refine Below.drew ?_ | refine bdrewN ?_ _ | refine Below.setCell ?_ (by first | exact Nat.le_refl _ | (simp; done) | (simp; omega) | omega) _ | refine Below.alloc ?_ (by first | exact Nat.le_refl _ | (simp; done) | (simp; omega) | omega) _)⟩
  case round =>
    obtain ⟨rfl, hB3⟩ := hrel
    go_wp2
    go_ret
    exact ⟨rfl, by with_reducible (repeat' first | assumption | exact Below.refl _ _ | refine Below.drew ?_ | refine bdrewN ?_ _ | refine Below.setCell ?_ (by first | exact Nat.le_refl _ | (simp; done) | (simp; omega) | omega) _ | refine Below.alloc ?_ (by first | exact Nat.le_refl _ | (simp; done) | (simp; omega) | omega) _)⟩
theorem rects_any (w : World) (v : Value) (l : List Ag) (h : AV w v l) (hN : Hid (Nums l)) (h40 : l.length ≤ 1099511627776) : Calls Tryz.prog 24 #[v] w fun e w' => (∃ rp rc, e = .returned (.slice rp l.length rc) ∧ Hid (BV w' (.slice rp l.length rc) (l.map (·.many)))) ∧ Below w.heap.size w w' := by
  obtain ⟨p, c, rfl, hc, hf⟩ := h
  by_cases h0 : 0 < l.length
  · obtain ⟨b, o, rfl, hlt, HA⟩ := hf h0
    refine (rects_y w b o c l.length l hlt HA rfl hc h0 (by omega) hN h40).mono ?_
    rintro e w' ⟨⟨rfl, ho⟩, hb⟩
    have q := bv_view ho ho.lt
    rw [List.length_map] at q
    exact ⟨⟨_, _, rfl, q⟩, hb⟩
  · have e : l = [] := List.eq_nil_of_length_eq_zero (by omega)
    subst e
    refine (rects_0 w p c).mono ?_
    rintro e w' ⟨rfl, hb⟩
    exact ⟨⟨_, _, rfl, ⟨_, _, rfl, Nat.le_refl _, fun h => absurd h (by simp)⟩⟩, hb⟩
theorem pl_bd (k : Nat) (h : k < 18) : 0 < (plI k).size ∧ (plI k).size ≤ 16 ∧ moI k ≤ 16 := by
  match k, h with
  | 0, _ => exact ⟨by decide, by decide, by decide⟩
  | 1, _ => exact ⟨by decide, by decide, by decide⟩
  | 2, _ => exact ⟨by decide, by decide, by decide⟩
  | 3, _ => exact ⟨by decide, by decide, by decide⟩
  | 4, _ => exact ⟨by decide, by decide, by decide⟩
  | 5, _ => exact ⟨by decide, by decide, by decide⟩
  | 6, _ => exact ⟨by decide, by decide, by decide⟩
  | 7, _ => exact ⟨by decide, by decide, by decide⟩
  | 8, _ => exact ⟨by decide, by decide, by decide⟩
  | 9, _ => exact ⟨by decide, by decide, by decide⟩
  | 10, _ => exact ⟨by decide, by decide, by decide⟩
  | 11, _ => exact ⟨by decide, by decide, by decide⟩
  | 12, _ => exact ⟨by decide, by decide, by decide⟩
  | 13, _ => exact ⟨by decide, by decide, by decide⟩
  | 14, _ => exact ⟨by decide, by decide, by decide⟩
  | 15, _ => exact ⟨by decide, by decide, by decide⟩
  | 16, _ => exact ⟨by decide, by decide, by decide⟩
  | 17, _ => exact ⟨by decide, by decide, by decide⟩
  | j + 18, h => exact absurd h (by omega)
theorem fv_is (k : Nat) (h : k < 18) (b0 b1 b2 b3 b4 b5 b6 : Nat) : ∃ fp fl, fvI k b0 b1 b2 b3 b4 b5 b6 = .func fp #[] fl := by
  match k, h with
  | 0, _ => exact ⟨_, _, rfl⟩
  | 1, _ => exact ⟨_, _, rfl⟩
  | 2, _ => exact ⟨_, _, rfl⟩
  | 3, _ => exact ⟨_, _, rfl⟩
  | 4, _ => exact ⟨_, _, rfl⟩
  | 5, _ => exact ⟨_, _, rfl⟩
  | 6, _ => exact ⟨_, _, rfl⟩
  | 7, _ => exact ⟨_, _, rfl⟩
  | 8, _ => exact ⟨_, _, rfl⟩
  | 9, _ => exact ⟨_, _, rfl⟩
  | 10, _ => exact ⟨_, _, rfl⟩
  | 11, _ => exact ⟨_, _, rfl⟩
  | 12, _ => exact ⟨_, _, rfl⟩
  | 13, _ => exact ⟨_, _, rfl⟩
  | 14, _ => exact ⟨_, _, rfl⟩
  | 15, _ => exact ⟨_, _, rfl⟩
  | 16, _ => exact ⟨_, _, rfl⟩
  | 17, _ => exact ⟨_, _, rfl⟩
  | j + 18, h => exact absurd h (by omega)
theorem takes_no (s : ByteArray) (w : World) (v : Value) (h : ¬ nmI s < 18) : Calls Tryz.prog 14 #[.string s, v] w fun e w' => e = .returned (.bool false) ∧ Below w.heap.size w w' := by
  go_enter Tryz.func14, Tryz.ntmps14
  go_wp2_with (go_at_call 22; refine (find_no _ _ h).mono ?_; rintro e w1 ⟨rfl, hb⟩; have hB : Below w.heap.size w w1 := bup (by with_reducible (repeat' first | assumption | exact Below.refl _ _ | refine Below.drew ?_ | refine bdrewN ?_ _ | refine Below.setCell ?_ (by first | exact Nat.le_refl _ | (simp; done) | (simp; omega) | omega) _ | refine Below.alloc ?_ (by first | exact Nat.le_refl _ | (simp; done) | (simp; omega) | omega) _)) hb; have z1 := hB.size)
  go_ret
  exact ⟨rfl, by with_reducible (repeat' first | assumption | exact Below.refl _ _ | refine Below.drew ?_ | refine bdrewN ?_ _ | refine Below.setCell ?_ (by first | exact Nat.le_refl _ | (simp; done) | (simp; omega) | omega) _ | refine Below.alloc ?_ (by first | exact Nat.le_refl _ | (simp; done) | (simp; omega) | omega) _)⟩
theorem takes_yes (s : ByteArray) (w : World) (v : Value) (l : List Bool) (hv : BV w v l) (h : nmI s < 18) : Calls Tryz.prog 14 #[.string s, v] w fun e w' => e = .returned (.bool (takB (plI (nmI s)) (moI (nmI s)) l)) ∧ Below w.heap.size w w' := by
  have hf := find_any s
  have hbd := pl_bd _ h
  have hfv := fv_is _ h
  unfold FndP at hf
  generalize plI (nmI s) = p at *
  generalize moI (nmI s) = mo at *
  generalize stI (nmI s) = st at *
  generalize fvI (nmI s) = F at *
  go_enter Tryz.func14, Tryz.ntmps14
  go_wp2_with (first | (go_at_call 22; refine (hf _ h).mono ?_; rintro e w1 ⟨⟨b0, b1, b2, b3, b4, b5, b6, rfl, hT⟩, hb⟩; have hB : Below w.heap.size w w1 := bup (by with_reducible (repeat' first | assumption | exact Below.refl _ _ | refine Below.drew ?_ | refine bdrewN ?_ _ | refine Below.setCell ?_ (by first | exact Nat.le_refl _ | (simp; done) | (simp; omega) | omega) _ | refine Below.alloc ?_ (by first | exact Nat.le_refl _ | (simp; done) | (simp; omega) | omega) _)) hb; have z1 := hB.size; have hv1 := hv.keep hB; obtain ⟨fp, fl, hfe⟩ := hfv b0 b1 b2 b3 b4 b5 b6; rw [hfe]; clear hfe) | (go_at_call 23; refine (takes_any _ _ _ _ _ _ _ _ _ (hv1.keep (bal _ _)) hbd.1 hbd.2.1 hbd.2.2).mono ?_; rintro e w1 ⟨rfl, hb⟩; have hB2 : Below w.heap.size w w1 := bup (by with_reducible (repeat' first | assumption | exact Below.refl _ _ | refine Below.drew ?_ | refine bdrewN ?_ _ | refine Below.setCell ?_ (by first | exact Nat.le_refl _ | (simp; done) | (simp; omega) | omega) _ | refine Below.alloc ?_ (by first | exact Nat.le_refl _ | (simp; done) | (simp; omega) | omega) _)) hb))
  go_ret
  exact ⟨rfl, by with_reducible (repeat' first | assumption | exact Below.refl _ _ | refine Below.drew ?_ | refine bdrewN ?_ _ | refine Below.setCell ?_ (by first | exact Nat.le_refl _ | (simp; done) | (simp; omega) | omega) _ | refine Below.alloc ?_ (by first | exact Nat.le_refl _ | (simp; done) | (simp; omega) | omega) _)⟩
end Go.Proofs.YtcgcnpcimfaecaaGreatDoor
namespace Go.Proofs.YtcgcnpcimfaecaaGreatDoor
open Go.RowKit
set_option linter.unusedVariables false
def wholeOk (x : Int) : Bool := mayOk x && decide (x.tmod 10000 = 0)
def okV (ok : Bool) (x : Int) : Int := if ok then x else 0
theorem okV_t {o : Bool} {x : Int} (h : o = true) : okV o x = x := by simp [okV, h]
theorem okV_f {o : Bool} {x : Int} (h : o = false) : okV o x = 0 := by simp [okV, h]
theorem tmod_bd (a b : Int) (hb : b ≠ 0) : (a.tmod b).natAbs < b.natAbs := by
  rw [Int.natAbs_tmod]; exact Nat.mod_lt _ (by omega)
theorem whole_min (x : Int) (w : World) (hx : x = -9223372036854775808) : Calls Tryz.prog 103 #[.int .i64 x] w fun e w' => e = .returned (.tuple #[.int .i64 0, .bool false]) ∧ w' = w := by
  go_enter Tryz.func103, Tryz.ntmps103
  go_wp2_with (go_at_call 141; refine (may_f _ _ (by omega)).mono ?_; rintro e w' ⟨rfl, rfl⟩)
  go_ret2
  exact ⟨rfl, rfl⟩
theorem whole_no (x : Int) (w : World) (hx1 : -9223372036854775807 ≤ x) (hx2 : x ≤ 9223372036854775807) (hr : x.tmod 10000 ≠ 0) : Calls Tryz.prog 103 #[.int .i64 x] w fun e w' => e = .returned (.tuple #[.int .i64 0, .bool false]) ∧ w' = w := by
  have hb : (x.tmod 10000).natAbs < 10000 := tmod_bd x 10000 (by decide)
  generalize hg : x.tmod 10000 = r at *
  have hw : wrap64 r = r := by unfold wrap64; omega
  have hz : (r != 0) = true := by simp; omega
  go_enter Tryz.func103, Tryz.ntmps103
  go_wp2_with (go_at_call 141; refine (may_t _ _ (by omega)).mono ?_; rintro e w' ⟨rfl, rfl⟩)
  go_ret2
  exact ⟨rfl, rfl⟩
theorem whole_yes (x q : Int) (w : World) (hx1 : -9223372036854775807 ≤ x) (hx2 : x ≤ 9223372036854775807) (hr : x.tmod 10000 = 0) (hq : x.tdiv 10000 = q) (hq1 : -9223372036854775807 ≤ q) (hq2 : q ≤ 9223372036854775807) : Calls Tryz.prog 103 #[.int .i64 x] w fun e w' => e = .returned (.tuple #[.int .i64 q, .bool true]) ∧ w' = w := by
  have hw : wrap64 q = q := by unfold wrap64; omega
  have hw0 : wrap64 0 = 0 := by unfold wrap64; omega
  go_enter Tryz.func103, Tryz.ntmps103
  go_wp2_with (go_at_call 141; refine (may_t _ _ (by omega)).mono ?_; rintro e w' ⟨rfl, rfl⟩)
  go_ret2
  exact ⟨rfl, rfl⟩
theorem whole_any (x : Int) (w : World) (hx : I64 x) : Calls Tryz.prog 103 #[.int .i64 x] w fun e w' => e = .returned (.tuple #[.int .i64 (okV (wholeOk x) (x.tdiv 10000)), .bool (wholeOk x)]) ∧ w' = w := by
  obtain ⟨hx1, hx2⟩ := hx
  by_cases hm : x = -9223372036854775808
  · have ok : wholeOk x = false := by unfold wholeOk; rw [mayOk_f hm]; rfl
    rw [okV_f ok, ok]; exact whole_min x w hm
  have hx3 : -9223372036854775807 ≤ x := by omega
  by_cases hr : x.tmod 10000 = 0
  · have ok : wholeOk x = true := by unfold wholeOk; rw [mayOk_t hx3, hr]; rfl
    rw [okV_t ok, ok]
    have hb : (x.tdiv 10000).natAbs = x.natAbs / 10000 := Int.natAbs_tdiv x 10000
    exact whole_yes x _ w hx3 hx2 hr rfl (by omega) (by omega)
  · have ok : wholeOk x = false := by unfold wholeOk; rw [decide_eq_false hr]; simp
    rw [okV_f ok, ok]; exact whole_no x w hx3 hx2 hr
end Go.Proofs.YtcgcnpcimfaecaaGreatDoor
