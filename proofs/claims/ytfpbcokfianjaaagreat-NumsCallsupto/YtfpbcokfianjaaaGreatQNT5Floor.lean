/- The contract of nums.asNumbers: arguments taken for numbers, or the first code that comes of it. New memory alone is made. The condition: one to 16 arguments, whose numbers fit. · The contract of dec.Floor, of any int64. Nothing is written. -/
import Derived.Test.YtfpbcokfianjaaaGreatQNT4V3
import Derived.Test.YtfpbcokfianjaaaGreatQV4VA
import Derived.Laws.OwnMore
import Derived.Laws.MakeOwn
import Derived.Test.YtfpbcokfianjaaaGreatQShelfASums
namespace Go.Proofs.YtfpbcokfianjaaaGreat
open Go.RowKit
set_option linter.all false
def asN (a : Ag) : Int := asNum a.t a.n a.s a.b a.c
def asC (a : Ag) : Int := asCode a.t a.n a.s a.b a.c
/-- The first code that comes of taking them. -/
def firstC : List Ag → Int
  | [] => 0
  | a :: l => if asC a = 0 then firstC l else asC a
def nv (l : List Int) : Array Value := (l.map (fun x => Value.int .i64 x)).toArray
def halfI (l : List Ag) (i : Nat) : List Int := (l.take i).map asN ++ List.replicate (l.length - i) 0
theorem halfI_len (l : List Ag) {i : Nat} (h : i ≤ l.length) : (halfI l i).length = l.length := by
  unfold halfI; rw [List.length_append, List.length_map, List.length_take, List.length_replicate]; omega
theorem nv_at (l : List Int) (i : Nat) : (nv l)[i]? = (l[i]?).map (fun x => Value.int .i64 x) := by
  unfold nv; rw [List.getElem?_toArray, List.getElem?_map]
theorem halfI_at (l : List Ag) {i : Nat} (h : i < l.length) : (halfI l i)[i]? = some 0 := by
  unfold halfI
  rw [List.getElem?_append_right (by rw [List.length_map, List.length_take]; omega), List.length_map, List.length_take, Nat.min_eq_left (by omega), Nat.sub_self, List.getElem?_replicate, if_pos (by omega)]
theorem nv_set0 (L : List Int) (i : Nat) (x : Int) (hk : i < (nv L).size) : (nv L).set i (.int .i64 x) hk = nv (L.set i x) := by
  simp [nv, List.map_set]
theorem nv_set (l : List Ag) {i : Nat} {x : Ag} (h : l[i]? = some x) (hk : i < (nv (halfI l i)).size) : (nv (halfI l i)).set i (.int .i64 (asN x)) hk = nv (halfI l (i + 1)) := by
  have hi := (List.getElem?_eq_some_iff.1 h).1
  have e : (halfI l i).set i (asN x) = halfI l (i + 1) := by
    unfold halfI
    rw [List.take_succ, h, List.map_append, List.set_append_right _ _ (by rw [List.length_map, List.length_take]; omega), List.length_map, List.length_take, Nat.min_eq_left (by omega), Nat.sub_self, List.append_assoc]
    congr 1
    rw [show l.length - i = (l.length - (i + 1)) + 1 by omega, List.replicate_succ]
    rfl
  rw [nv_set0, e]
theorem firstC_take {l : List Ag} {i : Nat} {x : Ag} (h : l[i]? = some x) (h1 : ∀ a ∈ l.take i, asC a = 0) (h2 : asC x = 0) : ∀ a ∈ l.take (i + 1), asC a = 0 := by
  intro a ha
  rw [List.take_succ, h] at ha
  rcases List.mem_append.1 ha with q | q
  · exact h1 a q
  · simp at q; rw [q]; exact h2
theorem firstC_app : ∀ {l m : List Ag}, (∀ a ∈ l, asC a = 0) → firstC (l ++ m) = firstC m
  | [], _, _ => rfl
  | a :: l, m, h => by
    show (if asC a = 0 then firstC (l ++ m) else asC a) = _
    rw [if_pos (h a (List.mem_cons_self ..)), firstC_app (fun x hx => h x (List.mem_cons_of_mem _ hx))]
theorem firstC_at {l : List Ag} {i : Nat} {x : Ag} (h : l[i]? = some x) (h1 : ∀ a ∈ l.take i, asC a = 0) (h2 : ¬ asC x = 0) : firstC l = asC x := by
  have e : l = l.take i ++ x :: l.drop (i + 1) := by
    obtain ⟨hi, rfl⟩ := List.getElem?_eq_some_iff.1 h
    rw [List.getElem_cons_drop, List.take_append_drop]
  rw [e, firstC_app h1]
  exact if_neg h2
theorem firstC_all {l : List Ag} {i : Nat} (h : l.length ≤ i) (h1 : ∀ a ∈ l.take i, asC a = 0) : firstC l = 0 := by
  rw [List.take_of_length_le h] at h1
  have := firstC_app (m := []) h1
  rwa [List.append_nil] at this
theorem halfI_all {l : List Ag} {i : Nat} (h : l.length = i) : halfI l i = l.map asN := by
  unfold halfI; rw [List.take_of_length_le (by omega), h, Nat.sub_self]; simp
theorem own_put {W : World} {b k : Nat} {A : Array Value} {x : Value} (h : Own W b A) (hk : k < A.size) : Own (W.setCell ⟨b, k, none⟩ x) b (A.set k x hk) := by
  refine ⟨by simpa [World.setCell] using h.lt, fun o => ?_, fun o => by rw [World.frozen?_setCell]; exact h.fro o⟩
  by_cases ho : o = k
  · subst ho
    rw [World.cell?_setCell_same' _ _ _ (by rw [h.cell, Array.getElem?_eq_getElem hk]; rfl)]
    simp
  · rw [World.cell?_setCell_other _ _ _ _ (by intro hh; exact ho (by simpa using (congrArg Addr.off hh).symm)), h.cell, Array.getElem?_set]
    rw [if_neg (fun e => ho e.symm)]
theorem own_at0 {w : World} {g i : Nat} {l : List Ag} (o : Own w g (nv (halfI l i))) (h : i < l.length) : w.cell? ⟨g, i, none⟩ = some (.int .i64 0) := by
  have e := o.cell i
  rw [nv_at, halfI_at l h] at e
  exact e
theorem infoI64 : (Tryz.prog.info? 2).map (fun i => (i.zero, i.size, i.bytes)) = some (some (.int .i64 0), 1, 8) := by kernel_rfl
theorem made_nv (l : List Ag) (n : Nat) (hn : l.length = n) : madeCells #[.int .i64 0] (n * 1) = nv (halfI l 0) := by
  apply Array.ext_getElem?
  intro i
  rw [nv_at]
  unfold madeCells
  rw [Array.getElem?_map, Array.getElem?_range]
  by_cases h : i < n * 1
  · rw [if_pos h]
    unfold halfI
    rw [List.take_zero, List.map_nil, List.nil_append, List.getElem?_replicate, if_pos (by omega)]
    simp [Nat.mod_one]
  · rw [if_neg h]
    unfold halfI
    rw [List.take_zero, List.map_nil, List.nil_append, List.getElem?_replicate, if_neg (by omega)]
    rfl
set_option maxRecDepth 100000 in
set_option maxHeartbeats 4000000 in
theorem asn_y (w : World) (b o c n : Nat) (l : List Ag) (hla : b < w.heap.size) (HA : ∀ i x, l[i]? = some x → ∀ j, j < 11 → w.cell? ⟨b, o + i * 11 + j, none⟩ = (Ag.cells x)[j]?) (hn : l.length = n) (hc : n ≤ c) (h0 : 0 < n) (hl : n ≤ 9223372036854775807) (hN : Hid (Nums l)) (h16 : n ≤ 16) :
    Calls Tryz.prog 11 #[.slice (some ⟨b, o, none⟩) n c] w fun e w' => ((firstC l = 0 ∧ e = .returned (.tuple #[.slice (some ⟨w.heap.size, 0, none⟩) n n, .int .i64 0]) ∧ Own w' w.heap.size (nv (l.map asN))) ∨ (¬ firstC l = 0 ∧ e = .returned (.tuple #[.slice none 0 0, .int .i64 (firstC l)]))) ∧ Below w.heap.size w w' := by
  have hmk : ∀ w : World, (Instr.makeSlice 41 (.int .i64 (n : Int)) (.int .i64 (n : Int))).run Tryz.prog w = .ok (.slice (some ⟨w.heap.size, 0, none⟩) n n) (w.alloc (.cells (madeCells #[.int .i64 0] (n * 1)) 2)) := fun w => by
    obtain ⟨i0, hi, hz0, hz1, hz2⟩ := info_parts infoI64
    have h := run_make (P := Tryz.prog) w 41 2 i0 _ Tryz.underlying41 hi hz0 .i64 .i64 n (n : Int) (by omega) (by omega) (by rw [hz2]; omega) (by omega)
    rw [hz1] at h
    have e1 : ((n : Int)).toNat = n := by omega
    rw [e1] at h
    exact h
  have hmd := made_nv l n hn
  rw [Nat.mul_one] at hmd
  have mixed : Tryz.prog.follows .mixedOrders = true := by kernel_rfl
  have HA' : Hid _ := HA
  have HL : Hid (l.length = n) := hn
  clear HA hn
  go_enter Tryz.func11, Tryz.ntmps11
  go_wp2
  go_loopw [14] (fun v w' => ∃ i : Nat, v = .int .i64 i ∧ i ≤ n ∧ Hid (∀ a ∈ l.take i, asC a = 0) ∧ Below w.heap.size w w' ∧ Own w' w.heap.size (nv (halfI l i))) (fun v _ => n - (intOf v).toNat)
  case atStart => exact ⟨0, rfl, by omega, (show Hid _ from fun a ha => by simp at ha), by with_reducible (repeat' first | assumption | exact Below.refl _ _ | refine Below.drew ?_ | refine bdrewN ?_ _ | refine Below.setCell ?_ (by first | exact Nat.le_refl _ | (simp; done) | (simp; omega) | omega) _ | refine Below.alloc ?_ (by first | exact Nat.le_refl _ | (simp; done) | (simp; omega) | omega) _), by with_reducible (repeat' first | assumption | refine Own.drew ?_ | refine Own.drewN ?_ _ | (refine Own.at ?_; first | rfl | (simp; done)) | refine Own.past ?_ _)⟩
  case round =>
    obtain ⟨i, rfl, hi, htk, hB3, o0⟩ := hrel
    have z3 := hB3.size
    have l0 := o0.lt
    clear hmd
    by_cases hlt : i < n
    · have hlt' : (i : Int) < n := by omega
      have hai : l[i]? = some (l[i]'(by rw [HL.out]; exact hlt)) := List.getElem?_eq_getElem _
      have ca' := fun j hj => (show w.cell? ⟨b, o + i * 11 + j, none⟩ = _ from HA'.out i _ hai j hj)
      have hin : I64 (l[i]'(by rw [HL.out]; exact hlt)).n := hN.out _ (List.getElem_mem _)
      have HAi : Hid _ := hai
      revert ca' HAi hin
      generalize (l[i]'(by rw [HL.out]; exact hlt)) = x
      intro ca' hin HAi
      clear hai
      have y0 : w.cell? ⟨b, o + i * 11, none⟩ = some (.bool x.many) := ca' 0 (by decide)
      have y1 : w.cell? ⟨b, o + i * 11 + 1, none⟩ = some (.int .i64 x.t) := ca' 1 (by decide)
      have y2 : w.cell? ⟨b, o + i * 11 + 2, none⟩ = some (.int .i64 x.n) := ca' 2 (by decide)
      have y3 : w.cell? ⟨b, o + i * 11 + 3, none⟩ = some (.string x.s) := ca' 3 (by decide)
      have y4 : w.cell? ⟨b, o + i * 11 + 4, none⟩ = some (.bool x.b) := ca' 4 (by decide)
      have y5 : w.cell? ⟨b, o + i * 11 + 5, none⟩ = some (.int .i64 x.c) := ca' 5 (by decide)
      have y6 : w.cell? ⟨b, o + i * 11 + 6, none⟩ = some (.int .i64 x.r0) := ca' 6 (by decide)
      have y7 : w.cell? ⟨b, o + i * 11 + 7, none⟩ = some (.int .i64 x.r1) := ca' 7 (by decide)
      have y8 : w.cell? ⟨b, o + i * 11 + 8, none⟩ = some (.int .i64 x.r2) := ca' 8 (by decide)
      have y9 : w.cell? ⟨b, o + i * 11 + 9, none⟩ = some (.int .i64 x.r3) := ca' 9 (by decide)
      have y10 : w.cell? ⟨b, o + i * 11 + 10, none⟩ = some (.slice x.ep x.en x.ec) := ca' 10 (by decide)
      clear ca'
      have x0 := (hB3.cell (p := ⟨b, o + i * 11, none⟩) hla).trans y0
      have x1 := (hB3.cell (p := ⟨b, o + i * 11 + 1, none⟩) hla).trans y1
      have x2 := (hB3.cell (p := ⟨b, o + i * 11 + 2, none⟩) hla).trans y2
      have x3 := (hB3.cell (p := ⟨b, o + i * 11 + 3, none⟩) hla).trans y3
      have x4 := (hB3.cell (p := ⟨b, o + i * 11 + 4, none⟩) hla).trans y4
      have x5 := (hB3.cell (p := ⟨b, o + i * 11 + 5, none⟩) hla).trans y5
      have x6 := (hB3.cell (p := ⟨b, o + i * 11 + 6, none⟩) hla).trans y6
      have x7 := (hB3.cell (p := ⟨b, o + i * 11 + 7, none⟩) hla).trans y7
      have x8 := (hB3.cell (p := ⟨b, o + i * 11 + 8, none⟩) hla).trans y8
      have x9 := (hB3.cell (p := ⟨b, o + i * 11 + 9, none⟩) hla).trans y9
      have x10 := (hB3.cell (p := ⟨b, o + i * 11 + 10, none⟩) hla).trans y10
      clear y0 y1 y2 y3 y4 y5 y6 y7 y8 y9 y10
      by_cases hs : asC x = 0
      · have HS : Hid (asC x = 0) := hs
        unfold asC at hs
        go_wp2_with (go_at_call 30; refine (aNumberV _ _ _ _ _ _ hin).mono ?_; rintro e w1 ⟨rfl, hb⟩; have hB1 : Below w.heap.size w w1 := bup (by with_reducible (repeat' first | assumption | exact Below.refl _ _ | refine Below.drew ?_ | refine bdrewN ?_ _ | refine Below.setCell ?_ (by first | exact Nat.le_refl _ | (simp; done) | (simp; omega) | omega) _ | refine Below.alloc ?_ (by first | exact Nat.le_refl _ | (simp; done) | (simp; omega) | omega) _)) hb; have o0 : Own w1 w.heap.size (nv (halfI l i)) := Own.keep (by with_reducible (repeat' first | assumption | refine Own.drew ?_ | refine Own.drewN ?_ _ | (refine Own.at ?_; first | rfl | (simp; done)) | refine Own.past ?_ _)) hb; have c0 := own_at0 o0 (by rw [HL.out]; exact hlt); have f0 := o0.fro i; have o0' : Hid _ := o0; clear o0; have z1 := hB1.size; rw [hs])
        refine ⟨⟨i + 1, by go_num, by omega, firstC_take HAi.out htk.out HS.out, by with_reducible (repeat' first | assumption | exact Below.refl _ _ | refine Below.drew ?_ | refine bdrewN ?_ _ | refine Below.setCell ?_ (by first | exact Nat.le_refl _ | (simp; done) | (simp; omega) | omega) _ | refine Below.alloc ?_ (by first | exact Nat.le_refl _ | (simp; done) | (simp; omega) | omega) _), ?_⟩, by simp [intOf]; omega⟩
        have hq := own_put (x := .int .i64 (asN x)) o0'.out (k := i) (by show i < (nv (halfI l i)).size; unfold nv; rw [List.size_toArray, List.length_map, halfI_len l (by rw [HL.out]; omega), HL.out]; exact hlt)
        rw [nv_set l HAi.out] at hq
        exact hq
      · have HS : Hid (¬ asC x = 0) := hs
        have hs2 : (asCode x.t x.n x.s x.b x.c != 0) = true := by simpa [asC] using hs
        clear hs
        go_wp2_with (go_at_call 30; refine (aNumberV _ _ _ _ _ _ hin).mono ?_; rintro e w1 ⟨rfl, hb⟩; have hB1 : Below w.heap.size w w1 := bup (by with_reducible (repeat' first | assumption | exact Below.refl _ _ | refine Below.drew ?_ | refine bdrewN ?_ _ | refine Below.setCell ?_ (by first | exact Nat.le_refl _ | (simp; done) | (simp; omega) | omega) _ | refine Below.alloc ?_ (by first | exact Nat.le_refl _ | (simp; done) | (simp; omega) | omega) _)) hb; have o0 : Own w1 w.heap.size (nv (halfI l i)) := Own.keep (by with_reducible (repeat' first | assumption | refine Own.drew ?_ | refine Own.drewN ?_ _ | (refine Own.at ?_; first | rfl | (simp; done)) | refine Own.past ?_ _)) hb; have c0 := own_at0 o0 (by rw [HL.out]; exact hlt); have f0 := o0.fro i; have o0' : Hid _ := o0; clear o0; have z1 := hB1.size; skip)
        go_ret2
        exact ⟨.inr ⟨by rw [firstC_at HAi.out htk.out HS.out]; exact HS.out, by rw [firstC_at HAi.out htk.out HS.out]; rfl⟩, by with_reducible (repeat' first | assumption | exact Below.refl _ _ | refine Below.drew ?_ | refine bdrewN ?_ _ | refine Below.setCell ?_ (by first | exact Nat.le_refl _ | (simp; done) | (simp; omega) | omega) _ | refine Below.alloc ?_ (by first | exact Nat.le_refl _ | (simp; done) | (simp; omega) | omega) _)⟩
    · have hlt' : ¬ (i : Int) < n := by omega
      have hin : i = n := by omega
      subst hin
      go_wp2
      go_ret2
      exact ⟨.inl ⟨firstC_all (by rw [HL.out]; omega) htk.out, rfl, by rw [← halfI_all HL.out]; exact o0⟩, by with_reducible (repeat' first | assumption | exact Below.refl _ _ | refine Below.drew ?_ | refine bdrewN ?_ _ | refine Below.setCell ?_ (by first | exact Nat.le_refl _ | (simp; done) | (simp; omega) | omega) _ | refine Below.alloc ?_ (by first | exact Nat.le_refl _ | (simp; done) | (simp; omega) | omega) _)⟩
end Go.Proofs.YtfpbcokfianjaaaGreat
namespace Go.Proofs.YtfpbcokfianjaaaGreat
open Go.Shelf Go.RowKit
set_option linter.unusedVariables false
/-- The whole number below may be; a number is whole. -/
def floorOk (x : Int) : Bool := mayOk x && subOk x (x % 10000)
def wholeOk (x : Int) : Bool := mayOk x && decide (x.tmod 10000 = 0)
theorem floor_min (x : Int) (w : World) (hx : x = -9223372036854775808) : Calls Tryz.prog 87 #[.int .i64 x] w fun e w' => e = .returned (.tuple #[.int .i64 0, .int .i64 2]) ∧ w' = w := by
  go_enter Tryz.func87, Tryz.ntmps87
  go_wp2_with (go_at_call 109; refine (may_f _ _ (by omega)).mono ?_; rintro e w' ⟨rfl, rfl⟩)
  go_ret2
  exact ⟨rfl, rfl⟩
theorem floor_p (x : Int) (w : World) (hx1 : -9223372036854775807 ≤ x) (hx2 : x ≤ 9223372036854775807) (hr : 0 ≤ x.tmod 10000) (hr2 : x.tmod 10000 < 10000) : Calls Tryz.prog 87 #[.int .i64 x] w fun e w' => e = .returned (.tuple #[.int .i64 (okV (subOk x (x.tmod 10000)) (x - x.tmod 10000)), .int .i64 (okC (subOk x (x.tmod 10000)))]) ∧ w' = w := by
  generalize hg : x.tmod 10000 = r at *
  have hw : wrap64 r = r := by unfold wrap64; omega
  have dr : decide (r < 0) = false := decide_eq_false (by omega)
  go_enter Tryz.func87, Tryz.ntmps87
  go_wp2_with (first | (go_at_call 109; refine (may_t _ _ (by omega)).mono ?_; rintro e w' ⟨rfl, rfl⟩) | (go_at_call 111; refine (sub_any _ _ _ ⟨by omega, by omega⟩ ⟨by omega, by omega⟩).mono ?_; rintro e w' ⟨rfl, rfl⟩))
  go_ret2
  exact ⟨rfl, rfl⟩
theorem floor_n (x : Int) (w : World) (hx1 : -9223372036854775807 ≤ x) (hx2 : x ≤ 9223372036854775807) (hr : x.tmod 10000 < 0) (hr2 : -10000 < x.tmod 10000) : Calls Tryz.prog 87 #[.int .i64 x] w fun e w' => e = .returned (.tuple #[.int .i64 (okV (subOk x (x.tmod 10000 + 10000)) (x - (x.tmod 10000 + 10000))), .int .i64 (okC (subOk x (x.tmod 10000 + 10000)))]) ∧ w' = w := by
  generalize hg : x.tmod 10000 = r at *
  have hw : wrap64 r = r := by unfold wrap64; omega
  have dr : decide (r < 0) = true := decide_eq_true hr
  go_enter Tryz.func87, Tryz.ntmps87
  go_wp2_with (first | (go_at_call 109; refine (may_t _ _ (by omega)).mono ?_; rintro e w' ⟨rfl, rfl⟩) | (go_at_call 111; refine (sub_any _ _ _ ⟨by omega, by omega⟩ ⟨by omega, by omega⟩).mono ?_; rintro e w' ⟨rfl, rfl⟩))
  go_ret2
  exact ⟨rfl, rfl⟩
theorem floor_any (x : Int) (w : World) (hx : I64 x) : Calls Tryz.prog 87 #[.int .i64 x] w fun e w' => e = .returned (.tuple #[.int .i64 (okV (floorOk x) (x - x % 10000)), .int .i64 (okC (floorOk x))]) ∧ w' = w := by
  obtain ⟨hx1, hx2⟩ := hx
  by_cases hm : x = -9223372036854775808
  · have ok : floorOk x = false := by unfold floorOk; rw [mayOk_f hm]; rfl
    rw [okV_f ok, okC_f ok]; exact floor_min x w hm
  have hx3 : -9223372036854775807 ≤ x := by omega
  have hf : floorOk x = subOk x (x % 10000) := by unfold floorOk; rw [mayOk_t hx3]; rfl
  rw [hf]
  by_cases h0 : 0 ≤ x
  · have e : x.tmod 10000 = x % 10000 := Int.tmod_eq_emod_of_nonneg h0
    have c := floor_p x w hx3 hx2 (by omega) (by omega)
    rw [e] at c; exact c
  · have e : x.tmod 10000 = -((-x) % 10000) := by
      rw [← Int.tmod_eq_emod_of_nonneg (show 0 ≤ -x by omega), Int.neg_tmod]; omega
    by_cases hz : x % 10000 = 0
    · have c := floor_p x w hx3 hx2 (by omega) (by omega)
      rw [show x.tmod 10000 = x % 10000 by omega] at c; exact c
    · have c := floor_n x w hx3 hx2 (by omega) (by omega)
      rw [show x.tmod 10000 + 10000 = x % 10000 by omega] at c; exact c
end Go.Proofs.YtfpbcokfianjaaaGreat
