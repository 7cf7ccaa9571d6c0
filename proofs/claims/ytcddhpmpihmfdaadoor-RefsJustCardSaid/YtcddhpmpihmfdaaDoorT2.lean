/- The walk of RefsJust: each cell and rectangle of the nodes of a formula that may be is one of its references, once; each reference is of a node. The conditions: the numbers in the nodes' values are int64. -/
import Derived.Test.YtcddhpmpihmfdaaDoorT1
import Derived.Test.YtcddhpmpihmfdaaDoorP2c
namespace Go.Proofs.YtcddhpmpihmfdaaDoor
open Go.Shelf Go.RowKit
set_option linter.all false
theorem Row.drewM {α : Type} {c : α → Array Value} {sz : Nat} {e : TypeId} {w : World} {base : Nat} {v : Value} {l : List α} (h : Row c sz e w base v l) (k : Nat) : Row c sz e (w.drewN k) base v l := h.keep (bdrewN (Below.refl _ _) k)
theorem own_put5' {W : World} {b : Nat} {x0 x1 x2 x3 x4 y0 y1 y2 y3 y4 : Value} (h : Own W b #[x0, x1, x2, x3, x4]) : Own (((((W.setCell ⟨b, 0, none⟩ y0).setCell ⟨b, 1, none⟩ y1).setCell ⟨b, 2, none⟩ y2).setCell ⟨b, 3, none⟩ y3).setCell ⟨b, 4, none⟩ y4) b #[y0, y1, y2, y3, y4] :=
  own_put (k := 4) (own_put (k := 3) (own_put (k := 2) (own_put (k := 1) (own_put (k := 0) h (by simp)) (by simp)) (by simp)) (by simp)) (by simp)
theorem own_is {g g' m c : Nat} (h : (Value.slice (some ⟨g, 0, none⟩) m c).ownBlock = some g') : g = g' := Option.some.inj h
theorem infoBl : (Tryd.prog.info? 4).map (fun i => (i.zero, i.size, i.bytes)) = some (some (.bool false), 1, 1) := by kernel_rfl
/-- A block of marks. -/
structure BV (w : World) (g m : Nat) (u : Nat → Bool) : Prop where
  lt : g < w.heap.size
  cell : ∀ j, j < m → w.cell? ⟨g, j, none⟩ = some (.bool (u j))
  fro : ∀ o, w.frozen? ⟨g, o, none⟩ = false
theorem BV.keep {w w' : World} {g m : Nat} {u : Nat → Bool} (h : BV w g m u) (hb : Below w.heap.size w w') : BV w' g m u :=
  ⟨Nat.lt_of_lt_of_le h.lt hb.size, fun j hj => (hb.cell (p := ⟨g, j, none⟩) h.lt).trans (h.cell j hj), fun o => (hb.frozen (p := ⟨g, o, none⟩) h.lt).trans (h.fro o)⟩
theorem BV.past {w : World} {g m : Nat} {u : Nat → Bool} (h : BV w g m u) (x : Obj) : BV (w.alloc x) g m u := h.keep (bal w x)
theorem BV.drew {w : World} {g m : Nat} {u : Nat → Bool} (h : BV w g m u) : BV w.drew g m u := h.keep (Below.refl _ _).drew
theorem BV.drewN {w : World} {g m : Nat} {u : Nat → Bool} (h : BV w g m u) (k : Nat) : BV (w.drewN k) g m u := h.keep (bdrewN (Below.refl _ _) k)
theorem BV.aside {w : World} {g m : Nat} {u : Nat → Bool} (h : BV w g m u) {a : Addr} (hb : g ≠ a.block) (v : Value) : BV (w.setCell a v) g m u :=
  ⟨by simpa [World.setCell] using h.lt, fun j hj => (World.cell?_of_block (Below.heap_setCell w a v g hb)).trans (h.cell j hj), fun o => by rw [World.frozen?_setCell]; exact h.fro o⟩
theorem BV.congr {w : World} {g m : Nat} {u u' : Nat → Bool} (h : BV w g m u) (e : ∀ j, j < m → u j = u' j) : BV w g m u' := ⟨h.lt, fun j hj => by rw [← e j hj]; exact h.cell j hj, h.fro⟩
theorem BV.put {w : World} {g m k : Nat} {u : Nat → Bool} (h : BV w g m u) (hk : k < m) : BV (w.setCell ⟨g, k, none⟩ (.bool true)) g m (fun j => if j = k then true else u j) := by
  have hs : ∀ j, j < m → ((setN w g k [.bool true]).cell? ⟨g, j, none⟩) = some (.bool (if j = k then true else u j)) := fun j hj => by
    by_cases e : j = k
    · subst e
      have := setN_at g [.bool true] w j (fun i hi => by
        have e0 : i = 0 := by simp at hi; omega
        subst e0; rw [Nat.add_zero, h.cell j hj]; rfl) 0 (by simp)
      rw [Nat.add_zero] at this
      rw [this, if_pos rfl]; rfl
    · rw [setN_far g [.bool true] w k j (by simp; omega), h.cell j hj, if_neg e]
  exact ⟨by simpa [World.setCell] using h.lt, hs, fun o => by rw [World.frozen?_setCell]; exact h.fro o⟩
/-- Which of the list were met among the first i nodes. -/
def mrk (ns : List Nd) (l : List Rf) (i : Nat) : Nat → Bool := fun j => usedB (ns.take i) (l.getD j rf0)
/-- The same, in the midst of the list. -/
def mrkK (ns : List Nd) (l : List Rf) (i k : Nat) : Nat → Bool := fun j => if j < k then usedB (ns.take (i + 1)) (l.getD j rf0) else usedB (ns.take i) (l.getD j rf0)
theorem BV.made (W : World) (m : Nat) (ns : List Nd) (l : List Rf) : BV (W.alloc (.cells (madeCells #[.bool false] m) 4)) W.heap.size m (mrk ns l 0) := by
  have ho := Own.new W (madeCells #[.bool false] m) 4
  refine ⟨ho.lt, fun j hj => ?_, ho.fro⟩
  rw [ho.cell]
  unfold madeCells
  rw [Array.getElem?_map, Array.getElem?_range, if_pos (by omega)]
  have e : j % (#[Value.bool false]).size = 0 := by show j % 1 = 0; omega
  show some ((#[Value.bool false])[j % (#[Value.bool false]).size]!) = _
  rw [e]; rfl
theorem mrk_none {ns : List Nd} {l : List Rf} {i j : Nat} {n : Nd} (h : ns[i]? = some n) (hr : refN n = none) : mrk ns l i j = mrk ns l (i + 1) j := (used_none h hr _).symm
theorem mrkK_0 (ns : List Nd) (l : List Rf) (i j : Nat) : mrk ns l i j = mrkK ns l i 0 j := by unfold mrk mrkK; rw [if_neg (by omega)]
theorem getD_at {l : List Rf} {k : Nat} {x : Rf} (h : l[k]? = some x) : l.getD k rf0 = x := by rw [List.getD_eq_getElem?_getD, h]; rfl
theorem mrkK_n {ns : List Nd} {l : List Rf} {i j k : Nat} {n : Nd} {r x : Rf} (h : ns[i]? = some n) (hr : refN n = some r) (hk : l[k]? = some x) (hs : sameRf x r = false) : mrkK ns l i k j = mrkK ns l i (k + 1) j := by
  unfold mrkK
  by_cases e : j = k
  · subst e
    rw [if_neg (by omega), if_pos (by omega), getD_at hk, used_some h hr, hs, Bool.or_false]
  · by_cases e2 : j < k
    · rw [if_pos e2, if_pos (by omega)]
    · rw [if_neg e2, if_neg (by omega)]
theorem mrkK_y {ns : List Nd} {l : List Rf} {i j k : Nat} {n : Nd} {r x : Rf} (h : ns[i]? = some n) (hr : refN n = some r) (hk : l[k]? = some x) (hs : sameRf x r = true) : (if j = k then true else mrkK ns l i k j) = mrkK ns l i (k + 1) j := by
  unfold mrkK
  by_cases e : j = k
  · subst e
    rw [if_pos rfl, if_pos (by omega), getD_at hk, used_some h hr, hs, Bool.or_true]
  · rw [if_neg e]
    by_cases e2 : j < k
    · rw [if_pos e2, if_pos (by omega)]
    · rw [if_neg e2, if_neg (by omega)]
theorem mrkK_all {ns : List Nd} {l : List Rf} {i j k : Nat} {n : Nd} (h : ns[i]? = some n) (hj : j < k) : mrkK ns l i k j = mrk ns l (i + 1) j := by unfold mrkK mrk; rw [if_pos hj]
theorem mrk_all {ns : List Nd} {l : List Rf} {n j : Nat} (hn : ns.length = n) (hl : l = ofFrom [] ns) (hj : j < l.length) : mrk ns l n j = true := by
  unfold mrk
  rw [List.take_of_length_le (by omega)]
  refine used_all ?_
  rw [← hl, getD_at (List.getElem?_eq_getElem hj)]
  exact List.getElem_mem hj
set_option maxHeartbeats 2000000 in
theorem just_n (w : World) (p : Option Addr) (n cap : Nat)
    (hOf : ∀ w1, Below w.heap.size w w1 → Calls Tryd.prog 17 #[.agg #[.slice p n cap]] w1 fun e w' => (∃ q c, e = .returned (.slice q 0 c)) ∧ Below w1.heap.size w1 w')
    (hCk : ∀ w1, Below w.heap.size w w1 → Calls Tryd.prog 10 #[.agg #[.slice p n cap]] w1 fun e w' => e = .returned (.int .i64 20) ∧ Below w1.heap.size w1 w') :
    Calls Tryd.prog 6 #[.agg #[.slice p n cap]] w fun e w' => e = .returned (.bool true) ∧ Below w.heap.size w w' := by
  have HOF : Hid _ := hOf
  have HCK : Hid _ := hCk
  have HLV : Hid _ := lives_any
  clear hOf hCk
  go_enter Tryd.func6, Tryd.ntmps6
  go_wp2_with (first | (go_at_call 17; refine (HOF.out _ (by with_reducible (repeat' first | assumption | exact Below.refl _ _ | refine Below.drew ?_ | refine bdrewN ?_ _ | refine Below.setCell ?_ (by first | exact Nat.le_refl _ | (simp; done) | (simp; omega) | omega) _ | refine Below.alloc ?_ (by first | exact Nat.le_refl _ | (simp; done) | (simp; omega) | omega) _))).mono ?_; rintro e w1 ⟨⟨q, c, rfl⟩, hb⟩; have hB1 : Below w.heap.size w w1 := bup (by with_reducible (repeat' first | assumption | exact Below.refl _ _ | refine Below.drew ?_ | refine bdrewN ?_ _ | refine Below.setCell ?_ (by first | exact Nat.le_refl _ | (simp; done) | (simp; omega) | omega) _ | refine Below.alloc ?_ (by first | exact Nat.le_refl _ | (simp; done) | (simp; omega) | omega) _)) hb; have o1 : Own w1 (w.heap.size) #[.slice p n cap] := Own.keep (by with_reducible (repeat' first | assumption | refine Own.drew ?_ | refine Own.drewN ?_ _ | (refine Own.at ?_; first | rfl | (simp; done)) | refine Own.past ?_ _ | refine Own.aside ?_ (by first | (simp; done) | (simp; omega) | omega) _)) hb; have c1 := o1.cell; have l1 := o1.lt) | (go_at_call 10; refine (HCK.out _ (by with_reducible (repeat' first | assumption | exact Below.refl _ _ | refine Below.drew ?_ | refine bdrewN ?_ _ | refine Below.setCell ?_ (by first | exact Nat.le_refl _ | (simp; done) | (simp; omega) | omega) _ | refine Below.alloc ?_ (by first | exact Nat.le_refl _ | (simp; done) | (simp; omega) | omega) _))).mono ?_; rintro e w2 ⟨rfl, hb2⟩; have hB2 : Below w.heap.size w w2 := bup (by with_reducible (repeat' first | assumption | exact Below.refl _ _ | refine Below.drew ?_ | refine bdrewN ?_ _ | refine Below.setCell ?_ (by first | exact Nat.le_refl _ | (simp; done) | (simp; omega) | omega) _ | refine Below.alloc ?_ (by first | exact Nat.le_refl _ | (simp; done) | (simp; omega) | omega) _)) hb2) | (go_at_call 14; refine (HLV.out _).mono ?_; rintro e w3 ⟨rfl, hb3⟩; have hB3 : Below w.heap.size w w3 := bup (by with_reducible (repeat' first | assumption | exact Below.refl _ _ | refine Below.drew ?_ | refine bdrewN ?_ _ | refine Below.setCell ?_ (by first | exact Nat.le_refl _ | (simp; done) | (simp; omega) | omega) _ | refine Below.alloc ?_ (by first | exact Nat.le_refl _ | (simp; done) | (simp; omega) | omega) _)) hb3))
  go_ret
  exact ⟨rfl, hB3⟩
set_option maxRecDepth 100000 in
set_option maxHeartbeats 8000000 in
theorem just_e (w : World) (b o cap n : Nat) (ns : List Nd) (hlb : b < w.heap.size) (HC : ∀ i x, ns[i]? = some x → ∀ j, j < 15 → w.cell? ⟨b, o + i * 15 + j, none⟩ = (Nd.cells x)[j]?)
    (hn : ns.length = n) (hcap : n ≤ cap) (h0 : 0 < n) (hl : n ≤ 1024) (hOf : ∀ w1, Below w.heap.size w w1 → Calls Tryd.prog 17 #[.agg #[.slice (some ⟨b, o, none⟩) n cap]] w1 fun e w' => (∃ lp lc, e = .returned (.slice lp 0 lc)) ∧ Below w1.heap.size w1 w') (hno : ∀ x ∈ ns, refN x = none)
    (hCk : ∀ w1, Below w.heap.size w w1 → Calls Tryd.prog 10 #[.agg #[.slice (some ⟨b, o, none⟩) n cap]] w1 fun e w' => e = .returned (.int .i64 0) ∧ Below w1.heap.size w1 w') :
    Calls Tryd.prog 6 #[.agg #[.slice (some ⟨b, o, none⟩) n cap]] w fun e w' => e = .returned (.bool true) ∧ Below w.heap.size w w' := by
  have mixed : Tryd.prog.follows .mixedOrders = true := by kernel_rfl
  have hmk : ∀ w : World, (Instr.makeSlice 38 (.int .i64 (0 : Int)) (.int .i64 (0 : Int))).run Tryd.prog w = .ok (.slice (some ⟨w.heap.size, 0, none⟩) 0 0) (w.alloc (.cells (madeCells #[.bool false] (0 * 1)) 4)) := fun w => by
    obtain ⟨i0, hi, hz0, hz1, hz2⟩ := info_parts infoBl
    have h := run_make (P := Tryd.prog) w 38 4 i0 _ Tryd.underlying38 hi hz0 .i64 .i64 0 (0 : Int) (by omega) (by omega) (by rw [hz2]; omega) (by omega)
    rw [hz1] at h
    exact h
  have HC' : Hid _ := HC
  have HN : Hid (ns.length = n) := hn
  have HCK : Hid _ := hCk
  have HOF : Hid _ := hOf
  have HLV : Hid _ := lives_any
  have HNO : Hid _ := hno
  clear hno
  clear HC hn hCk hOf
  go_enter Tryd.func6, Tryd.ntmps6
  go_wp2_with (first | (go_at_call 17; refine (HOF.out _ (by with_reducible (repeat' first | assumption | exact Below.refl _ _ | refine Below.drew ?_ | refine bdrewN ?_ _ | refine Below.setCell ?_ (by first | exact Nat.le_refl _ | (simp; done) | (simp; omega) | omega) _ | refine Below.alloc ?_ (by first | exact Nat.le_refl _ | (simp; done) | (simp; omega) | omega) _))).mono ?_; rintro e w1 ⟨⟨lp, lc, rfl⟩, hb⟩; have hB1 : Below w.heap.size w w1 := bup (by with_reducible (repeat' first | assumption | exact Below.refl _ _ | refine Below.drew ?_ | refine bdrewN ?_ _ | refine Below.setCell ?_ (by first | exact Nat.le_refl _ | (simp; done) | (simp; omega) | omega) _ | refine Below.alloc ?_ (by first | exact Nat.le_refl _ | (simp; done) | (simp; omega) | omega) _)) hb; have o1 : Own w1 (w.heap.size) #[.slice (some ⟨b, o, none⟩) n cap] := Own.keep (by with_reducible (repeat' first | assumption | refine Own.drew ?_ | refine Own.drewN ?_ _ | (refine Own.at ?_; first | rfl | (simp; done)) | refine Own.past ?_ _ | refine Own.aside ?_ (by first | (simp; done) | (simp; omega) | omega) _)) hb; have c1 := o1.cell; have l1 := o1.lt; have z1 := hB1.size) | (go_at_call 10; refine (HCK.out _ (by with_reducible (repeat' first | assumption | exact Below.refl _ _ | refine Below.drew ?_ | refine bdrewN ?_ _ | refine Below.setCell ?_ (by first | exact Nat.le_refl _ | (simp; done) | (simp; omega) | omega) _ | refine Below.alloc ?_ (by first | exact Nat.le_refl _ | (simp; done) | (simp; omega) | omega) _))).mono ?_; rintro e w2 ⟨rfl, hb2⟩; have hB2 : Below w.heap.size w w2 := bup (by with_reducible (repeat' first | assumption | exact Below.refl _ _ | refine Below.drew ?_ | refine bdrewN ?_ _ | refine Below.setCell ?_ (by first | exact Nat.le_refl _ | (simp; done) | (simp; omega) | omega) _ | refine Below.alloc ?_ (by first | exact Nat.le_refl _ | (simp; done) | (simp; omega) | omega) _)) hb2; have o2 : Own w2 (w.heap.size) #[.slice (some ⟨b, o, none⟩) n cap] := Own.keep (by with_reducible (repeat' first | assumption | refine Own.drew ?_ | refine Own.drewN ?_ _ | (refine Own.at ?_; first | rfl | (simp; done)) | refine Own.past ?_ _ | refine Own.aside ?_ (by first | (simp; done) | (simp; omega) | omega) _)) hb2; have c2 := o2.cell; have l2 := o2.lt; have z2 := hB2.size))
  obtain ⟨U, hUU⟩ : ∃ U, w2.heap.size = U := ⟨_, rfl⟩
  have hwU : w.heap.size < U := by omega
  rw [hUU]
  go_loopw [5] (fun v w' => ∃ (i : Nat), v = .int .i64 i ∧ i ≤ n ∧ Below w.heap.size w w' ∧ U < w'.heap.size ∧ Own w' w.heap.size #[.slice (some ⟨b, o, none⟩) n cap]) (fun v _ => n - (intOf v).toNat)
  case atStart => exact ⟨0, rfl, by omega, by with_reducible (repeat' first | assumption | exact Below.refl _ _ | refine Below.drew ?_ | refine bdrewN ?_ _ | refine Below.setCell ?_ (by first | exact Nat.le_refl _ | (simp; done) | (simp; omega) | omega) _ | refine Below.alloc ?_ (by first | exact Nat.le_refl _ | (simp; done) | (simp; omega) | omega) _), by first | omega | (simp; omega), by with_reducible (repeat' first | assumption | refine Own.drew ?_ | refine Own.drewN ?_ _ | (refine Own.at ?_; first | rfl | (simp; done)) | refine Own.past ?_ _ | refine Own.aside ?_ (by first | (simp; done) | (simp; omega) | omega) _)⟩
  case round =>
    obtain ⟨i, rfl, hi, hB, hU, o0⟩ := hrel
    have z := hB.size
    have c0 := o0.cell
    have f0 := o0.fro
    have l0 := o0.lt
    by_cases hlt : i < n
    · have hlt' : (i : Int) < n := by omega
      have hti : ns[i]? = some (ns[i]'(by rw [HN.out]; exact hlt)) := List.getElem?_eq_getElem _
      have cx := fun j hj => (show wr.cell? ⟨b, o + i * 15 + j, none⟩ = _ from (hB.cell (p := ⟨b, o + i * 15 + j, none⟩) hlb).trans (HC'.out i _ hti j hj))
      have HTI : Hid _ := hti
      revert cx HTI
      generalize (ns[i]'(by rw [HN.out]; exact hlt)) = nd
      intro cx HTI
      clear hti
      have x0 : wr.cell? ⟨b, o + i * 15, none⟩ = some (.int .i64 nd.kind) := cx 0 (by decide)
      have x1 : wr.cell? ⟨b, o + i * 15 + 1, none⟩ = some (.int .i64 nd.tag) := cx 1 (by decide)
      have x2 : wr.cell? ⟨b, o + i * 15 + 2, none⟩ = some (.int .i64 nd.num) := cx 2 (by decide)
      have x3 : wr.cell? ⟨b, o + i * 15 + 3, none⟩ = some (.string nd.str) := cx 3 (by decide)
      have x4 : wr.cell? ⟨b, o + i * 15 + 4, none⟩ = some (.bool nd.is) := cx 4 (by decide)
      have x5 : wr.cell? ⟨b, o + i * 15 + 5, none⟩ = some (.int .i64 nd.code) := cx 5 (by decide)
      have x6 : wr.cell? ⟨b, o + i * 15 + 6, none⟩ = some (.int .i64 nd.row) := cx 6 (by decide)
      have x7 : wr.cell? ⟨b, o + i * 15 + 7, none⟩ = some (.int .i64 nd.col) := cx 7 (by decide)
      have x8 : wr.cell? ⟨b, o + i * 15 + 8, none⟩ = some (.int .i64 nd.top) := cx 8 (by decide)
      have x9 : wr.cell? ⟨b, o + i * 15 + 9, none⟩ = some (.int .i64 nd.left) := cx 9 (by decide)
      have x10 : wr.cell? ⟨b, o + i * 15 + 10, none⟩ = some (.int .i64 nd.bot) := cx 10 (by decide)
      have x11 : wr.cell? ⟨b, o + i * 15 + 11, none⟩ = some (.int .i64 nd.right) := cx 11 (by decide)
      have x12 : wr.cell? ⟨b, o + i * 15 + 12, none⟩ = some (.int .i64 nd.op) := cx 12 (by decide)
      have x13 : wr.cell? ⟨b, o + i * 15 + 13, none⟩ = some (.string nd.name) := cx 13 (by decide)
      have x14 : wr.cell? ⟨b, o + i * 15 + 14, none⟩ = some (.int .i64 nd.args) := cx 14 (by decide)
      clear cx
      have HRF : Hid (∀ w, Calls Tryd.prog 19 #[.agg #[.int .i64 nd.kind, .int .i64 nd.tag, .int .i64 nd.num, .string nd.str, .bool nd.is, .int .i64 nd.code, .int .i64 nd.row, .int .i64 nd.col, .int .i64 nd.top, .int .i64 nd.left, .int .i64 nd.bot, .int .i64 nd.right, .int .i64 nd.op, .string nd.name, .int .i64 nd.args]] w fun e w' => e = .returned (refOut (refN nd)) ∧ Below w.heap.size w w') := fun w => rref_any nd w
      have HR : Hid (refN nd = none) := HNO.out nd (List.mem_of_getElem? HTI.out)
      go_wp2_with (go_at_call 19; refine (HRF.out _).mono ?_; rw [HR.out]; dsimp only [refOut, Rf.cells, rf0]; rintro e w3 ⟨rfl, hb3⟩; have hB3 : Below w.heap.size w w3 := bup (by with_reducible (repeat' first | assumption | exact Below.refl _ _ | refine Below.drew ?_ | refine bdrewN ?_ _ | refine Below.setCell ?_ (by first | exact Nat.le_refl _ | (simp; done) | (simp; omega) | omega) _ | refine Below.alloc ?_ (by first | exact Nat.le_refl _ | (simp; done) | (simp; omega) | omega) _)) hb3; have o3 : Own w3 (w.heap.size) #[.slice (some ⟨b, o, none⟩) n cap] := Own.keep (by with_reducible (repeat' first | assumption | refine Own.drew ?_ | refine Own.drewN ?_ _ | (refine Own.at ?_; first | rfl | (simp; done)) | refine Own.past ?_ _ | refine Own.aside ?_ (by first | (simp; done) | (simp; omega) | omega) _)) hb3; have c3 := o3.cell; have l3 := o3.lt; have z3 := hB3.size; have hU3 : U < w3.heap.size := (by have := hb3.size; omega))
      go_loopw [8, 9] (fun a v w' => a = .int .i64 0 ∧ v = .int .i64 0 ∧ Below w.heap.size w w' ∧ U < w'.heap.size ∧ Own w' w.heap.size #[.slice (some ⟨b, o, none⟩) n cap]) (fun _ _ _ => 0)
      case atStart => exact ⟨rfl, rfl, by with_reducible (repeat' first | assumption | exact Below.refl _ _ | refine Below.drew ?_ | refine bdrewN ?_ _ | refine Below.setCell ?_ (by first | exact Nat.le_refl _ | (simp; done) | (simp; omega) | omega) _ | refine Below.alloc ?_ (by first | exact Nat.le_refl _ | (simp; done) | (simp; omega) | omega) _), by first | omega | (simp; omega), by with_reducible (repeat' first | assumption | refine Own.drew ?_ | refine Own.drewN ?_ _ | (refine Own.at ?_; first | rfl | (simp; done)) | refine Own.past ?_ _ | refine Own.aside ?_ (by first | (simp; done) | (simp; omega) | omega) _)⟩
      case round =>
        obtain ⟨rfl, rfl, hBk, hUk, p0⟩ := hrel
        have zk := hBk.size
        go_wp2
        exact ⟨⟨i + 1, by go_num, by omega, by with_reducible (repeat' first | assumption | exact Below.refl _ _ | refine Below.drew ?_ | refine bdrewN ?_ _ | refine Below.setCell ?_ (by first | exact Nat.le_refl _ | (simp; done) | (simp; omega) | omega) _ | refine Below.alloc ?_ (by first | exact Nat.le_refl _ | (simp; done) | (simp; omega) | omega) _), by first | omega | (simp; omega), by with_reducible (repeat' first | assumption | refine Own.drew ?_ | refine Own.drewN ?_ _ | (refine Own.at ?_; first | rfl | (simp; done)) | refine Own.past ?_ _ | refine Own.aside ?_ (by first | (simp; done) | (simp; omega) | omega) _)⟩, by simp [intOf]; omega⟩
    · have hlt' : ¬ (i : Int) < n := by omega
      go_wp2
      go_loopw [10] (fun v w' => v = .int .i64 0 ∧ Below w.heap.size w w') (fun _ _ => 0)
      case atStart => exact ⟨rfl, hB⟩
      case round =>
        obtain ⟨rfl, hBk⟩ := hrel
        have zk := hBk.size
        go_wp2_with (go_at_call 14; refine (HLV.out _).mono ?_; rintro e w5 ⟨rfl, hb5⟩; have hB5 : Below w.heap.size w w5 := bup (by with_reducible (repeat' first | assumption | exact Below.refl _ _ | refine Below.drew ?_ | refine bdrewN ?_ _ | refine Below.setCell ?_ (by first | exact Nat.le_refl _ | (simp; done) | (simp; omega) | omega) _ | refine Below.alloc ?_ (by first | exact Nat.le_refl _ | (simp; done) | (simp; omega) | omega) _)) hb5)
        go_ret
        exact ⟨rfl, hB5⟩
set_option maxRecDepth 100000 in
set_option maxHeartbeats 8000000 in
theorem just_y (w : World) (b o cap n : Nat) (ns : List Nd) (hlb : b < w.heap.size) (HC : ∀ i x, ns[i]? = some x → ∀ j, j < 15 → w.cell? ⟨b, o + i * 15 + j, none⟩ = (Nd.cells x)[j]?)
    (hn : ns.length = n) (hcap : n ≤ cap) (h0 : 0 < n) (hl : n ≤ 1024) (l : List Rf) (m : Nat) (hm : l.length = m) (hm0 : 0 < m) (hm1 : m ≤ 1024) (hle : l = ofFrom [] ns) (hOf : ∀ w1, Below w.heap.size w w1 → Calls Tryd.prog 17 #[.agg #[.slice (some ⟨b, o, none⟩) n cap]] w1 fun e w' => (∃ g lc, e = .returned (.slice (some ⟨g, 0, none⟩) m lc) ∧ RRow w' w1.heap.size (.slice (some ⟨g, 0, none⟩) m lc) l ∧ m ≤ lc) ∧ Below w1.heap.size w1 w')
    (hCk : ∀ w1, Below w.heap.size w w1 → Calls Tryd.prog 10 #[.agg #[.slice (some ⟨b, o, none⟩) n cap]] w1 fun e w' => e = .returned (.int .i64 0) ∧ Below w1.heap.size w1 w') :
    Calls Tryd.prog 6 #[.agg #[.slice (some ⟨b, o, none⟩) n cap]] w fun e w' => e = .returned (.bool true) ∧ Below w.heap.size w w' := by
  have mixed : Tryd.prog.follows .mixedOrders = true := by kernel_rfl
  have hmk : ∀ w : World, (Instr.makeSlice 38 (.int .i64 (m : Int)) (.int .i64 (m : Int))).run Tryd.prog w = .ok (.slice (some ⟨w.heap.size, 0, none⟩) m m) (w.alloc (.cells (madeCells #[.bool false] (m * 1)) 4)) := fun w => by
    obtain ⟨i0, hi, hz0, hz1, hz2⟩ := info_parts infoBl
    have h := run_make (P := Tryd.prog) w 38 4 i0 _ Tryd.underlying38 hi hz0 .i64 .i64 m (m : Int) (by omega) (by omega) (by rw [hz2]; omega) (by omega)
    rw [hz1] at h
    exact h
  have HC' : Hid _ := HC
  have HN : Hid (ns.length = n) := hn
  have HCK : Hid _ := hCk
  have HOF : Hid _ := hOf
  have HLV : Hid _ := lives_any
  have HM : Hid (l.length = m) := hm
  have HLE : Hid (l = ofFrom [] ns) := hle
  clear hm hle
  clear HC hn hCk hOf
  go_enter Tryd.func6, Tryd.ntmps6
  go_wp2_with (first | (go_at_call 17; refine (HOF.out _ (by with_reducible (repeat' first | assumption | exact Below.refl _ _ | refine Below.drew ?_ | refine bdrewN ?_ _ | refine Below.setCell ?_ (by first | exact Nat.le_refl _ | (simp; done) | (simp; omega) | omega) _ | refine Below.alloc ?_ (by first | exact Nat.le_refl _ | (simp; done) | (simp; omega) | omega) _))).mono ?_; rintro e w1 ⟨⟨g, lc, rfl, hr1, hlc⟩, hb⟩; have hB1 : Below w.heap.size w w1 := bup (by with_reducible (repeat' first | assumption | exact Below.refl _ _ | refine Below.drew ?_ | refine bdrewN ?_ _ | refine Below.setCell ?_ (by first | exact Nat.le_refl _ | (simp; done) | (simp; omega) | omega) _ | refine Below.alloc ?_ (by first | exact Nat.le_refl _ | (simp; done) | (simp; omega) | omega) _)) hb; have o1 : Own w1 (w.heap.size) #[.slice (some ⟨b, o, none⟩) n cap] := Own.keep (by with_reducible (repeat' first | assumption | refine Own.drew ?_ | refine Own.drewN ?_ _ | (refine Own.at ?_; first | rfl | (simp; done)) | refine Own.past ?_ _ | refine Own.aside ?_ (by first | (simp; done) | (simp; omega) | omega) _)) hb; have c1 := o1.cell; have l1 := o1.lt; have z1 := hB1.size; have hr1 : RRow w1 w.heap.size (.slice (some ⟨g, 0, none⟩) m lc) l := Row.mono hr1 (by simp)) | (go_at_call 10; refine (HCK.out _ (by with_reducible (repeat' first | assumption | exact Below.refl _ _ | refine Below.drew ?_ | refine bdrewN ?_ _ | refine Below.setCell ?_ (by first | exact Nat.le_refl _ | (simp; done) | (simp; omega) | omega) _ | refine Below.alloc ?_ (by first | exact Nat.le_refl _ | (simp; done) | (simp; omega) | omega) _))).mono ?_; rintro e w2 ⟨rfl, hb2⟩; have hB2 : Below w.heap.size w w2 := bup (by with_reducible (repeat' first | assumption | exact Below.refl _ _ | refine Below.drew ?_ | refine bdrewN ?_ _ | refine Below.setCell ?_ (by first | exact Nat.le_refl _ | (simp; done) | (simp; omega) | omega) _ | refine Below.alloc ?_ (by first | exact Nat.le_refl _ | (simp; done) | (simp; omega) | omega) _)) hb2; have o2 : Own w2 (w.heap.size) #[.slice (some ⟨b, o, none⟩) n cap] := Own.keep (by with_reducible (repeat' first | assumption | refine Own.drew ?_ | refine Own.drewN ?_ _ | (refine Own.at ?_; first | rfl | (simp; done)) | refine Own.past ?_ _ | refine Own.aside ?_ (by first | (simp; done) | (simp; omega) | omega) _)) hb2; have c2 := o2.cell; have l2 := o2.lt; have z2 := hB2.size; have hr2 : RRow w2 w.heap.size (.slice (some ⟨g, 0, none⟩) m lc) l := Row.keep (by with_reducible (repeat' first | assumption | refine Row.drew ?_ | refine Row.drewM ?_ _ | refine Row.past ?_ _ | refine Row.aside ?_ _ (by intro g' hg'; have hq := own_is hg'; subst hq; simp; omega))) hb2))
  obtain ⟨U, hUU⟩ : ∃ U, w2.heap.size = U := ⟨_, rfl⟩
  have hgU : g < U := by have := (Row.lt hr2 g rfl).2; omega
  have hgw : w.heap.size ≤ g := (Row.lt hr2 g rfl).1
  have hv2 : BV (w2.alloc (.cells (madeCells #[.bool false] m) 4)) U m (mrk ns l 0) := by rw [← hUU]; exact BV.made w2 m ns l
  have hwU : w.heap.size < U := by omega
  rw [hUU]
  go_loopw [5] (fun v w' => ∃ (i : Nat), v = .int .i64 i ∧ i ≤ n ∧ Below w.heap.size w w' ∧ U < w'.heap.size ∧ Own w' w.heap.size #[.slice (some ⟨b, o, none⟩) n cap] ∧ RRow w' w.heap.size (.slice (some ⟨g, 0, none⟩) m lc) l ∧ BV w' U m (mrk ns l i)) (fun v _ => n - (intOf v).toNat)
  case atStart => exact ⟨0, rfl, by omega, by with_reducible (repeat' first | assumption | exact Below.refl _ _ | refine Below.drew ?_ | refine bdrewN ?_ _ | refine Below.setCell ?_ (by first | exact Nat.le_refl _ | (simp; done) | (simp; omega) | omega) _ | refine Below.alloc ?_ (by first | exact Nat.le_refl _ | (simp; done) | (simp; omega) | omega) _), by first | omega | (simp; omega), by with_reducible (repeat' first | assumption | refine Own.drew ?_ | refine Own.drewN ?_ _ | (refine Own.at ?_; first | rfl | (simp; done)) | refine Own.past ?_ _ | refine Own.aside ?_ (by first | (simp; done) | (simp; omega) | omega) _), by with_reducible (repeat' first | assumption | refine Row.drew ?_ | refine Row.drewM ?_ _ | refine Row.past ?_ _ | refine Row.aside ?_ _ (by intro g' hg'; have hq := own_is hg'; subst hq; simp; omega)), hv2⟩
  case round =>
    obtain ⟨i, rfl, hi, hB, hU, o0, hr0, hv0⟩ := hrel
    have z := hB.size
    have c0 := o0.cell
    have f0 := o0.fro
    have l0 := o0.lt
    by_cases hlt : i < n
    · have hlt' : (i : Int) < n := by omega
      have hti : ns[i]? = some (ns[i]'(by rw [HN.out]; exact hlt)) := List.getElem?_eq_getElem _
      have cx := fun j hj => (show wr.cell? ⟨b, o + i * 15 + j, none⟩ = _ from (hB.cell (p := ⟨b, o + i * 15 + j, none⟩) hlb).trans (HC'.out i _ hti j hj))
      have HTI : Hid _ := hti
      revert cx HTI
      generalize (ns[i]'(by rw [HN.out]; exact hlt)) = nd
      intro cx HTI
      clear hti
      have x0 : wr.cell? ⟨b, o + i * 15, none⟩ = some (.int .i64 nd.kind) := cx 0 (by decide)
      have x1 : wr.cell? ⟨b, o + i * 15 + 1, none⟩ = some (.int .i64 nd.tag) := cx 1 (by decide)
      have x2 : wr.cell? ⟨b, o + i * 15 + 2, none⟩ = some (.int .i64 nd.num) := cx 2 (by decide)
      have x3 : wr.cell? ⟨b, o + i * 15 + 3, none⟩ = some (.string nd.str) := cx 3 (by decide)
      have x4 : wr.cell? ⟨b, o + i * 15 + 4, none⟩ = some (.bool nd.is) := cx 4 (by decide)
      have x5 : wr.cell? ⟨b, o + i * 15 + 5, none⟩ = some (.int .i64 nd.code) := cx 5 (by decide)
      have x6 : wr.cell? ⟨b, o + i * 15 + 6, none⟩ = some (.int .i64 nd.row) := cx 6 (by decide)
      have x7 : wr.cell? ⟨b, o + i * 15 + 7, none⟩ = some (.int .i64 nd.col) := cx 7 (by decide)
      have x8 : wr.cell? ⟨b, o + i * 15 + 8, none⟩ = some (.int .i64 nd.top) := cx 8 (by decide)
      have x9 : wr.cell? ⟨b, o + i * 15 + 9, none⟩ = some (.int .i64 nd.left) := cx 9 (by decide)
      have x10 : wr.cell? ⟨b, o + i * 15 + 10, none⟩ = some (.int .i64 nd.bot) := cx 10 (by decide)
      have x11 : wr.cell? ⟨b, o + i * 15 + 11, none⟩ = some (.int .i64 nd.right) := cx 11 (by decide)
      have x12 : wr.cell? ⟨b, o + i * 15 + 12, none⟩ = some (.int .i64 nd.op) := cx 12 (by decide)
      have x13 : wr.cell? ⟨b, o + i * 15 + 13, none⟩ = some (.string nd.name) := cx 13 (by decide)
      have x14 : wr.cell? ⟨b, o + i * 15 + 14, none⟩ = some (.int .i64 nd.args) := cx 14 (by decide)
      clear cx
      have HRF : Hid (∀ w, Calls Tryd.prog 19 #[.agg #[.int .i64 nd.kind, .int .i64 nd.tag, .int .i64 nd.num, .string nd.str, .bool nd.is, .int .i64 nd.code, .int .i64 nd.row, .int .i64 nd.col, .int .i64 nd.top, .int .i64 nd.left, .int .i64 nd.bot, .int .i64 nd.right, .int .i64 nd.op, .string nd.name, .int .i64 nd.args]] w fun e w' => e = .returned (refOut (refN nd)) ∧ Below w.heap.size w w') := fun w => rref_any nd w
      cases hrn : refN nd with
      | none =>
        have HR : Hid (refN nd = none) := hrn
        clear hrn
        go_wp2_with (go_at_call 19; refine (HRF.out _).mono ?_; rw [HR.out]; dsimp only [refOut, Rf.cells, rf0]; rintro e w3 ⟨rfl, hb3⟩; have hB3 : Below w.heap.size w w3 := bup (by with_reducible (repeat' first | assumption | exact Below.refl _ _ | refine Below.drew ?_ | refine bdrewN ?_ _ | refine Below.setCell ?_ (by first | exact Nat.le_refl _ | (simp; done) | (simp; omega) | omega) _ | refine Below.alloc ?_ (by first | exact Nat.le_refl _ | (simp; done) | (simp; omega) | omega) _)) hb3; have o3 : Own w3 (w.heap.size) #[.slice (some ⟨b, o, none⟩) n cap] := Own.keep (by with_reducible (repeat' first | assumption | refine Own.drew ?_ | refine Own.drewN ?_ _ | (refine Own.at ?_; first | rfl | (simp; done)) | refine Own.past ?_ _ | refine Own.aside ?_ (by first | (simp; done) | (simp; omega) | omega) _)) hb3; have c3 := o3.cell; have l3 := o3.lt; have z3 := hB3.size; have hU3 : U < w3.heap.size := (by have := hb3.size; omega); have hr3 : RRow w3 w.heap.size (.slice (some ⟨g, 0, none⟩) m lc) l := Row.keep (by with_reducible (repeat' first | assumption | refine Row.drew ?_ | refine Row.drewM ?_ _ | refine Row.past ?_ _ | refine Row.aside ?_ _ (by intro g' hg'; have hq := own_is hg'; subst hq; simp; omega))) hb3; have hv3 : BV w3 U m (mrk ns l i) := BV.keep (by with_reducible (repeat' first | assumption | refine BV.drew ?_ | refine BV.drewN ?_ _ | refine BV.past ?_ _ | refine BV.aside ?_ (by simp; omega) _)) hb3)
        go_loopw [8, 9] (fun a v w' => ∃ k : Nat, a = .int .i64 0 ∧ v = .int .i64 k ∧ k ≤ m ∧ Below w.heap.size w w' ∧ U < w'.heap.size ∧ Own w' w.heap.size #[.slice (some ⟨b, o, none⟩) n cap] ∧ RRow w' w.heap.size (.slice (some ⟨g, 0, none⟩) m lc) l ∧ BV w' U m (mrk ns l i)) (fun _ v _ => m - (intOf v).toNat)
        case atStart => exact ⟨0, rfl, rfl, by omega, by with_reducible (repeat' first | assumption | exact Below.refl _ _ | refine Below.drew ?_ | refine bdrewN ?_ _ | refine Below.setCell ?_ (by first | exact Nat.le_refl _ | (simp; done) | (simp; omega) | omega) _ | refine Below.alloc ?_ (by first | exact Nat.le_refl _ | (simp; done) | (simp; omega) | omega) _), by first | omega | (simp; omega), by with_reducible (repeat' first | assumption | refine Own.drew ?_ | refine Own.drewN ?_ _ | (refine Own.at ?_; first | rfl | (simp; done)) | refine Own.past ?_ _ | refine Own.aside ?_ (by first | (simp; done) | (simp; omega) | omega) _), by with_reducible (repeat' first | assumption | refine Row.drew ?_ | refine Row.drewM ?_ _ | refine Row.past ?_ _ | refine Row.aside ?_ _ (by intro g' hg'; have hq := own_is hg'; subst hq; simp; omega)), by with_reducible (repeat' first | assumption | refine BV.drew ?_ | refine BV.drewN ?_ _ | refine BV.past ?_ _ | refine BV.aside ?_ (by simp; omega) _)⟩
        case round =>
          obtain ⟨k, rfl, rfl, hk, hBk, hUk, p0, hrk, hvk⟩ := hrel
          have zk := hBk.size
          by_cases hkl : k < m
          · have hkl' : (k : Int) < m := by omega
            go_wp2
            go_quiet (fail)
            go_wp2
            exact ⟨⟨k + 1, rfl, by go_num, by omega, by with_reducible (repeat' first | assumption | exact Below.refl _ _ | refine Below.drew ?_ | refine bdrewN ?_ _ | refine Below.setCell ?_ (by first | exact Nat.le_refl _ | (simp; done) | (simp; omega) | omega) _ | refine Below.alloc ?_ (by first | exact Nat.le_refl _ | (simp; done) | (simp; omega) | omega) _), by first | omega | (simp; omega), by with_reducible (repeat' first | assumption | refine Own.drew ?_ | refine Own.drewN ?_ _ | (refine Own.at ?_; first | rfl | (simp; done)) | refine Own.past ?_ _ | refine Own.aside ?_ (by first | (simp; done) | (simp; omega) | omega) _), by with_reducible (repeat' first | assumption | refine Row.drew ?_ | refine Row.drewM ?_ _ | refine Row.past ?_ _ | refine Row.aside ?_ _ (by intro g' hg'; have hq := own_is hg'; subst hq; simp; omega)), by with_reducible (repeat' first | assumption | refine BV.drew ?_ | refine BV.drewN ?_ _ | refine BV.past ?_ _ | refine BV.aside ?_ (by simp; omega) _)⟩, by simp [intOf]; omega⟩
          · have hkl' : ¬ (k : Int) < m := by omega
            go_wp2
            exact ⟨⟨i + 1, by go_num, by omega, by with_reducible (repeat' first | assumption | exact Below.refl _ _ | refine Below.drew ?_ | refine bdrewN ?_ _ | refine Below.setCell ?_ (by first | exact Nat.le_refl _ | (simp; done) | (simp; omega) | omega) _ | refine Below.alloc ?_ (by first | exact Nat.le_refl _ | (simp; done) | (simp; omega) | omega) _), by first | omega | (simp; omega), by with_reducible (repeat' first | assumption | refine Own.drew ?_ | refine Own.drewN ?_ _ | (refine Own.at ?_; first | rfl | (simp; done)) | refine Own.past ?_ _ | refine Own.aside ?_ (by first | (simp; done) | (simp; omega) | omega) _), by with_reducible (repeat' first | assumption | refine Row.drew ?_ | refine Row.drewM ?_ _ | refine Row.past ?_ _ | refine Row.aside ?_ _ (by intro g' hg'; have hq := own_is hg'; subst hq; simp; omega)), BV.congr (by with_reducible (repeat' first | assumption | refine BV.drew ?_ | refine BV.drewN ?_ _ | refine BV.past ?_ _ | refine BV.aside ?_ (by simp; omega) _)) (fun j hj => mrk_none HTI.out HR.out)⟩, by simp [intOf]; omega⟩
      | some r =>
        have HR : Hid (refN nd = some r) := hrn
        clear hrn
        have HIN : Hid (cnt l r m = 1) := by
          show _ = _
          have h1 : r ∈ l := by rw [HLE.out]; exact ofFrom_has ns (List.mem_of_getElem? HTI.out) HR.out
          have h2 : l.Nodup := by rw [HLE.out]; exact ofFrom_nodup ns List.nodup_nil
          rw [← HM.out]; exact cnt_one h2 h1
        go_wp2_with (go_at_call 19; refine (HRF.out _).mono ?_; rw [HR.out]; dsimp only [refOut, Rf.cells, rf0]; rintro e w3 ⟨rfl, hb3⟩; have hB3 : Below w.heap.size w w3 := bup (by with_reducible (repeat' first | assumption | exact Below.refl _ _ | refine Below.drew ?_ | refine bdrewN ?_ _ | refine Below.setCell ?_ (by first | exact Nat.le_refl _ | (simp; done) | (simp; omega) | omega) _ | refine Below.alloc ?_ (by first | exact Nat.le_refl _ | (simp; done) | (simp; omega) | omega) _)) hb3; have o3 : Own w3 (w.heap.size) #[.slice (some ⟨b, o, none⟩) n cap] := Own.keep (by with_reducible (repeat' first | assumption | refine Own.drew ?_ | refine Own.drewN ?_ _ | (refine Own.at ?_; first | rfl | (simp; done)) | refine Own.past ?_ _ | refine Own.aside ?_ (by first | (simp; done) | (simp; omega) | omega) _)) hb3; have c3 := o3.cell; have l3 := o3.lt; have z3 := hB3.size; have hU3 : U < w3.heap.size := (by have := hb3.size; omega); have hr3 : RRow w3 w.heap.size (.slice (some ⟨g, 0, none⟩) m lc) l := Row.keep (by with_reducible (repeat' first | assumption | refine Row.drew ?_ | refine Row.drewM ?_ _ | refine Row.past ?_ _ | refine Row.aside ?_ _ (by intro g' hg'; have hq := own_is hg'; subst hq; simp; omega))) hb3; have hv3 : BV w3 U m (mrk ns l i) := BV.keep (by with_reducible (repeat' first | assumption | refine BV.drew ?_ | refine BV.drewN ?_ _ | refine BV.past ?_ _ | refine BV.aside ?_ (by simp; omega) _)) hb3)
        go_loopw [8, 9] (fun a v w' => ∃ k : Nat, a = .int .i64 (cnt l r k) ∧ v = .int .i64 k ∧ k ≤ m ∧ Below w.heap.size w w' ∧ U < w'.heap.size ∧ Own w' w.heap.size #[.slice (some ⟨b, o, none⟩) n cap] ∧ Own w' w3.heap.size #[.bool r.many, .int .i64 r.top, .int .i64 r.left, .int .i64 r.bot, .int .i64 r.right] ∧ RRow w' w.heap.size (.slice (some ⟨g, 0, none⟩) m lc) l ∧ BV w' U m (mrkK ns l i k)) (fun _ v _ => m - (intOf v).toNat)
        case atStart => exact ⟨0, rfl, rfl, by omega, by with_reducible (repeat' first | assumption | exact Below.refl _ _ | refine Below.drew ?_ | refine bdrewN ?_ _ | refine Below.setCell ?_ (by first | exact Nat.le_refl _ | (simp; done) | (simp; omega) | omega) _ | refine Below.alloc ?_ (by first | exact Nat.le_refl _ | (simp; done) | (simp; omega) | omega) _), by first | omega | (simp; omega), by with_reducible (repeat' first | assumption | refine Own.drew ?_ | refine Own.drewN ?_ _ | (refine Own.at ?_; first | rfl | (simp; done)) | refine Own.past ?_ _ | refine Own.aside ?_ (by first | (simp; done) | (simp; omega) | omega) _), by with_reducible (repeat' first | assumption | refine Own.drew ?_ | refine Own.drewN ?_ _ | (refine Own.at ?_; first | rfl | (simp; done)) | refine Own.past ?_ _ | refine Own.aside ?_ (by first | (simp; done) | (simp; omega) | omega) _), by with_reducible (repeat' first | assumption | refine Row.drew ?_ | refine Row.drewM ?_ _ | refine Row.past ?_ _ | refine Row.aside ?_ _ (by intro g' hg'; have hq := own_is hg'; subst hq; simp; omega)), BV.congr (by with_reducible (repeat' first | assumption | refine BV.drew ?_ | refine BV.drewN ?_ _ | refine BV.past ?_ _ | refine BV.aside ?_ (by simp; omega) _)) (fun j hj => mrkK_0 ns l i j)⟩
        case round =>
          obtain ⟨k, rfl, rfl, hk, hBk, hUk, p0, p1, hrk, hvk⟩ := hrel
          have d0 := p0.cell
          have d1 := p1.cell
          have m0 := p0.lt
          have m1 := p1.lt
          have zk := hBk.size
          have hck := cnt_le l r k
          by_cases hkl : k < m
          · have hkl' : (k : Int) < m := by omega
            have hki : l[k]? = some (l[k]'(by rw [HM.out]; exact hkl)) := List.getElem?_eq_getElem _
            have cy := fun j hj => Row.cells Rf.cells_size hrk k _ hki j hj
            have HKI : Hid _ := hki
            revert cy HKI
            generalize (l[k]'(by rw [HM.out]; exact hkl)) = x
            intro cy HKI
            clear hki
            have y0 : wr.cell? ⟨g, k * 5, none⟩ = some (.bool x.many) := cy 0 (by decide)
            have y1 : wr.cell? ⟨g, k * 5 + 1, none⟩ = some (.int .i64 x.top) := cy 1 (by decide)
            have y2 : wr.cell? ⟨g, k * 5 + 2, none⟩ = some (.int .i64 x.left) := cy 2 (by decide)
            have y3 : wr.cell? ⟨g, k * 5 + 3, none⟩ = some (.int .i64 x.bot) := cy 3 (by decide)
            have y4 : wr.cell? ⟨g, k * 5 + 4, none⟩ = some (.int .i64 x.right) := cy 4 (by decide)
            clear cy
            have hne := eqRf x r
            have cu := hvk.cell k hkl
            have fu := hvk.fro
            cases hs : sameRf x r
            · rw [hs] at hne
              have HS : Hid _ := hs
              have HCN : Hid _ := cnt_n HKI.out hs
              clear hs
              go_wp2
              go_quiet (fail)
              go_wp2
              exact ⟨⟨k + 1, by rw [HCN.out], by go_num, by omega, by with_reducible (repeat' first | assumption | exact Below.refl _ _ | refine Below.drew ?_ | refine bdrewN ?_ _ | refine Below.setCell ?_ (by first | exact Nat.le_refl _ | (simp; done) | (simp; omega) | omega) _ | refine Below.alloc ?_ (by first | exact Nat.le_refl _ | (simp; done) | (simp; omega) | omega) _), by first | omega | (simp; omega), by with_reducible (repeat' first | assumption | refine Own.drew ?_ | refine Own.drewN ?_ _ | (refine Own.at ?_; first | rfl | (simp; done)) | refine Own.past ?_ _ | refine Own.aside ?_ (by first | (simp; done) | (simp; omega) | omega) _), by with_reducible (repeat' first | assumption | refine Own.drew ?_ | refine Own.drewN ?_ _ | (refine Own.at ?_; first | rfl | (simp; done)) | refine Own.past ?_ _ | refine Own.aside ?_ (by first | (simp; done) | (simp; omega) | omega) _), by with_reducible (repeat' first | assumption | refine Row.drew ?_ | refine Row.drewM ?_ _ | refine Row.past ?_ _ | refine Row.aside ?_ _ (by intro g' hg'; have hq := own_is hg'; subst hq; simp; omega)), BV.congr (by with_reducible (repeat' first | assumption | refine BV.drew ?_ | refine BV.drewN ?_ _ | refine BV.past ?_ _ | refine BV.aside ?_ (by simp; omega) _)) (fun j hj => mrkK_n HTI.out HR.out HKI.out HS.out)⟩, by simp [intOf]; omega⟩
            · rw [hs] at hne
              have HS : Hid _ := hs
              have HCN : Hid _ := cnt_y HKI.out hs
              clear hs
              go_wp2
              go_quiet (fail)
              go_wp2
              exact ⟨⟨k + 1, by rw [HCN.out]; go_num, by go_num, by omega, by with_reducible (repeat' first | assumption | exact Below.refl _ _ | refine Below.drew ?_ | refine bdrewN ?_ _ | refine Below.setCell ?_ (by first | exact Nat.le_refl _ | (simp; done) | (simp; omega) | omega) _ | refine Below.alloc ?_ (by first | exact Nat.le_refl _ | (simp; done) | (simp; omega) | omega) _), by first | omega | (simp; omega), by with_reducible (repeat' first | assumption | refine Own.drew ?_ | refine Own.drewN ?_ _ | (refine Own.at ?_; first | rfl | (simp; done)) | refine Own.past ?_ _ | refine Own.aside ?_ (by first | (simp; done) | (simp; omega) | omega) _), by with_reducible (repeat' first | assumption | refine Own.drew ?_ | refine Own.drewN ?_ _ | (refine Own.at ?_; first | rfl | (simp; done)) | refine Own.past ?_ _ | refine Own.aside ?_ (by first | (simp; done) | (simp; omega) | omega) _), by with_reducible (repeat' first | assumption | refine Row.drew ?_ | refine Row.drewM ?_ _ | refine Row.past ?_ _ | refine Row.aside ?_ _ (by intro g' hg'; have hq := own_is hg'; subst hq; simp; omega)), BV.congr (BV.put (by with_reducible (repeat' first | assumption | refine BV.drew ?_ | refine BV.drewN ?_ _ | refine BV.past ?_ _ | refine BV.aside ?_ (by simp; omega) _)) hkl) (fun j hj => mrkK_y HTI.out HR.out HKI.out HS.out)⟩, by simp [intOf]; omega⟩
          · have hkl' : ¬ (k : Int) < m := by omega
            have ekm : k = m := by omega
            subst ekm
            rw [HIN.out]
            go_wp2
            exact ⟨⟨i + 1, by go_num, by omega, by with_reducible (repeat' first | assumption | exact Below.refl _ _ | refine Below.drew ?_ | refine bdrewN ?_ _ | refine Below.setCell ?_ (by first | exact Nat.le_refl _ | (simp; done) | (simp; omega) | omega) _ | refine Below.alloc ?_ (by first | exact Nat.le_refl _ | (simp; done) | (simp; omega) | omega) _), by first | omega | (simp; omega), by with_reducible (repeat' first | assumption | refine Own.drew ?_ | refine Own.drewN ?_ _ | (refine Own.at ?_; first | rfl | (simp; done)) | refine Own.past ?_ _ | refine Own.aside ?_ (by first | (simp; done) | (simp; omega) | omega) _), by with_reducible (repeat' first | assumption | refine Row.drew ?_ | refine Row.drewM ?_ _ | refine Row.past ?_ _ | refine Row.aside ?_ _ (by intro g' hg'; have hq := own_is hg'; subst hq; simp; omega)), BV.congr (by with_reducible (repeat' first | assumption | refine BV.drew ?_ | refine BV.drewN ?_ _ | refine BV.past ?_ _ | refine BV.aside ?_ (by simp; omega) _)) (fun j hj => mrkK_all HTI.out hj)⟩, by simp [intOf]; omega⟩
    · have hlt' : ¬ (i : Int) < n := by omega
      have hin : i = n := by omega
      have hvz : BV wr U m (fun _ => true) := BV.congr hv0 (fun j hj => by rw [hin]; exact mrk_all HN.out HLE.out (by rw [HM.out]; exact hj))
      clear hv0
      go_wp2
      go_loopw [10] (fun v w' => ∃ k : Nat, v = .int .i64 k ∧ k ≤ m ∧ Below w.heap.size w w' ∧ BV w' U m (fun _ => true)) (fun v _ => m - (intOf v).toNat)
      case atStart => exact ⟨0, rfl, by omega, hB, hvz⟩
      case round =>
        obtain ⟨k, rfl, hk, hBk, hvk⟩ := hrel
        have zk := hBk.size
        by_cases hkl : k < m
        · have hkl' : (k : Int) < m := by omega
          have cu := hvk.cell k hkl
          go_wp2
          exact ⟨⟨k + 1, by go_num, by omega, by with_reducible (repeat' first | assumption | exact Below.refl _ _ | refine Below.drew ?_ | refine bdrewN ?_ _ | refine Below.setCell ?_ (by first | exact Nat.le_refl _ | (simp; done) | (simp; omega) | omega) _ | refine Below.alloc ?_ (by first | exact Nat.le_refl _ | (simp; done) | (simp; omega) | omega) _), by with_reducible (repeat' first | assumption | refine BV.drew ?_ | refine BV.drewN ?_ _ | refine BV.past ?_ _ | refine BV.aside ?_ (by simp; omega) _)⟩, by simp [intOf]; omega⟩
        · have hkl' : ¬ (k : Int) < m := by omega
          go_wp2_with (go_at_call 14; refine (HLV.out _).mono ?_; rintro e w5 ⟨rfl, hb5⟩; have hB5 : Below w.heap.size w w5 := bup (by with_reducible (repeat' first | assumption | exact Below.refl _ _ | refine Below.drew ?_ | refine bdrewN ?_ _ | refine Below.setCell ?_ (by first | exact Nat.le_refl _ | (simp; done) | (simp; omega) | omega) _ | refine Below.alloc ?_ (by first | exact Nat.le_refl _ | (simp; done) | (simp; omega) | omega) _)) hb5)
          go_ret
          exact ⟨rfl, hB5⟩
end Go.Proofs.YtcddhpmpihmfdaaDoor
