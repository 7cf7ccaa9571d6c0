/- The contract of the laws' own copied: a formula of its own with the same nodes, in a list with two empty places behind. New memory alone is made. The condition: a list that takes at most 2^47 bytes. -/
import Derived.Test.YtekpmdpmcbjkkaaDoorN7
namespace Go.Proofs.YtekpmdpmcbjkkaaDoor
open Go.Shelf Go.RowKit
set_option linter.all false
/-- Cells that are stored one behind the other. -/
def setN (W : World) (g o : Nat) : List Value → World
  | [] => W
  | c :: cs => setN (W.setCell ⟨g, o, none⟩ c) g (o + 1) cs
theorem setN_size (g : Nat) : ∀ (cs : List Value) (W : World) (o : Nat), (setN W g o cs).heap.size = W.heap.size
  | [], W, o => rfl
  | c :: cs, W, o => by rw [setN, setN_size g cs]; simp [World.setCell]
theorem setN_block (g : Nat) : ∀ (cs : List Value) (W : World) (o b : Nat), b ≠ g → (setN W g o cs).heap[b]? = W.heap[b]?
  | [], W, o, b, _ => rfl
  | c :: cs, W, o, b, h => by rw [setN, setN_block g cs _ _ b h]; exact Below.heap_setCell W ⟨g, o, none⟩ c b h
theorem setN_frozen (g : Nat) : ∀ (cs : List Value) (W : World) (o : Nat) (a : Addr), (setN W g o cs).frozen? a = W.frozen? a
  | [], W, o, a => rfl
  | c :: cs, W, o, a => by rw [setN, setN_frozen g cs, World.frozen?_setCell]
theorem setN_far (g : Nat) : ∀ (cs : List Value) (W : World) (o k : Nat), k < o ∨ o + cs.length ≤ k → (setN W g o cs).cell? ⟨g, k, none⟩ = W.cell? ⟨g, k, none⟩
  | [], W, o, k, _ => rfl
  | c :: cs, W, o, k, h => by
    rw [List.length_cons] at h
    rw [setN, setN_far g cs _ _ k (by omega)]
    exact World.cell?_setCell_other _ _ _ _ (by intro hh; have := congrArg Addr.off hh; simp at this; omega)
theorem setN_at (g : Nat) : ∀ (cs : List Value) (W : World) (o : Nat), (∀ j, j < cs.length → (W.cell? ⟨g, o + j, none⟩).isSome = true) → ∀ j, j < cs.length → (setN W g o cs).cell? ⟨g, o + j, none⟩ = cs[j]?
  | [], W, o, _, j, hj => by simp at hj
  | c :: cs, W, o, h, 0, hj => by
    rw [setN, setN_far g cs _ _ _ (by omega), Nat.add_zero]
    have := h 0 (by simp)
    rw [Nat.add_zero] at this
    rw [World.cell?_setCell_same' _ _ _ this]
    rfl
  | c :: cs, W, o, h, j + 1, hj => by
    have hj' : j < cs.length := by simpa using hj
    have ih := setN_at g cs (W.setCell ⟨g, o, none⟩ c) (o + 1) (fun i hi => by
      rw [World.cell?_setCell_other _ _ _ _ (by intro hh; have := congrArg Addr.off hh; simp at this; omega)]
      have := h (i + 1) (by simp; omega)
      rwa [show o + (i + 1) = o + 1 + i by omega] at this) j hj'
    rw [setN, show o + (j + 1) = o + 1 + j by omega, ih]
    simp
/-- A block that holds these nodes from its begin on, none of its cells frozen. -/
structure CV (w : World) (g : Nat) (l : List Nd) : Prop where
  lt : g < w.heap.size
  cell : ∀ i x, l[i]? = some x → ∀ j, j < 15 → w.cell? ⟨g, i * 15 + j, none⟩ = (Nd.cells x)[j]?
  fro : ∀ o, w.frozen? ⟨g, o, none⟩ = false
theorem CV.keep {w w' : World} {g : Nat} {l : List Nd} (h : CV w g l) (hb : Below w.heap.size w w') : CV w' g l :=
  ⟨Nat.lt_of_lt_of_le h.lt hb.size, fun i x hi j hj => (hb.cell (p := ⟨g, i * 15 + j, none⟩) h.lt).trans (h.cell i x hi j hj), fun o => (hb.frozen (p := ⟨g, o, none⟩) h.lt).trans (h.fro o)⟩
theorem CV.past {w : World} {g : Nat} {l : List Nd} (h : CV w g l) (x : Obj) : CV (w.alloc x) g l := h.keep (bal w x)
theorem CV.drew {w : World} {g : Nat} {l : List Nd} (h : CV w g l) : CV w.drew g l := h.keep (Below.refl _ _).drew
theorem CV.aside {w : World} {g : Nat} {l : List Nd} (h : CV w g l) {a : Addr} (hb : g ≠ a.block) (v : Value) : CV (w.setCell a v) g l :=
  ⟨by simpa [World.setCell] using h.lt, fun i x hi j hj => (World.cell?_of_block (Below.heap_setCell w a v g hb)).trans (h.cell i x hi j hj), fun o => by rw [World.frozen?_setCell]; exact h.fro o⟩
theorem CV.put {w : World} {g i : Nat} {l : List Nd} {x : Nd} (h : CV w g l) (hi : i < l.length) : CV (setN w g (i * 15) x.cells.toList) g (l.set i x) := by
  refine ⟨by rw [setN_size]; exact h.lt, fun k y hk j hj => ?_, fun o => by rw [setN_frozen]; exact h.fro o⟩
  by_cases e : k = i
  · subst e
    rw [List.getElem?_set_self hi] at hk
    cases hk
    rw [setN_at g x.cells.toList w (k * 15) (fun j hj => ?_) j hj]
    · simp
    · have h2 := h.cell k l[k] (List.getElem?_eq_getElem hi) j hj
      rw [h2, Array.getElem?_eq_getElem (show j < (Nd.cells l[k]).size from hj)]
      rfl
  · rw [List.getElem?_set_ne (fun q => e q.symm)] at hk
    rw [setN_far g _ w _ _ (by show _ ∨ i * 15 + 15 ≤ _; rcases Nat.lt_or_gt_of_ne e with q | q <;> omega)]
    exact h.cell k y hk j hj
theorem CV.view {w : World} {g c : Nat} {l ns : List Nd} (h : CV w g l) (hp : ∀ (i : Nat) x, ns[i]? = some x → l[i]? = some x) (hc : ns.length ≤ c) : NV w (.slice (some ⟨g, 0, none⟩) ns.length c) ns :=
  ⟨_, _, rfl, hc, fun _ => ⟨g, 0, rfl, h.lt, fun i x hi j hj => by rw [Nat.zero_add]; exact h.cell i x (hp i x hi) j hj⟩⟩
theorem pre_at {ns m : List Nd} {i : Nat} {x : Nd} (h : ns[i]? = some x) : (ns ++ m)[i]? = some x := by
  rw [List.getElem?_append_left (List.getElem?_eq_some_iff.1 h).1]; exact h
/-- What stands in the list behind so many rounds. -/
def half (ns : List Nd) (i : Nat) : List Nd := ns.take i ++ List.replicate (ns.length + 2 - i) nd0
theorem half_len (ns : List Nd) (i : Nat) (h : i ≤ ns.length) : (half ns i).length = ns.length + 2 := by simp [half]; omega
theorem half_next {ns : List Nd} {i : Nat} {x : Nd} (h : ns[i]? = some x) : (half ns i).set i x = half ns (i + 1) := by
  have hi := (List.getElem?_eq_some_iff.1 h).1
  unfold half
  rw [take_snoc h, List.set_append_right i x (by rw [List.length_take]; omega), List.length_take, Nat.min_eq_left (by omega), Nat.sub_self]
  obtain ⟨k, hk⟩ : ∃ k, ns.length + 2 - i = k + 1 := ⟨ns.length + 1 - i, by omega⟩
  rw [hk, show ns.length + 2 - (i + 1) = k by omega, List.replicate_succ]
  simp
theorem half_all (ns : List Nd) : half ns ns.length = ns ++ [nd0, nd0] := by
  unfold half
  rw [List.take_length, show ns.length + 2 - ns.length = 2 by omega]; rfl
theorem half_zero {ns : List Nd} {i k : Nat} {x : Nd} (hk : i ≤ k) (hi : i ≤ ns.length) (h : (half ns i)[k]? = some x) : x = nd0 := by
  unfold half at h
  rw [List.getElem?_append_right (by rw [List.length_take]; omega)] at h
  have := List.mem_of_getElem? h
  exact (List.mem_replicate.1 this).2
theorem infoNd : (Tryd.prog.info? 42).map (fun i => (i.zero, i.size, i.bytes)) = some (some (.agg nd0.cells), 15, 136) := by kernel_rfl
theorem made_cell (N k j : Nat) (hk : k < N) (hj : j < 15) : (madeCells nd0.cells (N * 15))[k * 15 + j]? = nd0.cells[j]? := by
  have h1 : k * 15 + j < N * 15 := by omega
  unfold madeCells
  rw [Array.getElem?_map, Array.getElem?_range, if_pos h1]
  have e : (k * 15 + j) % nd0.cells.size = j := by show (k * 15 + j) % 15 = j; omega
  show some (nd0.cells[(k * 15 + j) % nd0.cells.size]!) = _
  rw [e, getElem!_pos nd0.cells j hj, Array.getElem?_eq_getElem hj]
theorem CV.made (W : World) (n : Nat) (ns : List Nd) (hn : ns.length = n) : CV (W.alloc (.cells (madeCells nd0.cells ((n + 2) * 15)) 42)) W.heap.size (half ns 0) := by
  have ho := Own.new W (madeCells nd0.cells ((n + 2) * 15)) 42
  refine ⟨ho.lt, fun i x hi j hj => ?_, ho.fro⟩
  have hl := (List.getElem?_eq_some_iff.1 hi).1
  rw [half_len ns 0 (Nat.zero_le _)] at hl
  rw [half_zero (Nat.zero_le _) (Nat.zero_le _) hi, ho.cell, made_cell (n + 2) i j (by omega) hj]
set_option maxRecDepth 100000 in
set_option maxHeartbeats 4000000 in
theorem copied_y (w : World) (b o cap n : Nat) (ns : List Nd) (hlb : b < w.heap.size) (HC : ∀ i x, ns[i]? = some x → ∀ j, j < 15 → w.cell? ⟨b, o + i * 15 + j, none⟩ = (Nd.cells x)[j]?) (hcap : n ≤ cap) (h0 : 0 < n) (hn : ns.length = n) (hl : 136 * (n + 2) ≤ 281474976710656) :
    Calls Tryd.prog 4 #[.agg #[.slice (some ⟨b, o, none⟩) n cap]] w fun e w' => ∃ g, e = .returned (.agg #[.slice (some ⟨g, 0, none⟩) n (n + 2)]) ∧ w.heap.size ≤ g ∧ CV w' g (ns ++ [nd0, nd0]) ∧ Below w.heap.size w w' := by
  have hmk : ∀ w : World, (Instr.makeSlice 22 (.int .i64 (n : Int)) (.int .i64 ((n : Int) + 2))).run Tryd.prog w = .ok (.slice (some ⟨w.heap.size, 0, none⟩) n (n + 2)) (w.alloc (.cells (madeCells nd0.cells ((n + 2) * 15)) 42)) := fun w => by
    obtain ⟨i0, hi, hz0, hz1, hz2⟩ := info_parts infoNd
    have h := run_make (P := Tryd.prog) w 22 42 i0 _ Tryd.underlying22 hi hz0 .i64 .i64 n ((n : Int) + 2) (by omega) (by omega) (by rw [hz2]; omega) (by omega)
    rw [hz1] at h
    have e1 : ((n : Int)).toNat = n := by omega
    have e2 : ((n : Int) + 2).toNat = n + 2 := by omega
    rw [e1, e2] at h
    exact h
  have HC' : Hid _ := HC
  have HN : Hid (ns.length = n) := hn
  clear HC
  go_enter Tryd.func4, Tryd.ntmps4
  go_wp2
  obtain ⟨g, hg⟩ : ∃ g, w.heap.size + 1 + 1 = g := ⟨_, rfl⟩
  have hcv : CV (((w.alloc (.cells #[.slice (some ⟨b, o, none⟩) n cap] 24)).alloc (.cells #[.slice none 0 0] 24)).alloc (.cells (madeCells nd0.cells ((n + 2) * 15)) 42)) g (half ns 0) := by
    rw [← hg]; have h := CV.made ((w.alloc (.cells #[.slice (some ⟨b, o, none⟩) n cap] 24)).alloc (.cells #[.slice none 0 0] 24)) n ns hn
    rw [World.size_alloc, World.size_alloc] at h; exact h
  have hgw : w.heap.size + 2 ≤ g := by omega
  rw [hg]
  go_loopw [4] (fun v w' => ∃ i : Nat, v = .int .i64 i ∧ i ≤ n ∧ Below w.heap.size w w' ∧ Own w' w.heap.size #[.slice (some ⟨b, o, none⟩) n cap] ∧ Own w' (w.heap.size + 1) #[.slice none 0 0] ∧ CV w' g (half ns i)) (fun v _ => n - (intOf v).toNat)
  case atStart => exact ⟨0, rfl, by omega, by with_reducible (repeat' first | assumption | exact Below.refl _ _ | refine Below.drew ?_ | refine bdrewN ?_ _ | refine Below.setCell ?_ (by first | exact Nat.le_refl _ | (simp; done) | (simp; omega) | omega) _ | refine Below.alloc ?_ (by first | exact Nat.le_refl _ | (simp; done) | (simp; omega) | omega) _), by with_reducible (repeat' first | assumption | refine Own.drew ?_ | refine Own.drewN ?_ _ | (refine Own.at ?_; first | rfl | (simp; done)) | refine Own.past ?_ _ | refine Own.aside ?_ (by first | (simp; done) | (simp; omega) | omega) _), by with_reducible (repeat' first | assumption | refine Own.drew ?_ | refine Own.drewN ?_ _ | (refine Own.at ?_; first | rfl | (simp; done)) | refine Own.past ?_ _ | refine Own.aside ?_ (by first | (simp; done) | (simp; omega) | omega) _), hcv⟩
  case round =>
    obtain ⟨i, rfl, hi, hB, o0, o1, hcw⟩ := hrel
    have c0 := o0.cell
    have c1 := o1.cell
    have f1 := o1.fro
    have l0 := o0.lt
    have l1 := o1.lt
    have z := hB.size
    by_cases hlt : i < n
    · have hlt' : (i : Int) < n := by omega
      have hlt2 : (i : Int) < (n : Int) + 2 := by omega
      have hti : ns[i]? = some (ns[i]'(by rw [HN.out]; exact hlt)) := List.getElem?_eq_getElem _
      have cx := fun j hj => (show wr.cell? ⟨b, o + i * 15 + j, none⟩ = _ from (hB.cell (p := ⟨b, o + i * 15 + j, none⟩) hlb).trans (HC'.out i _ hti j hj))
      have HTI : Hid _ := hti
      revert cx HTI
      generalize (ns[i]'(by rw [HN.out]; exact hlt)) = nd
      intro cx HTI
      clear hti
      have x0 : wr.cell? ⟨b, o + i * 15, none⟩ = some (.int .i64 nd.kind) := cx 0 (by decide)
      have x1 : wr.cell? ⟨b, o + i * 15 + 1, none⟩ = some (.int .i64 nd.tag) := cx 1 (by decide)
      have x2 : wr.cell? ⟨b, o + i * 15 + 2, none⟩ = some (.int .i64 nd.num) := cx 2 (by decide)
      have x3 : wr.cell? ⟨b, o + i * 15 + 3, none⟩ = some (.string nd.str) := cx 3 (by decide)
      have x4 : wr.cell? ⟨b, o + i * 15 + 4, none⟩ = some (.bool nd.is) := cx 4 (by decide)
      have x5 : wr.cell? ⟨b, o + i * 15 + 5, none⟩ = some (.int .i64 nd.code) := cx 5 (by decide)
      have x6 : wr.cell? ⟨b, o + i * 15 + 6, none⟩ = some (.int .i64 nd.row) := cx 6 (by decide)
      have x7 : wr.cell? ⟨b, o + i * 15 + 7, none⟩ = some (.int .i64 nd.col) := cx 7 (by decide)
      have x8 : wr.cell? ⟨b, o + i * 15 + 8, none⟩ = some (.int .i64 nd.top) := cx 8 (by decide)
      have x9 : wr.cell? ⟨b, o + i * 15 + 9, none⟩ = some (.int .i64 nd.left) := cx 9 (by decide)
      have x10 : wr.cell? ⟨b, o + i * 15 + 10, none⟩ = some (.int .i64 nd.bot) := cx 10 (by decide)
      have x11 : wr.cell? ⟨b, o + i * 15 + 11, none⟩ = some (.int .i64 nd.right) := cx 11 (by decide)
      have x12 : wr.cell? ⟨b, o + i * 15 + 12, none⟩ = some (.int .i64 nd.op) := cx 12 (by decide)
      have x13 : wr.cell? ⟨b, o + i * 15 + 13, none⟩ = some (.string nd.name) := cx 13 (by decide)
      have x14 : wr.cell? ⟨b, o + i * 15 + 14, none⟩ = some (.int .i64 nd.args) := cx 14 (by decide)
      clear cx
      have hh : (half ns i)[i]? = some nd0 := by
        have h1 : i < (half ns i).length := by rw [half_len ns i (by omega)]; omega
        have h2 := List.getElem?_eq_getElem h1
        rw [h2, half_zero (Nat.le_refl _) (by omega) h2]
      have cz := fun j hj => (show wr.cell? ⟨g, i * 15 + j, none⟩ = _ from hcw.cell i nd0 hh j hj)
      have y0 : wr.cell? ⟨g, i * 15, none⟩ = some (.int .i64 nd0.kind) := cz 0 (by decide)
      have y1 : wr.cell? ⟨g, i * 15 + 1, none⟩ = some (.int .i64 nd0.tag) := cz 1 (by decide)
      have y2 : wr.cell? ⟨g, i * 15 + 2, none⟩ = some (.int .i64 nd0.num) := cz 2 (by decide)
      have y3 : wr.cell? ⟨g, i * 15 + 3, none⟩ = some (.string nd0.str) := cz 3 (by decide)
      have y4 : wr.cell? ⟨g, i * 15 + 4, none⟩ = some (.bool nd0.is) := cz 4 (by decide)
      have y5 : wr.cell? ⟨g, i * 15 + 5, none⟩ = some (.int .i64 nd0.code) := cz 5 (by decide)
      have y6 : wr.cell? ⟨g, i * 15 + 6, none⟩ = some (.int .i64 nd0.row) := cz 6 (by decide)
      have y7 : wr.cell? ⟨g, i * 15 + 7, none⟩ = some (.int .i64 nd0.col) := cz 7 (by decide)
      have y8 : wr.cell? ⟨g, i * 15 + 8, none⟩ = some (.int .i64 nd0.top) := cz 8 (by decide)
      have y9 : wr.cell? ⟨g, i * 15 + 9, none⟩ = some (.int .i64 nd0.left) := cz 9 (by decide)
      have y10 : wr.cell? ⟨g, i * 15 + 10, none⟩ = some (.int .i64 nd0.bot) := cz 10 (by decide)
      have y11 : wr.cell? ⟨g, i * 15 + 11, none⟩ = some (.int .i64 nd0.right) := cz 11 (by decide)
      have y12 : wr.cell? ⟨g, i * 15 + 12, none⟩ = some (.int .i64 nd0.op) := cz 12 (by decide)
      have y13 : wr.cell? ⟨g, i * 15 + 13, none⟩ = some (.string nd0.name) := cz 13 (by decide)
      have y14 : wr.cell? ⟨g, i * 15 + 14, none⟩ = some (.int .i64 nd0.args) := cz 14 (by decide)
      have fz := hcw.fro
      have lz := hcw.lt
      clear cz hh
      have HCW : Hid _ := hcw
      clear hcw
      go_wp2
      have q1 : CV (setN wr g (i * 15) nd.cells.toList) g (half ns (i + 1)) := by rw [← half_next HTI.out]; exact CV.put HCW.out (by rw [half_len ns i (by omega)]; omega)
      have q2 : Own (setN wr g (i * 15) nd.cells.toList) w.heap.size #[.slice (some ⟨b, o, none⟩) n cap] := o0.of_block (setN_block g _ _ _ _ (by omega))
      have q3 : Own (setN wr g (i * 15) nd.cells.toList) (w.heap.size + 1) #[.slice none 0 0] := o1.of_block (setN_block g _ _ _ _ (by omega))
      go_roundw
      case rel => exact ⟨i + 1, by go_num, by omega, by with_reducible (repeat' first | assumption | exact Below.refl _ _ | refine Below.drew ?_ | refine bdrewN ?_ _ | refine Below.setCell ?_ (by first | exact Nat.le_refl _ | (simp; done) | (simp; omega) | omega) _ | refine Below.alloc ?_ (by first | exact Nat.le_refl _ | (simp; done) | (simp; omega) | omega) _), q2, q3, q1⟩
      case measure => simp [intOf]; omega
    · have hlt' : ¬ (i : Int) < n := by omega
      have ein : i = n := by omega
      rw [ein] at hcw
      go_wp2
      exact bodyPost_ret (v := .agg #[.slice (some ⟨g, 0, none⟩) n (n + 2)]) (by simp [results, Tryd.results4, go_sem, c1, f1, l1]) rfl ⟨g, rfl, by omega, by rw [← half_all, HN.out]; exact CV.aside hcw (by simp; omega) _, by with_reducible (repeat' first | assumption | exact Below.refl _ _ | refine Below.drew ?_ | refine bdrewN ?_ _ | refine Below.setCell ?_ (by first | exact Nat.le_refl _ | (simp; done) | (simp; omega) | omega) _ | refine Below.alloc ?_ (by first | exact Nat.le_refl _ | (simp; done) | (simp; omega) | omega) _)⟩
set_option maxRecDepth 100000 in
set_option maxHeartbeats 4000000 in
theorem copied_e (w : World) (p : Option Addr) (cap : Nat) :
    Calls Tryd.prog 4 #[.agg #[.slice p 0 cap]] w fun e w' => ∃ g, e = .returned (.agg #[.slice (some ⟨g, 0, none⟩) 0 2]) ∧ w.heap.size ≤ g ∧ CV w' g ([] ++ [nd0, nd0]) ∧ Below w.heap.size w w' := by
  have hmk : ∀ w : World, (Instr.makeSlice 22 (.int .i64 0) (.int .i64 2)).run Tryd.prog w = .ok (.slice (some ⟨w.heap.size, 0, none⟩) 0 2) (w.alloc (.cells (madeCells nd0.cells ((0 + 2) * 15)) 42)) := fun w => by
    obtain ⟨i0, hi, hz0, hz1, hz2⟩ := info_parts infoNd
    have h := run_make (P := Tryd.prog) w 22 42 i0 _ Tryd.underlying22 hi hz0 .i64 .i64 0 2 (by omega) (by omega) (by rw [hz2]; omega) (by omega)
    rw [hz1] at h
    exact h
  go_enter Tryd.func4, Tryd.ntmps4
  go_wp2
  obtain ⟨g, hg⟩ : ∃ g, w.heap.size + 1 + 1 = g := ⟨_, rfl⟩
  have hcv : CV (((w.alloc (.cells #[.slice p 0 cap] 24)).alloc (.cells #[.slice none 0 0] 24)).alloc (.cells (madeCells nd0.cells ((0 + 2) * 15)) 42)) g (half [] 0) := by
    rw [← hg]; have h := CV.made ((w.alloc (.cells #[.slice p 0 cap] 24)).alloc (.cells #[.slice none 0 0] 24)) 0 [] rfl
    rw [World.size_alloc, World.size_alloc] at h; exact h
  have hgw : w.heap.size + 2 ≤ g := by omega
  try rw [hg]
  go_loopw [4] (fun v w' => v = .int .i64 0 ∧ Below w.heap.size w w' ∧ Own w' w.heap.size #[.slice p 0 cap] ∧ Own w' (w.heap.size + 1) #[.slice none 0 0] ∧ CV w' g (half [] 0)) (fun v _ => 0)
  case atStart => exact ⟨rfl, by with_reducible (repeat' first | assumption | exact Below.refl _ _ | refine Below.drew ?_ | refine bdrewN ?_ _ | refine Below.setCell ?_ (by first | exact Nat.le_refl _ | (simp; done) | (simp; omega) | omega) _ | refine Below.alloc ?_ (by first | exact Nat.le_refl _ | (simp; done) | (simp; omega) | omega) _), by with_reducible (repeat' first | assumption | refine Own.drew ?_ | refine Own.drewN ?_ _ | (refine Own.at ?_; first | rfl | (simp; done)) | refine Own.past ?_ _ | refine Own.aside ?_ (by first | (simp; done) | (simp; omega) | omega) _), by with_reducible (repeat' first | assumption | refine Own.drew ?_ | refine Own.drewN ?_ _ | (refine Own.at ?_; first | rfl | (simp; done)) | refine Own.past ?_ _ | refine Own.aside ?_ (by first | (simp; done) | (simp; omega) | omega) _), hcv⟩
  case round =>
    obtain ⟨rfl, hB, o0, o1, hcw⟩ := hrel
    have c0 := o0.cell
    have c1 := o1.cell
    have f1 := o1.fro
    have l0 := o0.lt
    have l1 := o1.lt
    have z := hB.size
    go_wp2
    exact bodyPost_ret (v := .agg #[.slice (some ⟨g, 0, none⟩) 0 2]) (by simp [results, Tryd.results4, go_sem, c1, f1, l1]) rfl ⟨g, rfl, by omega, CV.aside hcw (by simp; omega) _, by with_reducible (repeat' first | assumption | exact Below.refl _ _ | refine Below.drew ?_ | refine bdrewN ?_ _ | refine Below.setCell ?_ (by first | exact Nat.le_refl _ | (simp; done) | (simp; omega) | omega) _ | refine Below.alloc ?_ (by first | exact Nat.le_refl _ | (simp; done) | (simp; omega) | omega) _)⟩
theorem copied_any (w : World) (v : Value) (ns : List Nd) (hv : NV w v ns) (hl : 136 * (ns.length + 2) ≤ 281474976710656) :
    Calls Tryd.prog 4 #[.agg #[v]] w fun e w' => ∃ g, e = .returned (.agg #[.slice (some ⟨g, 0, none⟩) ns.length (ns.length + 2)]) ∧ w.heap.size ≤ g ∧ CV w' g (ns ++ [nd0, nd0]) ∧ Below w.heap.size w w' := by
  obtain ⟨p, cap, rfl, hc, hf⟩ := hv
  by_cases h0 : 0 < ns.length
  · obtain ⟨b, o, rfl, hlt, HC⟩ := hf h0
    exact copied_y w b o cap ns.length ns hlt HC hc h0 rfl hl
  · obtain rfl : ns = [] := List.length_eq_zero_iff.1 (by omega)
    exact copied_e w p cap
end Go.Proofs.YtekpmdpmcbjkkaaDoor
