/- The contract of the document's part: what a node leaves in the place of the things that it works on, if it may work on them, in the words of the program's. New memory alone is made. The conditions: at most 1024 things, none deeper than 4096; of an operation at most two. -/
import Derived.Test.YtekpmdpmcbjkkaaDoorS4
namespace Go.Proofs.YtekpmdpmcbjkkaaDoor
open Go.Shelf Go.RowKit
set_option linter.all false
/-- What part answers. -/
def ptOut : Option Th → Value
  | some t => .tuple #[.agg t.pcells, .bool true]
  | none => .tuple #[.agg #[.int .i64 0, .int .i64 0, .bool false], .bool false]
/-- A slice of things, in the document's order of fields. -/
abbrev PV (w : World) (v : Value) (l : List Th) : Prop := View Th.pcells 3 w v l
set_option maxHeartbeats 2000000 in
theorem part_3 (tag : Int) (num : Int) (str : ByteArray) (is : Bool) (code : Int) (row : Int) (col : Int) (top : Int) (left : Int) (bot : Int) (right : Int) (op : Int) (name : ByteArray) (args : Int) (p : Option Addr) (cap : Nat) (w : World) : Calls Tryd.prog 26 #[.agg #[.int .i64 3, .int .i64 tag, .int .i64 num, .string str, .bool is, .int .i64 code, .int .i64 row, .int .i64 col, .int .i64 top, .int .i64 left, .int .i64 bot, .int .i64 right, .int .i64 op, .string name, .int .i64 args], .slice p 0 cap] w fun e w' => e = .returned (.tuple #[.agg #[.int .i64 0, .int .i64 7, .bool true], .bool true]) ∧ Below w.heap.size w w' := by
  go_enter Tryd.func26, Tryd.ntmps26
  go_wp2
  all_goals exact bodyPost_ret (v := .tuple #[.agg #[.int .i64 0, .int .i64 7, .bool true], .bool true]) (by simp [results, Tryd.results26, go_sem, *]) rfl ⟨rfl, by with_reducible (repeat' first | assumption | exact Below.refl _ _ | refine Below.drew ?_ | refine bdrewN ?_ _ | refine Below.setCell ?_ (by first | exact Nat.le_refl _ | (simp; done) | (simp; omega) | omega) _ | refine Below.alloc ?_ (by first | exact Nat.le_refl _ | (simp; done) | (simp; omega) | omega) _)⟩
set_option maxHeartbeats 2000000 in
theorem part_x (kind : Int) (tag : Int) (num : Int) (str : ByteArray) (is : Bool) (code : Int) (row : Int) (col : Int) (top : Int) (left : Int) (bot : Int) (right : Int) (op : Int) (name : ByteArray) (args : Int) (p : Option Addr) (cap : Nat) (w : World) (h3 : (kind == 3) = false) (h4 : (kind == 4) = false) (h5 : (kind == 5) = false) : Calls Tryd.prog 26 #[.agg #[.int .i64 kind, .int .i64 tag, .int .i64 num, .string str, .bool is, .int .i64 code, .int .i64 row, .int .i64 col, .int .i64 top, .int .i64 left, .int .i64 bot, .int .i64 right, .int .i64 op, .string name, .int .i64 args], .slice p 0 cap] w fun e w' => e = .returned (.tuple #[.agg #[.int .i64 0, .int .i64 7, .bool false], .bool true]) ∧ Below w.heap.size w w' := by
  go_enter Tryd.func26, Tryd.ntmps26
  go_wp2
  all_goals exact bodyPost_ret (v := .tuple #[.agg #[.int .i64 0, .int .i64 7, .bool false], .bool true]) (by simp [results, Tryd.results26, go_sem, *]) rfl ⟨rfl, by with_reducible (repeat' first | assumption | exact Below.refl _ _ | refine Below.drew ?_ | refine bdrewN ?_ _ | refine Below.setCell ?_ (by first | exact Nat.le_refl _ | (simp; done) | (simp; omega) | omega) _ | refine Below.alloc ?_ (by first | exact Nat.le_refl _ | (simp; done) | (simp; omega) | omega) _)⟩
theorem own_first {W : World} {b : Nat} {x y z x' : Value} (h : Own W b #[x, y, z]) : Own (W.setCell ⟨b, 0, none⟩ x') b #[x', y, z] := own_put h (k := 0) (by simp)
set_option maxRecDepth 100000 in
set_option maxHeartbeats 4000000 in
theorem part_5y (tag : Int) (num : Int) (str : ByteArray) (is : Bool) (code : Int) (row : Int) (col : Int) (top : Int) (left : Int) (bot : Int) (right : Int) (op : Int) (name : ByteArray) (args : Int) (w : World) (b o cap n : Nat) (l : List Th) (hlb : b < w.heap.size) (HC : ∀ i t, l[i]? = some t → ∀ j, j < 3 → w.cell? ⟨b, o + i * 3 + j, none⟩ = (Th.pcells t)[j]?)
    (hn : l.length = n) (hcap : n ≤ cap) (h0 : 0 < n) (hl : n ≤ 1024) (hdp : ∀ t ∈ l, t.dep ≤ 4096) :
    Calls Tryd.prog 26 #[.agg #[.int .i64 5, .int .i64 tag, .int .i64 num, .string str, .bool is, .int .i64 code, .int .i64 row, .int .i64 col, .int .i64 top, .int .i64 left, .int .i64 bot, .int .i64 right, .int .i64 op, .string name, .int .i64 args], .slice (some ⟨b, o, none⟩) n cap] w fun e w' => e = .returned (.tuple #[.agg #[.int .i64 (maxD op false 0 l 0 + 1 : Nat), .int .i64 7, .bool false], .bool true]) ∧ Below w.heap.size w w' := by
  have mixed : Tryd.prog.follows .mixedOrders = true := by kernel_rfl
  have HC' : Hid _ := HC
  have HN : Hid (l.length = n) := hn
  have HDP : Hid _ := hdp
  clear HC hn hdp
  go_enter Tryd.func26, Tryd.ntmps26
  go_wp2
  go_loopw [7] (fun v w' => ∃ i d : Nat, v = .int .i64 i ∧ i ≤ n ∧ d ≤ 5000 ∧ Hid (d = maxD op false 0 (l.take i) 0 + 1) ∧ Below w.heap.size w w' ∧ Own w' w.heap.size #[.int .i64 5, .int .i64 tag, .int .i64 num, .string str, .bool is, .int .i64 code, .int .i64 row, .int .i64 col, .int .i64 top, .int .i64 left, .int .i64 bot, .int .i64 right, .int .i64 op, .string name, .int .i64 args] ∧ Own w' (w.heap.size + 1) #[.int .i64 0, .int .i64 0, .bool false] ∧ Own w' (w.heap.size + 1 + 1) #[.int .i64 (d : Nat), .int .i64 7, .bool false]) (fun v _ => n - (intOf v).toNat)
  case atStart => exact ⟨0, 1, rfl, by omega, by omega, rfl, by with_reducible (repeat' first | assumption | exact Below.refl _ _ | refine Below.drew ?_ | refine bdrewN ?_ _ | refine Below.setCell ?_ (by first | exact Nat.le_refl _ | (simp; done) | (simp; omega) | omega) _ | refine Below.alloc ?_ (by first | exact Nat.le_refl _ | (simp; done) | (simp; omega) | omega) _), by with_reducible (repeat' first | assumption | refine Own.drew ?_ | refine Own.drewN ?_ _ | (refine Own.at ?_; first | rfl | (simp; done)) | refine Own.past ?_ _ | refine Own.aside ?_ (by first | (simp; done) | (simp; omega) | omega) _), by with_reducible (repeat' first | assumption | refine Own.drew ?_ | refine Own.drewN ?_ _ | (refine Own.at ?_; first | rfl | (simp; done)) | refine Own.past ?_ _ | refine Own.aside ?_ (by first | (simp; done) | (simp; omega) | omega) _), (show Own _ (w.heap.size + 1 + 1) #[.int .i64 1, .int .i64 7, .bool false] by with_reducible (repeat' first | assumption | refine Own.drew ?_ | refine Own.drewN ?_ _ | (refine Own.at ?_; first | rfl | (simp; done)) | refine Own.past ?_ _ | refine Own.aside ?_ (by first | (simp; done) | (simp; omega) | omega) _))⟩
  case round =>
    obtain ⟨i, d, rfl, hi, hd, hD, hB, o0, o1, o2⟩ := hrel
    have c0 := o0.cell
    have c1 := o1.cell
    have c2 := o2.cell
    have l0 := o0.lt
    have l1 := o1.lt
    have l2 := o2.lt
    have f1 := o1.fro
    have f2 := o2.fro
    have z := hB.size
    by_cases hlt : i < n
    · have hlt' : (i : Int) < n := by omega
      have hti : l[i]? = some (l[i]'(by rw [HN.out]; exact hlt)) := List.getElem?_eq_getElem _
      have hdt := HDP.out _ (List.mem_of_getElem? hti)
      have cx := fun j hj => (show wr.cell? ⟨b, o + i * 3 + j, none⟩ = _ from (hB.cell (p := ⟨b, o + i * 3 + j, none⟩) hlb).trans (HC'.out i _ hti j hj))
      have HT : Hid _ := hti
      revert cx HT hdt
      generalize (l[i]'(by rw [HN.out]; exact hlt)) = t
      intro hdt cx HT
      clear hti
      have x0 : wr.cell? ⟨b, o + i * 3, none⟩ = some (Value.int .i64 t.dep) := cx 0 (by decide)
      have x1 : wr.cell? ⟨b, o + i * 3 + 1, none⟩ = some (Value.int .i64 t.lev) := cx 1 (by decide)
      have x2 : wr.cell? ⟨b, o + i * 3 + 2, none⟩ = some (Value.bool t.many) := cx 2 (by decide)
      clear cx
      have HS : Hid (max d (t.dep + 1) = maxD op false 0 (l.take (i + 1)) 0 + 1) := by show _ = _; rw [maxD_next op false HT.out, bump_n, hD.out]; omega
      by_cases hg : d < t.dep + 1
      · have hg' : (d : Int) < (t.dep : Int) + 1 := by omega
        have hgd : decide ((d : Int) < (t.dep : Int) + 1) = true := by simpa using hg'
        rw [Nat.max_eq_right (by omega)] at HS
        go_wp2
        go_quiet (fail)
        go_wp2
        exact ⟨⟨i + 1, t.dep + 1, by go_num, by omega, by omega, HS, by with_reducible (repeat' first | assumption | exact Below.refl _ _ | refine Below.drew ?_ | refine bdrewN ?_ _ | refine Below.setCell ?_ (by first | exact Nat.le_refl _ | (simp; done) | (simp; omega) | omega) _ | refine Below.alloc ?_ (by first | exact Nat.le_refl _ | (simp; done) | (simp; omega) | omega) _), by with_reducible (repeat' first | assumption | refine Own.drew ?_ | refine Own.drewN ?_ _ | (refine Own.at ?_; first | rfl | (simp; done)) | refine Own.past ?_ _ | refine Own.aside ?_ (by first | (simp; done) | (simp; omega) | omega) _), by with_reducible (repeat' first | assumption | refine Own.drew ?_ | refine Own.drewN ?_ _ | (refine Own.at ?_; first | rfl | (simp; done)) | refine Own.past ?_ _ | refine Own.aside ?_ (by first | (simp; done) | (simp; omega) | omega) _), by first | exact own_first (Own.drewN o2 _) | exact own_first o2⟩, by simp [intOf]; omega⟩
      · have hg' : ¬ (d : Int) < (t.dep : Int) + 1 := by omega
        have hgd : decide ((d : Int) < (t.dep : Int) + 1) = false := by simpa using hg'
        rw [Nat.max_eq_left (by omega)] at HS
        go_wp2
        go_quiet (fail)
        go_wp2
        exact ⟨⟨i + 1, d, by go_num, by omega, by omega, HS, by with_reducible (repeat' first | assumption | exact Below.refl _ _ | refine Below.drew ?_ | refine bdrewN ?_ _ | refine Below.setCell ?_ (by first | exact Nat.le_refl _ | (simp; done) | (simp; omega) | omega) _ | refine Below.alloc ?_ (by first | exact Nat.le_refl _ | (simp; done) | (simp; omega) | omega) _), by with_reducible (repeat' first | assumption | refine Own.drew ?_ | refine Own.drewN ?_ _ | (refine Own.at ?_; first | rfl | (simp; done)) | refine Own.past ?_ _ | refine Own.aside ?_ (by first | (simp; done) | (simp; omega) | omega) _), by with_reducible (repeat' first | assumption | refine Own.drew ?_ | refine Own.drewN ?_ _ | (refine Own.at ?_; first | rfl | (simp; done)) | refine Own.past ?_ _ | refine Own.aside ?_ (by first | (simp; done) | (simp; omega) | omega) _), by with_reducible (repeat' first | assumption | refine Own.drew ?_ | refine Own.drewN ?_ _ | (refine Own.at ?_; first | rfl | (simp; done)) | refine Own.past ?_ _ | refine Own.aside ?_ (by first | (simp; done) | (simp; omega) | omega) _)⟩, by simp [intOf]; omega⟩
    · have hlt' : ¬ (i : Int) < n := by omega
      have e : d = maxD op false 0 l 0 + 1 := by
        have h := hD.out
        rw [List.take_of_length_le (by rw [HN.out]; omega)] at h
        exact h
      have HE : Hid _ := e
      clear e
      go_wp2
      exact bodyPost_ret (v := .tuple #[.agg #[.int .i64 (d : Nat), .int .i64 7, .bool false], .bool true]) (by simp [results, Tryd.results26, go_sem, c0, c1, c2, f1, l1]) rfl ⟨by rw [HE.out]; first | rfl | simp, by with_reducible (repeat' first | assumption | exact Below.refl _ _ | refine Below.drew ?_ | refine bdrewN ?_ _ | refine Below.setCell ?_ (by first | exact Nat.le_refl _ | (simp; done) | (simp; omega) | omega) _ | refine Below.alloc ?_ (by first | exact Nat.le_refl _ | (simp; done) | (simp; omega) | omega) _)⟩
set_option maxRecDepth 100000 in
set_option maxHeartbeats 4000000 in
theorem part_5e (tag : Int) (num : Int) (str : ByteArray) (is : Bool) (code : Int) (row : Int) (col : Int) (top : Int) (left : Int) (bot : Int) (right : Int) (op : Int) (name : ByteArray) (args : Int) (p : Option Addr) (cap : Nat) (w : World) :
    Calls Tryd.prog 26 #[.agg #[.int .i64 5, .int .i64 tag, .int .i64 num, .string str, .bool is, .int .i64 code, .int .i64 row, .int .i64 col, .int .i64 top, .int .i64 left, .int .i64 bot, .int .i64 right, .int .i64 op, .string name, .int .i64 args], .slice p 0 cap] w fun e w' => e = .returned (.tuple #[.agg #[.int .i64 1, .int .i64 7, .bool false], .bool true]) ∧ Below w.heap.size w w' := by
  have mixed : Tryd.prog.follows .mixedOrders = true := by kernel_rfl
  go_enter Tryd.func26, Tryd.ntmps26
  go_wp2
  go_loopw [7] (fun v w' => v = .int .i64 0 ∧ Below w.heap.size w w' ∧ Own w' w.heap.size #[.int .i64 5, .int .i64 tag, .int .i64 num, .string str, .bool is, .int .i64 code, .int .i64 row, .int .i64 col, .int .i64 top, .int .i64 left, .int .i64 bot, .int .i64 right, .int .i64 op, .string name, .int .i64 args] ∧ Own w' (w.heap.size + 1) #[.int .i64 0, .int .i64 0, .bool false] ∧ Own w' (w.heap.size + 1 + 1) #[.int .i64 1, .int .i64 7, .bool false]) (fun v _ => 0)
  case atStart => exact ⟨rfl, by with_reducible (repeat' first | assumption | exact Below.refl _ _ | refine Below.drew ?_ | refine bdrewN ?_ _ | refine Below.setCell ?_ (by first | exact Nat.le_refl _ | (simp; done) | (simp; omega) | omega) _ | refine Below.alloc ?_ (by first | exact Nat.le_refl _ | (simp; done) | (simp; omega) | omega) _), by with_reducible (repeat' first | assumption | refine Own.drew ?_ | refine Own.drewN ?_ _ | (refine Own.at ?_; first | rfl | (simp; done)) | refine Own.past ?_ _ | refine Own.aside ?_ (by first | (simp; done) | (simp; omega) | omega) _), by with_reducible (repeat' first | assumption | refine Own.drew ?_ | refine Own.drewN ?_ _ | (refine Own.at ?_; first | rfl | (simp; done)) | refine Own.past ?_ _ | refine Own.aside ?_ (by first | (simp; done) | (simp; omega) | omega) _), by with_reducible (repeat' first | assumption | refine Own.drew ?_ | refine Own.drewN ?_ _ | (refine Own.at ?_; first | rfl | (simp; done)) | refine Own.past ?_ _ | refine Own.aside ?_ (by first | (simp; done) | (simp; omega) | omega) _)⟩
  case round =>
    obtain ⟨rfl, hB, o0, o1, o2⟩ := hrel
    have c0 := o0.cell
    have c1 := o1.cell
    have c2 := o2.cell
    have l0 := o0.lt
    have l1 := o1.lt
    have l2 := o2.lt
    have f1 := o1.fro
    have f2 := o2.fro
    have z := hB.size
    go_wp2
    exact bodyPost_ret (v := .tuple #[.agg #[.int .i64 1, .int .i64 7, .bool false], .bool true]) (by simp [results, Tryd.results26, go_sem, c0, c1, c2, f1, l1]) rfl ⟨rfl, by with_reducible (repeat' first | assumption | exact Below.refl _ _ | refine Below.drew ?_ | refine bdrewN ?_ _ | refine Below.setCell ?_ (by first | exact Nat.le_refl _ | (simp; done) | (simp; omega) | omega) _ | refine Below.alloc ?_ (by first | exact Nat.le_refl _ | (simp; done) | (simp; omega) | omega) _)⟩
end Go.Proofs.YtekpmdpmcbjkkaaDoor
