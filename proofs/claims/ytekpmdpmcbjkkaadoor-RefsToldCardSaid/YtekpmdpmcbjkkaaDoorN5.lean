/- The contract of refs's work: what a node leaves in the place of the things that it works on, if it may work on them. New memory alone is made. The conditions: at most 1024 things, none deeper than 4096; of a node that is no operation and no call: no things. -/
import Derived.Test.YtekpmdpmcbjkkaaDoorN2
import Derived.Test.YtekpmdpmcbjkkaaDoorN3
namespace Go.Proofs.YtekpmdpmcbjkkaaDoor
open Go.Shelf Go.RowKit
set_option linter.all false
theorem Own.of_block {w w' : World} {b : Nat} {A : Array Value} (h : Own w b A) (e : w'.heap[b]? = w.heap[b]?) : Own w' b A :=
  ⟨by have h1 := h.lt; rw [Array.getElem?_eq_getElem h1] at e; exact (Array.getElem?_eq_some_iff.1 e).1, fun o => (World.cell?_of_block e).trans (h.cell o), fun o => (World.frozen?_of_block e).trans (h.fro o)⟩
theorem Own.aside {w : World} {b : Nat} {A : Array Value} (h : Own w b A) {a : Addr} (hb : b ≠ a.block) (v : Value) : Own (w.setCell a v) b A := h.of_block (Below.heap_setCell w a v b hb)
/-- What a node leaves: whether it is a rectangle, how it binds, how many brackets are open in it. -/
structure Th where
  many : Bool
  lev : Int
  dep : Nat
def Th.cells (t : Th) : Array Value := #[.bool t.many, .int .i64 t.lev, .int .i64 t.dep]
/-- A slice of things. -/
abbrev TV (w : World) (v : Value) (l : List Th) : Prop := View Th.cells 3 w v l
/-- How deep a thing is at a place of a node. -/
def bump (op : Int) (isOp : Bool) (i : Nat) (t : Th) : Nat := t.dep + (if (isOp && inBr op i t.lev) = true then 1 else 0)
def maxD (op : Int) (isOp : Bool) : Nat → List Th → Nat → Nat
  | _, [], d => d
  | i, t :: r, d => maxD op isOp (i + 1) r (max d (bump op isOp i t))
theorem maxD_snoc (op : Int) (isOp : Bool) : ∀ (l : List Th) (i d : Nat) (t : Th), maxD op isOp i (l ++ [t]) d = max (maxD op isOp i l d) (bump op isOp (i + l.length) t)
  | [], i, d, t => rfl
  | u :: r, i, d, t => by
    rw [List.cons_append, maxD, maxD_snoc op isOp r (i + 1) _ t, maxD, List.length_cons, Nat.add_assoc, Nat.add_comm 1]
theorem maxD_le (op : Int) (isOp : Bool) : ∀ (l : List Th) (i d k : Nat), (∀ t ∈ l, t.dep ≤ k) → d ≤ k + 1 → maxD op isOp i l d ≤ k + 1
  | [], i, d, k, _, h => h
  | t :: r, i, d, k, hl, h => by
    refine maxD_le op isOp r (i + 1) _ k (fun u hu => hl u (by simp [hu])) ?_
    have := hl t (by simp)
    unfold bump
    split <;> omega
/-- What a node makes of the things that it works on. -/
def workN (n : Nd) (l : List Th) : Option Th :=
  if (!(n.kind == 5) && l.any (·.many)) = true then none else some ⟨n.kind == 3, levI n.op, maxD n.op (n.kind == 4) 0 l 0 + (if n.kind = 5 then 1 else 0)⟩
theorem take_snoc {α : Type} {l : List α} {i : Nat} {x : α} (h : l[i]? = some x) : l.take (i + 1) = l.take i ++ [x] := by
  rw [List.take_succ, h]; rfl
theorem bump_t {op : Int} {i : Nat} {t : Th} (h : inBr op i t.lev = true) : bump op true i t = t.dep + 1 := by simp [bump, h]
theorem bump_f {op : Int} {i : Nat} {t : Th} (h : inBr op i t.lev = false) : bump op true i t = t.dep := by simp [bump, h]
theorem bump_n {op : Int} {i : Nat} {t : Th} : bump op false i t = t.dep := by simp [bump]
theorem maxD_next {l : List Th} {i : Nat} {t : Th} (op : Int) (b : Bool) (h : l[i]? = some t) : maxD op b 0 (l.take (i + 1)) 0 = max (maxD op b 0 (l.take i) 0) (bump op b i t) := by
  rw [take_snoc h, maxD_snoc, Nat.zero_add, List.length_take, Nat.min_eq_left (by have := (List.getElem?_eq_some_iff.1 h).1; omega)]
theorem any_next {l : List Th} {i : Nat} {t : Th} (h : l[i]? = some t) (h1 : (l.take i).any (·.many) = false) (h2 : t.many = false) : (l.take (i + 1)).any (·.many) = false := by
  rw [take_snoc h, List.any_append, h1]; simp [h2]
theorem any_hit {l : List Th} {i : Nat} {t : Th} (h : l[i]? = some t) (h2 : t.many = true) : l.any (·.many) = true := by
  rw [List.any_eq_true]; exact ⟨t, List.mem_of_getElem? h, h2⟩
theorem max_cast (a b : Nat) : max (a : Int) (b : Int) = ((max a b : Nat) : Int) := by omega
set_option maxRecDepth 100000 in
set_option maxHeartbeats 2000000 in
theorem work_3 (tag : Int) (num : Int) (str : ByteArray) (is : Bool) (code : Int) (row : Int) (col : Int) (top : Int) (left : Int) (bot : Int) (right : Int) (op : Int) (name : ByteArray) (args : Int) (p : Option Addr) (cap : Nat) (w : World)  : Calls Tryd.prog 22 #[.agg #[.int .i64 3, .int .i64 tag, .int .i64 num, .string str, .bool is, .int .i64 code, .int .i64 row, .int .i64 col, .int .i64 top, .int .i64 left, .int .i64 bot, .int .i64 right, .int .i64 op, .string name, .int .i64 args], .slice p 0 cap] w fun e w' => e = .returned (.tuple #[.agg #[.bool true, .int .i64 (levI op), .int .i64 0], .bool true]) ∧ Below w.heap.size w w' := by
  have mixed : Tryd.prog.follows .mixedOrders = true := by kernel_rfl
  go_enter Tryd.func22, Tryd.ntmps22
  go_wp2
  go_loopw [6, 11] (fun d v w' => d = .int .i64 0 ∧ v = .int .i64 0 ∧ Below w.heap.size w w' ∧ Own w' w.heap.size #[.int .i64 3, .int .i64 tag, .int .i64 num, .string str, .bool is, .int .i64 code, .int .i64 row, .int .i64 col, .int .i64 top, .int .i64 left, .int .i64 bot, .int .i64 right, .int .i64 op, .string name, .int .i64 args] ∧ Own w' (w.heap.size + 1) #[.bool false, .int .i64 0, .int .i64 0]) (fun _ _ _ => 0)
  case atStart => exact ⟨rfl, rfl, by with_reducible (repeat' first | assumption | exact Below.refl _ _ | refine Below.drew ?_ | refine bdrewN ?_ _ | refine Below.setCell ?_ (by first | exact Nat.le_refl _ | (simp; done) | (simp; omega) | omega) _ | refine Below.alloc ?_ (by first | exact Nat.le_refl _ | (simp; done) | (simp; omega) | omega) _), by with_reducible (repeat' first | assumption | refine Own.drew ?_ | refine Own.drewN ?_ _ | (refine Own.at ?_; first | rfl | (simp; done)) | refine Own.past ?_ _ | refine Own.aside ?_ (by first | (simp; done) | (simp; omega) | omega) _), by with_reducible (repeat' first | assumption | refine Own.drew ?_ | refine Own.drewN ?_ _ | (refine Own.at ?_; first | rfl | (simp; done)) | refine Own.past ?_ _ | refine Own.aside ?_ (by first | (simp; done) | (simp; omega) | omega) _)⟩
  case round =>
    obtain ⟨rfl, rfl, hB, o0, o1⟩ := hrel
    have c0 := o0.cell
    have c1 := o1.cell
    have l0 := o0.lt
    have l1 := o1.lt
    have f1 := o1.fro
    go_wp2_with fail
    go_region_held3 (fun w' => w'.cell? ⟨w.heap.size, 0, none⟩ = some (.int .i64 3) ∧ w'.cell? ⟨w.heap.size, 12, none⟩ = some (.int .i64 op)) ((repeat' apply And.intro) <;> (first | (go_keep; done) | (go_simp; done))) ((go_at_call 32; refine (level_any op _).mono ?_; rintro e w1 ⟨rfl, hb⟩; have hB : Below w.heap.size w w1 := bup (by with_reducible (repeat' first | assumption | exact Below.refl _ _ | refine Below.drew ?_ | refine bdrewN ?_ _ | refine Below.setCell ?_ (by first | exact Nat.le_refl _ | (simp; done) | (simp; omega) | omega) _ | refine Below.alloc ?_ (by first | exact Nat.le_refl _ | (simp; done) | (simp; omega) | omega) _)) hb; have o0 : Own w1 (w.heap.size) #[.int .i64 3, .int .i64 tag, .int .i64 num, .string str, .bool is, .int .i64 code, .int .i64 row, .int .i64 col, .int .i64 top, .int .i64 left, .int .i64 bot, .int .i64 right, .int .i64 op, .string name, .int .i64 args] := Own.keep (by with_reducible (repeat' first | assumption | refine Own.drew ?_ | refine Own.drewN ?_ _ | (refine Own.at ?_; first | rfl | (simp; done)) | refine Own.past ?_ _ | refine Own.aside ?_ (by first | (simp; done) | (simp; omega) | omega) _)) hb; have c0 := o0.cell; have f0 := o0.fro; have l0 := o0.lt; have o1 : Own w1 (w.heap.size + 1) #[.bool false, .int .i64 0, .int .i64 0] := Own.keep (by with_reducible (repeat' first | assumption | refine Own.drew ?_ | refine Own.drewN ?_ _ | (refine Own.at ?_; first | rfl | (simp; done)) | refine Own.past ?_ _ | refine Own.aside ?_ (by first | (simp; done) | (simp; omega) | omega) _)) hb; have c1 := o1.cell; have f1 := o1.fro; have l1 := o1.lt))
    all_goals go_wp2
    all_goals exact bodyPost_ret (v := .tuple #[.agg #[.bool true, .int .i64 (levI op), .int .i64 (0)], .bool true]) (by simp [results, Tryd.results22, go_sem, c0, c1, f1, l1]) rfl ⟨by first | rfl | (congr; done), by with_reducible (repeat' first | assumption | exact Below.refl _ _ | refine Below.drew ?_ | refine bdrewN ?_ _ | refine Below.setCell ?_ (by first | exact Nat.le_refl _ | (simp; done) | (simp; omega) | omega) _ | refine Below.alloc ?_ (by first | exact Nat.le_refl _ | (simp; done) | (simp; omega) | omega) _)⟩
set_option maxRecDepth 100000 in
set_option maxHeartbeats 2000000 in
theorem work_5 (tag : Int) (num : Int) (str : ByteArray) (is : Bool) (code : Int) (row : Int) (col : Int) (top : Int) (left : Int) (bot : Int) (right : Int) (op : Int) (name : ByteArray) (args : Int) (p : Option Addr) (cap : Nat) (w : World)  : Calls Tryd.prog 22 #[.agg #[.int .i64 5, .int .i64 tag, .int .i64 num, .string str, .bool is, .int .i64 code, .int .i64 row, .int .i64 col, .int .i64 top, .int .i64 left, .int .i64 bot, .int .i64 right, .int .i64 op, .string name, .int .i64 args], .slice p 0 cap] w fun e w' => e = .returned (.tuple #[.agg #[.bool false, .int .i64 (levI op), .int .i64 1], .bool true]) ∧ Below w.heap.size w w' := by
  have mixed : Tryd.prog.follows .mixedOrders = true := by kernel_rfl
  go_enter Tryd.func22, Tryd.ntmps22
  go_wp2
  go_loopw [6, 11] (fun d v w' => d = .int .i64 0 ∧ v = .int .i64 0 ∧ Below w.heap.size w w' ∧ Own w' w.heap.size #[.int .i64 5, .int .i64 tag, .int .i64 num, .string str, .bool is, .int .i64 code, .int .i64 row, .int .i64 col, .int .i64 top, .int .i64 left, .int .i64 bot, .int .i64 right, .int .i64 op, .string name, .int .i64 args] ∧ Own w' (w.heap.size + 1) #[.bool false, .int .i64 0, .int .i64 0]) (fun _ _ _ => 0)
  case atStart => exact ⟨rfl, rfl, by with_reducible (repeat' first | assumption | exact Below.refl _ _ | refine Below.drew ?_ | refine bdrewN ?_ _ | refine Below.setCell ?_ (by first | exact Nat.le_refl _ | (simp; done) | (simp; omega) | omega) _ | refine Below.alloc ?_ (by first | exact Nat.le_refl _ | (simp; done) | (simp; omega) | omega) _), by with_reducible (repeat' first | assumption | refine Own.drew ?_ | refine Own.drewN ?_ _ | (refine Own.at ?_; first | rfl | (simp; done)) | refine Own.past ?_ _ | refine Own.aside ?_ (by first | (simp; done) | (simp; omega) | omega) _), by with_reducible (repeat' first | assumption | refine Own.drew ?_ | refine Own.drewN ?_ _ | (refine Own.at ?_; first | rfl | (simp; done)) | refine Own.past ?_ _ | refine Own.aside ?_ (by first | (simp; done) | (simp; omega) | omega) _)⟩
  case round =>
    obtain ⟨rfl, rfl, hB, o0, o1⟩ := hrel
    have c0 := o0.cell
    have c1 := o1.cell
    have l0 := o0.lt
    have l1 := o1.lt
    have f1 := o1.fro
    go_wp2_with fail
    go_region_held3 (fun w' => w'.cell? ⟨w.heap.size, 0, none⟩ = some (.int .i64 5) ∧ w'.cell? ⟨w.heap.size, 12, none⟩ = some (.int .i64 op)) ((repeat' apply And.intro) <;> (first | (go_keep; done) | (go_simp; done))) ((go_at_call 32; refine (level_any op _).mono ?_; rintro e w1 ⟨rfl, hb⟩; have hB : Below w.heap.size w w1 := bup (by with_reducible (repeat' first | assumption | exact Below.refl _ _ | refine Below.drew ?_ | refine bdrewN ?_ _ | refine Below.setCell ?_ (by first | exact Nat.le_refl _ | (simp; done) | (simp; omega) | omega) _ | refine Below.alloc ?_ (by first | exact Nat.le_refl _ | (simp; done) | (simp; omega) | omega) _)) hb; have o0 : Own w1 (w.heap.size) #[.int .i64 5, .int .i64 tag, .int .i64 num, .string str, .bool is, .int .i64 code, .int .i64 row, .int .i64 col, .int .i64 top, .int .i64 left, .int .i64 bot, .int .i64 right, .int .i64 op, .string name, .int .i64 args] := Own.keep (by with_reducible (repeat' first | assumption | refine Own.drew ?_ | refine Own.drewN ?_ _ | (refine Own.at ?_; first | rfl | (simp; done)) | refine Own.past ?_ _ | refine Own.aside ?_ (by first | (simp; done) | (simp; omega) | omega) _)) hb; have c0 := o0.cell; have f0 := o0.fro; have l0 := o0.lt; have o1 : Own w1 (w.heap.size + 1) #[.bool false, .int .i64 0, .int .i64 0] := Own.keep (by with_reducible (repeat' first | assumption | refine Own.drew ?_ | refine Own.drewN ?_ _ | (refine Own.at ?_; first | rfl | (simp; done)) | refine Own.past ?_ _ | refine Own.aside ?_ (by first | (simp; done) | (simp; omega) | omega) _)) hb; have c1 := o1.cell; have f1 := o1.fro; have l1 := o1.lt))
    all_goals go_wp2
    all_goals exact bodyPost_ret (v := .tuple #[.agg #[.bool false, .int .i64 (levI op), .int .i64 (1)], .bool true]) (by simp [results, Tryd.results22, go_sem, c0, c1, f1, l1]) rfl ⟨by first | rfl | (congr; done), by with_reducible (repeat' first | assumption | exact Below.refl _ _ | refine Below.drew ?_ | refine bdrewN ?_ _ | refine Below.setCell ?_ (by first | exact Nat.le_refl _ | (simp; done) | (simp; omega) | omega) _ | refine Below.alloc ?_ (by first | exact Nat.le_refl _ | (simp; done) | (simp; omega) | omega) _)⟩
set_option maxRecDepth 100000 in
set_option maxHeartbeats 2000000 in
theorem work_x (kind : Int) (tag : Int) (num : Int) (str : ByteArray) (is : Bool) (code : Int) (row : Int) (col : Int) (top : Int) (left : Int) (bot : Int) (right : Int) (op : Int) (name : ByteArray) (args : Int) (p : Option Addr) (cap : Nat) (w : World) (h5 : (kind == 5) = false) (h3 : (kind == 3) = false) : Calls Tryd.prog 22 #[.agg #[.int .i64 kind, .int .i64 tag, .int .i64 num, .string str, .bool is, .int .i64 code, .int .i64 row, .int .i64 col, .int .i64 top, .int .i64 left, .int .i64 bot, .int .i64 right, .int .i64 op, .string name, .int .i64 args], .slice p 0 cap] w fun e w' => e = .returned (.tuple #[.agg #[.bool false, .int .i64 (levI op), .int .i64 0], .bool true]) ∧ Below w.heap.size w w' := by
  have mixed : Tryd.prog.follows .mixedOrders = true := by kernel_rfl
  go_enter Tryd.func22, Tryd.ntmps22
  go_wp2
  go_loopw [6, 11] (fun d v w' => d = .int .i64 0 ∧ v = .int .i64 0 ∧ Below w.heap.size w w' ∧ Own w' w.heap.size #[.int .i64 kind, .int .i64 tag, .int .i64 num, .string str, .bool is, .int .i64 code, .int .i64 row, .int .i64 col, .int .i64 top, .int .i64 left, .int .i64 bot, .int .i64 right, .int .i64 op, .string name, .int .i64 args] ∧ Own w' (w.heap.size + 1) #[.bool false, .int .i64 0, .int .i64 0]) (fun _ _ _ => 0)
  case atStart => exact ⟨rfl, rfl, by with_reducible (repeat' first | assumption | exact Below.refl _ _ | refine Below.drew ?_ | refine bdrewN ?_ _ | refine Below.setCell ?_ (by first | exact Nat.le_refl _ | (simp; done) | (simp; omega) | omega) _ | refine Below.alloc ?_ (by first | exact Nat.le_refl _ | (simp; done) | (simp; omega) | omega) _), by with_reducible (repeat' first | assumption | refine Own.drew ?_ | refine Own.drewN ?_ _ | (refine Own.at ?_; first | rfl | (simp; done)) | refine Own.past ?_ _ | refine Own.aside ?_ (by first | (simp; done) | (simp; omega) | omega) _), by with_reducible (repeat' first | assumption | refine Own.drew ?_ | refine Own.drewN ?_ _ | (refine Own.at ?_; first | rfl | (simp; done)) | refine Own.past ?_ _ | refine Own.aside ?_ (by first | (simp; done) | (simp; omega) | omega) _)⟩
  case round =>
    obtain ⟨rfl, rfl, hB, o0, o1⟩ := hrel
    have c0 := o0.cell
    have c1 := o1.cell
    have l0 := o0.lt
    have l1 := o1.lt
    have f1 := o1.fro
    go_wp2_with fail
    go_region_held3 (fun w' => w'.cell? ⟨w.heap.size, 0, none⟩ = some (.int .i64 kind) ∧ w'.cell? ⟨w.heap.size, 12, none⟩ = some (.int .i64 op)) ((repeat' apply And.intro) <;> (first | (go_keep; done) | (go_simp; done))) ((go_at_call 32; refine (level_any op _).mono ?_; rintro e w1 ⟨rfl, hb⟩; have hB : Below w.heap.size w w1 := bup (by with_reducible (repeat' first | assumption | exact Below.refl _ _ | refine Below.drew ?_ | refine bdrewN ?_ _ | refine Below.setCell ?_ (by first | exact Nat.le_refl _ | (simp; done) | (simp; omega) | omega) _ | refine Below.alloc ?_ (by first | exact Nat.le_refl _ | (simp; done) | (simp; omega) | omega) _)) hb; have o0 : Own w1 (w.heap.size) #[.int .i64 kind, .int .i64 tag, .int .i64 num, .string str, .bool is, .int .i64 code, .int .i64 row, .int .i64 col, .int .i64 top, .int .i64 left, .int .i64 bot, .int .i64 right, .int .i64 op, .string name, .int .i64 args] := Own.keep (by with_reducible (repeat' first | assumption | refine Own.drew ?_ | refine Own.drewN ?_ _ | (refine Own.at ?_; first | rfl | (simp; done)) | refine Own.past ?_ _ | refine Own.aside ?_ (by first | (simp; done) | (simp; omega) | omega) _)) hb; have c0 := o0.cell; have f0 := o0.fro; have l0 := o0.lt; have o1 : Own w1 (w.heap.size + 1) #[.bool false, .int .i64 0, .int .i64 0] := Own.keep (by with_reducible (repeat' first | assumption | refine Own.drew ?_ | refine Own.drewN ?_ _ | (refine Own.at ?_; first | rfl | (simp; done)) | refine Own.past ?_ _ | refine Own.aside ?_ (by first | (simp; done) | (simp; omega) | omega) _)) hb; have c1 := o1.cell; have f1 := o1.fro; have l1 := o1.lt))
    all_goals go_wp2
    all_goals exact bodyPost_ret (v := .tuple #[.agg #[.bool false, .int .i64 (levI op), .int .i64 (0)], .bool true]) (by simp [results, Tryd.results22, go_sem, c0, c1, f1, l1]) rfl ⟨by first | rfl | (congr; done), by with_reducible (repeat' first | assumption | exact Below.refl _ _ | refine Below.drew ?_ | refine bdrewN ?_ _ | refine Below.setCell ?_ (by first | exact Nat.le_refl _ | (simp; done) | (simp; omega) | omega) _ | refine Below.alloc ?_ (by first | exact Nat.le_refl _ | (simp; done) | (simp; omega) | omega) _)⟩
end Go.Proofs.YtekpmdpmcbjkkaaDoor
