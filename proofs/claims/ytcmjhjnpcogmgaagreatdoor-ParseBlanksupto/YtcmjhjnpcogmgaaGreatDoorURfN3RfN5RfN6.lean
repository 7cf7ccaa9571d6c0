/- Slices xs they are read; the contracts of slices.Equal at nodes and of Same (of package re -/
import Derived.Test.YtcmjhjnpcogmgaaGreatDoorUAuto
import Derived.Test.YtcmjhjnpcogmgaaGreatDoorURfN0PN
import Derived.Test.YtcmjhjnpcogmgaaGreatDoorURfN2
set_option linter.all false
set_option maxRecDepth 100000
set_option maxHeartbeats 4000000
namespace Go.Proofs.YtcmjhjnpcogmgaaGreatDoor.Rf
open Go.RowKit
def View {α : Type} (c : α → Array Value) (sz : Nat) (w : World) (v : Value) (xs : List α) : Prop :=
 ∃ p cap, v = .slice p xs.length cap ∧ xs.length ≤ cap ∧ (0 < xs.length → ∃ b o, p = some ⟨b, o, none⟩ ∧ b < w.heap.size ∧ ∀ i x, xs[i]? = some x → ∀ j, j < sz → w.cell? ⟨b, o + i * sz + j, none⟩ = (c x)[j]?)
theorem View.keep {α : Type} {c : α → Array Value} {sz : Nat} {w w' : World} {v : Value} {xs : List α} (h : View c sz w v xs) (hb : Below w.heap.size w w') : View c sz w' v xs := by
 obtain ⟨p, cap, e, hc, hf⟩ := h
 refine ⟨p, cap, e, hc, fun h0 => ?_⟩
 obtain ⟨b, o, e2, hlt, hcell⟩ := hf h0
 exact ⟨b, o, e2, Nat.lt_of_lt_of_le hlt hb.size, fun i x hi j hj => (hb.cell (p := ⟨b, o + i * sz + j, none⟩) hlt).trans (hcell i x hi j hj)⟩
abbrev NV (w : World) (v : Value) (ns : List Nd) : Prop := View Nd.cells 15 w v ns
def sameL : List Nd → List Nd → Bool
 | [], [] => true
 | a :: xs, b :: ys => sameN a b && sameL xs ys
 | _, _ => false
theorem sameL_refl : ∀ l : List Nd, sameL l l = true
 | [] => rfl
 | a :: xs => by simp [sameL, sameN_refl, sameL_refl xs]
theorem sameL_is : ∀ {a b : List Nd}, sameL a b = true → a = b
 | [], [], _ => rfl
 | a :: xs, b :: ys, h => by
  simp only [sameL, Bool.and_eq_true] at h
  rw [sameN_is h.1, sameL_is h.2]
 | [], b :: ys, h => by cases h
 | a :: xs, [], h => by cases h
theorem sameL_f {a b : List Nd} (h : a ≠ b) : sameL a b = false := by
 cases e : sameL a b
 ·rfl
 ·exact absurd (sameL_is e) h
theorem ne_at {xs ys : List Nd} {i : Nat} {x y : Nd} (h1 : xs[i]? = some x) (h2 : ys[i]? = some y) (hs : sameN x y = false) : xs ≠ ys := by
 rintro rfl
 rw [h1] at h2
 cases h2
 rw [sameN_refl] at hs
 cases hs
theorem take_more {xs ys : List Nd} {i : Nat} {x y : Nd} (h1 : xs[i]? = some x) (h2 : ys[i]? = some y) (hs : sameN x y = true) (h : xs.take i = ys.take i) : xs.take (i + 1) = ys.take (i + 1) := by
 rw [List.take_succ, List.take_succ, h1, h2, h, sameN_is hs]
theorem _root_.Go.Proofs.YtcmjhjnpcogmgaaGreatDoor.Own.drewN {w : World} {b : Nat} {A : Array Value} (h : Own w b A) (n : Nat) : Own (w.drewN n) b A := h.keep (bdrewN (Below.refl _ _) n)
end Go.Proofs.YtcmjhjnpcogmgaaGreatDoor.Rf
namespace Go.Proofs.YtcmjhjnpcogmgaaGreatDoor.Rf
open Go.Shelf Go.RowKit
theorem _root_.Go.Proofs.YtcmjhjnpcogmgaaGreatDoor.Own.of_block {w w' : World} {b : Nat} {A : Array Value} (h : Own w b A) (e : w'.heap[b]? = w.heap[b]?) : Own w' b A :=
 ⟨by have h1 := h.lt; rw [Array.getElem?_eq_getElem h1] at e; exact (Array.getElem?_eq_some_iff.1 e).1, fun o => (World.cell?_of_block e).trans (h.cell o), fun o => (World.frozen?_of_block e).trans (h.fro o)⟩
theorem _root_.Go.Proofs.YtcmjhjnpcogmgaaGreatDoor.Own.aside {w : World} {b : Nat} {A : Array Value} (h : Own w b A) {a : Addr} (hb : b ≠ a.block) (v : Value) : Own (w.setCell a v) b A := h.of_block (Below.heap_setCell w a v b hb)
structure Th where
 many : Bool
 lev : Int
 dep : Nat
def Th.cells (t : Th) : Array Value := #[.bool t.many, .int .i64 t.lev, .int .i64 t.dep]
def bump (op : Int) (isOp : Bool) (i : Nat) (t : Th) : Nat := t.dep + (if (isOp && inBr op i t.lev) = true then 1 else 0)
def maxD (op : Int) (isOp : Bool) : Nat → List Th → Nat → Nat
 | _, [], d => d
 | i, t :: r, d => maxD op isOp (i + 1) r (max d (bump op isOp i t))
theorem maxD_snoc (op : Int) (isOp : Bool) : ∀ (l : List Th) (i d : Nat) (t : Th), maxD op isOp i (l ++ [t]) d = max (maxD op isOp i l d) (bump op isOp (i + l.length) t)
 | [], i, d, t => rfl
 | u :: r, i, d, t => by
  rw [List.cons_append, maxD, maxD_snoc op isOp r (i + 1) _ t, maxD, List.length_cons, Nat.add_assoc, Nat.add_comm 1]
theorem maxD_le (op : Int) (isOp : Bool) : ∀ (l : List Th) (i d k : Nat), (∀ t ∈ l, t.dep ≤ k) → d ≤ k + 1 → maxD op isOp i l d ≤ k + 1
 | [], i, d, k, _, h => h
 | t :: r, i, d, k, hl, h => by
  refine maxD_le op isOp r (i + 1) _ k (fun u hu => hl u (by simp [hu])) ?_
  have := hl t (by simp)
  unfold bump
  split <;> omega
def workN (n : Nd) (l : List Th) : Option Th :=
 if (!(n.kind == 5) && l.any (·.many)) = true then none else some ⟨n.kind == 3, levI n.op, maxD n.op (n.kind == 4) 0 l 0 + (if n.kind = 5 then 1 else 0)⟩
theorem take_snoc {α : Type} {l : List α} {i : Nat} {x : α} (h : l[i]? = some x) : l.take (i + 1) = l.take i ++ [x] := by
 rw [List.take_succ, h]; rfl
theorem bump_t {op : Int} {i : Nat} {t : Th} (h : inBr op i t.lev = true) : bump op true i t = t.dep + 1 := by simp [bump, h]
theorem bump_f {op : Int} {i : Nat} {t : Th} (h : inBr op i t.lev = false) : bump op true i t = t.dep := by simp [bump, h]
theorem bump_n {op : Int} {i : Nat} {t : Th} : bump op false i t = t.dep := by simp [bump]
theorem maxD_next {l : List Th} {i : Nat} {t : Th} (op : Int) (b : Bool) (h : l[i]? = some t) : maxD op b 0 (l.take (i + 1)) 0 = max (maxD op b 0 (l.take i) 0) (bump op b i t) := by
 rw [take_snoc h, maxD_snoc, Nat.zero_add, List.length_take, Nat.min_eq_left (by have := (List.getElem?_eq_some_iff.1 h).1; omega)]
theorem any_next {l : List Th} {i : Nat} {t : Th} (h : l[i]? = some t) (h1 : (l.take i).any (·.many) = false) (h2 : t.many = false) : (l.take (i + 1)).any (·.many) = false := by
 rw [take_snoc h, List.any_append, h1]; simp [h2]
theorem any_hit {l : List Th} {i : Nat} {t : Th} (h : l[i]? = some t) (h2 : t.many = true) : l.any (·.many) = true := by
 rw [List.any_eq_true]; exact ⟨t, List.mem_of_getElem? h, h2⟩
theorem max_cast (a b : Nat) : max (a : Int) (b : Int) = ((max a b : Nat) : Int) := by omega
theorem work_3 (tag : Int) (num : Int) (str : ByteArray) (is : Bool) (code : Int) (row : Int) (col : Int) (top : Int) (left : Int) (bot : Int) (right : Int) (op : Int) (name : ByteArray) (args : Int) (p : Option Addr) (cap : Nat) (w : World)  : Calls Tryz.prog 38 #[.agg #[.int .i64 3, .int .i64 tag, .int .i64 num, .string str, .bool is, .int .i64 code, .int .i64 row, .int .i64 col, .int .i64 top, .int .i64 left, .int .i64 bot, .int .i64 right, .int .i64 op, .string name, .int .i64 args], .slice p 0 cap] w fun e w' => e = .returned (.tuple #[.agg #[.bool true, .int .i64 (levI op), .int .i64 0], .bool true]) ∧ Below w.heap.size w w' := by
 have mixed : Tryz.prog.follows .mixedOrders = true := by kernel_rfl
 go_enter Tryz.func38, Tryz.ntmps38
 go_wp2
 go_loopw [6, 11] (fun d v w' => d = .int .i64 0 ∧ v = .int .i64 0 ∧ Below w.heap.size w w' ∧ Own w' w.heap.size #[.int .i64 3, .int .i64 tag, .int .i64 num, .string str, .bool is, .int .i64 code, .int .i64 row, .int .i64 col, .int .i64 top, .int .i64 left, .int .i64 bot, .int .i64 right, .int .i64 op, .string name, .int .i64 args] ∧ Own w' (w.heap.size + 1) #[.bool false, .int .i64 0, .int .i64 0]) (fun _ _ _ => 0)
 case atStart => exact ⟨rfl, rfl, zq1, zq4, zq4⟩
 case round =>
  obtain ⟨rfl, rfl, hB, o0, o1⟩ := hrel
  have c0 := o0.cell
  have c1 := o1.cell
  have l0 := o0.lt
  have l1 := o1.lt
  have f1 := o1.fro
  go_wp2_with fail
  go_region_held3 (fun w' => w'.cell? ⟨w.heap.size, 0, none⟩ = some (.int .i64 3) ∧ w'.cell? ⟨w.heap.size, 12, none⟩ = some (.int .i64 op)) ((repeat' apply And.intro) <;> (first | (go_keep; done) | (go_simp; done))) ((go_at_call 67; refine (level_any op _).mono ?_; rintro e w1 ⟨rfl, hb⟩; have hB := bux w zq1 hb; have o0 : Own w1 (w.heap.size) #[.int .i64 3, .int .i64 tag, .int .i64 num, .string str, .bool is, .int .i64 code, .int .i64 row, .int .i64 col, .int .i64 top, .int .i64 left, .int .i64 bot, .int .i64 right, .int .i64 op, .string name, .int .i64 args] := Own.keep zq4 hb; have c0 := o0.cell; have f0 := o0.fro; have l0 := o0.lt; have o1 : Own w1 (w.heap.size + 1) #[.bool false, .int .i64 0, .int .i64 0] := Own.keep zq4 hb; have c1 := o1.cell; have f1 := o1.fro; have l1 := o1.lt))
  all_goals go_wp2
  all_goals exact bodyPost_ret (v := .tuple #[.agg #[.bool true, .int .i64 (levI op), .int .i64 0], .bool true]) (by simp [results, Tryz.results38, go_sem, c0, c1, f1, l1]) rfl ⟨by first | rfl | (congr; done), zq1⟩
theorem work_5 (tag : Int) (num : Int) (str : ByteArray) (is : Bool) (code : Int) (row : Int) (col : Int) (top : Int) (left : Int) (bot : Int) (right : Int) (op : Int) (name : ByteArray) (args : Int) (p : Option Addr) (cap : Nat) (w : World)  : Calls Tryz.prog 38 #[.agg #[.int .i64 5, .int .i64 tag, .int .i64 num, .string str, .bool is, .int .i64 code, .int .i64 row, .int .i64 col, .int .i64 top, .int .i64 left, .int .i64 bot, .int .i64 right, .int .i64 op, .string name, .int .i64 args], .slice p 0 cap] w fun e w' => e = .returned (.tuple #[.agg #[.bool false, .int .i64 (levI op), .int .i64 1], .bool true]) ∧ Below w.heap.size w w' := by
 have mixed : Tryz.prog.follows .mixedOrders = true := by kernel_rfl
 go_enter Tryz.func38, Tryz.ntmps38
 go_wp2
 go_loopw [6, 11] (fun d v w' => d = .int .i64 0 ∧ v = .int .i64 0 ∧ Below w.heap.size w w' ∧ Own w' w.heap.size #[.int .i64 5, .int .i64 tag, .int .i64 num, .string str, .bool is, .int .i64 code, .int .i64 row, .int .i64 col, .int .i64 top, .int .i64 left, .int .i64 bot, .int .i64 right, .int .i64 op, .string name, .int .i64 args] ∧ Own w' (w.heap.size + 1) #[.bool false, .int .i64 0, .int .i64 0]) (fun _ _ _ => 0)
 case atStart => exact ⟨rfl, rfl, zq1, zq4, zq4⟩
 case round =>
  obtain ⟨rfl, rfl, hB, o0, o1⟩ := hrel
  have c0 := o0.cell
  have c1 := o1.cell
  have l0 := o0.lt
  have l1 := o1.lt
  have f1 := o1.fro
  go_wp2_with fail
  go_region_held3 (fun w' => w'.cell? ⟨w.heap.size, 0, none⟩ = some (.int .i64 5) ∧ w'.cell? ⟨w.heap.size, 12, none⟩ = some (.int .i64 op)) ((repeat' apply And.intro) <;> (first | (go_keep; done) | (go_simp; done))) ((go_at_call 67; refine (level_any op _).mono ?_; rintro e w1 ⟨rfl, hb⟩; have hB := bux w zq1 hb; have o0 : Own w1 (w.heap.size) #[.int .i64 5, .int .i64 tag, .int .i64 num, .string str, .bool is, .int .i64 code, .int .i64 row, .int .i64 col, .int .i64 top, .int .i64 left, .int .i64 bot, .int .i64 right, .int .i64 op, .string name, .int .i64 args] := Own.keep zq4 hb; have c0 := o0.cell; have f0 := o0.fro; have l0 := o0.lt; have o1 : Own w1 (w.heap.size + 1) #[.bool false, .int .i64 0, .int .i64 0] := Own.keep zq4 hb; have c1 := o1.cell; have f1 := o1.fro; have l1 := o1.lt))
  all_goals go_wp2
  all_goals exact bodyPost_ret (v := .tuple #[.agg #[.bool false, .int .i64 (levI op), .int .i64 (1)], .bool true]) (by simp [results, Tryz.results38, go_sem, c0, c1, f1, l1]) rfl ⟨by first | rfl | (congr; done), zq1⟩
theorem work_x (kind : Int) (tag : Int) (num : Int) (str : ByteArray) (is : Bool) (code : Int) (row : Int) (col : Int) (top : Int) (left : Int) (bot : Int) (right : Int) (op : Int) (name : ByteArray) (args : Int) (p : Option Addr) (cap : Nat) (w : World) (h5 : (kind == 5) = false) (h3 : (kind == 3) = false) : Calls Tryz.prog 38 #[.agg #[.int .i64 kind, .int .i64 tag, .int .i64 num, .string str, .bool is, .int .i64 code, .int .i64 row, .int .i64 col, .int .i64 top, .int .i64 left, .int .i64 bot, .int .i64 right, .int .i64 op, .string name, .int .i64 args], .slice p 0 cap] w fun e w' => e = .returned (.tuple #[.agg #[.bool false, .int .i64 (levI op), .int .i64 0], .bool true]) ∧ Below w.heap.size w w' := by
 have mixed : Tryz.prog.follows .mixedOrders = true := by kernel_rfl
 go_enter Tryz.func38, Tryz.ntmps38
 go_wp2
 go_loopw [6, 11] (fun d v w' => d = .int .i64 0 ∧ v = .int .i64 0 ∧ Below w.heap.size w w' ∧ Own w' w.heap.size #[.int .i64 kind, .int .i64 tag, .int .i64 num, .string str, .bool is, .int .i64 code, .int .i64 row, .int .i64 col, .int .i64 top, .int .i64 left, .int .i64 bot, .int .i64 right, .int .i64 op, .string name, .int .i64 args] ∧ Own w' (w.heap.size + 1) #[.bool false, .int .i64 0, .int .i64 0]) (fun _ _ _ => 0)
 case atStart => exact ⟨rfl, rfl, zq1, zq4, zq4⟩
 case round =>
  obtain ⟨rfl, rfl, hB, o0, o1⟩ := hrel
  have c0 := o0.cell
  have c1 := o1.cell
  have l0 := o0.lt
  have l1 := o1.lt
  have f1 := o1.fro
  go_wp2_with fail
  go_region_held3 (fun w' => w'.cell? ⟨w.heap.size, 0, none⟩ = some (.int .i64 kind) ∧ w'.cell? ⟨w.heap.size, 12, none⟩ = some (.int .i64 op)) ((repeat' apply And.intro) <;> (first | (go_keep; done) | (go_simp; done))) ((go_at_call 67; refine (level_any op _).mono ?_; rintro e w1 ⟨rfl, hb⟩; have hB := bux w zq1 hb; have o0 : Own w1 (w.heap.size) #[.int .i64 kind, .int .i64 tag, .int .i64 num, .string str, .bool is, .int .i64 code, .int .i64 row, .int .i64 col, .int .i64 top, .int .i64 left, .int .i64 bot, .int .i64 right, .int .i64 op, .string name, .int .i64 args] := Own.keep zq4 hb; have c0 := o0.cell; have f0 := o0.fro; have l0 := o0.lt; have o1 : Own w1 (w.heap.size + 1) #[.bool false, .int .i64 0, .int .i64 0] := Own.keep zq4 hb; have c1 := o1.cell; have f1 := o1.fro; have l1 := o1.lt))
  all_goals go_wp2
  all_goals exact bodyPost_ret (v := .tuple #[.agg #[.bool false, .int .i64 (levI op), .int .i64 0], .bool true]) (by simp [results, Tryz.results38, go_sem, c0, c1, f1, l1]) rfl ⟨by first | rfl | (congr; done), zq1⟩
end Go.Proofs.YtcmjhjnpcogmgaaGreatDoor.Rf
namespace Go.Proofs.YtcmjhjnpcogmgaaGreatDoor.Rf
open Go.Shelf Go.RowKit
def thOut : Option Th → Value
 | some t => .tuple #[.agg t.cells, .bool true]
 | none => .tuple #[.agg #[.bool false, .int .i64 0, .int .i64 0], .bool false]
theorem any_take {l : List Th} {i : Nat} (h : l.length ≤ i) (h1 : (l.take i).any (·.many) = false) : l.any (·.many) = false := by rwa [List.take_of_length_le h] at h1
theorem work4_y (tag : Int) (num : Int) (str : ByteArray) (is : Bool) (code : Int) (row : Int) (col : Int) (top : Int) (left : Int) (bot : Int) (right : Int) (op : Int) (name : ByteArray) (args : Int) (w : World) (b o cap n : Nat) (l : List Th) (hlb : b < w.heap.size) (HC : ∀ i t, l[i]? = some t → ∀ j, j < 3 → w.cell? ⟨b, o + i * 3 + j, none⟩ = (Th.cells t)[j]?)
  (hn : l.length = n) (hcap : n ≤ cap) (h0 : 0 < n) (hl : n ≤ 1024) (hdp : ∀ t ∈ l, t.dep ≤ 4096) :
  Calls Tryz.prog 38 #[.agg #[.int .i64 4, .int .i64 tag, .int .i64 num, .string str, .bool is, .int .i64 code, .int .i64 row, .int .i64 col, .int .i64 top, .int .i64 left, .int .i64 bot, .int .i64 right, .int .i64 op, .string name, .int .i64 args], .slice (some ⟨b, o, none⟩) n cap] w fun e w' => e = .returned (thOut (workN ⟨4, tag, num, str, is, code, row, col, top, left, bot, right, op, name, args⟩ l)) ∧ Below w.heap.size w w' := by
 have mixed : Tryz.prog.follows .mixedOrders = true := by kernel_rfl
 have HC' : Hid _ := HC
 have HN : Hid (l.length = n) := hn
 have HDP : Hid _ := hdp
 clear HC hn hdp
 go_enter Tryz.func38, Tryz.ntmps38
 go_wp2
 go_loopw [6, 11] (fun x v w' => ∃ i d : Nat, v = .int .i64 i ∧ i ≤ n ∧ x = .int .i64 d ∧ d ≤ 5000 ∧ Hid (d = maxD op true 0 (l.take i) 0) ∧ Hid ((l.take i).any (·.many) = false) ∧ Below w.heap.size w w' ∧ Own w' w.heap.size #[.int .i64 4, .int .i64 tag, .int .i64 num, .string str, .bool is, .int .i64 code, .int .i64 row, .int .i64 col, .int .i64 top, .int .i64 left, .int .i64 bot, .int .i64 right, .int .i64 op, .string name, .int .i64 args] ∧ Own w' (w.heap.size + 1) #[.bool false, .int .i64 0, .int .i64 0]) (fun _ v _ => n - (intOf v).toNat)
 case atStart => exact ⟨0, 0, rfl, zq17, rfl, zq17, rfl, rfl, zq1, zq4, zq4⟩
 case round =>
  obtain ⟨i, d, rfl, hi, rfl, hd, hD, hany, hB, o0, o1⟩ := hrel
  have c0 := o0.cell
  have c1 := o1.cell
  have l0 := o0.lt
  have l1 := o1.lt
  have f1 := o1.fro
  by_cases hlt : i < n
  ·have hlt' : (i : Int) < n := by omega
   have hti : l[i]? = some (l[i]'(by rw [HN.out]; exact hlt)) := List.getElem?_eq_getElem _
   have hdt := HDP.out _ (List.mem_of_getElem? hti)
   have cx := fun j hj => (show wr.cell? ⟨b, o + i * 3 + j, none⟩ = _ from (hB.cell (p := ⟨b, o + i * 3 + j, none⟩) hlb).trans (HC'.out i _ hti j hj))
   have HT : Hid _ := hti
   revert cx HT hdt
   generalize (l[i]'(by rw [HN.out]; exact hlt)) = t
   intro hdt cx HT
   clear hti
   have x0 : wr.cell? ⟨b, o + i * 3, none⟩ = some (Value.bool t.many) := cx 0 zq16
   have x1 : wr.cell? ⟨b, o + i * 3 + 1, none⟩ = some (Value.int .i64 t.lev) := cx 1 zq16
   have x2 : wr.cell? ⟨b, o + i * 3 + 2, none⟩ = some (Value.int .i64 t.dep) := cx 2 zq16
   clear cx
   have hI := fun w => inBr_any op i t.lev w
   {
    cases hm : t.many
    ·rw [hm] at x0
     cases hbr : inBr op i t.lev
     ·rw [hbr] at hI
      have hb1 : bump op true i t = t.dep := bump_f hbr
      have HS : Hid (max d t.dep = maxD op true 0 (l.take (i + 1)) 0) := by show _ = _; rw [maxD_next op true HT.out, hb1, ← hD.out]
      have HA : Hid ((l.take (i + 1)).any (·.many) = false) := any_next HT.out hany.out hm
      clear hbr hb1 hm
      go_wp2_with (go_at_call 66; refine (hI _).mono ?_; rintro e w1 ⟨rfl, hb⟩; have hB := bux w zq1 hb; have o0 : Own w1 (w.heap.size) #[.int .i64 4, .int .i64 tag, .int .i64 num, .string str, .bool is, .int .i64 code, .int .i64 row, .int .i64 col, .int .i64 top, .int .i64 left, .int .i64 bot, .int .i64 right, .int .i64 op, .string name, .int .i64 args] := Own.keep zq4 hb; have c0 := o0.cell; have f0 := o0.fro; have l0 := o0.lt; have o1 : Own w1 (w.heap.size + 1) #[.bool false, .int .i64 0, .int .i64 0] := Own.keep zq4 hb; have c1 := o1.cell; have f1 := o1.fro; have l1 := o1.lt; have o2 : Own w1 (wr.heap.size) #[.bool false, .int .i64 t.lev, .int .i64 t.dep] := Own.keep zq4 hb; have c2 := o2.cell; have f2 := o2.fro; have l2 := o2.lt)
      go_roundw
      case rel => exact ⟨i + 1, max d t.dep, by go_num, zq17, by first | rfl | exact congrArg _ (max_cast _ _) | (simp; omega), zq17, HS, HA, zq1, zq4, zq4⟩
      case measure => simp [intOf]; omega
     ·rw [hbr] at hI
      have hb1 : bump op true i t = t.dep + 1 := bump_t hbr
      have HS : Hid (max d (t.dep + 1) = maxD op true 0 (l.take (i + 1)) 0) := by show _ = _; rw [maxD_next op true HT.out, hb1, ← hD.out]
      have HA : Hid ((l.take (i + 1)).any (·.many) = false) := any_next HT.out hany.out hm
      clear hbr hb1 hm
      go_wp2_with (go_at_call 66; refine (hI _).mono ?_; rintro e w1 ⟨rfl, hb⟩; have hB := bux w zq1 hb; have o0 : Own w1 (w.heap.size) #[.int .i64 4, .int .i64 tag, .int .i64 num, .string str, .bool is, .int .i64 code, .int .i64 row, .int .i64 col, .int .i64 top, .int .i64 left, .int .i64 bot, .int .i64 right, .int .i64 op, .string name, .int .i64 args] := Own.keep zq4 hb; have c0 := o0.cell; have f0 := o0.fro; have l0 := o0.lt; have o1 : Own w1 (w.heap.size + 1) #[.bool false, .int .i64 0, .int .i64 0] := Own.keep zq4 hb; have c1 := o1.cell; have f1 := o1.fro; have l1 := o1.lt; have o2 : Own w1 (wr.heap.size) #[.bool false, .int .i64 t.lev, .int .i64 t.dep] := Own.keep zq4 hb; have c2 := o2.cell; have f2 := o2.fro; have l2 := o2.lt)
      go_roundw
      case rel => exact ⟨i + 1, max d (t.dep + 1), by go_num, zq17, by first | rfl | exact congrArg _ (max_cast _ _) | (simp; omega), zq17, HS, HA, zq1, zq4, zq4⟩
      case measure => simp [intOf]; omega
    ·rw [hm] at x0
     have hw : workN ⟨4, tag, num, str, is, code, row, col, top, left, bot, right, op, name, args⟩ l = none := by simp [workN, any_hit HT.out hm]
     have HW : Hid _ := hw
     clear hw hm hI
     go_wp2
     exact bodyPost_ret (v := .tuple #[.agg #[.bool false, .int .i64 0, .int .i64 0], .bool false]) (by simp [results, Tryz.results38, go_sem, c0, c1, f1, l1]) rfl ⟨by rw [HW.out]; rfl, zq1⟩
   }
  ·have hlt' : ¬ (i : Int) < n := by omega
   have hw : workN ⟨4, tag, num, str, is, code, row, col, top, left, bot, right, op, name, args⟩ l = some ⟨false, levI op, d⟩ := by
    have h := hD.out
    rw [List.take_of_length_le (by rw [HN.out]; omega)] at h
    simp [workN, ← h, any_take (by rw [HN.out]; omega) hany.out]
   have HW : Hid _ := hw
   clear hw
   go_wp2_with fail
   go_region_held3 (fun w' => w'.cell? ⟨w.heap.size, 0, none⟩ = some (.int .i64 4) ∧ w'.cell? ⟨w.heap.size, 12, none⟩ = some (.int .i64 op)) ((repeat' apply And.intro) <;> (first | (go_keep; done) | (go_simp; done))) ((go_at_call 67; refine (level_any op _).mono ?_; rintro e w1 ⟨rfl, hb⟩; have hB := bux w zq1 hb; have o0 : Own w1 (w.heap.size) #[.int .i64 4, .int .i64 tag, .int .i64 num, .string str, .bool is, .int .i64 code, .int .i64 row, .int .i64 col, .int .i64 top, .int .i64 left, .int .i64 bot, .int .i64 right, .int .i64 op, .string name, .int .i64 args] := Own.keep zq4 hb; have c0 := o0.cell; have f0 := o0.fro; have l0 := o0.lt; have o1 : Own w1 (w.heap.size + 1) #[.bool false, .int .i64 0, .int .i64 0] := Own.keep zq4 hb; have c1 := o1.cell; have f1 := o1.fro; have l1 := o1.lt))
   all_goals go_wp2
   all_goals exact bodyPost_ret (v := .tuple #[.agg #[.bool false, .int .i64 (levI op), .int .i64 (d)], .bool true]) (by simp [results, Tryz.results38, go_sem, c0, c1, f1, l1]) rfl ⟨by rw [HW.out]; first | rfl | (simp [thOut, Th.cells]; done), zq1⟩
theorem work5_y (tag : Int) (num : Int) (str : ByteArray) (is : Bool) (code : Int) (row : Int) (col : Int) (top : Int) (left : Int) (bot : Int) (right : Int) (op : Int) (name : ByteArray) (args : Int) (w : World) (b o cap n : Nat) (l : List Th) (hlb : b < w.heap.size) (HC : ∀ i t, l[i]? = some t → ∀ j, j < 3 → w.cell? ⟨b, o + i * 3 + j, none⟩ = (Th.cells t)[j]?)
  (hn : l.length = n) (hcap : n ≤ cap) (h0 : 0 < n) (hl : n ≤ 1024) (hdp : ∀ t ∈ l, t.dep ≤ 4096) :
  Calls Tryz.prog 38 #[.agg #[.int .i64 5, .int .i64 tag, .int .i64 num, .string str, .bool is, .int .i64 code, .int .i64 row, .int .i64 col, .int .i64 top, .int .i64 left, .int .i64 bot, .int .i64 right, .int .i64 op, .string name, .int .i64 args], .slice (some ⟨b, o, none⟩) n cap] w fun e w' => e = .returned (thOut (workN ⟨5, tag, num, str, is, code, row, col, top, left, bot, right, op, name, args⟩ l)) ∧ Below w.heap.size w w' := by
 have mixed : Tryz.prog.follows .mixedOrders = true := by kernel_rfl
 have HC' : Hid _ := HC
 have HN : Hid (l.length = n) := hn
 have HDP : Hid _ := hdp
 clear HC hn hdp
 go_enter Tryz.func38, Tryz.ntmps38
 go_wp2
 go_loopw [6, 11] (fun x v w' => ∃ i d : Nat, v = .int .i64 i ∧ i ≤ n ∧ x = .int .i64 d ∧ d ≤ 5000 ∧ Hid (d = maxD op false 0 (l.take i) 0) ∧ Below w.heap.size w w' ∧ Own w' w.heap.size #[.int .i64 5, .int .i64 tag, .int .i64 num, .string str, .bool is, .int .i64 code, .int .i64 row, .int .i64 col, .int .i64 top, .int .i64 left, .int .i64 bot, .int .i64 right, .int .i64 op, .string name, .int .i64 args] ∧ Own w' (w.heap.size + 1) #[.bool false, .int .i64 0, .int .i64 0]) (fun _ v _ => n - (intOf v).toNat)
 case atStart => exact ⟨0, 0, rfl, zq17, rfl, zq17, rfl, zq1, zq4, zq4⟩
 case round =>
  obtain ⟨i, d, rfl, hi, rfl, hd, hD, hB, o0, o1⟩ := hrel
  have c0 := o0.cell
  have c1 := o1.cell
  have l0 := o0.lt
  have l1 := o1.lt
  have f1 := o1.fro
  by_cases hlt : i < n
  ·have hlt' : (i : Int) < n := by omega
   have hti : l[i]? = some (l[i]'(by rw [HN.out]; exact hlt)) := List.getElem?_eq_getElem _
   have hdt := HDP.out _ (List.mem_of_getElem? hti)
   have cx := fun j hj => (show wr.cell? ⟨b, o + i * 3 + j, none⟩ = _ from (hB.cell (p := ⟨b, o + i * 3 + j, none⟩) hlb).trans (HC'.out i _ hti j hj))
   have HT : Hid _ := hti
   revert cx HT hdt
   generalize (l[i]'(by rw [HN.out]; exact hlt)) = t
   intro hdt cx HT
   clear hti
   have x0 : wr.cell? ⟨b, o + i * 3, none⟩ = some (Value.bool t.many) := cx 0 zq16
   have x1 : wr.cell? ⟨b, o + i * 3 + 1, none⟩ = some (Value.int .i64 t.lev) := cx 1 zq16
   have x2 : wr.cell? ⟨b, o + i * 3 + 2, none⟩ = some (Value.int .i64 t.dep) := cx 2 zq16
   clear cx
   {
    have HS : Hid (max d t.dep = maxD op false 0 (l.take (i + 1)) 0) := by show _ = _; rw [maxD_next op false HT.out, bump_n, ← hD.out]
    cases hm : t.many
    ·rw [hm] at x0
     clear hm
     go_wp2
     go_roundw
     case rel => exact ⟨i + 1, max d t.dep, by go_num, zq17, by first | rfl | exact congrArg _ (max_cast _ _) | (simp; omega), zq17, HS, zq1, zq4, zq4⟩
     case measure => simp [intOf]; omega
    ·rw [hm] at x0
     clear hm
     go_wp2
     go_roundw
     case rel => exact ⟨i + 1, max d t.dep, by go_num, zq17, by first | rfl | exact congrArg _ (max_cast _ _) | (simp; omega), zq17, HS, zq1, zq4, zq4⟩
     case measure => simp [intOf]; omega
   }
  ·have hlt' : ¬ (i : Int) < n := by omega
   have hw : workN ⟨5, tag, num, str, is, code, row, col, top, left, bot, right, op, name, args⟩ l = some ⟨false, levI op, d + 1⟩ := by
    have h := hD.out
    rw [List.take_of_length_le (by rw [HN.out]; omega)] at h
    simp [workN, ← h]
   have HW : Hid _ := hw
   clear hw
   go_wp2_with fail
   go_region_held3 (fun w' => w'.cell? ⟨w.heap.size, 0, none⟩ = some (.int .i64 5) ∧ w'.cell? ⟨w.heap.size, 12, none⟩ = some (.int .i64 op)) ((repeat' apply And.intro) <;> (first | (go_keep; done) | (go_simp; done))) ((go_at_call 67; refine (level_any op _).mono ?_; rintro e w1 ⟨rfl, hb⟩; have hB := bux w zq1 hb; have o0 : Own w1 (w.heap.size) #[.int .i64 5, .int .i64 tag, .int .i64 num, .string str, .bool is, .int .i64 code, .int .i64 row, .int .i64 col, .int .i64 top, .int .i64 left, .int .i64 bot, .int .i64 right, .int .i64 op, .string name, .int .i64 args] := Own.keep zq4 hb; have c0 := o0.cell; have f0 := o0.fro; have l0 := o0.lt; have o1 : Own w1 (w.heap.size + 1) #[.bool false, .int .i64 0, .int .i64 0] := Own.keep zq4 hb; have c1 := o1.cell; have f1 := o1.fro; have l1 := o1.lt))
   all_goals go_wp2
   all_goals exact bodyPost_ret (v := .tuple #[.agg #[.bool false, .int .i64 (levI op), .int .i64 ((d : Int) + 1)], .bool true]) (by simp [results, Tryz.results38, go_sem, c0, c1, f1, l1]) rfl ⟨by rw [HW.out]; first | rfl | (simp [thOut, Th.cells]; done), zq1⟩
end Go.Proofs.YtcmjhjnpcogmgaaGreatDoor.Rf
