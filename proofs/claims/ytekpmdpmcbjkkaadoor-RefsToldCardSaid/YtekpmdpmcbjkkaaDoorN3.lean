/- Slices xs they are read; the contracts of slices.Equal at nodes and of Same (of package refs and of the document's answer): of any two formulas whether they have the same nodes. New memory alone is made. The condition: lists of at most 2^47 nodes. -/
import Derived.Test.YtekpmdpmcbjkkaaDoorN0
namespace Go.Proofs.YtekpmdpmcbjkkaaDoor
open Go.RowKit
set_option linter.all false
/-- The value is a slice of just these things, each of which has the cells that c tells. -/
def View {α : Type} (c : α → Array Value) (sz : Nat) (w : World) (v : Value) (xs : List α) : Prop :=
  ∃ p cap, v = .slice p xs.length cap ∧ xs.length ≤ cap ∧ (0 < xs.length → ∃ b o, p = some ⟨b, o, none⟩ ∧ b < w.heap.size ∧ ∀ i x, xs[i]? = some x → ∀ j, j < sz → w.cell? ⟨b, o + i * sz + j, none⟩ = (c x)[j]?)
theorem View.keep {α : Type} {c : α → Array Value} {sz : Nat} {w w' : World} {v : Value} {xs : List α} (h : View c sz w v xs) (hb : Below w.heap.size w w') : View c sz w' v xs := by
  obtain ⟨p, cap, e, hc, hf⟩ := h
  refine ⟨p, cap, e, hc, fun h0 => ?_⟩
  obtain ⟨b, o, e2, hlt, hcell⟩ := hf h0
  exact ⟨b, o, e2, Nat.lt_of_lt_of_le hlt hb.size, fun i x hi j hj => (hb.cell (p := ⟨b, o + i * sz + j, none⟩) hlt).trans (hcell i x hi j hj)⟩
/-- A slice of nodes. -/
abbrev NV (w : World) (v : Value) (ns : List Nd) : Prop := View Nd.cells 15 w v ns
/-- Whether two lists of nodes are the same. -/
def sameL : List Nd → List Nd → Bool
  | [], [] => true
  | a :: xs, b :: ys => sameN a b && sameL xs ys
  | _, _ => false
theorem sameL_refl : ∀ l : List Nd, sameL l l = true
  | [] => rfl
  | a :: xs => by simp [sameL, sameN_refl, sameL_refl xs]
theorem sameL_is : ∀ {a b : List Nd}, sameL a b = true → a = b
  | [], [], _ => rfl
  | a :: xs, b :: ys, h => by
    simp only [sameL, Bool.and_eq_true] at h
    rw [sameN_is h.1, sameL_is h.2]
  | [], b :: ys, h => by cases h
  | a :: xs, [], h => by cases h
theorem sameL_f {a b : List Nd} (h : a ≠ b) : sameL a b = false := by
  cases e : sameL a b
  · rfl
  · exact absurd (sameL_is e) h
theorem sameL_comm (a b : List Nd) : sameL a b = sameL b a := by
  cases h : sameL a b
  · cases k : sameL b a
    · rfl
    · rw [sameL_is k, sameL_refl] at h; cases h
  · rw [sameL_is h, sameL_refl]
theorem ne_at {xs ys : List Nd} {i : Nat} {x y : Nd} (h1 : xs[i]? = some x) (h2 : ys[i]? = some y) (hs : sameN x y = false) : xs ≠ ys := by
  rintro rfl
  rw [h1] at h2
  cases h2
  rw [sameN_refl] at hs
  cases hs
theorem take_more {xs ys : List Nd} {i : Nat} {x y : Nd} (h1 : xs[i]? = some x) (h2 : ys[i]? = some y) (hs : sameN x y = true) (h : xs.take i = ys.take i) : xs.take (i + 1) = ys.take (i + 1) := by
  rw [List.take_succ, List.take_succ, h1, h2, h, sameN_is hs]
theorem Own.drewN {w : World} {b : Nat} {A : Array Value} (h : Own w b A) (n : Nat) : Own (w.drewN n) b A := h.keep (bdrewN (Below.refl _ _) n)
set_option maxRecDepth 100000 in
set_option maxHeartbeats 2000000 in
theorem equal_any_y (w : World) (ba oa ca bb ob cb n : Nat) (xs ys : List Nd) (hla : ba < w.heap.size) (hlb : bb < w.heap.size)
    (HA : ∀ i x, xs[i]? = some x → ∀ j, j < 15 → w.cell? ⟨ba, oa + i * 15 + j, none⟩ = (Nd.cells x)[j]?) (HB : ∀ i x, ys[i]? = some x → ∀ j, j < 15 → w.cell? ⟨bb, ob + i * 15 + j, none⟩ = (Nd.cells x)[j]?)
    (hxn : xs.length = n) (hyn : ys.length = n) (hca : n ≤ ca) (hcb : n ≤ cb) (h0 : 0 < n) (hl : n ≤ 140737488355328) :
    Calls Tryd.prog 19 #[.slice (some ⟨ba, oa, none⟩) n ca, .slice (some ⟨bb, ob, none⟩) n cb] w fun e w' => e = .returned (.bool (sameL xs ys)) ∧ Below w.heap.size w w' := by
  have mixed : Tryd.prog.follows .mixedOrders = true := by kernel_rfl
  have HA' : Hid _ := HA
  have HB' : Hid _ := HB
  have HL : Hid (ys.length = n) := hyn
  have HL2 : Hid (xs.length = n) := hxn
  clear HA HB hxn hyn
  go_enter Tryd.func19, Tryd.ntmps19
  go_wp2
  go_loopw [13] (fun v w' => ∃ i : Nat, v = .int .i64 i ∧ i ≤ n ∧ Hid (xs.take i = ys.take i) ∧ ∃ m, w' = w.drewN m) (fun v _ => n - (intOf v).toNat)
  case atStart => exact ⟨0, rfl, by omega, rfl, 0, rfl⟩
  case round =>
    obtain ⟨i, rfl, hi, htk, m, rfl⟩ := hrel
    by_cases hlt : i < n
    · have hlt' : (i : Int) < n := by omega
      have hai : xs[i]? = some (xs[i]'(by rw [HL2.out]; exact hlt)) := List.getElem?_eq_getElem _
      have hbi : ys[i]? = some (ys[i]'(by rw [HL.out]; exact hlt)) := List.getElem?_eq_getElem _
      have ca' := fun j hj => (show w.cell? ⟨ba, oa + i * 15 + j, none⟩ = _ from HA'.out i _ hai j hj)
      have cb' := fun j hj => (show w.cell? ⟨bb, ob + i * 15 + j, none⟩ = _ from HB'.out i _ hbi j hj)
      have HAi : Hid _ := hai
      have HBi : Hid _ := hbi
      revert ca' cb' HAi HBi
      generalize (xs[i]'(by rw [HL2.out]; exact hlt)) = x
      generalize (ys[i]'(by rw [HL.out]; exact hlt)) = y
      intro ca' cb' HAi HBi
      clear hai hbi
      have hne := neN x y
      have x0 : w.cell? ⟨ba, oa + i * 15, none⟩ = some (.int .i64 x.kind) := ca' 0 (by decide)
      have x1 : w.cell? ⟨ba, oa + i * 15 + 1, none⟩ = some (.int .i64 x.tag) := ca' 1 (by decide)
      have x2 : w.cell? ⟨ba, oa + i * 15 + 2, none⟩ = some (.int .i64 x.num) := ca' 2 (by decide)
      have x3 : w.cell? ⟨ba, oa + i * 15 + 3, none⟩ = some (.string x.str) := ca' 3 (by decide)
      have x4 : w.cell? ⟨ba, oa + i * 15 + 4, none⟩ = some (.bool x.is) := ca' 4 (by decide)
      have x5 : w.cell? ⟨ba, oa + i * 15 + 5, none⟩ = some (.int .i64 x.code) := ca' 5 (by decide)
      have x6 : w.cell? ⟨ba, oa + i * 15 + 6, none⟩ = some (.int .i64 x.row) := ca' 6 (by decide)
      have x7 : w.cell? ⟨ba, oa + i * 15 + 7, none⟩ = some (.int .i64 x.col) := ca' 7 (by decide)
      have x8 : w.cell? ⟨ba, oa + i * 15 + 8, none⟩ = some (.int .i64 x.top) := ca' 8 (by decide)
      have x9 : w.cell? ⟨ba, oa + i * 15 + 9, none⟩ = some (.int .i64 x.left) := ca' 9 (by decide)
      have x10 : w.cell? ⟨ba, oa + i * 15 + 10, none⟩ = some (.int .i64 x.bot) := ca' 10 (by decide)
      have x11 : w.cell? ⟨ba, oa + i * 15 + 11, none⟩ = some (.int .i64 x.right) := ca' 11 (by decide)
      have x12 : w.cell? ⟨ba, oa + i * 15 + 12, none⟩ = some (.int .i64 x.op) := ca' 12 (by decide)
      have x13 : w.cell? ⟨ba, oa + i * 15 + 13, none⟩ = some (.string x.name) := ca' 13 (by decide)
      have x14 : w.cell? ⟨ba, oa + i * 15 + 14, none⟩ = some (.int .i64 x.args) := ca' 14 (by decide)
      have y0 : w.cell? ⟨bb, ob + i * 15, none⟩ = some (.int .i64 y.kind) := cb' 0 (by decide)
      have y1 : w.cell? ⟨bb, ob + i * 15 + 1, none⟩ = some (.int .i64 y.tag) := cb' 1 (by decide)
      have y2 : w.cell? ⟨bb, ob + i * 15 + 2, none⟩ = some (.int .i64 y.num) := cb' 2 (by decide)
      have y3 : w.cell? ⟨bb, ob + i * 15 + 3, none⟩ = some (.string y.str) := cb' 3 (by decide)
      have y4 : w.cell? ⟨bb, ob + i * 15 + 4, none⟩ = some (.bool y.is) := cb' 4 (by decide)
      have y5 : w.cell? ⟨bb, ob + i * 15 + 5, none⟩ = some (.int .i64 y.code) := cb' 5 (by decide)
      have y6 : w.cell? ⟨bb, ob + i * 15 + 6, none⟩ = some (.int .i64 y.row) := cb' 6 (by decide)
      have y7 : w.cell? ⟨bb, ob + i * 15 + 7, none⟩ = some (.int .i64 y.col) := cb' 7 (by decide)
      have y8 : w.cell? ⟨bb, ob + i * 15 + 8, none⟩ = some (.int .i64 y.top) := cb' 8 (by decide)
      have y9 : w.cell? ⟨bb, ob + i * 15 + 9, none⟩ = some (.int .i64 y.left) := cb' 9 (by decide)
      have y10 : w.cell? ⟨bb, ob + i * 15 + 10, none⟩ = some (.int .i64 y.bot) := cb' 10 (by decide)
      have y11 : w.cell? ⟨bb, ob + i * 15 + 11, none⟩ = some (.int .i64 y.right) := cb' 11 (by decide)
      have y12 : w.cell? ⟨bb, ob + i * 15 + 12, none⟩ = some (.int .i64 y.op) := cb' 12 (by decide)
      have y13 : w.cell? ⟨bb, ob + i * 15 + 13, none⟩ = some (.string y.name) := cb' 13 (by decide)
      have y14 : w.cell? ⟨bb, ob + i * 15 + 14, none⟩ = some (.int .i64 y.args) := cb' 14 (by decide)
      clear ca' cb'
      cases hs : sameN x y
      · rw [hs] at hne
        have HS : Hid (sameN x y = false) := hs
        clear hs
        go_wp2
        go_quiet (fail)
        go_wp2
        go_ret
        exact ⟨retB (sameL_f (ne_at HAi.out HBi.out HS.out)).symm, bdrewN (bdrewN (Below.refl _ _) _) _⟩
      · rw [hs] at hne
        have HS : Hid (sameN x y = true) := hs
        clear hs
        go_wp2
        go_quiet (fail)
        go_wp2
        exact ⟨⟨i + 1, by go_num, by omega, take_more HAi.out HBi.out HS.out htk.out, _, rfl⟩, by simp [intOf]; omega⟩
    · have hlt' : ¬ (i : Int) < n := by omega
      go_wp2
      go_ret
      have e : xs = ys := by
        have h := htk.out
        rw [List.take_of_length_le (by rw [HL2.out]; omega), List.take_of_length_le (by rw [HL.out]; omega)] at h
        exact h
      exact ⟨retB (by rw [e, sameL_refl]), bdrewN (Below.refl _ _) _⟩
set_option maxHeartbeats 1000000 in
theorem equal_any_e (w : World) (pa pb : Option Addr) (ca cb : Nat) : Calls Tryd.prog 19 #[.slice pa 0 ca, .slice pb 0 cb] w fun e w' => e = .returned (.bool true) ∧ Below w.heap.size w w' := by
  go_enter Tryd.func19, Tryd.ntmps19
  go_wp2
  go_loopw [13] (fun v w' => v = .int .i64 0 ∧ w' = w) (fun v _ => 0)
  case atStart => exact ⟨rfl, rfl⟩
  case round =>
    obtain ⟨rfl, rfl⟩ := hrel
    go_wp2
    go_ret
    exact ⟨rfl, Below.refl _ _⟩
set_option maxHeartbeats 1000000 in
theorem equal_any_n (w : World) (pa pb : Option Addr) (na nb ca cb : Nat) (hn : ((na : Int) == (nb : Int)) = false) : Calls Tryd.prog 19 #[.slice pa na ca, .slice pb nb cb] w fun e w' => e = .returned (.bool false) ∧ Below w.heap.size w w' := by
  have hn2 : ¬ (na : Int) = (nb : Int) := by simpa using hn
  go_enter Tryd.func19, Tryd.ntmps19
  go_wp2
  go_ret
  exact ⟨rfl, by with_reducible (repeat' first | assumption | exact Below.refl _ _ | refine Below.drew ?_ | refine Below.setCell ?_ (by first | exact Nat.le_refl _ | (simp; done) | (simp; omega) | omega) _ | refine Below.alloc ?_ (by first | exact Nat.le_refl _ | (simp; done) | (simp; omega) | omega) _)⟩
theorem equal_any (w : World) (va vb : Value) (xs ys : List Nd) (ha : NV w va xs) (hb : NV w vb ys) (hl : xs.length ≤ 140737488355328) :
    Calls Tryd.prog 19 #[va, vb] w fun e w' => e = .returned (.bool (sameL xs ys)) ∧ Below w.heap.size w w' := by
  obtain ⟨pa, ca, rfl, hca, fa⟩ := ha
  obtain ⟨pb, cb, rfl, hcb, fb⟩ := hb
  by_cases hlen : xs.length = ys.length
  · by_cases h0 : 0 < xs.length
    · obtain ⟨ba, oa, rfl, hla, HA⟩ := fa h0
      obtain ⟨bb, ob, rfl, hlb, HB⟩ := fb (by omega)
      rw [← hlen]
      exact equal_any_y w ba oa ca bb ob cb xs.length xs ys hla hlb HA HB rfl hlen.symm hca (by omega) h0 hl
    · obtain rfl : xs = [] := List.length_eq_zero_iff.1 (by omega)
      obtain rfl : ys = [] := List.length_eq_zero_iff.1 hlen.symm
      exact equal_any_e w pa pb ca cb
  · rw [sameL_f (fun e => hlen (by rw [e]))]
    exact equal_any_n w pa pb xs.length ys.length ca cb (by simpa using (by omega : ¬ (xs.length : Int) = (ys.length : Int)))
end Go.Proofs.YtekpmdpmcbjkkaaDoor
