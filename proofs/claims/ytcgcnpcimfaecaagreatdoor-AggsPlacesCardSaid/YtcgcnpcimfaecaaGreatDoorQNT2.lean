/- The contracts of package given: how many arguments a function takes, which of them may be, and of slices.Index and slices.Contains at truths. New memory alone is made. The condition: lists of at most 2^47 things. The contracts of slices.Contains at truths, (given.Count).Takes, given.Single and given.noSingle. New memory alone is made. -/
import Derived.Test.YtcgcnpcimfaecaaGreatDoorQNT1
namespace Go.Proofs.YtcgcnpcimfaecaaGreatDoor
open Go.RowKit
set_option linter.all false
def hasB (lo hi n : Int) : Bool := decide (lo ≤ n) && decide (n ≤ hi)
/-- A slice of truths. -/
def bcell1 (b : Bool) : Array Value := #[.bool b]
abbrev BV (w : World) (v : Value) (l : List Bool) : Prop := View bcell1 1 w v l
theorem any_take {α : Type} {p : α → Bool} {l : List α} {i : Nat} {x : α} (h : l[i]? = some x) (h1 : (l.take i).any p = false) (h2 : p x = false) : (l.take (i + 1)).any p = false := by
  rw [List.take_succ, h, List.any_append, h1]; simp [h2]
theorem any_at {α : Type} {p : α → Bool} {l : List α} {i : Nat} {x : α} (h : l[i]? = some x) (h2 : p x = true) : l.any p = true := by
  rw [List.any_eq_true]; exact ⟨x, List.mem_of_getElem? h, h2⟩
theorem any_all {α : Type} {p : α → Bool} {l : List α} {i : Nat} (h : l.length ≤ i) (h1 : (l.take i).any p = false) : l.any p = false := by
  rwa [List.take_of_length_le h] at h1
end Go.Proofs.YtcgcnpcimfaecaaGreatDoor
namespace Go.Proofs.YtcgcnpcimfaecaaGreatDoor
open Go.RowKit
set_option linter.all false
/-- An argument, as it lies in memory. -/
structure Ag where
  many : Bool
  t : Int
  n : Int
  s : ByteArray
  b : Bool
  c : Int
  r0 : Int
  r1 : Int
  r2 : Int
  r3 : Int
  ep : Option Addr
  en : Nat
  ec : Nat
def Ag.cells (a : Ag) : Array Value := #[.bool a.many, .int .i64 a.t, .int .i64 a.n, .string a.s, .bool a.b, .int .i64 a.c, .int .i64 a.r0, .int .i64 a.r1, .int .i64 a.r2, .int .i64 a.r3, .slice a.ep a.en a.ec]
/-- What of it may be: the numbers fit. -/
def Ag.wf (a : Ag) : Prop := I64 a.t ∧ I64 a.n ∧ I64 a.c
def rz (a b c d : Int) : Bool := decide (a = 0 ∧ b = 0 ∧ c = 0 ∧ d = 0)
/-- It is a rectangle, or may not be. -/
def nosB (a : Ag) : Bool := a.many || !mayB a.t a.n a.s a.b a.c || !rz a.r0 a.r1 a.r2 a.r3 || decide (0 < a.en)
theorem eqR (a b c d : Int) (w : World) : (binOp .eql 37 (.agg #[.int .i64 a, .int .i64 b, .int .i64 c, .int .i64 d]) (.agg #[.int .i64 0, .int .i64 0, .int .i64 0, .int .i64 0])).run Tryz.prog w = .ok (.bool (rz a b c d)) w := by
  rw [run_eql_struct, run_equalIn_agg w 9999 37 _ _ (by kernel_rfl) (by kernel_rfl)]
  unfold rz
  go_simp
  by_cases h1 : a = 0
  · by_cases h2 : b = 0
    · by_cases h3 : c = 0
      · by_cases h4 : d = 0 <;> simp [h1, h2, h3, h4]
      · simp [h1, h2, h3]
    · simp [h1, h2]
  · simp [h1]
theorem sin_m (t n : Int) (s : ByteArray) (b : Bool) (c r0 r1 r2 r3 : Int) (ep : Option Addr) (en ec : Nat) (w : World) : Calls Tryz.prog 58 #[.agg #[.bool true, .int .i64 t, .int .i64 n, .string s, .bool b, .int .i64 c, .int .i64 r0, .int .i64 r1, .int .i64 r2, .int .i64 r3, .slice ep en ec]] w fun e w' => e = .returned (.bool false) ∧ Below w.heap.size w w' := by
  go_enter Tryz.func58, Tryz.ntmps58
  go_wp2
  go_ret
  exact ⟨rfl, by with_reducible (repeat' first | assumption | exact Below.refl _ _ | refine Below.drew ?_ | refine bdrewN ?_ _ | refine Below.setCell ?_ (by first | exact Nat.le_refl _ | (simp; done) | (simp; omega) | omega) _ | refine Below.alloc ?_ (by first | exact Nat.le_refl _ | (simp; done) | (simp; omega) | omega) _)⟩
theorem sin_v (t n : Int) (s : ByteArray) (b : Bool) (c r0 r1 r2 r3 : Int) (ep : Option Addr) (en ec : Nat) (w : World) (hn : I64 n) (hm : mayB t n s b c = false) : Calls Tryz.prog 58 #[.agg #[.bool false, .int .i64 t, .int .i64 n, .string s, .bool b, .int .i64 c, .int .i64 r0, .int .i64 r1, .int .i64 r2, .int .i64 r3, .slice ep en ec]] w fun e w' => e = .returned (.bool false) ∧ Below w.heap.size w w' := by
  go_enter Tryz.func58, Tryz.ntmps58
  go_wp2_with (go_at_call 100; refine (mayV _ _ _ _ _ _ hn).mono ?_; rintro e w1 ⟨rfl, hb⟩; have hB : Below w.heap.size w w1 := bup (by with_reducible (repeat' first | assumption | exact Below.refl _ _ | refine Below.drew ?_ | refine bdrewN ?_ _ | refine Below.setCell ?_ (by first | exact Nat.le_refl _ | (simp; done) | (simp; omega) | omega) _ | refine Below.alloc ?_ (by first | exact Nat.le_refl _ | (simp; done) | (simp; omega) | omega) _)) hb; have o0 : Own w1 (w.heap.size) #[.bool false, .int .i64 t, .int .i64 n, .string s, .bool b, .int .i64 c, .int .i64 r0, .int .i64 r1, .int .i64 r2, .int .i64 r3, .slice ep en ec] := Own.keep (by with_reducible (repeat' first | assumption | refine Own.drew ?_ | refine Own.drewN ?_ _ | (refine Own.at ?_; first | rfl | (simp; done)) | refine Own.past ?_ _)) hb; have c0 := o0.cell; have f0 := o0.fro; have l0 := o0.lt; rw [hm])
  go_ret
  exact ⟨retBl (by first | rfl | simp), by with_reducible (repeat' first | assumption | exact Below.refl _ _ | refine Below.drew ?_ | refine bdrewN ?_ _ | refine Below.setCell ?_ (by first | exact Nat.le_refl _ | (simp; done) | (simp; omega) | omega) _ | refine Below.alloc ?_ (by first | exact Nat.le_refl _ | (simp; done) | (simp; omega) | omega) _)⟩
theorem sin_r (t n : Int) (s : ByteArray) (b : Bool) (c r0 r1 r2 r3 : Int) (ep : Option Addr) (en ec : Nat) (w : World) (hn : I64 n) (hm : mayB t n s b c = true) (hr : rz r0 r1 r2 r3 = false) : Calls Tryz.prog 58 #[.agg #[.bool false, .int .i64 t, .int .i64 n, .string s, .bool b, .int .i64 c, .int .i64 r0, .int .i64 r1, .int .i64 r2, .int .i64 r3, .slice ep en ec]] w fun e w' => e = .returned (.bool false) ∧ Below w.heap.size w w' := by
  have hne := eqR r0 r1 r2 r3
  rw [hr] at hne
  go_enter Tryz.func58, Tryz.ntmps58
  go_wp2_with (go_at_call 100; refine (mayV _ _ _ _ _ _ hn).mono ?_; rintro e w1 ⟨rfl, hb⟩; have hB : Below w.heap.size w w1 := bup (by with_reducible (repeat' first | assumption | exact Below.refl _ _ | refine Below.drew ?_ | refine bdrewN ?_ _ | refine Below.setCell ?_ (by first | exact Nat.le_refl _ | (simp; done) | (simp; omega) | omega) _ | refine Below.alloc ?_ (by first | exact Nat.le_refl _ | (simp; done) | (simp; omega) | omega) _)) hb; have o0 : Own w1 (w.heap.size) #[.bool false, .int .i64 t, .int .i64 n, .string s, .bool b, .int .i64 c, .int .i64 r0, .int .i64 r1, .int .i64 r2, .int .i64 r3, .slice ep en ec] := Own.keep (by with_reducible (repeat' first | assumption | refine Own.drew ?_ | refine Own.drewN ?_ _ | (refine Own.at ?_; first | rfl | (simp; done)) | refine Own.past ?_ _)) hb; have c0 := o0.cell; have f0 := o0.fro; have l0 := o0.lt; rw [hm])
  go_ret
  exact ⟨retBl (by first | rfl | simp), by with_reducible (repeat' first | assumption | exact Below.refl _ _ | refine Below.drew ?_ | refine bdrewN ?_ _ | refine Below.setCell ?_ (by first | exact Nat.le_refl _ | (simp; done) | (simp; omega) | omega) _ | refine Below.alloc ?_ (by first | exact Nat.le_refl _ | (simp; done) | (simp; omega) | omega) _)⟩
theorem sin_e (t n : Int) (s : ByteArray) (b : Bool) (c r0 r1 r2 r3 : Int) (ep : Option Addr) (en ec : Nat) (w : World) (hn : I64 n) (hm : mayB t n s b c = true) (hr : rz r0 r1 r2 r3 = true) : Calls Tryz.prog 58 #[.agg #[.bool false, .int .i64 t, .int .i64 n, .string s, .bool b, .int .i64 c, .int .i64 r0, .int .i64 r1, .int .i64 r2, .int .i64 r3, .slice ep en ec]] w fun e w' => e = .returned (.bool ((en : Int) == 0)) ∧ Below w.heap.size w w' := by
  have hne := eqR r0 r1 r2 r3
  rw [hr] at hne
  go_enter Tryz.func58, Tryz.ntmps58
  go_wp2_with (go_at_call 100; refine (mayV _ _ _ _ _ _ hn).mono ?_; rintro e w1 ⟨rfl, hb⟩; have hB : Below w.heap.size w w1 := bup (by with_reducible (repeat' first | assumption | exact Below.refl _ _ | refine Below.drew ?_ | refine bdrewN ?_ _ | refine Below.setCell ?_ (by first | exact Nat.le_refl _ | (simp; done) | (simp; omega) | omega) _ | refine Below.alloc ?_ (by first | exact Nat.le_refl _ | (simp; done) | (simp; omega) | omega) _)) hb; have o0 : Own w1 (w.heap.size) #[.bool false, .int .i64 t, .int .i64 n, .string s, .bool b, .int .i64 c, .int .i64 r0, .int .i64 r1, .int .i64 r2, .int .i64 r3, .slice ep en ec] := Own.keep (by with_reducible (repeat' first | assumption | refine Own.drew ?_ | refine Own.drewN ?_ _ | (refine Own.at ?_; first | rfl | (simp; done)) | refine Own.past ?_ _)) hb; have c0 := o0.cell; have f0 := o0.fro; have l0 := o0.lt; rw [hm])
  go_ret
  exact ⟨retBl (by first | rfl | simp), by with_reducible (repeat' first | assumption | exact Below.refl _ _ | refine Below.drew ?_ | refine bdrewN ?_ _ | refine Below.setCell ?_ (by first | exact Nat.le_refl _ | (simp; done) | (simp; omega) | omega) _ | refine Below.alloc ?_ (by first | exact Nat.le_refl _ | (simp; done) | (simp; omega) | omega) _)⟩
theorem sin_any (a : Ag) (w : World) (ha : I64 a.n) : Calls Tryz.prog 58 #[.agg #[.bool a.many, .int .i64 a.t, .int .i64 a.n, .string a.s, .bool a.b, .int .i64 a.c, .int .i64 a.r0, .int .i64 a.r1, .int .i64 a.r2, .int .i64 a.r3, .slice a.ep a.en a.ec]] w fun e w' => e = .returned (.bool (!nosB a)) ∧ Below w.heap.size w w' := by
  obtain ⟨m, t, n, s, b, c, r0, r1, r2, r3, ep, en, ec⟩ := a
  cases m
  · cases hm : mayB t n s b c
    · rw [show nosB ⟨false, t, n, s, b, c, r0, r1, r2, r3, ep, en, ec⟩ = true by simp [nosB, hm]]
      exact sin_v t n s b c r0 r1 r2 r3 ep en ec w ha hm
    · cases hr : rz r0 r1 r2 r3
      · rw [show nosB ⟨false, t, n, s, b, c, r0, r1, r2, r3, ep, en, ec⟩ = true by simp [nosB, hm, hr]]
        exact sin_r t n s b c r0 r1 r2 r3 ep en ec w ha hm hr
      · rw [show (!nosB ⟨false, t, n, s, b, c, r0, r1, r2, r3, ep, en, ec⟩) = ((en : Int) == 0) by
          by_cases h : en = 0
          · subst h; simp [nosB, hm, hr]
          · have h2 : ((en : Int) == 0) = false := by simpa using h
            rw [h2]; simp [nosB, hm, hr]; omega]
        exact sin_e t n s b c r0 r1 r2 r3 ep en ec w ha hm hr
  · rw [show nosB ⟨true, t, n, s, b, c, r0, r1, r2, r3, ep, en, ec⟩ = true by simp [nosB]]
    exact sin_m t n s b c r0 r1 r2 r3 ep en ec w
end Go.Proofs.YtcgcnpcimfaecaaGreatDoor
