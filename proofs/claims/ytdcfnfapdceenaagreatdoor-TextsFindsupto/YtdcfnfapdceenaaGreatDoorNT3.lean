/- The contracts of slices.Contains at truths, (given.Count).Takes, given.Single and given.noSingle. New memory alone is made. -/
import Derived.Test.YtdcfnfapdceenaaGreatDoorNT2
namespace Go.Proofs.YtdcfnfapdceenaaGreatDoor
open Go.RowKit
set_option linter.all false
theorem ixb_0 (w : World) (p : Option Addr) (c : Nat) : Calls Tryz.prog 90 #[.slice p 0 c, .bool true] w fun e w' => (∃ r : Int, e = .returned (.int .i64 r) ∧ decide (0 ≤ r) = false) ∧ Below w.heap.size w w' := by
  go_enter Tryz.func90, Tryz.ntmps90
  go_wp2
  go_loopw [8] (fun v w' => v = .int .i64 0 ∧ w' = w) (fun _ _ => 0)
  case atStart => exact ⟨rfl, rfl⟩
  case round =>
    obtain ⟨rfl, rfl⟩ := hrel
    go_wp2
    go_ret
    exact ⟨⟨_, rfl, rfl⟩, Below.refl _ _⟩
theorem ixb_any (w : World) (v : Value) (l : List Bool) (h : BV w v l) (hl : l.length ≤ 9223372036854775807) : Calls Tryz.prog 90 #[v, .bool true] w fun e w' => (∃ r : Int, e = .returned (.int .i64 r) ∧ decide (0 ≤ r) = l.any id) ∧ Below w.heap.size w w' := by
  obtain ⟨p, c, rfl, hc, hf⟩ := h
  by_cases h0 : 0 < l.length
  · obtain ⟨b, o, rfl, hlt, HA⟩ := hf h0
    exact ixb_y w b o c l.length l hlt HA rfl hc h0 hl
  · have e : l = [] := List.eq_nil_of_length_eq_zero (by omega)
    subst e
    exact ixb_0 w p c
theorem cont_any (w : World) (v : Value) (l : List Bool) (h : BV w v l) (hl : l.length ≤ 9223372036854775807) : Calls Tryz.prog 60 #[v, .bool true] w fun e w' => e = .returned (.bool (l.any id)) ∧ Below w.heap.size w w' := by
  go_enter Tryz.func60, Tryz.ntmps60
  go_wp2_with (go_at_call 90; refine (ixb_any _ _ _ h hl).mono ?_; rintro e w1 ⟨⟨r, rfl, hr⟩, hb⟩)
  go_ret
  exact ⟨retBl (by first | exact hr | (rw [← hr])), hb⟩
theorem takes_t (lo hi : Int) (w : World) (v : Value) (l : List Bool) (h : BV w v l) (hl : l.length ≤ 9223372036854775807) (hh : hasB lo hi (l.length : Int) = true) : Calls Tryz.prog 40 #[.agg #[.int .i64 lo, .int .i64 hi], v] w fun e w' => e = .returned (.bool (!l.any id)) ∧ Below w.heap.size w w' := by
  have h' := h
  obtain ⟨p, c, rfl, _, _⟩ := h'
  go_enter Tryz.func40, Tryz.ntmps40
  go_wp2_with (first | (go_at_call 42; refine (has_any _ _ _ _).mono ?_; rintro e w1 ⟨rfl, hb⟩; have hB : Below w.heap.size w w1 := bup (by with_reducible (repeat' first | assumption | exact Below.refl _ _ | refine Below.drew ?_ | refine bdrewN ?_ _ | refine Below.setCell ?_ (by first | exact Nat.le_refl _ | (simp; done) | (simp; omega) | omega) _ | refine Below.alloc ?_ (by first | exact Nat.le_refl _ | (simp; done) | (simp; omega) | omega) _)) hb; have o0 : Own w1 (w.heap.size) #[.int .i64 lo, .int .i64 hi] := Own.keep (by with_reducible (repeat' first | assumption | refine Own.drew ?_ | refine Own.drewN ?_ _ | (refine Own.at ?_; first | rfl | (simp; done)) | refine Own.past ?_ _)) hb; have c0 := o0.cell; have f0 := o0.fro; have l0 := o0.lt; rw [hh]; have hv1 := h.keep hB) | (go_at_call 60; refine (cont_any _ _ _ (by assumption) hl).mono ?_; rintro e w1 ⟨rfl, hb⟩; have hB2 : Below w.heap.size w w1 := bup (by with_reducible (repeat' first | assumption | exact Below.refl _ _ | refine Below.drew ?_ | refine bdrewN ?_ _ | refine Below.setCell ?_ (by first | exact Nat.le_refl _ | (simp; done) | (simp; omega) | omega) _ | refine Below.alloc ?_ (by first | exact Nat.le_refl _ | (simp; done) | (simp; omega) | omega) _)) hb))
  go_ret
  exact ⟨rfl, by with_reducible (repeat' first | assumption | exact Below.refl _ _ | refine Below.drew ?_ | refine bdrewN ?_ _ | refine Below.setCell ?_ (by first | exact Nat.le_refl _ | (simp; done) | (simp; omega) | omega) _ | refine Below.alloc ?_ (by first | exact Nat.le_refl _ | (simp; done) | (simp; omega) | omega) _)⟩
theorem takes_f (lo hi : Int) (w : World) (v : Value) (l : List Bool) (h : BV w v l) (hl : l.length ≤ 9223372036854775807) (hh : hasB lo hi (l.length : Int) = false) : Calls Tryz.prog 40 #[.agg #[.int .i64 lo, .int .i64 hi], v] w fun e w' => e = .returned (.bool false) ∧ Below w.heap.size w w' := by
  have h' := h
  obtain ⟨p, c, rfl, _, _⟩ := h'
  go_enter Tryz.func40, Tryz.ntmps40
  go_wp2_with (go_at_call 42; refine (has_any _ _ _ _).mono ?_; rintro e w1 ⟨rfl, hb⟩; have hB : Below w.heap.size w w1 := bup (by with_reducible (repeat' first | assumption | exact Below.refl _ _ | refine Below.drew ?_ | refine bdrewN ?_ _ | refine Below.setCell ?_ (by first | exact Nat.le_refl _ | (simp; done) | (simp; omega) | omega) _ | refine Below.alloc ?_ (by first | exact Nat.le_refl _ | (simp; done) | (simp; omega) | omega) _)) hb; have o0 : Own w1 (w.heap.size) #[.int .i64 lo, .int .i64 hi] := Own.keep (by with_reducible (repeat' first | assumption | refine Own.drew ?_ | refine Own.drewN ?_ _ | (refine Own.at ?_; first | rfl | (simp; done)) | refine Own.past ?_ _)) hb; have c0 := o0.cell; have f0 := o0.fro; have l0 := o0.lt; rw [hh]; have hv1 := h.keep hB)
  go_ret
  exact ⟨rfl, by with_reducible (repeat' first | assumption | exact Below.refl _ _ | refine Below.drew ?_ | refine bdrewN ?_ _ | refine Below.setCell ?_ (by first | exact Nat.le_refl _ | (simp; done) | (simp; omega) | omega) _ | refine Below.alloc ?_ (by first | exact Nat.le_refl _ | (simp; done) | (simp; omega) | omega) _)⟩
theorem takes_any (lo hi : Int) (w : World) (v : Value) (l : List Bool) (h : BV w v l) (hl : l.length ≤ 9223372036854775807) : Calls Tryz.prog 40 #[.agg #[.int .i64 lo, .int .i64 hi], v] w fun e w' => e = .returned (.bool (hasB lo hi (l.length : Int) && !l.any id)) ∧ Below w.heap.size w w' := by
  cases hh : hasB lo hi (l.length : Int)
  · exact takes_f lo hi w v l h hl hh
  · exact takes_t lo hi w v l h hl hh
/-- An argument, as it lies in memory. -/
structure Ag where
  many : Bool
  t : Int
  n : Int
  s : ByteArray
  b : Bool
  c : Int
  r0 : Int
  r1 : Int
  r2 : Int
  r3 : Int
  ep : Option Addr
  en : Nat
  ec : Nat
def Ag.cells (a : Ag) : Array Value := #[.bool a.many, .int .i64 a.t, .int .i64 a.n, .string a.s, .bool a.b, .int .i64 a.c, .int .i64 a.r0, .int .i64 a.r1, .int .i64 a.r2, .int .i64 a.r3, .slice a.ep a.en a.ec]
/-- What of it may be: the numbers fit. -/
def Ag.wf (a : Ag) : Prop := I64 a.t ∧ I64 a.n ∧ I64 a.c
def rz (a b c d : Int) : Bool := decide (a = 0 ∧ b = 0 ∧ c = 0 ∧ d = 0)
/-- It is a rectangle, or may not be. -/
def nosB (a : Ag) : Bool := a.many || !mayB a.t a.n a.s a.b a.c || !rz a.r0 a.r1 a.r2 a.r3 || decide (0 < a.en)
theorem eqR (a b c d : Int) (w : World) : (binOp .eql 35 (.agg #[.int .i64 a, .int .i64 b, .int .i64 c, .int .i64 d]) (.agg #[.int .i64 0, .int .i64 0, .int .i64 0, .int .i64 0])).run Tryz.prog w = .ok (.bool (rz a b c d)) w := by
  rw [run_eql_struct, run_equalIn_agg w 9999 35 _ _ (by kernel_rfl) (by kernel_rfl)]
  unfold rz
  go_simp
  by_cases h1 : a = 0
  · by_cases h2 : b = 0
    · by_cases h3 : c = 0
      · by_cases h4 : d = 0 <;> simp [h1, h2, h3, h4]
      · simp [h1, h2, h3]
    · simp [h1, h2]
  · simp [h1]
theorem sin_m (t n : Int) (s : ByteArray) (b : Bool) (c r0 r1 r2 r3 : Int) (ep : Option Addr) (en ec : Nat) (w : World) : Calls Tryz.prog 78 #[.agg #[.bool true, .int .i64 t, .int .i64 n, .string s, .bool b, .int .i64 c, .int .i64 r0, .int .i64 r1, .int .i64 r2, .int .i64 r3, .slice ep en ec]] w fun e w' => e = .returned (.bool false) ∧ Below w.heap.size w w' := by
  go_enter Tryz.func78, Tryz.ntmps78
  go_wp2
  go_ret
  exact ⟨rfl, by with_reducible (repeat' first | assumption | exact Below.refl _ _ | refine Below.drew ?_ | refine bdrewN ?_ _ | refine Below.setCell ?_ (by first | exact Nat.le_refl _ | (simp; done) | (simp; omega) | omega) _ | refine Below.alloc ?_ (by first | exact Nat.le_refl _ | (simp; done) | (simp; omega) | omega) _)⟩
theorem sin_v (t n : Int) (s : ByteArray) (b : Bool) (c r0 r1 r2 r3 : Int) (ep : Option Addr) (en ec : Nat) (w : World) (hn : I64 n) (hm : mayB t n s b c = false) : Calls Tryz.prog 78 #[.agg #[.bool false, .int .i64 t, .int .i64 n, .string s, .bool b, .int .i64 c, .int .i64 r0, .int .i64 r1, .int .i64 r2, .int .i64 r3, .slice ep en ec]] w fun e w' => e = .returned (.bool false) ∧ Below w.heap.size w w' := by
  go_enter Tryz.func78, Tryz.ntmps78
  go_wp2_with (go_at_call 106; refine (mayV _ _ _ _ _ _ hn).mono ?_; rintro e w1 ⟨rfl, hb⟩; have hB : Below w.heap.size w w1 := bup (by with_reducible (repeat' first | assumption | exact Below.refl _ _ | refine Below.drew ?_ | refine bdrewN ?_ _ | refine Below.setCell ?_ (by first | exact Nat.le_refl _ | (simp; done) | (simp; omega) | omega) _ | refine Below.alloc ?_ (by first | exact Nat.le_refl _ | (simp; done) | (simp; omega) | omega) _)) hb; have o0 : Own w1 (w.heap.size) #[.bool false, .int .i64 t, .int .i64 n, .string s, .bool b, .int .i64 c, .int .i64 r0, .int .i64 r1, .int .i64 r2, .int .i64 r3, .slice ep en ec] := Own.keep (by with_reducible (repeat' first | assumption | refine Own.drew ?_ | refine Own.drewN ?_ _ | (refine Own.at ?_; first | rfl | (simp; done)) | refine Own.past ?_ _)) hb; have c0 := o0.cell; have f0 := o0.fro; have l0 := o0.lt; rw [hm])
  go_ret
  exact ⟨retBl (by first | rfl | simp), by with_reducible (repeat' first | assumption | exact Below.refl _ _ | refine Below.drew ?_ | refine bdrewN ?_ _ | refine Below.setCell ?_ (by first | exact Nat.le_refl _ | (simp; done) | (simp; omega) | omega) _ | refine Below.alloc ?_ (by first | exact Nat.le_refl _ | (simp; done) | (simp; omega) | omega) _)⟩
theorem sin_r (t n : Int) (s : ByteArray) (b : Bool) (c r0 r1 r2 r3 : Int) (ep : Option Addr) (en ec : Nat) (w : World) (hn : I64 n) (hm : mayB t n s b c = true) (hr : rz r0 r1 r2 r3 = false) : Calls Tryz.prog 78 #[.agg #[.bool false, .int .i64 t, .int .i64 n, .string s, .bool b, .int .i64 c, .int .i64 r0, .int .i64 r1, .int .i64 r2, .int .i64 r3, .slice ep en ec]] w fun e w' => e = .returned (.bool false) ∧ Below w.heap.size w w' := by
  have hne := eqR r0 r1 r2 r3
  rw [hr] at hne
  go_enter Tryz.func78, Tryz.ntmps78
  go_wp2_with (go_at_call 106; refine (mayV _ _ _ _ _ _ hn).mono ?_; rintro e w1 ⟨rfl, hb⟩; have hB : Below w.heap.size w w1 := bup (by with_reducible (repeat' first | assumption | exact Below.refl _ _ | refine Below.drew ?_ | refine bdrewN ?_ _ | refine Below.setCell ?_ (by first | exact Nat.le_refl _ | (simp; done) | (simp; omega) | omega) _ | refine Below.alloc ?_ (by first | exact Nat.le_refl _ | (simp; done) | (simp; omega) | omega) _)) hb; have o0 : Own w1 (w.heap.size) #[.bool false, .int .i64 t, .int .i64 n, .string s, .bool b, .int .i64 c, .int .i64 r0, .int .i64 r1, .int .i64 r2, .int .i64 r3, .slice ep en ec] := Own.keep (by with_reducible (repeat' first | assumption | refine Own.drew ?_ | refine Own.drewN ?_ _ | (refine Own.at ?_; first | rfl | (simp; done)) | refine Own.past ?_ _)) hb; have c0 := o0.cell; have f0 := o0.fro; have l0 := o0.lt; rw [hm])
  go_ret
  exact ⟨retBl (by first | rfl | simp), by with_reducible (repeat' first | assumption | exact Below.refl _ _ | refine Below.drew ?_ | refine bdrewN ?_ _ | refine Below.setCell ?_ (by first | exact Nat.le_refl _ | (simp; done) | (simp; omega) | omega) _ | refine Below.alloc ?_ (by first | exact Nat.le_refl _ | (simp; done) | (simp; omega) | omega) _)⟩
theorem sin_e (t n : Int) (s : ByteArray) (b : Bool) (c r0 r1 r2 r3 : Int) (ep : Option Addr) (en ec : Nat) (w : World) (hn : I64 n) (hm : mayB t n s b c = true) (hr : rz r0 r1 r2 r3 = true) : Calls Tryz.prog 78 #[.agg #[.bool false, .int .i64 t, .int .i64 n, .string s, .bool b, .int .i64 c, .int .i64 r0, .int .i64 r1, .int .i64 r2, .int .i64 r3, .slice ep en ec]] w fun e w' => e = .returned (.bool ((en : Int) == 0)) ∧ Below w.heap.size w w' := by
  have hne := eqR r0 r1 r2 r3
  rw [hr] at hne
  go_enter Tryz.func78, Tryz.ntmps78
  go_wp2_with (go_at_call 106; refine (mayV _ _ _ _ _ _ hn).mono ?_; rintro e w1 ⟨rfl, hb⟩; have hB : Below w.heap.size w w1 := bup (by with_reducible (repeat' first | assumption | exact Below.refl _ _ | refine Below.drew ?_ | refine bdrewN ?_ _ | refine Below.setCell ?_ (by first | exact Nat.le_refl _ | (simp; done) | (simp; omega) | omega) _ | refine Below.alloc ?_ (by first | exact Nat.le_refl _ | (simp; done) | (simp; omega) | omega) _)) hb; have o0 : Own w1 (w.heap.size) #[.bool false, .int .i64 t, .int .i64 n, .string s, .bool b, .int .i64 c, .int .i64 r0, .int .i64 r1, .int .i64 r2, .int .i64 r3, .slice ep en ec] := Own.keep (by with_reducible (repeat' first | assumption | refine Own.drew ?_ | refine Own.drewN ?_ _ | (refine Own.at ?_; first | rfl | (simp; done)) | refine Own.past ?_ _)) hb; have c0 := o0.cell; have f0 := o0.fro; have l0 := o0.lt; rw [hm])
  go_ret
  exact ⟨retBl (by first | rfl | simp), by with_reducible (repeat' first | assumption | exact Below.refl _ _ | refine Below.drew ?_ | refine bdrewN ?_ _ | refine Below.setCell ?_ (by first | exact Nat.le_refl _ | (simp; done) | (simp; omega) | omega) _ | refine Below.alloc ?_ (by first | exact Nat.le_refl _ | (simp; done) | (simp; omega) | omega) _)⟩
theorem sin_any (a : Ag) (w : World) (ha : I64 a.n) : Calls Tryz.prog 78 #[.agg #[.bool a.many, .int .i64 a.t, .int .i64 a.n, .string a.s, .bool a.b, .int .i64 a.c, .int .i64 a.r0, .int .i64 a.r1, .int .i64 a.r2, .int .i64 a.r3, .slice a.ep a.en a.ec]] w fun e w' => e = .returned (.bool (!nosB a)) ∧ Below w.heap.size w w' := by
  obtain ⟨m, t, n, s, b, c, r0, r1, r2, r3, ep, en, ec⟩ := a
  cases m
  · cases hm : mayB t n s b c
    · rw [show nosB ⟨false, t, n, s, b, c, r0, r1, r2, r3, ep, en, ec⟩ = true by simp [nosB, hm]]
      exact sin_v t n s b c r0 r1 r2 r3 ep en ec w ha hm
    · cases hr : rz r0 r1 r2 r3
      · rw [show nosB ⟨false, t, n, s, b, c, r0, r1, r2, r3, ep, en, ec⟩ = true by simp [nosB, hm, hr]]
        exact sin_r t n s b c r0 r1 r2 r3 ep en ec w ha hm hr
      · rw [show (!nosB ⟨false, t, n, s, b, c, r0, r1, r2, r3, ep, en, ec⟩) = ((en : Int) == 0) by
          by_cases h : en = 0
          · subst h; simp [nosB, hm, hr]
          · have h2 : ((en : Int) == 0) = false := by simpa using h
            rw [h2]; simp [nosB, hm, hr]; omega]
        exact sin_e t n s b c r0 r1 r2 r3 ep en ec w ha hm hr
  · rw [show nosB ⟨true, t, n, s, b, c, r0, r1, r2, r3, ep, en, ec⟩ = true by simp [nosB]]
    exact sin_m t n s b c r0 r1 r2 r3 ep en ec w
theorem nos_any (a : Ag) (w : World) (ha : I64 a.n) : Calls Tryz.prog 44 #[.agg #[.bool a.many, .int .i64 a.t, .int .i64 a.n, .string a.s, .bool a.b, .int .i64 a.c, .int .i64 a.r0, .int .i64 a.r1, .int .i64 a.r2, .int .i64 a.r3, .slice a.ep a.en a.ec]] w fun e w' => e = .returned (.bool (nosB a)) ∧ Below w.heap.size w w' := by
  go_enter Tryz.func44, Tryz.ntmps44
  go_wp2_with (go_at_call 78; refine (sin_any a _ ha).mono ?_; rintro e w1 ⟨rfl, hb⟩; have hB : Below w.heap.size w w1 := bup (by with_reducible (repeat' first | assumption | exact Below.refl _ _ | refine Below.drew ?_ | refine bdrewN ?_ _ | refine Below.setCell ?_ (by first | exact Nat.le_refl _ | (simp; done) | (simp; omega) | omega) _ | refine Below.alloc ?_ (by first | exact Nat.le_refl _ | (simp; done) | (simp; omega) | omega) _)) hb)
  go_ret
  exact ⟨retBl (by simp), by with_reducible (repeat' first | assumption | exact Below.refl _ _ | refine Below.drew ?_ | refine bdrewN ?_ _ | refine Below.setCell ?_ (by first | exact Nat.le_refl _ | (simp; done) | (simp; omega) | omega) _ | refine Below.alloc ?_ (by first | exact Nat.le_refl _ | (simp; done) | (simp; omega) | omega) _)⟩
end Go.Proofs.YtdcfnfapdceenaaGreatDoor
