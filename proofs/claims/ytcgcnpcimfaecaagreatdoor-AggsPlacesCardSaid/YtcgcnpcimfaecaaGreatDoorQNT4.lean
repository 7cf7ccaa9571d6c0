/- The contracts of slices.IndexFunc and slices.ContainsFunc at arguments with given.noSingle, of (given.Count).Singles and given.Fault. New memory alone is made. The condition: lists of at most 2^47 arguments, whose numbers fit. The contracts of May (of package addr and of the document's answer): of every cell whether it may be. New memory alone is made. No condition. -/
import Derived.Test.YtcgcnpcimfaecaaGreatDoorQNT2
namespace Go.Proofs.YtcgcnpcimfaecaaGreatDoor
open Go.RowKit
set_option linter.all false
abbrev AV (w : World) (v : Value) (l : List Ag) : Prop := View Ag.cells 11 w v l
def Nums (l : List Ag) : Prop := ∀ a ∈ l, I64 a.n
/-- The first fault. -/
def firstF (l : List Ag) : Option Ag := l.find? (fun a => !a.many && a.t == 4)
def vOf (a : Ag) : Value := .agg #[.int .i64 a.t, .int .i64 a.n, .string a.s, .bool a.b, .int .i64 a.c]
def v0 : Value := .agg #[.int .i64 0, .int .i64 0, .string ⟨#[]⟩, .bool false, .int .i64 0]
def faultOut (r : Option Ag) : Value := match r with
  | some a => .tuple #[vOf a, .bool true]
  | none => .tuple #[v0, .bool false]
theorem first_take {l : List Ag} {i : Nat} {x : Ag} (h : l[i]? = some x) (h1 : firstF (l.take i) = none) (h2 : (!x.many && x.t == 4) = false) : firstF (l.take (i + 1)) = none := by
  unfold firstF at h1 ⊢
  rw [List.take_succ, h, List.find?_append, h1]; simp [h2]
theorem first_at {l : List Ag} {i : Nat} {x : Ag} (h : l[i]? = some x) (h1 : firstF (l.take i) = none) (h2 : (!x.many && x.t == 4) = true) : firstF l = some x := by
  have e : l = l.take i ++ x :: l.drop (i + 1) := by
    obtain ⟨hi, rfl⟩ := List.getElem?_eq_some_iff.1 h
    rw [List.getElem_cons_drop, List.take_append_drop]
  unfold firstF at h1 ⊢
  rw [e, List.find?_append, h1]; simp [h2]
theorem first_all {l : List Ag} {i : Nat} (h : l.length ≤ i) (h1 : firstF (l.take i) = none) : firstF l = none := by
  rwa [List.take_of_length_le h] at h1
set_option maxRecDepth 100000 in
set_option maxHeartbeats 2000000 in
theorem fault_y (w : World) (b o c n : Nat) (l : List Ag) (hla : b < w.heap.size) (HA : ∀ i x, l[i]? = some x → ∀ j, j < 11 → w.cell? ⟨b, o + i * 11 + j, none⟩ = (Ag.cells x)[j]?) (hn : l.length = n) (hc : n ≤ c) (h0 : 0 < n) (hl : n ≤ 9223372036854775807) (hN : Hid (Nums l)) :
    Calls Tryz.prog 28 #[.slice (some ⟨b, o, none⟩) n c] w fun e w' => e = .returned (faultOut (firstF l)) ∧ Below w.heap.size w w' := by
  have mixed : Tryz.prog.follows .mixedOrders = true := by kernel_rfl
  have HA' : Hid _ := HA
  have HL : Hid (l.length = n) := hn
  clear HA hn
  go_enter Tryz.func28, Tryz.ntmps28
  go_wp2
  go_loopw [8] (fun v w' => ∃ i : Nat, v = .int .i64 i ∧ i ≤ n ∧ Hid (firstF (l.take i) = none) ∧ Below w.heap.size w w' ∧ Own w' w.heap.size #[.int .i64 0, .int .i64 0, .string ⟨#[]⟩, .bool false, .int .i64 0]) (fun v _ => n - (intOf v).toNat)
  case atStart => exact ⟨0, rfl, by omega, rfl, by with_reducible (repeat' first | assumption | exact Below.refl _ _ | refine Below.drew ?_ | refine bdrewN ?_ _ | refine Below.setCell ?_ (by first | exact Nat.le_refl _ | (simp; done) | (simp; omega) | omega) _ | refine Below.alloc ?_ (by first | exact Nat.le_refl _ | (simp; done) | (simp; omega) | omega) _), by with_reducible (repeat' first | assumption | refine Own.drew ?_ | refine Own.drewN ?_ _ | (refine Own.at ?_; first | rfl | (simp; done)) | refine Own.past ?_ _)⟩
  case round =>
    obtain ⟨i, rfl, hi, htk, hB3, o0⟩ := hrel
    have c0 := o0.cell
    have f0 := o0.fro
    have l0 := o0.lt
    have z3 := hB3.size
    by_cases hlt : i < n
    · have hlt' : (i : Int) < n := by omega
      have hai : l[i]? = some (l[i]'(by rw [HL.out]; exact hlt)) := List.getElem?_eq_getElem _
      have ca' := fun j hj => (show w.cell? ⟨b, o + i * 11 + j, none⟩ = _ from HA'.out i _ hai j hj)
      have hin : I64 (l[i]'(by rw [HL.out]; exact hlt)).n := hN.out _ (List.getElem_mem _)
      have HAi : Hid _ := hai
      revert ca' HAi hin
      generalize (l[i]'(by rw [HL.out]; exact hlt)) = x
      intro ca' hin HAi
      clear hai
      have y0 : w.cell? ⟨b, o + i * 11, none⟩ = some (.bool x.many) := ca' 0 (by decide)
      have y1 : w.cell? ⟨b, o + i * 11 + 1, none⟩ = some (.int .i64 x.t) := ca' 1 (by decide)
      have y2 : w.cell? ⟨b, o + i * 11 + 2, none⟩ = some (.int .i64 x.n) := ca' 2 (by decide)
      have y3 : w.cell? ⟨b, o + i * 11 + 3, none⟩ = some (.string x.s) := ca' 3 (by decide)
      have y4 : w.cell? ⟨b, o + i * 11 + 4, none⟩ = some (.bool x.b) := ca' 4 (by decide)
      have y5 : w.cell? ⟨b, o + i * 11 + 5, none⟩ = some (.int .i64 x.c) := ca' 5 (by decide)
      have y6 : w.cell? ⟨b, o + i * 11 + 6, none⟩ = some (.int .i64 x.r0) := ca' 6 (by decide)
      have y7 : w.cell? ⟨b, o + i * 11 + 7, none⟩ = some (.int .i64 x.r1) := ca' 7 (by decide)
      have y8 : w.cell? ⟨b, o + i * 11 + 8, none⟩ = some (.int .i64 x.r2) := ca' 8 (by decide)
      have y9 : w.cell? ⟨b, o + i * 11 + 9, none⟩ = some (.int .i64 x.r3) := ca' 9 (by decide)
      have y10 : w.cell? ⟨b, o + i * 11 + 10, none⟩ = some (.slice x.ep x.en x.ec) := ca' 10 (by decide)
      clear ca'
      have x0 := (hB3.cell (p := ⟨b, o + i * 11, none⟩) hla).trans y0
      have x1 := (hB3.cell (p := ⟨b, o + i * 11 + 1, none⟩) hla).trans y1
      have x2 := (hB3.cell (p := ⟨b, o + i * 11 + 2, none⟩) hla).trans y2
      have x3 := (hB3.cell (p := ⟨b, o + i * 11 + 3, none⟩) hla).trans y3
      have x4 := (hB3.cell (p := ⟨b, o + i * 11 + 4, none⟩) hla).trans y4
      have x5 := (hB3.cell (p := ⟨b, o + i * 11 + 5, none⟩) hla).trans y5
      have x6 := (hB3.cell (p := ⟨b, o + i * 11 + 6, none⟩) hla).trans y6
      have x7 := (hB3.cell (p := ⟨b, o + i * 11 + 7, none⟩) hla).trans y7
      have x8 := (hB3.cell (p := ⟨b, o + i * 11 + 8, none⟩) hla).trans y8
      have x9 := (hB3.cell (p := ⟨b, o + i * 11 + 9, none⟩) hla).trans y9
      have x10 := (hB3.cell (p := ⟨b, o + i * 11 + 10, none⟩) hla).trans y10
      clear y0 y1 y2 y3 y4 y5 y6 y7 y8 y9 y10
      cases hm : x.many
      · rw [hm] at x0
        have HM : Hid (x.many = false) := hm
        clear hm
        cases hs : (x.t == 4)
        · have HS : Hid ((!x.many && x.t == 4) = false) := (show _ from by rw [HM.out, hs]; rfl)
          go_wp2
          exact ⟨⟨i + 1, by go_num, by omega, first_take HAi.out htk.out HS.out, by with_reducible (repeat' first | assumption | exact Below.refl _ _ | refine Below.drew ?_ | refine bdrewN ?_ _ | refine Below.setCell ?_ (by first | exact Nat.le_refl _ | (simp; done) | (simp; omega) | omega) _ | refine Below.alloc ?_ (by first | exact Nat.le_refl _ | (simp; done) | (simp; omega) | omega) _), by with_reducible (repeat' first | assumption | refine Own.drew ?_ | refine Own.drewN ?_ _ | (refine Own.at ?_; first | rfl | (simp; done)) | refine Own.past ?_ _)⟩, by simp [intOf]; omega⟩
        · have HS : Hid ((!x.many && x.t == 4) = true) := (show _ from by rw [HM.out, hs]; rfl)
          go_wp2
          exact bodyPost_ret (v := .tuple #[vOf x, .bool true]) (by simp [results, Tryz.results28, go_sem, c0, f0, l0, vOf]) rfl ⟨by rw [first_at HAi.out htk.out HS.out]; rfl, by with_reducible (repeat' first | assumption | exact Below.refl _ _ | refine Below.drew ?_ | refine bdrewN ?_ _ | refine Below.setCell ?_ (by first | exact Nat.le_refl _ | (simp; done) | (simp; omega) | omega) _ | refine Below.alloc ?_ (by first | exact Nat.le_refl _ | (simp; done) | (simp; omega) | omega) _)⟩
      · rw [hm] at x0
        have HS : Hid ((!x.many && x.t == 4) = false) := (show _ from by rw [hm]; rfl)
        clear hm
        go_wp2
        exact ⟨⟨i + 1, by go_num, by omega, first_take HAi.out htk.out HS.out, by with_reducible (repeat' first | assumption | exact Below.refl _ _ | refine Below.drew ?_ | refine bdrewN ?_ _ | refine Below.setCell ?_ (by first | exact Nat.le_refl _ | (simp; done) | (simp; omega) | omega) _ | refine Below.alloc ?_ (by first | exact Nat.le_refl _ | (simp; done) | (simp; omega) | omega) _), by with_reducible (repeat' first | assumption | refine Own.drew ?_ | refine Own.drewN ?_ _ | (refine Own.at ?_; first | rfl | (simp; done)) | refine Own.past ?_ _)⟩, by simp [intOf]; omega⟩
    · have hlt' : ¬ (i : Int) < n := by omega
      go_wp2
      exact bodyPost_ret (v := .tuple #[v0, .bool false]) (by simp [results, Tryz.results28, go_sem, c0, f0, l0, v0]) rfl ⟨by rw [first_all (by rw [HL.out]; omega) htk.out]; rfl, by with_reducible (repeat' first | assumption | exact Below.refl _ _ | refine Below.drew ?_ | refine bdrewN ?_ _ | refine Below.setCell ?_ (by first | exact Nat.le_refl _ | (simp; done) | (simp; omega) | omega) _ | refine Below.alloc ?_ (by first | exact Nat.le_refl _ | (simp; done) | (simp; omega) | omega) _)⟩
theorem fault_0 (w : World) (p : Option Addr) (c : Nat) : Calls Tryz.prog 28 #[.slice p 0 c] w fun e w' => e = .returned (faultOut none) ∧ Below w.heap.size w w' := by
  go_enter Tryz.func28, Tryz.ntmps28
  go_wp2
  go_loopw [8] (fun v w' => v = .int .i64 0 ∧ w' = w.alloc (.cells #[.int .i64 0, .int .i64 0, .string ⟨#[]⟩, .bool false, .int .i64 0] 26)) (fun _ _ => 0)
  case atStart => exact ⟨rfl, rfl⟩
  case round =>
    obtain ⟨rfl, rfl⟩ := hrel
    go_wp2
    exact bodyPost_ret (v := .tuple #[v0, .bool false]) (by simp [results, Tryz.results28, go_sem, v0]) rfl ⟨rfl, by with_reducible (repeat' first | assumption | exact Below.refl _ _ | refine Below.drew ?_ | refine bdrewN ?_ _ | refine Below.setCell ?_ (by first | exact Nat.le_refl _ | (simp; done) | (simp; omega) | omega) _ | refine Below.alloc ?_ (by first | exact Nat.le_refl _ | (simp; done) | (simp; omega) | omega) _)⟩
theorem fault_any (w : World) (v : Value) (l : List Ag) (h : AV w v l) (hl : l.length ≤ 9223372036854775807) (hN : Hid (Nums l)) : Calls Tryz.prog 28 #[v] w fun e w' => e = .returned (faultOut (firstF l)) ∧ Below w.heap.size w w' := by
  obtain ⟨p, c, rfl, hc, hf⟩ := h
  by_cases h0 : 0 < l.length
  · obtain ⟨b, o, rfl, hlt, HA⟩ := hf h0
    exact fault_y w b o c l.length l hlt HA rfl hc h0 hl hN
  · have e : l = [] := List.eq_nil_of_length_eq_zero (by omega)
    subst e
    exact fault_0 w p c
end Go.Proofs.YtcgcnpcimfaecaaGreatDoor
namespace Go.Proofs.YtcgcnpcimfaecaaGreatDoor.Ad
open Go.RowKit
set_option linter.all false
theorem bdrewN {B : Nat} {a w : World} (h : Below B a w) (n : Nat) : Below B a (w.drewN n) := ⟨h.os, h.tape, h.output, h.size, h.block⟩
/-- A cell that may be. -/
def mayC (r c : Int) : Bool := decide (1 ≤ r ∧ r ≤ 4096 ∧ 1 ≤ c ∧ c ≤ 256)
theorem mayC_t {r c : Int} (h : 1 ≤ r ∧ r ≤ 4096 ∧ 1 ≤ c ∧ c ≤ 256) : mayC r c = true := by simpa [mayC] using h
theorem mayC_f {r c : Int} (h : ¬ (1 ≤ r ∧ r ≤ 4096 ∧ 1 ≤ c ∧ c ≤ 256)) : mayC r c = false := by simpa [mayC] using h
theorem mayC_is {r c : Int} (h : mayC r c = true) : 1 ≤ r ∧ r ≤ 4096 ∧ 1 ≤ c ∧ c ≤ 256 := by simpa [mayC] using h
theorem may_any (r c : Int) (w : World) : Calls Tryz.prog 98 #[.agg #[.int .i64 r, .int .i64 c]] w fun e w' => e = .returned (.bool (mayC r c)) ∧ Below w.heap.size w w' := by
  go_enter Tryz.func98, Tryz.ntmps98
  go_wp2
  all_goals go_ret
  all_goals refine ⟨retB ?_, bal _ _⟩
  all_goals first | (rw [mayC_t (by omega)]; done) | (rw [mayC_f (by omega)]; done) | (rw [Bool.eq_iff_iff]; simp only [mayC, decide_eq_true_eq]; omega)
/-- From low to high. -/
def witB (n a b : Int) : Bool := decide (a ≤ n ∧ n ≤ b)
theorem within_any (n a b : Int) (w : World) : Calls Tryz.prog 76 #[.int .i64 n, .int .i64 a, .int .i64 b] w fun e w' => e = .returned (.bool (witB n a b)) ∧ w' = w := by
  go_enter Tryz.func76, Tryz.ntmps76
  go_wp2
  all_goals go_ret
  all_goals refine ⟨retB ?_, rfl⟩
  all_goals (unfold witB; simp; try omega)
theorem witB_t {n a b : Int} (h : a ≤ n ∧ n ≤ b) : witB n a b = true := by simpa [witB] using h
theorem witB_f {n a b : Int} (h : ¬ (a ≤ n ∧ n ≤ b)) : witB n a b = false := by simpa [witB] using h
theorem witB_may (r c : Int) : mayC r c = (witB r 1 4096 && witB c 1 256) := by
  by_cases h : 1 ≤ r ∧ r ≤ 4096 ∧ 1 ≤ c ∧ c ≤ 256
  · rw [mayC_t h, witB_t (by omega), witB_t (by omega)]; rfl
  · rw [mayC_f h]
    by_cases k : 1 ≤ r ∧ r ≤ 4096
    · rw [witB_f (n := c) (by omega)]; simp
    · rw [witB_f (n := r) (by omega)]; simp
theorem rmay_any (r c : Int) (w : World) : Calls Tryz.prog 75 #[.agg #[.int .i64 r, .int .i64 c]] w fun e w' => e = .returned (.bool (mayC r c)) ∧ Below w.heap.size w w' := by
  rw [witB_may]
  go_enter Tryz.func75, Tryz.ntmps75
  cases h1 : witB r 1 4096
  all_goals go_wp2_with (go_at_call 76; refine (within_any _ _ _ _).mono ?_; rintro e w5 ⟨rfl, rfl⟩)
  all_goals go_ret
  all_goals refine ⟨retB ?_, bal _ _⟩
  all_goals simp
end Go.Proofs.YtcgcnpcimfaecaaGreatDoor.Ad
