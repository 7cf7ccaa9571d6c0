/- The contracts of OfTwo and of parse's operation: the operation of two whose sign a text or -/
import Derived.Test.YtcmjhjnpcogmgaaGreatDoorUAuto
import Derived.Test.YtcmjhjnpcogmgaaGreatDoorURfN0PN
import Derived.Test.YtcmjhjnpcogmgaaGreatDoorURfN8RfN9
set_option linter.all false
set_option maxRecDepth 100000
set_option maxHeartbeats 4000000
namespace Go.Proofs.YtcmjhjnpcogmgaaGreatDoor
open Go.Shelf Go.RowKit
def signsL : List (List UInt8) := [[42], [47], [43], [45], [38], [61], [60, 62], [60], [60, 61], [62], [62, 61]]
theorem gSgn : Tryz.prog.globalNamed "oriel/ops.signs" = some 0 := by kernel_rfl
abbrev Sgn (w : World) : Prop := w.var? Tryz.prog "oriel/ops.signs" = some (signsL.map fun z => Value.string ⟨z.toArray⟩).toArray
theorem Sgn.cell {w : World} (h : Sgn w) (i : Nat) : w.cell? ⟨0, i, none⟩ = (signsL.map fun z => Value.string ⟨z.toArray⟩)[i]? := by
 have := World.var?_cell gSgn h i
 simpa using this
theorem Sgn.lt {w : World} (h : Sgn w) : 0 < w.heap.size := by
 have h0 := h.cell 0
 obtain ⟨o, ho, _⟩ := cells_of_cell (v := Value.string ⟨(signsL[0]).toArray⟩) (h0.trans rfl)
 exact (Array.getElem?_eq_some_iff.1 ho).1
theorem Sgn.of {W w : World} (h : Sgn w) (e : W.heap[0]? = w.heap[0]?) : Sgn W := by
 have h' : w.var? Tryz.prog "oriel/ops.signs" = _ := h
 show W.var? Tryz.prog "oriel/ops.signs" = _
 unfold World.var? at h' ⊢
 simp only [gSgn, Option.bind_some] at h' ⊢
 rw [e]; exact h'
def twoI (s : ByteArray) : Option Nat := signsL.findIdx? (fun z => z == s.toList)
def twoV (s : ByteArray) : Value := match twoI s with
 | some i => .tuple #[.int .i64 (3 + (i : Int)), .bool true]
 | none => .tuple #[.int .i64 0, .bool false]
theorem two_no {s : ByteArray} (h : ∀ j z, j < 11 → signsL[j]? = some z → (z == s.toList) = false) : twoV s = .tuple #[.int .i64 0, .bool false] := by
 have e : twoI s = none := by
  unfold twoI
  rw [List.findIdx?_eq_none_iff]
  intro z hz
  obtain ⟨j, hj, rfl⟩ := List.mem_iff_getElem.1 hz
  exact h j _ hj (List.getElem?_eq_getElem hj)
 unfold twoV; rw [e]
theorem two_yes {s : ByteArray} {k : Nat} {z : List UInt8} (h : ∀ j z, j < k → signsL[j]? = some z → (z == s.toList) = false) (hz : signsL[k]? = some z) (hs : (z == s.toList) = true) : twoV s = .tuple #[.int .i64 (3 + (k : Int)), .bool true] := by
 have e : twoI s = some k := by
  unfold twoI
  have hk := (List.getElem?_eq_some_iff.1 hz).1
  have ez := (List.getElem?_eq_some_iff.1 hz).2
  rw [List.findIdx?_eq_some_iff_getElem]
  refine ⟨hk, by rw [ez]; exact hs, fun j hj => ?_⟩
  have := h j _ hj (List.getElem?_eq_getElem zq17)
  simpa using this
 unfold twoV; rw [e]
theorem sgs_more {s : ByteArray} {k : Nat} {z : List UInt8} (h : ∀ j z, j < k → signsL[j]? = some z → (z == s.toList) = false) (hz : signsL[k]? = some z) (hs : (z == s.toList) = false) : ∀ j z, j < k + 1 → signsL[j]? = some z → (z == s.toList) = false := fun j z' hj hz' => by
 by_cases e : j = k
 ·subst e; rw [hz] at hz'; cases hz'; exact hs
 ·exact h j z' zq17 hz'
theorem ofTwo_any (s : ByteArray) (w : World) (hS : Sgn w) : Calls Tryz.prog 139 #[.string s] w fun e w' => e = .returned (twoV s) ∧ Below w.heap.size w w' := by
 have g0 : w.cell? ⟨0, 0, none⟩ = some (.string ⟨#[42]⟩) := hS.cell 0
 have g1 : w.cell? ⟨0, 1, none⟩ = some (.string ⟨#[47]⟩) := hS.cell 1
 have g2 : w.cell? ⟨0, 2, none⟩ = some (.string ⟨#[43]⟩) := hS.cell 2
 have g3 : w.cell? ⟨0, 3, none⟩ = some (.string ⟨#[45]⟩) := hS.cell 3
 have g4 : w.cell? ⟨0, 4, none⟩ = some (.string ⟨#[38]⟩) := hS.cell 4
 have g5 : w.cell? ⟨0, 5, none⟩ = some (.string ⟨#[61]⟩) := hS.cell 5
 have g6 : w.cell? ⟨0, 6, none⟩ = some (.string ⟨#[60, 62]⟩) := hS.cell 6
 have g7 : w.cell? ⟨0, 7, none⟩ = some (.string ⟨#[60]⟩) := hS.cell 7
 have g8 : w.cell? ⟨0, 8, none⟩ = some (.string ⟨#[60, 61]⟩) := hS.cell 8
 have g9 : w.cell? ⟨0, 9, none⟩ = some (.string ⟨#[62]⟩) := hS.cell 9
 have g10 : w.cell? ⟨0, 10, none⟩ = some (.string ⟨#[62, 61]⟩) := hS.cell 10
 have lg := hS.lt
 clear hS
 have ix0 : ∀ w, (Instr.index 190 (.agg #[.string ⟨#[42]⟩, .string ⟨#[47]⟩, .string ⟨#[43]⟩, .string ⟨#[45]⟩, .string ⟨#[38]⟩, .string ⟨#[61]⟩, .string ⟨#[60, 62]⟩, .string ⟨#[60]⟩, .string ⟨#[60, 61]⟩, .string ⟨#[62]⟩, .string ⟨#[62, 61]⟩]) (.int .i64 0)).run Tryz.prog w = .ok (.string ⟨#[42]⟩) w := fun _ => by kernel_rfl
 have ix1 : ∀ w, (Instr.index 190 (.agg #[.string ⟨#[42]⟩, .string ⟨#[47]⟩, .string ⟨#[43]⟩, .string ⟨#[45]⟩, .string ⟨#[38]⟩, .string ⟨#[61]⟩, .string ⟨#[60, 62]⟩, .string ⟨#[60]⟩, .string ⟨#[60, 61]⟩, .string ⟨#[62]⟩, .string ⟨#[62, 61]⟩]) (.int .i64 1)).run Tryz.prog w = .ok (.string ⟨#[47]⟩) w := fun _ => by kernel_rfl
 have ix2 : ∀ w, (Instr.index 190 (.agg #[.string ⟨#[42]⟩, .string ⟨#[47]⟩, .string ⟨#[43]⟩, .string ⟨#[45]⟩, .string ⟨#[38]⟩, .string ⟨#[61]⟩, .string ⟨#[60, 62]⟩, .string ⟨#[60]⟩, .string ⟨#[60, 61]⟩, .string ⟨#[62]⟩, .string ⟨#[62, 61]⟩]) (.int .i64 2)).run Tryz.prog w = .ok (.string ⟨#[43]⟩) w := fun _ => by kernel_rfl
 have ix3 : ∀ w, (Instr.index 190 (.agg #[.string ⟨#[42]⟩, .string ⟨#[47]⟩, .string ⟨#[43]⟩, .string ⟨#[45]⟩, .string ⟨#[38]⟩, .string ⟨#[61]⟩, .string ⟨#[60, 62]⟩, .string ⟨#[60]⟩, .string ⟨#[60, 61]⟩, .string ⟨#[62]⟩, .string ⟨#[62, 61]⟩]) (.int .i64 3)).run Tryz.prog w = .ok (.string ⟨#[45]⟩) w := fun _ => by kernel_rfl
 have ix4 : ∀ w, (Instr.index 190 (.agg #[.string ⟨#[42]⟩, .string ⟨#[47]⟩, .string ⟨#[43]⟩, .string ⟨#[45]⟩, .string ⟨#[38]⟩, .string ⟨#[61]⟩, .string ⟨#[60, 62]⟩, .string ⟨#[60]⟩, .string ⟨#[60, 61]⟩, .string ⟨#[62]⟩, .string ⟨#[62, 61]⟩]) (.int .i64 4)).run Tryz.prog w = .ok (.string ⟨#[38]⟩) w := fun _ => by kernel_rfl
 have ix5 : ∀ w, (Instr.index 190 (.agg #[.string ⟨#[42]⟩, .string ⟨#[47]⟩, .string ⟨#[43]⟩, .string ⟨#[45]⟩, .string ⟨#[38]⟩, .string ⟨#[61]⟩, .string ⟨#[60, 62]⟩, .string ⟨#[60]⟩, .string ⟨#[60, 61]⟩, .string ⟨#[62]⟩, .string ⟨#[62, 61]⟩]) (.int .i64 5)).run Tryz.prog w = .ok (.string ⟨#[61]⟩) w := fun _ => by kernel_rfl
 have ix6 : ∀ w, (Instr.index 190 (.agg #[.string ⟨#[42]⟩, .string ⟨#[47]⟩, .string ⟨#[43]⟩, .string ⟨#[45]⟩, .string ⟨#[38]⟩, .string ⟨#[61]⟩, .string ⟨#[60, 62]⟩, .string ⟨#[60]⟩, .string ⟨#[60, 61]⟩, .string ⟨#[62]⟩, .string ⟨#[62, 61]⟩]) (.int .i64 6)).run Tryz.prog w = .ok (.string ⟨#[60, 62]⟩) w := fun _ => by kernel_rfl
 have ix7 : ∀ w, (Instr.index 190 (.agg #[.string ⟨#[42]⟩, .string ⟨#[47]⟩, .string ⟨#[43]⟩, .string ⟨#[45]⟩, .string ⟨#[38]⟩, .string ⟨#[61]⟩, .string ⟨#[60, 62]⟩, .string ⟨#[60]⟩, .string ⟨#[60, 61]⟩, .string ⟨#[62]⟩, .string ⟨#[62, 61]⟩]) (.int .i64 7)).run Tryz.prog w = .ok (.string ⟨#[60]⟩) w := fun _ => by kernel_rfl
 have ix8 : ∀ w, (Instr.index 190 (.agg #[.string ⟨#[42]⟩, .string ⟨#[47]⟩, .string ⟨#[43]⟩, .string ⟨#[45]⟩, .string ⟨#[38]⟩, .string ⟨#[61]⟩, .string ⟨#[60, 62]⟩, .string ⟨#[60]⟩, .string ⟨#[60, 61]⟩, .string ⟨#[62]⟩, .string ⟨#[62, 61]⟩]) (.int .i64 8)).run Tryz.prog w = .ok (.string ⟨#[60, 61]⟩) w := fun _ => by kernel_rfl
 have ix9 : ∀ w, (Instr.index 190 (.agg #[.string ⟨#[42]⟩, .string ⟨#[47]⟩, .string ⟨#[43]⟩, .string ⟨#[45]⟩, .string ⟨#[38]⟩, .string ⟨#[61]⟩, .string ⟨#[60, 62]⟩, .string ⟨#[60]⟩, .string ⟨#[60, 61]⟩, .string ⟨#[62]⟩, .string ⟨#[62, 61]⟩]) (.int .i64 9)).run Tryz.prog w = .ok (.string ⟨#[62]⟩) w := fun _ => by kernel_rfl
 have ix10 : ∀ w, (Instr.index 190 (.agg #[.string ⟨#[42]⟩, .string ⟨#[47]⟩, .string ⟨#[43]⟩, .string ⟨#[45]⟩, .string ⟨#[38]⟩, .string ⟨#[61]⟩, .string ⟨#[60, 62]⟩, .string ⟨#[60]⟩, .string ⟨#[60, 61]⟩, .string ⟨#[62]⟩, .string ⟨#[62, 61]⟩]) (.int .i64 10)).run Tryz.prog w = .ok (.string ⟨#[62, 61]⟩) w := fun _ => by kernel_rfl
 go_enter Tryz.func139, Tryz.ntmps139
 go_wp2
 go_loop [7] (fun v => ∃ k : Nat, v = .int .i64 k ∧ k ≤ 11 ∧ Hid (∀ j z, j < k → signsL[j]? = some z → (z == s.toList) = false)) (fun v => 11 - (intOf v).toNat)
 case atStart => exact ⟨0, rfl, zq17, fun j z hj => by omega⟩
 case round =>
  obtain ⟨k, rfl, hk, HK⟩ := hrel
  clear g0 g1 g2 g3 g4 g5 g6 g7 g8 g9 g10
  by_cases hlt : k < 11
  ·have hc : k = 0 ∨ k = 1 ∨ k = 2 ∨ k = 3 ∨ k = 4 ∨ k = 5 ∨ k = 6 ∨ k = 7 ∨ k = 8 ∨ k = 9 ∨ k = 10 := by omega
   rcases hc with rfl | rfl | rfl | rfl | rfl | rfl | rfl | rfl | rfl | rfl | rfl
   ·cases hs : (([42] : List UInt8) == s.toList)
    ·have HK2 : Hid _ := sgs_more HK.out (z := [42]) rfl hs
     go_wp2
     exact ⟨⟨1, by go_num, zq17, HK2⟩, by simp [intOf]⟩
    ·have HV : Hid (twoV s = .tuple #[.int .i64 3, .bool true]) := two_yes HK.out (z := [42]) rfl hs
     go_wp2
     exact bodyPost_ret (v := .tuple #[.int .i64 3, .bool true]) (by simp [results, Tryz.results139, go_sem, *]) rfl ⟨by rw [HV.out], Below.refl _ _⟩
   ·cases hs : (([47] : List UInt8) == s.toList)
    ·have HK2 : Hid _ := sgs_more HK.out (z := [47]) rfl hs
     go_wp2
     exact ⟨⟨2, by go_num, zq17, HK2⟩, by simp [intOf]⟩
    ·have HV : Hid (twoV s = .tuple #[.int .i64 4, .bool true]) := two_yes HK.out (z := [47]) rfl hs
     go_wp2
     exact bodyPost_ret (v := .tuple #[.int .i64 4, .bool true]) (by simp [results, Tryz.results139, go_sem, *]) rfl ⟨by rw [HV.out], Below.refl _ _⟩
   ·cases hs : (([43] : List UInt8) == s.toList)
    ·have HK2 : Hid _ := sgs_more HK.out (z := [43]) rfl hs
     go_wp2
     exact ⟨⟨3, by go_num, zq17, HK2⟩, by simp [intOf]⟩
    ·have HV : Hid (twoV s = .tuple #[.int .i64 5, .bool true]) := two_yes HK.out (z := [43]) rfl hs
     go_wp2
     exact bodyPost_ret (v := .tuple #[.int .i64 5, .bool true]) (by simp [results, Tryz.results139, go_sem, *]) rfl ⟨by rw [HV.out], Below.refl _ _⟩
   ·cases hs : (([45] : List UInt8) == s.toList)
    ·have HK2 : Hid _ := sgs_more HK.out (z := [45]) rfl hs
     go_wp2
     exact ⟨⟨4, by go_num, zq17, HK2⟩, by simp [intOf]⟩
    ·have HV : Hid (twoV s = .tuple #[.int .i64 6, .bool true]) := two_yes HK.out (z := [45]) rfl hs
     go_wp2
     exact bodyPost_ret (v := .tuple #[.int .i64 6, .bool true]) (by simp [results, Tryz.results139, go_sem, *]) rfl ⟨by rw [HV.out], Below.refl _ _⟩
   ·cases hs : (([38] : List UInt8) == s.toList)
    ·have HK2 : Hid _ := sgs_more HK.out (z := [38]) rfl hs
     go_wp2
     exact ⟨⟨5, by go_num, zq17, HK2⟩, by simp [intOf]⟩
    ·have HV : Hid (twoV s = .tuple #[.int .i64 7, .bool true]) := two_yes HK.out (z := [38]) rfl hs
     go_wp2
     exact bodyPost_ret (v := .tuple #[.int .i64 7, .bool true]) (by simp [results, Tryz.results139, go_sem, *]) rfl ⟨by rw [HV.out], Below.refl _ _⟩
   ·cases hs : (([61] : List UInt8) == s.toList)
    ·have HK2 : Hid _ := sgs_more HK.out (z := [61]) rfl hs
     go_wp2
     exact ⟨⟨6, by go_num, zq17, HK2⟩, by simp [intOf]⟩
    ·have HV : Hid (twoV s = .tuple #[.int .i64 8, .bool true]) := two_yes HK.out (z := [61]) rfl hs
     go_wp2
     exact bodyPost_ret (v := .tuple #[.int .i64 8, .bool true]) (by simp [results, Tryz.results139, go_sem, *]) rfl ⟨by rw [HV.out], Below.refl _ _⟩
   ·cases hs : (([60, 62] : List UInt8) == s.toList)
    ·have HK2 : Hid _ := sgs_more HK.out (z := [60, 62]) rfl hs
     go_wp2
     exact ⟨⟨7, by go_num, zq17, HK2⟩, by simp [intOf]⟩
    ·have HV : Hid (twoV s = .tuple #[.int .i64 9, .bool true]) := two_yes HK.out (z := [60, 62]) rfl hs
     go_wp2
     exact bodyPost_ret (v := .tuple #[.int .i64 9, .bool true]) (by simp [results, Tryz.results139, go_sem, *]) rfl ⟨by rw [HV.out], Below.refl _ _⟩
   ·cases hs : (([60] : List UInt8) == s.toList)
    ·have HK2 : Hid _ := sgs_more HK.out (z := [60]) rfl hs
     go_wp2
     exact ⟨⟨8, by go_num, zq17, HK2⟩, by simp [intOf]⟩
    ·have HV : Hid (twoV s = .tuple #[.int .i64 10, .bool true]) := two_yes HK.out (z := [60]) rfl hs
     go_wp2
     exact bodyPost_ret (v := .tuple #[.int .i64 10, .bool true]) (by simp [results, Tryz.results139, go_sem, *]) rfl ⟨by rw [HV.out], Below.refl _ _⟩
   ·cases hs : (([60, 61] : List UInt8) == s.toList)
    ·have HK2 : Hid _ := sgs_more HK.out (z := [60, 61]) rfl hs
     go_wp2
     exact ⟨⟨9, by go_num, zq17, HK2⟩, by simp [intOf]⟩
    ·have HV : Hid (twoV s = .tuple #[.int .i64 11, .bool true]) := two_yes HK.out (z := [60, 61]) rfl hs
     go_wp2
     exact bodyPost_ret (v := .tuple #[.int .i64 11, .bool true]) (by simp [results, Tryz.results139, go_sem, *]) rfl ⟨by rw [HV.out], Below.refl _ _⟩
   ·cases hs : (([62] : List UInt8) == s.toList)
    ·have HK2 : Hid _ := sgs_more HK.out (z := [62]) rfl hs
     go_wp2
     exact ⟨⟨10, by go_num, zq17, HK2⟩, by simp [intOf]⟩
    ·have HV : Hid (twoV s = .tuple #[.int .i64 12, .bool true]) := two_yes HK.out (z := [62]) rfl hs
     go_wp2
     exact bodyPost_ret (v := .tuple #[.int .i64 12, .bool true]) (by simp [results, Tryz.results139, go_sem, *]) rfl ⟨by rw [HV.out], Below.refl _ _⟩
   ·cases hs : (([62, 61] : List UInt8) == s.toList)
    ·have HK2 : Hid _ := sgs_more HK.out (z := [62, 61]) rfl hs
     go_wp2
     exact ⟨⟨11, by go_num, zq17, HK2⟩, by simp [intOf]⟩
    ·have HV : Hid (twoV s = .tuple #[.int .i64 13, .bool true]) := two_yes HK.out (z := [62, 61]) rfl hs
     go_wp2
     exact bodyPost_ret (v := .tuple #[.int .i64 13, .bool true]) (by simp [results, Tryz.results139, go_sem, *]) rfl ⟨by rw [HV.out], Below.refl _ _⟩
  ·have e11 : k = 11 := by omega
   subst e11
   have HV : Hid (twoV s = .tuple #[.int .i64 0, .bool false]) := two_no HK.out
   go_wp2
   exact bodyPost_ret (v := .tuple #[.int .i64 0, .bool false]) (by simp [results, Tryz.results139, go_sem, *]) rfl ⟨by rw [HV.out], Below.refl _ _⟩
end Go.Proofs.YtcmjhjnpcogmgaaGreatDoor
namespace Go.Proofs.YtcmjhjnpcogmgaaGreatDoor
open Go.Shelf Go.RowKit
def oprI (t : Tk) : Option Nat := if t.kind = 7 then twoI t.str else none
def oprV (t : Tk) : Value := match oprI t with
 | some i => .tuple #[.int .i64 (3 + (i : Int)), .bool true]
 | none => .tuple #[.int .i64 0, .bool false]
theorem operation_n (kind at_ num : Int) (str : ByteArray) (c0 c1 r0 r1 r2 r3 code : Int) (w : World) (h : (kind == 7) = false) : Calls Tryz.prog 96 #[.agg #[.int .i64 kind, .int .i64 at_, .int .i64 num, .string str, .int .i64 c0, .int .i64 c1, .int .i64 r0, .int .i64 r1, .int .i64 r2, .int .i64 r3, .int .i64 code]] w fun e w' => e = .returned (.tuple #[.int .i64 0, .bool false]) ∧ Below w.heap.size w w' := by
 go_enter Tryz.func96, Tryz.ntmps96
 go_wp2
 all_goals exact bodyPost_ret (v := .tuple #[.int .i64 0, .bool false]) (by simp [results, Tryz.results96, go_sem, *]) rfl ⟨rfl, zq1⟩
theorem operation_y (kind at_ num : Int) (str : ByteArray) (c0 c1 r0 r1 r2 r3 code : Int) (x : Int) (y : Bool) (w : World) (hS : Sgn w) (hT : twoV str = .tuple #[.int .i64 x, .bool y]) : Calls Tryz.prog 96 #[.agg #[.int .i64 7, .int .i64 at_, .int .i64 num, .string str, .int .i64 c0, .int .i64 c1, .int .i64 r0, .int .i64 r1, .int .i64 r2, .int .i64 r3, .int .i64 code]] w fun e w' => e = .returned (.tuple #[.int .i64 x, .bool y]) ∧ Below w.heap.size w w' := by
 have HO : Hid (∀ w1, Below w.heap.size w w1 → Calls Tryz.prog 139 #[.string str] w1 fun e w' => e = .returned (twoV str) ∧ Below w1.heap.size w1 w') := fun w1 hb => ofTwo_any str w1 (hS.of (hb.block _ hS.lt))
 have HT : Hid _ := hT
 clear hT
 go_enter Tryz.func96, Tryz.ntmps96
 go_wp2_with (go_at_call 139; refine (HO.out _ zq1).mono ?_; rw [HT.out]; rintro e w1 ⟨rfl, hb⟩; have hB := bux w zq1 hb)
 all_goals exact bodyPost_ret (v := .tuple #[.int .i64 x, .bool y]) (by simp [results, Tryz.results96, go_sem, *]) rfl ⟨rfl, zq1⟩
theorem operation_any (t : Tk) (w : World) (hS : Sgn w) : Calls Tryz.prog 96 #[.agg #[.int .i64 t.kind, .int .i64 t.at', .int .i64 t.num, .string t.str, .int .i64 t.c0, .int .i64 t.c1, .int .i64 t.r0, .int .i64 t.r1, .int .i64 t.r2, .int .i64 t.r3, .int .i64 t.code]] w fun e w' => e = .returned (oprV t) ∧ Below w.heap.size w w' := by
 obtain ⟨kind, at_, num, str, c0, c1, r0, r1, r2, r3, code⟩ := t
 by_cases h : kind = 7
 ·subst h
  cases ht : twoI str with
  | none =>
   have e : oprV ⟨7, at_, num, str, c0, c1, r0, r1, r2, r3, code⟩ = .tuple #[.int .i64 0, .bool false] := by unfold oprV oprI; rw [if_pos rfl, ht]
   rw [e]; exact operation_y 7 at_ num str c0 c1 r0 r1 r2 r3 code 0 false w hS (by unfold twoV; rw [ht])
  | some i =>
   have e : oprV ⟨7, at_, num, str, c0, c1, r0, r1, r2, r3, code⟩ = .tuple #[.int .i64 (3 + (i : Int)), .bool true] := by unfold oprV oprI; rw [if_pos rfl, ht]
   rw [e]; exact operation_y 7 at_ num str c0 c1 r0 r1 r2 r3 code (3 + (i : Int)) true w hS (by unfold twoV; rw [ht])
 ·have e : oprV ⟨kind, at_, num, str, c0, c1, r0, r1, r2, r3, code⟩ = .tuple #[.int .i64 0, .bool false] := by unfold oprV oprI; rw [if_neg h]
  rw [e]; exact operation_n kind at_ num str c0 c1 r0 r1 r2 r3 code w (by simpa using h)
theorem told_any (code at' : Int) (w : World) : Calls Tryz.prog 19 #[refV code at'] w fun e w' => e = .returned (.tuple #[.int .i64 code, .int .i64 at']) ∧ Below w.heap.size w w' := by
 have mixed : Tryz.prog.follows .mixedOrders = true := by kernel_rfl
 unfold refV
 have hta : ∀ w, (Instr.typeAssert (.iface 82 (.agg #[.int .i64 code, .int .i64 at'])) 20 82 true).run Tryz.prog w = .ok (.tuple #[.agg #[.int .i64 code, .int .i64 at'], .bool true]) w := fun _ => by kernel_rfl
 go_enter Tryz.func19, Tryz.ntmps19
 go_wp2
 go_quiet (fail)
 go_wp2
 all_goals exact bodyPost_ret (v := .tuple #[.int .i64 code, .int .i64 at']) (by simp [results, Tryz.results19, go_sem, *]) rfl ⟨rfl, zq1⟩
def cnd (s : ByteArray) : Rf.Nd := ⟨5, 0, 0, ⟨#[]⟩, false, 0, 0, 0, 0, 0, 0, 0, 0, s, 0⟩
def mayNm (s : ByteArray) : Bool := Rf.chkI [cnd s] == 0
theorem one_view (w : World) (b : Nat) (s : ByteArray) (h : Own w b #[.int .i64 5, .int .i64 0, .int .i64 0, .string ⟨#[]⟩, .bool false, .int .i64 0, .int .i64 0, .int .i64 0, .int .i64 0, .int .i64 0, .int .i64 0, .int .i64 0, .int .i64 0, .string s, .int .i64 0]) : Rf.NV w (.slice (some ⟨b, 0, none⟩) 1 1) [cnd s] := by
 refine ⟨_, _, rfl, Nat.le_refl _, fun _ => ⟨b, 0, rfl, h.lt, fun i x hi j hj => ?_⟩⟩
 have hi0 : i = 0 := by have := (List.getElem?_eq_some_iff.1 hi).1; simp at this; omega
 subst hi0
 simp at hi; subst hi
 rw [show 0 + 0 * 15 + j = j from by omega, h.cell]; rfl
theorem mayName_any (s : ByteArray) (w : World) : Calls Tryz.prog 138 #[.string s] w fun e w' => e = .returned (.bool (mayNm s)) ∧ Below w.heap.size w w' := by
 unfold mayNm
 have HCK : Hid (∀ w1 b, Own w1 b #[.int .i64 5, .int .i64 0, .int .i64 0, .string ⟨#[]⟩, .bool false, .int .i64 0, .int .i64 0, .int .i64 0, .int .i64 0, .int .i64 0, .int .i64 0, .int .i64 0, .int .i64 0, .string s, .int .i64 0] → Calls Tryz.prog 13 #[.agg #[.slice (some ⟨b, 0, none⟩) 1 1]] w1 fun e w' => e = .returned (.int .i64 (Rf.chkI [cnd s])) ∧ Below w1.heap.size w1 w') := fun w1 b h => Rf.check_any w1 _ [cnd s] (one_view w1 b s h) (by intro x hx; simp at hx; subst hx; show Vv.I64 0; unfold Vv.I64; omega)
 go_enter Tryz.func138, Tryz.ntmps138
 go_wp2_with (first | (go_at_call 134; refine (callNode_any s 0 _).mono ?_; rintro e w1 ⟨rfl, hb⟩; have hB := bux w zq1 hb; have zB := hB.size) | (go_at_call 13; refine (HCK.out _ w1.heap.size zq4).mono ?_; rintro e w2 ⟨rfl, hb2⟩; have hB2 := bux w zq1 hb2))
 go_ret
 exact ⟨rfl, hB2⟩
end Go.Proofs.YtcmjhjnpcogmgaaGreatDoor
