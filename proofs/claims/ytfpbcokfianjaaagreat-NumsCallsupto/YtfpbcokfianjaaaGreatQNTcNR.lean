/- The ways of nums.Call: a name that is none, arguments that are not taken, a fault, what can't be taken for a number, and the answer. New memory alone is made. · Rows of structs that a call owns, as lists: small laws of no function. -/
import Derived.Test.YtfpbcokfianjaaaGreatQNTaNT9
import Derived.Test.YtfpbcokfianjaaaGreatQWholeNT6
import Derived.Test.YtfpbcokfianjaaaGreatQNT4V3
import Derived.Deep.AppendLies
import Derived.OwnWalk
namespace Go.Proofs.YtfpbcokfianjaaaGreat
open Go.RowKit
set_option linter.all false
theorem asn_ok (w : World) (v : Value) (l : List Ag) (h : AV w v l) (hN : Hid (Nums l)) (h0 : 0 < l.length) (h16 : l.length ≤ 16) (hF : firstC l = 0) : Calls Tryz.prog 11 #[v] w fun e w' => (e = .returned (.tuple #[.slice (some ⟨w.heap.size, 0, none⟩) l.length l.length, .int .i64 0]) ∧ NB w' w.heap.size (l.map asN)) ∧ Below w.heap.size w w' := by
  obtain ⟨p, c, rfl, hc, hf⟩ := h
  obtain ⟨b, o, rfl, hlt, HA⟩ := hf h0
  refine (asn_y w b o c l.length l hlt HA rfl hc h0 (by omega) hN h16).mono ?_
  rintro e w' ⟨⟨_, rfl, ho⟩ | ⟨hn, _⟩, hb⟩
  · exact ⟨⟨rfl, ⟨ho.lt, ho⟩⟩, hb⟩
  · exact absurd hF hn
theorem asn_no (w : World) (v : Value) (l : List Ag) (h : AV w v l) (hN : Hid (Nums l)) (h0 : 0 < l.length) (h16 : l.length ≤ 16) (hF : ¬ firstC l = 0) : Calls Tryz.prog 11 #[v] w fun e w' => e = .returned (.tuple #[.slice none 0 0, .int .i64 (firstC l)]) ∧ Below w.heap.size w w' := by
  obtain ⟨p, c, rfl, hc, hf⟩ := h
  obtain ⟨b, o, rfl, hlt, HA⟩ := hf h0
  refine (asn_y w b o c l.length l hlt HA rfl hc h0 (by omega) hN h16).mono ?_
  rintro e w' ⟨⟨hn, _, _⟩ | ⟨_, rfl⟩, hb⟩
  · exact absurd hn hF
  · exact ⟨rfl, hb⟩
theorem callf_0 (args : Array Value) (W : World) : (callFunc 49 args).run Tryz.prog W = .ok (.enter 49 args) W := by kernel_rfl
theorem callf_1 (args : Array Value) (W : World) : (callFunc 50 args).run Tryz.prog W = .ok (.enter 50 args) W := by kernel_rfl
theorem callf_2 (args : Array Value) (W : World) : (callFunc 51 args).run Tryz.prog W = .ok (.enter 51 args) W := by kernel_rfl
theorem callf_3 (args : Array Value) (W : World) : (callFunc 52 args).run Tryz.prog W = .ok (.enter 52 args) W := by kernel_rfl
theorem callf_4 (args : Array Value) (W : World) : (callFunc 53 args).run Tryz.prog W = .ok (.enter 53 args) W := by kernel_rfl
theorem callf_5 (args : Array Value) (W : World) : (callFunc 54 args).run Tryz.prog W = .ok (.enter 54 args) W := by kernel_rfl
theorem callf_6 (args : Array Value) (W : World) : (callFunc 55 args).run Tryz.prog W = .ok (.enter 55 args) W := by kernel_rfl
theorem callf_7 (args : Array Value) (W : World) : (callFunc 56 args).run Tryz.prog W = .ok (.enter 56 args) W := by kernel_rfl
theorem callf_8 (args : Array Value) (W : World) : (callFunc 57 args).run Tryz.prog W = .ok (.enter 57 args) W := by kernel_rfl
theorem callf_9 (args : Array Value) (W : World) : (callFunc 58 args).run Tryz.prog W = .ok (.enter 58 args) W := by kernel_rfl
theorem callf_10 (args : Array Value) (W : World) : (callFunc 59 args).run Tryz.prog W = .ok (.enter 59 args) W := by kernel_rfl
theorem callf_11 (args : Array Value) (W : World) : (callFunc 60 args).run Tryz.prog W = .ok (.enter 60 args) W := by kernel_rfl
theorem callf_12 (args : Array Value) (W : World) : (callFunc 61 args).run Tryz.prog W = .ok (.enter 61 args) W := by kernel_rfl
theorem callf_13 (args : Array Value) (W : World) : (callFunc 62 args).run Tryz.prog W = .ok (.enter 62 args) W := by kernel_rfl
theorem callf_14 (args : Array Value) (W : World) : (callFunc 63 args).run Tryz.prog W = .ok (.enter 63 args) W := by kernel_rfl
theorem callf_15 (args : Array Value) (W : World) : (callFunc 64 args).run Tryz.prog W = .ok (.enter 64 args) W := by kernel_rfl
theorem callf (k : Nat) (h : k < 16) (args : Array Value) (W : World) : (callFunc (fidI k) args).run Tryz.prog W = .ok (.enter (fidI k) args) W := by
  match k, h with
  | 0, _ => exact callf_0 args W
  | 1, _ => exact callf_1 args W
  | 2, _ => exact callf_2 args W
  | 3, _ => exact callf_3 args W
  | 4, _ => exact callf_4 args W
  | 5, _ => exact callf_5 args W
  | 6, _ => exact callf_6 args W
  | 7, _ => exact callf_7 args W
  | 8, _ => exact callf_8 args W
  | 9, _ => exact callf_9 args W
  | 10, _ => exact callf_10 args W
  | 11, _ => exact callf_11 args W
  | 12, _ => exact callf_12 args W
  | 13, _ => exact callf_13 args W
  | 14, _ => exact callf_14 args W
  | 15, _ => exact callf_15 args W
  | j + 16, h => exact absurd h (by omega)
theorem c_no (s : ByteArray) (w : World) (v : Value) (x : Int) (h : ¬ nmI s < 16) : Calls Tryz.prog 4 #[.string s, v, .int .i64 x] w fun e w' => e = .returned (.agg #[.int .i64 (4), .int .i64 (0), .string ⟨#[]⟩, .bool false, .int .i64 (8)]) ∧ Below w.heap.size w w' := by
  go_enter Tryz.func4, Tryz.ntmps4
  go_wp2_with (first | (go_at_call 7; refine (find_no _ _ h).mono ?_; rintro e wa ⟨rfl, hbwa⟩; have hBwa : Below w.heap.size w wa := bup (by with_reducible (repeat' first | assumption | exact Below.refl _ _ | refine Below.drew ?_ | refine bdrewN ?_ _ | refine Below.setCell ?_ (by first | exact Nat.le_refl _ | (simp; done) | (simp; omega) | omega) _ | refine Below.alloc ?_ (by first | exact Nat.le_refl _ | (simp; done) | (simp; omega) | omega) _)) hbwa; have zwa := hBwa.size; have o0wa : Own wa (w.heap.size) #[.int .i64 0, .int .i64 0, .string ⟨#[]⟩, .bool false, .int .i64 0] := Own.keep (by with_reducible (repeat' first | assumption | refine Own.drew ?_ | refine Own.drewN ?_ _ | (refine Own.at ?_; first | rfl | (simp; done)) | refine Own.past ?_ _)) hbwa; have c0 := o0wa.cell; have f0 := o0wa.fro; have l0 := o0wa.lt) | (go_at_call 9; refine (err_ok _ _ (by decide) (by decide)).mono ?_; rintro e wb ⟨rfl, hbwb⟩; have hBwb : Below w.heap.size w wb := bup (by with_reducible (repeat' first | assumption | exact Below.refl _ _ | refine Below.drew ?_ | refine bdrewN ?_ _ | refine Below.setCell ?_ (by first | exact Nat.le_refl _ | (simp; done) | (simp; omega) | omega) _ | refine Below.alloc ?_ (by first | exact Nat.le_refl _ | (simp; done) | (simp; omega) | omega) _)) hbwb; have zwb := hBwb.size; have o0wb : Own wb (w.heap.size) #[.int .i64 0, .int .i64 0, .string ⟨#[]⟩, .bool false, .int .i64 0] := Own.keep (by with_reducible (repeat' first | assumption | refine Own.drew ?_ | refine Own.drewN ?_ _ | (refine Own.at ?_; first | rfl | (simp; done)) | refine Own.past ?_ _)) hbwb; have c0 := o0wb.cell; have f0 := o0wb.fro; have l0 := o0wb.lt))
  exact bodyPost_ret (v := (.agg #[.int .i64 (4), .int .i64 (0), .string ⟨#[]⟩, .bool false, .int .i64 (8)])) (by simp [results, Tryz.results4, go_sem, c0, f0, l0]) rfl ⟨rfl, by with_reducible (repeat' first | assumption | exact Below.refl _ _ | refine Below.drew ?_ | refine bdrewN ?_ _ | refine Below.setCell ?_ (by first | exact Nat.le_refl _ | (simp; done) | (simp; omega) | omega) _ | refine Below.alloc ?_ (by first | exact Nat.le_refl _ | (simp; done) | (simp; omega) | omega) _)⟩
set_option maxHeartbeats 1000000 in
theorem c_sing (s : ByteArray) (w : World) (v : Value) (x : Int) (l : List Ag) (hv : AV w v l) (hl : l.length ≤ 9223372036854775807) (hN : Hid (Nums l)) (h : nmI s < 16) (hs : (hasB (loI (nmI s)) (hiI (nmI s)) (l.length : Int) && !l.any nosB) = false) : Calls Tryz.prog 4 #[.string s, v, .int .i64 x] w fun e w' => e = .returned (.agg #[.int .i64 (4), .int .i64 (0), .string ⟨#[]⟩, .bool false, .int .i64 (8)]) ∧ Below w.heap.size w w' := by
  have hf := find_any s
  generalize loI (nmI s) = lo at *
  generalize hiI (nmI s) = hi at *
  generalize fidI (nmI s) = fid at *
  go_enter Tryz.func4, Tryz.ntmps4
  go_wp2_with (first | (go_at_call 7; refine (hf _ h).mono ?_; rintro e wa ⟨rfl, hbwa⟩; have hBwa : Below w.heap.size w wa := bup (by with_reducible (repeat' first | assumption | exact Below.refl _ _ | refine Below.drew ?_ | refine bdrewN ?_ _ | refine Below.setCell ?_ (by first | exact Nat.le_refl _ | (simp; done) | (simp; omega) | omega) _ | refine Below.alloc ?_ (by first | exact Nat.le_refl _ | (simp; done) | (simp; omega) | omega) _)) hbwa; have zwa := hBwa.size; have o0wa : Own wa (w.heap.size) #[.int .i64 0, .int .i64 0, .string ⟨#[]⟩, .bool false, .int .i64 0] := Own.keep (by with_reducible (repeat' first | assumption | refine Own.drew ?_ | refine Own.drewN ?_ _ | (refine Own.at ?_; first | rfl | (simp; done)) | refine Own.past ?_ _)) hbwa; have c0 := o0wa.cell; have f0 := o0wa.fro; have l0 := o0wa.lt; have hva := hv.keep hBwa) | (go_at_call 8; refine (singles_any _ _ _ _ _ (hva.keep (bal _ _)) hl hN).mono ?_; rintro e wb ⟨rfl, hbwb⟩; have hBwb : Below w.heap.size w wb := bup (by with_reducible (repeat' first | assumption | exact Below.refl _ _ | refine Below.drew ?_ | refine bdrewN ?_ _ | refine Below.setCell ?_ (by first | exact Nat.le_refl _ | (simp; done) | (simp; omega) | omega) _ | refine Below.alloc ?_ (by first | exact Nat.le_refl _ | (simp; done) | (simp; omega) | omega) _)) hbwb; have zwb := hBwb.size; have o0wb : Own wb (w.heap.size) #[.int .i64 0, .int .i64 0, .string ⟨#[]⟩, .bool false, .int .i64 0] := Own.keep (by with_reducible (repeat' first | assumption | refine Own.drew ?_ | refine Own.drewN ?_ _ | (refine Own.at ?_; first | rfl | (simp; done)) | refine Own.past ?_ _)) hbwb; have c0 := o0wb.cell; have f0 := o0wb.fro; have l0 := o0wb.lt; have o1wb : Own wb (wa.heap.size) #[.int .i64 lo, .int .i64 hi, .func (.func fid) #[] #[]] := Own.keep (by with_reducible (repeat' first | assumption | refine Own.drew ?_ | refine Own.drewN ?_ _ | (refine Own.at ?_; first | rfl | (simp; done)) | refine Own.past ?_ _)) hbwb; have c1 := o1wb.cell; have f1 := o1wb.fro; have l1 := o1wb.lt; rw [hs]; have hvb := hv.keep hBwb) | (go_at_call 9; refine (err_ok _ _ (by decide) (by decide)).mono ?_; rintro e wc ⟨rfl, hbwc⟩; have hBwc : Below w.heap.size w wc := bup (by with_reducible (repeat' first | assumption | exact Below.refl _ _ | refine Below.drew ?_ | refine bdrewN ?_ _ | refine Below.setCell ?_ (by first | exact Nat.le_refl _ | (simp; done) | (simp; omega) | omega) _ | refine Below.alloc ?_ (by first | exact Nat.le_refl _ | (simp; done) | (simp; omega) | omega) _)) hbwc; have zwc := hBwc.size; have o0wc : Own wc (w.heap.size) #[.int .i64 0, .int .i64 0, .string ⟨#[]⟩, .bool false, .int .i64 0] := Own.keep (by with_reducible (repeat' first | assumption | refine Own.drew ?_ | refine Own.drewN ?_ _ | (refine Own.at ?_; first | rfl | (simp; done)) | refine Own.past ?_ _)) hbwc; have c0 := o0wc.cell; have f0 := o0wc.fro; have l0 := o0wc.lt))
  exact bodyPost_ret (v := (.agg #[.int .i64 (4), .int .i64 (0), .string ⟨#[]⟩, .bool false, .int .i64 (8)])) (by simp [results, Tryz.results4, go_sem, c0, f0, l0]) rfl ⟨rfl, by with_reducible (repeat' first | assumption | exact Below.refl _ _ | refine Below.drew ?_ | refine bdrewN ?_ _ | refine Below.setCell ?_ (by first | exact Nat.le_refl _ | (simp; done) | (simp; omega) | omega) _ | refine Below.alloc ?_ (by first | exact Nat.le_refl _ | (simp; done) | (simp; omega) | omega) _)⟩
set_option maxHeartbeats 1000000 in
theorem c_fault (s : ByteArray) (w : World) (v : Value) (x : Int) (l : List Ag) (hv : AV w v l) (hl : l.length ≤ 9223372036854775807) (hN : Hid (Nums l)) (h : nmI s < 16) (hs : (hasB (loI (nmI s)) (hiI (nmI s)) (l.length : Int) && !l.any nosB) = true) (a : Ag) (ha : firstF l = some a) : Calls Tryz.prog 4 #[.string s, v, .int .i64 x] w fun e w' => e = .returned (vOf a) ∧ Below w.heap.size w w' := by
  unfold vOf
  have hf := find_any s
  generalize loI (nmI s) = lo at *
  generalize hiI (nmI s) = hi at *
  generalize fidI (nmI s) = fid at *
  go_enter Tryz.func4, Tryz.ntmps4
  go_wp2_with (first | (go_at_call 7; refine (hf _ h).mono ?_; rintro e wa ⟨rfl, hbwa⟩; have hBwa : Below w.heap.size w wa := bup (by with_reducible (repeat' first | assumption | exact Below.refl _ _ | refine Below.drew ?_ | refine bdrewN ?_ _ | refine Below.setCell ?_ (by first | exact Nat.le_refl _ | (simp; done) | (simp; omega) | omega) _ | refine Below.alloc ?_ (by first | exact Nat.le_refl _ | (simp; done) | (simp; omega) | omega) _)) hbwa; have zwa := hBwa.size; have o0wa : Own wa (w.heap.size) #[.int .i64 0, .int .i64 0, .string ⟨#[]⟩, .bool false, .int .i64 0] := Own.keep (by with_reducible (repeat' first | assumption | refine Own.drew ?_ | refine Own.drewN ?_ _ | (refine Own.at ?_; first | rfl | (simp; done)) | refine Own.past ?_ _)) hbwa; have c0 := o0wa.cell; have f0 := o0wa.fro; have l0 := o0wa.lt; have hva := hv.keep hBwa) | (go_at_call 8; refine (singles_any _ _ _ _ _ (hva.keep (bal _ _)) hl hN).mono ?_; rintro e wb ⟨rfl, hbwb⟩; have hBwb : Below w.heap.size w wb := bup (by with_reducible (repeat' first | assumption | exact Below.refl _ _ | refine Below.drew ?_ | refine bdrewN ?_ _ | refine Below.setCell ?_ (by first | exact Nat.le_refl _ | (simp; done) | (simp; omega) | omega) _ | refine Below.alloc ?_ (by first | exact Nat.le_refl _ | (simp; done) | (simp; omega) | omega) _)) hbwb; have zwb := hBwb.size; have o0wb : Own wb (w.heap.size) #[.int .i64 0, .int .i64 0, .string ⟨#[]⟩, .bool false, .int .i64 0] := Own.keep (by with_reducible (repeat' first | assumption | refine Own.drew ?_ | refine Own.drewN ?_ _ | (refine Own.at ?_; first | rfl | (simp; done)) | refine Own.past ?_ _)) hbwb; have c0 := o0wb.cell; have f0 := o0wb.fro; have l0 := o0wb.lt; have o1wb : Own wb (wa.heap.size) #[.int .i64 lo, .int .i64 hi, .func (.func fid) #[] #[]] := Own.keep (by with_reducible (repeat' first | assumption | refine Own.drew ?_ | refine Own.drewN ?_ _ | (refine Own.at ?_; first | rfl | (simp; done)) | refine Own.past ?_ _)) hbwb; have c1 := o1wb.cell; have f1 := o1wb.fro; have l1 := o1wb.lt; rw [hs]; have hvb := hv.keep hBwb) | (go_at_call 10; refine (fault_any _ _ _ hvb hl hN).mono ?_; rintro e wc ⟨rfl, hbwc⟩; have hBwc : Below w.heap.size w wc := bup (by with_reducible (repeat' first | assumption | exact Below.refl _ _ | refine Below.drew ?_ | refine bdrewN ?_ _ | refine Below.setCell ?_ (by first | exact Nat.le_refl _ | (simp; done) | (simp; omega) | omega) _ | refine Below.alloc ?_ (by first | exact Nat.le_refl _ | (simp; done) | (simp; omega) | omega) _)) hbwc; have zwc := hBwc.size; have o0wc : Own wc (w.heap.size) #[.int .i64 0, .int .i64 0, .string ⟨#[]⟩, .bool false, .int .i64 0] := Own.keep (by with_reducible (repeat' first | assumption | refine Own.drew ?_ | refine Own.drewN ?_ _ | (refine Own.at ?_; first | rfl | (simp; done)) | refine Own.past ?_ _)) hbwc; have c0 := o0wc.cell; have f0 := o0wc.fro; have l0 := o0wc.lt; have o1wc : Own wc (wa.heap.size) #[.int .i64 lo, .int .i64 hi, .func (.func fid) #[] #[]] := Own.keep (by with_reducible (repeat' first | assumption | refine Own.drew ?_ | refine Own.drewN ?_ _ | (refine Own.at ?_; first | rfl | (simp; done)) | refine Own.past ?_ _)) hbwc; have c1 := o1wc.cell; have f1 := o1wc.fro; have l1 := o1wc.lt; rw [ha]; dsimp only [faultOut, vOf]))
  exact bodyPost_ret (v := (.agg #[.int .i64 a.t, .int .i64 a.n, .string a.s, .bool a.b, .int .i64 a.c])) (by simp [results, Tryz.results4, go_sem, c0, f0, l0]) rfl ⟨rfl, by with_reducible (repeat' first | assumption | exact Below.refl _ _ | refine Below.drew ?_ | refine bdrewN ?_ _ | refine Below.setCell ?_ (by first | exact Nat.le_refl _ | (simp; done) | (simp; omega) | omega) _ | refine Below.alloc ?_ (by first | exact Nat.le_refl _ | (simp; done) | (simp; omega) | omega) _)⟩
set_option maxHeartbeats 1000000 in
theorem c_code (s : ByteArray) (w : World) (v : Value) (x : Int) (l : List Ag) (hv : AV w v l) (hl : l.length ≤ 9223372036854775807) (hN : Hid (Nums l)) (h : nmI s < 16) (hs : (hasB (loI (nmI s)) (hiI (nmI s)) (l.length : Int) && !l.any nosB) = true) (ha : firstF l = none) (h0 : 0 < l.length) (h16 : l.length ≤ 16) (hF : ¬ firstC l = 0) : Calls Tryz.prog 4 #[.string s, v, .int .i64 x] w fun e w' => e = .returned (.agg #[.int .i64 (4), .int .i64 (0), .string ⟨#[]⟩, .bool false, .int .i64 (errC (firstC l))]) ∧ Below w.heap.size w w' := by
  have hq : (firstC l != 0) = true := by simpa using hF
  have HF : Hid _ := hF
  clear hF
  have hf := find_any s
  generalize loI (nmI s) = lo at *
  generalize hiI (nmI s) = hi at *
  generalize fidI (nmI s) = fid at *
  go_enter Tryz.func4, Tryz.ntmps4
  go_wp2_with (first | (go_at_call 7; refine (hf _ h).mono ?_; rintro e wa ⟨rfl, hbwa⟩; have hBwa : Below w.heap.size w wa := bup (by with_reducible (repeat' first | assumption | exact Below.refl _ _ | refine Below.drew ?_ | refine bdrewN ?_ _ | refine Below.setCell ?_ (by first | exact Nat.le_refl _ | (simp; done) | (simp; omega) | omega) _ | refine Below.alloc ?_ (by first | exact Nat.le_refl _ | (simp; done) | (simp; omega) | omega) _)) hbwa; have zwa := hBwa.size; have o0wa : Own wa (w.heap.size) #[.int .i64 0, .int .i64 0, .string ⟨#[]⟩, .bool false, .int .i64 0] := Own.keep (by with_reducible (repeat' first | assumption | refine Own.drew ?_ | refine Own.drewN ?_ _ | (refine Own.at ?_; first | rfl | (simp; done)) | refine Own.past ?_ _)) hbwa; have c0 := o0wa.cell; have f0 := o0wa.fro; have l0 := o0wa.lt; have hva := hv.keep hBwa) | (go_at_call 8; refine (singles_any _ _ _ _ _ (hva.keep (bal _ _)) hl hN).mono ?_; rintro e wb ⟨rfl, hbwb⟩; have hBwb : Below w.heap.size w wb := bup (by with_reducible (repeat' first | assumption | exact Below.refl _ _ | refine Below.drew ?_ | refine bdrewN ?_ _ | refine Below.setCell ?_ (by first | exact Nat.le_refl _ | (simp; done) | (simp; omega) | omega) _ | refine Below.alloc ?_ (by first | exact Nat.le_refl _ | (simp; done) | (simp; omega) | omega) _)) hbwb; have zwb := hBwb.size; have o0wb : Own wb (w.heap.size) #[.int .i64 0, .int .i64 0, .string ⟨#[]⟩, .bool false, .int .i64 0] := Own.keep (by with_reducible (repeat' first | assumption | refine Own.drew ?_ | refine Own.drewN ?_ _ | (refine Own.at ?_; first | rfl | (simp; done)) | refine Own.past ?_ _)) hbwb; have c0 := o0wb.cell; have f0 := o0wb.fro; have l0 := o0wb.lt; have o1wb : Own wb (wa.heap.size) #[.int .i64 lo, .int .i64 hi, .func (.func fid) #[] #[]] := Own.keep (by with_reducible (repeat' first | assumption | refine Own.drew ?_ | refine Own.drewN ?_ _ | (refine Own.at ?_; first | rfl | (simp; done)) | refine Own.past ?_ _)) hbwb; have c1 := o1wb.cell; have f1 := o1wb.fro; have l1 := o1wb.lt; rw [hs]; have hvb := hv.keep hBwb) | (go_at_call 10; refine (fault_any _ _ _ hvb hl hN).mono ?_; rintro e wc ⟨rfl, hbwc⟩; have hBwc : Below w.heap.size w wc := bup (by with_reducible (repeat' first | assumption | exact Below.refl _ _ | refine Below.drew ?_ | refine bdrewN ?_ _ | refine Below.setCell ?_ (by first | exact Nat.le_refl _ | (simp; done) | (simp; omega) | omega) _ | refine Below.alloc ?_ (by first | exact Nat.le_refl _ | (simp; done) | (simp; omega) | omega) _)) hbwc; have zwc := hBwc.size; have o0wc : Own wc (w.heap.size) #[.int .i64 0, .int .i64 0, .string ⟨#[]⟩, .bool false, .int .i64 0] := Own.keep (by with_reducible (repeat' first | assumption | refine Own.drew ?_ | refine Own.drewN ?_ _ | (refine Own.at ?_; first | rfl | (simp; done)) | refine Own.past ?_ _)) hbwc; have c0 := o0wc.cell; have f0 := o0wc.fro; have l0 := o0wc.lt; have o1wc : Own wc (wa.heap.size) #[.int .i64 lo, .int .i64 hi, .func (.func fid) #[] #[]] := Own.keep (by with_reducible (repeat' first | assumption | refine Own.drew ?_ | refine Own.drewN ?_ _ | (refine Own.at ?_; first | rfl | (simp; done)) | refine Own.past ?_ _)) hbwc; have c1 := o1wc.cell; have f1 := o1wc.fro; have l1 := o1wc.lt; rw [ha]; dsimp only [faultOut, v0]; have hvc := hv.keep hBwc) | (go_at_call 11; refine (asn_no _ _ _ (hvc.keep (bal _ _)) hN h0 h16 HF.out).mono ?_; rintro e wd ⟨rfl, hbwd⟩; have hBwd : Below w.heap.size w wd := bup (by with_reducible (repeat' first | assumption | exact Below.refl _ _ | refine Below.drew ?_ | refine bdrewN ?_ _ | refine Below.setCell ?_ (by first | exact Nat.le_refl _ | (simp; done) | (simp; omega) | omega) _ | refine Below.alloc ?_ (by first | exact Nat.le_refl _ | (simp; done) | (simp; omega) | omega) _)) hbwd; have zwd := hBwd.size; have o0wd : Own wd (w.heap.size) #[.int .i64 0, .int .i64 0, .string ⟨#[]⟩, .bool false, .int .i64 0] := Own.keep (by with_reducible (repeat' first | assumption | refine Own.drew ?_ | refine Own.drewN ?_ _ | (refine Own.at ?_; first | rfl | (simp; done)) | refine Own.past ?_ _)) hbwd; have c0 := o0wd.cell; have f0 := o0wd.fro; have l0 := o0wd.lt; have o1wd : Own wd (wa.heap.size) #[.int .i64 lo, .int .i64 hi, .func (.func fid) #[] #[]] := Own.keep (by with_reducible (repeat' first | assumption | refine Own.drew ?_ | refine Own.drewN ?_ _ | (refine Own.at ?_; first | rfl | (simp; done)) | refine Own.past ?_ _)) hbwd; have c1 := o1wd.cell; have f1 := o1wd.fro; have l1 := o1wd.lt) | (go_at_call 9; refine (err_any _ _).mono ?_; rintro e we ⟨rfl, hbwe⟩; have hBwe : Below w.heap.size w we := bup (by with_reducible (repeat' first | assumption | exact Below.refl _ _ | refine Below.drew ?_ | refine bdrewN ?_ _ | refine Below.setCell ?_ (by first | exact Nat.le_refl _ | (simp; done) | (simp; omega) | omega) _ | refine Below.alloc ?_ (by first | exact Nat.le_refl _ | (simp; done) | (simp; omega) | omega) _)) hbwe; have zwe := hBwe.size; have o0we : Own we (w.heap.size) #[.int .i64 0, .int .i64 0, .string ⟨#[]⟩, .bool false, .int .i64 0] := Own.keep (by with_reducible (repeat' first | assumption | refine Own.drew ?_ | refine Own.drewN ?_ _ | (refine Own.at ?_; first | rfl | (simp; done)) | refine Own.past ?_ _)) hbwe; have c0 := o0we.cell; have f0 := o0we.fro; have l0 := o0we.lt))
  exact bodyPost_ret (v := (.agg #[.int .i64 (4), .int .i64 (0), .string ⟨#[]⟩, .bool false, .int .i64 (errC (firstC l))])) (by simp [results, Tryz.results4, go_sem, c0, f0, l0]) rfl ⟨rfl, by with_reducible (repeat' first | assumption | exact Below.refl _ _ | refine Below.drew ?_ | refine bdrewN ?_ _ | refine Below.setCell ?_ (by first | exact Nat.le_refl _ | (simp; done) | (simp; omega) | omega) _ | refine Below.alloc ?_ (by first | exact Nat.le_refl _ | (simp; done) | (simp; omega) | omega) _)⟩
set_option maxRecDepth 100000 in
set_option maxHeartbeats 1000000 in
theorem c_ans (s : ByteArray) (w : World) (v : Value) (x : Int) (l : List Ag) (hv : AV w v l) (hl : l.length ≤ 9223372036854775807) (hN : Hid (Nums l)) (h : nmI s < 16) (hs : (hasB (loI (nmI s)) (hiI (nmI s)) (l.length : Int) && !l.any nosB) = true) (ha : firstF l = none) (h0 : 0 < l.length) (h16 : l.length ≤ 16) (hF : firstC l = 0) (rt rn : Int) (rs : ByteArray) (rb : Bool) (rc : Int)
    (hans : ∀ (W : World) (b : Nat), NB W b (l.map asN) → Calls Tryz.prog (fidI (nmI s)) #[.slice (some ⟨b, 0, none⟩) l.length l.length] W fun e w' => e = .returned (.agg #[.int .i64 rt, .int .i64 rn, .string rs, .bool rb, .int .i64 rc]) ∧ Below W.heap.size W w') :
    Calls Tryz.prog 4 #[.string s, v, .int .i64 x] w fun e w' => e = .returned (.agg #[.int .i64 rt, .int .i64 rn, .string rs, .bool rb, .int .i64 rc]) ∧ Below w.heap.size w w' := by
  have HF : Hid _ := hF
  clear hF
  have hcf := callf (nmI s) h
  have hf := find_any s
  generalize loI (nmI s) = lo at *
  generalize hiI (nmI s) = hi at *
  generalize fidI (nmI s) = fid at *
  have HAns : Hid _ := hans
  clear hans
  go_enter Tryz.func4, Tryz.ntmps4
  go_wp2_with (first | (go_at_call 7; refine (hf _ h).mono ?_; rintro e wa ⟨rfl, hbwa⟩; have hBwa : Below w.heap.size w wa := bup (by with_reducible (repeat' first | assumption | exact Below.refl _ _ | refine Below.drew ?_ | refine bdrewN ?_ _ | refine Below.setCell ?_ (by first | exact Nat.le_refl _ | (simp; done) | (simp; omega) | omega) _ | refine Below.alloc ?_ (by first | exact Nat.le_refl _ | (simp; done) | (simp; omega) | omega) _)) hbwa; have zwa := hBwa.size; have o0wa : Own wa (w.heap.size) #[.int .i64 0, .int .i64 0, .string ⟨#[]⟩, .bool false, .int .i64 0] := Own.keep (by with_reducible (repeat' first | assumption | refine Own.drew ?_ | refine Own.drewN ?_ _ | (refine Own.at ?_; first | rfl | (simp; done)) | refine Own.past ?_ _)) hbwa; have c0 := o0wa.cell; have f0 := o0wa.fro; have l0 := o0wa.lt; have hva := hv.keep hBwa) | (go_at_call 8; refine (singles_any _ _ _ _ _ (hva.keep (bal _ _)) hl hN).mono ?_; rintro e wb ⟨rfl, hbwb⟩; have hBwb : Below w.heap.size w wb := bup (by with_reducible (repeat' first | assumption | exact Below.refl _ _ | refine Below.drew ?_ | refine bdrewN ?_ _ | refine Below.setCell ?_ (by first | exact Nat.le_refl _ | (simp; done) | (simp; omega) | omega) _ | refine Below.alloc ?_ (by first | exact Nat.le_refl _ | (simp; done) | (simp; omega) | omega) _)) hbwb; have zwb := hBwb.size; have o0wb : Own wb (w.heap.size) #[.int .i64 0, .int .i64 0, .string ⟨#[]⟩, .bool false, .int .i64 0] := Own.keep (by with_reducible (repeat' first | assumption | refine Own.drew ?_ | refine Own.drewN ?_ _ | (refine Own.at ?_; first | rfl | (simp; done)) | refine Own.past ?_ _)) hbwb; have c0 := o0wb.cell; have f0 := o0wb.fro; have l0 := o0wb.lt; have o1wb : Own wb (wa.heap.size) #[.int .i64 lo, .int .i64 hi, .func (.func fid) #[] #[]] := Own.keep (by with_reducible (repeat' first | assumption | refine Own.drew ?_ | refine Own.drewN ?_ _ | (refine Own.at ?_; first | rfl | (simp; done)) | refine Own.past ?_ _)) hbwb; have c1 := o1wb.cell; have f1 := o1wb.fro; have l1 := o1wb.lt; rw [hs]; have hvb := hv.keep hBwb) | (go_at_call 10; refine (fault_any _ _ _ hvb hl hN).mono ?_; rintro e wc ⟨rfl, hbwc⟩; have hBwc : Below w.heap.size w wc := bup (by with_reducible (repeat' first | assumption | exact Below.refl _ _ | refine Below.drew ?_ | refine bdrewN ?_ _ | refine Below.setCell ?_ (by first | exact Nat.le_refl _ | (simp; done) | (simp; omega) | omega) _ | refine Below.alloc ?_ (by first | exact Nat.le_refl _ | (simp; done) | (simp; omega) | omega) _)) hbwc; have zwc := hBwc.size; have o0wc : Own wc (w.heap.size) #[.int .i64 0, .int .i64 0, .string ⟨#[]⟩, .bool false, .int .i64 0] := Own.keep (by with_reducible (repeat' first | assumption | refine Own.drew ?_ | refine Own.drewN ?_ _ | (refine Own.at ?_; first | rfl | (simp; done)) | refine Own.past ?_ _)) hbwc; have c0 := o0wc.cell; have f0 := o0wc.fro; have l0 := o0wc.lt; have o1wc : Own wc (wa.heap.size) #[.int .i64 lo, .int .i64 hi, .func (.func fid) #[] #[]] := Own.keep (by with_reducible (repeat' first | assumption | refine Own.drew ?_ | refine Own.drewN ?_ _ | (refine Own.at ?_; first | rfl | (simp; done)) | refine Own.past ?_ _)) hbwc; have c1 := o1wc.cell; have f1 := o1wc.fro; have l1 := o1wc.lt; rw [ha]; dsimp only [faultOut, v0]; have hvc := hv.keep hBwc) | (go_at_call 11; refine (asn_ok _ _ _ (hvc.keep (bal _ _)) hN h0 h16 HF.out).mono ?_; rintro e wd ⟨⟨rfl, hnb⟩, hbwd⟩; have hBwd : Below w.heap.size w wd := bup (by with_reducible (repeat' first | assumption | exact Below.refl _ _ | refine Below.drew ?_ | refine bdrewN ?_ _ | refine Below.setCell ?_ (by first | exact Nat.le_refl _ | (simp; done) | (simp; omega) | omega) _ | refine Below.alloc ?_ (by first | exact Nat.le_refl _ | (simp; done) | (simp; omega) | omega) _)) hbwd; have zwd := hBwd.size; have o0wd : Own wd (w.heap.size) #[.int .i64 0, .int .i64 0, .string ⟨#[]⟩, .bool false, .int .i64 0] := Own.keep (by with_reducible (repeat' first | assumption | refine Own.drew ?_ | refine Own.drewN ?_ _ | (refine Own.at ?_; first | rfl | (simp; done)) | refine Own.past ?_ _)) hbwd; have c0 := o0wd.cell; have f0 := o0wd.fro; have l0 := o0wd.lt; have o1wd : Own wd (wa.heap.size) #[.int .i64 lo, .int .i64 hi, .func (.func fid) #[] #[]] := Own.keep (by with_reducible (repeat' first | assumption | refine Own.drew ?_ | refine Own.drewN ?_ _ | (refine Own.at ?_; first | rfl | (simp; done)) | refine Own.past ?_ _)) hbwd; have c1 := o1wd.cell; have f1 := o1wd.fro; have l1 := o1wd.lt; rw [World.size_alloc] at hnb) | (with_reducible refine (HAns.out _ _ hnb).mono ?_; rintro e we ⟨rfl, hbwe⟩; have hBwe : Below w.heap.size w we := bup (by with_reducible (repeat' first | assumption | exact Below.refl _ _ | refine Below.drew ?_ | refine bdrewN ?_ _ | refine Below.setCell ?_ (by first | exact Nat.le_refl _ | (simp; done) | (simp; omega) | omega) _ | refine Below.alloc ?_ (by first | exact Nat.le_refl _ | (simp; done) | (simp; omega) | omega) _)) hbwe; have zwe := hBwe.size; have o0we : Own we (w.heap.size) #[.int .i64 0, .int .i64 0, .string ⟨#[]⟩, .bool false, .int .i64 0] := Own.keep (by with_reducible (repeat' first | assumption | refine Own.drew ?_ | refine Own.drewN ?_ _ | (refine Own.at ?_; first | rfl | (simp; done)) | refine Own.past ?_ _)) hbwe; have c0 := o0we.cell; have f0 := o0we.fro; have l0 := o0we.lt; have o1we : Own we (wa.heap.size) #[.int .i64 lo, .int .i64 hi, .func (.func fid) #[] #[]] := Own.keep (by with_reducible (repeat' first | assumption | refine Own.drew ?_ | refine Own.drewN ?_ _ | (refine Own.at ?_; first | rfl | (simp; done)) | refine Own.past ?_ _)) hbwe; have c1 := o1we.cell; have f1 := o1we.fro; have l1 := o1we.lt))
  exact bodyPost_ret (v := (.agg #[.int .i64 rt, .int .i64 rn, .string rs, .bool rb, .int .i64 rc])) (by simp [results, Tryz.results4, go_sem, c0, f0, l0]) rfl ⟨rfl, by with_reducible (repeat' first | assumption | exact Below.refl _ _ | refine Below.drew ?_ | refine bdrewN ?_ _ | refine Below.setCell ?_ (by first | exact Nat.le_refl _ | (simp; done) | (simp; omega) | omega) _ | refine Below.alloc ?_ (by first | exact Nat.le_refl _ | (simp; done) | (simp; omega) | omega) _)⟩
end Go.Proofs.YtfpbcokfianjaaaGreat
namespace Go.Proofs.YtfpbcokfianjaaaGreat
open Go.Shelf Go.RowKit
set_option linter.all false
theorem Own.of_block {w w' : World} {b : Nat} {A : Array Value} (h : Own w b A) (e : w'.heap[b]? = w.heap[b]?) : Own w' b A :=
  ⟨by have h1 := h.lt; rw [Array.getElem?_eq_getElem h1] at e; exact (Array.getElem?_eq_some_iff.1 e).1, fun o => (World.cell?_of_block e).trans (h.cell o), fun o => (World.frozen?_of_block e).trans (h.fro o)⟩
section
variable {α : Type} {c : α → Array Value} {sz : Nat} {e : TypeId}
def flatC (c : α → Array Value) (l : List α) : List Value := l.flatMap (fun x => (c x).toList)
theorem flatC_len (hc : ∀ x, (c x).size = sz) : ∀ l : List α, (flatC c l).length = l.length * sz
  | [] => by simp [flatC]
  | x :: r => by
    have ih := flatC_len hc r
    have e : flatC c (x :: r) = (c x).toList ++ flatC c r := rfl
    rw [e, List.length_append, ih, List.length_cons, Array.length_toList, hc, Nat.succ_mul, Nat.add_comm]
theorem flatC_snoc (l : List α) (x : α) : flatC c (l ++ [x]) = flatC c l ++ (c x).toList := by simp [flatC]
theorem flatC_app (l m : List α) : flatC c (l ++ m) = flatC c l ++ flatC c m := by simp [flatC]
theorem flatC_at (hc : ∀ x, (c x).size = sz) : ∀ (l : List α) (i j : Nat) (x : α), l[i]? = some x → j < sz → (flatC c l)[i * sz + j]? = (c x)[j]?
  | [], i, j, x, h, _ => by simp at h
  | u :: r, 0, j, x, h, hj => by
    simp at h; subst h
    have e : flatC c (u :: r) = (c u).toList ++ flatC c r := rfl
    rw [e, Nat.zero_mul, Nat.zero_add, List.getElem?_append_left (by rw [Array.length_toList, hc]; exact hj)]
    simp
  | u :: r, i + 1, j, x, h, hj => by
    have ih := flatC_at hc r i j x (by simpa using h) hj
    have e : flatC c (u :: r) = (c u).toList ++ flatC c r := rfl
    rw [e, List.getElem?_append_right (by rw [Array.length_toList, hc, Nat.succ_mul]; omega), Array.length_toList, hc, ← ih]
    congr 1
    rw [Nat.succ_mul]; omega
theorem flatC_take (hc : ∀ x, (c x).size = sz) (l : List α) (k : Nat) : flatC c (l.take k) = (flatC c l).take (k * sz) := by
  by_cases h : k ≤ l.length
  · have e : flatC c l = flatC c (l.take k) ++ flatC c (l.drop k) := by rw [← flatC_app, List.take_append_drop]
    rw [e]
    exact (List.take_left' (by rw [flatC_len hc, List.length_take, Nat.min_eq_left h])).symm
  · rw [List.take_of_length_le (by omega), List.take_of_length_le (by rw [flatC_len hc]; exact Nat.mul_le_mul_right _ (by omega))]
/-- The value is a list of just these things, in a block of its own from base on. -/
def Row (c : α → Array Value) (sz : Nat) (e : TypeId) (w : World) (base : Nat) (v : Value) (l : List α) : Prop := w.ownsRow base e sz v l.length (flatC c l)
theorem Row.nil (w : World) (base : Nat) : Row c sz e w base (.slice none 0 0) [] := ⟨by simp [flatC], .inl ⟨rfl, rfl⟩⟩
theorem Row.of_block {w w' : World} {base : Nat} {v : Value} {l : List α} (h : Row c sz e w base v l) (hb : ∀ g, v.ownBlock = some g → w'.heap[g]? = w.heap[g]?) : Row c sz e w' base v l := by
  obtain ⟨h1, h2⟩ := h
  refine ⟨h1, ?_⟩
  rcases h2 with h2 | ⟨g, cap, cur, e, r1, r2, r3⟩
  · exact .inl h2
  · exact .inr ⟨g, cap, cur, e, r1, (hb g (by rw [e]; rfl)).trans r2, r3⟩
theorem Row.lt {w : World} {base : Nat} {v : Value} {l : List α} (h : Row c sz e w base v l) : ∀ g, v.ownBlock = some g → base ≤ g ∧ g < w.heap.size := World.ownsRow.lt h
theorem Row.keep {w w' : World} {base : Nat} {v : Value} {l : List α} (h : Row c sz e w base v l) (hb : Below w.heap.size w w') : Row c sz e w' base v l :=
  h.of_block fun g hg => hb.block g (h.lt g hg).2
theorem Row.mono {w : World} {base base' : Nat} {v : Value} {l : List α} (h : Row c sz e w base v l) (hb : base' ≤ base) : Row c sz e w base' v l := by
  obtain ⟨h1, h2⟩ := h
  refine ⟨h1, ?_⟩
  rcases h2 with h2 | ⟨g, cap, cur, e, r1, r2⟩
  · exact .inl h2
  · exact .inr ⟨g, cap, cur, e, Nat.le_trans hb r1, r2⟩
theorem Row.slice {w : World} {base : Nat} {v : Value} {l : List α} (h : Row c sz e w base v l) : ∃ p cap, v = .slice p l.length cap ∧ l.length ≤ cap ∧ cap ≤ maxLen := by
  obtain ⟨h1, h2⟩ := h
  rcases h2 with ⟨rfl, e⟩ | ⟨g, cap, cur, rfl, _, _, h3, h4, _⟩
  · exact ⟨none, 0, by rw [e], by omega, Nat.zero_le _⟩
  · exact ⟨_, _, rfl, h3, h4⟩
/-- Nil, or written out. -/
theorem Row.two {w : World} {base : Nat} {v : Value} {l : List α} (hc : ∀ x, (c x).size = sz) (h : Row c sz e w base v l) : (v = .slice none 0 0 ∧ l = []) ∨
    ∃ g cap, v = .slice (some ⟨g, 0, none⟩) l.length cap ∧ base ≤ g ∧ g < w.heap.size ∧ l.length ≤ cap ∧ cap ≤ maxLen ∧ (∀ i x, l[i]? = some x → ∀ j, j < sz → w.cell? ⟨g, i * sz + j, none⟩ = (c x)[j]?) ∧ (∀ o, w.frozen? ⟨g, o, none⟩ = false) := by
  have hh := h
  obtain ⟨h1, h2⟩ := h
  rcases h2 with ⟨h2, h3⟩ | ⟨g, cap, cur, rfl, r1, r2, r3⟩
  · exact .inl ⟨h2, List.length_eq_zero_iff.1 h3⟩
  · refine .inr ⟨g, cap, rfl, r1, (Array.getElem?_eq_some_iff.1 r2).1, r3.1, r3.2.1, fun i x hi j hj => ?_, fun o => World.ownsRow.frozenAt hh o⟩
    have hil := (List.getElem?_eq_some_iff.1 hi).1
    have h5 : i * sz + j < l.length * sz := by
      have := Nat.mul_le_mul_right sz (show i + 1 ≤ l.length by omega)
      rw [Nat.succ_mul] at this
      omega
    rw [World.ownsRow.cellAt hh (i * sz + j) h5, flatC_at hc l i j x hi hj]
/-- The first of them. -/
theorem Row.take {w : World} {base g m cap : Nat} {l : List α} (hc : ∀ x, (c x).size = sz) (h : Row c sz e w base (.slice (some ⟨g, 0, none⟩) m cap) l) {k : Nat} (hk : k ≤ l.length) : Row c sz e w base (.slice (some ⟨g, 0, none⟩) k cap) (l.take k) := by
  obtain ⟨h1, h2⟩ := h
  rcases h2 with ⟨h2, h3⟩ | ⟨g', cap', cur, h2, r1, r2, r3, r4, r5, r6⟩
  · cases h2
  · cases h2
    have e2 : (l.take k).length = k := by rw [List.length_take]; omega
    refine ⟨by rw [flatC_len hc], .inr ⟨g, cap, cur, by rw [e2], r1, r2, by omega, r4, r5, ?_⟩⟩
    rw [e2, flatC_take hc, ← r6, List.take_take, Nat.min_eq_left (Nat.mul_le_mul_right _ hk)]
theorem Row.view {w : World} {base : Nat} {v : Value} {l : List α} (hc : ∀ x, (c x).size = sz) (h : Row c sz e w base v l) : View c sz w v l := by
  rcases h.two hc with ⟨rfl, rfl⟩ | ⟨g, cap, rfl, r1, r2, r3, r4, r5, _⟩
  · exact ⟨none, 0, rfl, Nat.le_refl _, fun h => absurd h (by simp)⟩
  · exact ⟨some ⟨g, 0, none⟩, cap, rfl, r3, fun _ => ⟨g, 0, rfl, r2, fun i x hi j hj => by rw [Nat.zero_add]; exact r5 i x hi j hj⟩⟩
theorem Row.cells {w : World} {base g m cap : Nat} {l : List α} (hc : ∀ x, (c x).size = sz) (h : Row c sz e w base (.slice (some ⟨g, 0, none⟩) m cap) l) : ∀ i x, l[i]? = some x → ∀ j, j < sz → w.cell? ⟨g, i * sz + j, none⟩ = (c x)[j]? := by
  rcases h.two hc with ⟨h1, _⟩ | ⟨g', cap', h1, _, _, _, _, h2, _⟩
  · cases h1
  · cases h1; exact h2
theorem Row.drew {w : World} {base : Nat} {v : Value} {l : List α} (h : Row c sz e w base v l) : Row c sz e w.drew base v l := h.keep (Below.refl _ _).drew
theorem Row.past {w : World} {base : Nat} {v : Value} {l : List α} (h : Row c sz e w base v l) (o : Obj) : Row c sz e (w.alloc o) base v l := h.keep (bal w o)
end
end Go.Proofs.YtfpbcokfianjaaaGreat
