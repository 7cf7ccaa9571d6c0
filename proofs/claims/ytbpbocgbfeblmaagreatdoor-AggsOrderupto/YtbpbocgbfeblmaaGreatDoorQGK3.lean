/- The law's known calls are answered as they must (package oriellaw10). New memory alone is made. The contracts of the document's Wants and Known. Nothing is written. -/
import Derived.Test.YtbpbocgbfeblmaaGreatDoorQGC6
import Derived.Test.YtbpbocgbfeblmaaGreatDoorQGT9
namespace Go.Proofs.YtbpbocgbfeblmaaGreatDoor
open Go.RowKit
set_option linter.all false
theorem nums_lit (w : World) : NV (w.alloc (.cells #[.int .i64 20000, .int .i64 50000, .int .i64 10000] 2)) (some ⟨w.heap.size, 0, none⟩) 3 [20000, 50000, 10000] := by
  have h := Own.new w #[.int .i64 20000, .int .i64 50000, .int .i64 10000] 2
  refine ⟨rfl, fun _ => ⟨w.heap.size, 0, rfl, h.lt, fun i x hi => ?_⟩⟩
  rw [Nat.zero_add, h.cell i]
  have hl := (List.getElem?_eq_some_iff.1 hi).1
  simp at hl
  match i, hl with
  | 0, _ => simp at hi; subst hi; rfl
  | 1, _ => simp at hi; subst hi; rfl
  | 2, _ => simp at hi; subst hi; rfl
theorem row_view {w : World} {B : Nat} {p : Option Addr} {n c : Nat} {l : List En} (h : Row En.cells 7 44 w B (.slice p n c) l) (hn : l.length = n) : View En.cells 7 w (.slice p n c) l := by
  subst hn
  rcases Row.two En.csize h with ⟨e, hl⟩ | ⟨g, cap, e, _, hgl, hcap, _, hcl, _⟩
  · subst hl
    injection e with e1 _ e3
    exact ⟨p, c, rfl, by simp, fun h => absurd h (by simp)⟩
  · injection e with e1 _ e3
    subst e1 e3
    exact ⟨_, _, rfl, hcap, fun _ => ⟨g, 0, rfl, hgl, fun i x hi j hj => by rw [Nat.zero_add]; exact hcl i x hi j hj⟩⟩
theorem av_1 (w : World) (a : Ag) (T : TypeId) : AV (w.alloc (.cells a.cells T)) (.slice (some ⟨w.heap.size, 0, none⟩) 1 1) [a] := by
  have h := Own.new w a.cells T
  refine ⟨_, _, rfl, Nat.le_refl _, fun _ => ⟨w.heap.size, 0, rfl, h.lt, fun i x hi j hj => ?_⟩⟩
  have h0 : i = 0 := by have := (List.getElem?_eq_some_iff.1 hi).1; simp at this; omega
  subst h0
  simp at hi
  subst hi
  rw [Nat.zero_mul, Nat.zero_add, h.cell j]
theorem av_1d (w : World) (O : Obj) (a : Ag) (A : Array Value) (T : TypeId) (hA : A = a.cells) : AV ((w.alloc O).alloc (.cells A T)).drew (.slice (some ⟨w.heap.size + 1, 0, none⟩) 1 1) [a] := by
  subst hA
  have h := av_1 (w.alloc O) a T
  rw [show (w.alloc O).heap.size = w.heap.size + 1 from Array.size_push ..] at h
  exact View.keep h (Below.drew (Below.refl _ _))
theorem av_2 (w : World) (a b : Ag) (A : Array Value) (T : TypeId) (hA : A = a.cells ++ b.cells) : AV (w.alloc (.cells A T)) (.slice (some ⟨w.heap.size, 0, none⟩) 2 2) [a, b] := by
  subst hA
  have h := Own.new w (a.cells ++ b.cells) T
  refine ⟨_, _, rfl, Nat.le_refl _, fun _ => ⟨w.heap.size, 0, rfl, h.lt, fun i x hi j hj => ?_⟩⟩
  have hl := (List.getElem?_eq_some_iff.1 hi).1
  simp at hl
  rw [Nat.zero_add, h.cell]
  match i, hl with
  | 0, _ =>
    simp at hi; subst hi
    rw [Nat.zero_mul, Nat.zero_add, Array.getElem?_append_left (by rw [Ag.csize]; omega)]
  | 1, _ =>
    simp at hi; subst hi
    rw [Nat.one_mul, Array.getElem?_append_right (by rw [Ag.csize]; omega), Ag.csize, Nat.add_sub_cancel_left]
set_option maxRecDepth 100000 in
set_option maxHeartbeats 4000000 in
theorem known_law (w : World) : Calls Tryz.prog 8 #[] w fun e w' => e = .returned (.bool true) ∧ Below w.heap.size w w' := by
  have mixed : Tryz.prog.follows .mixedOrders = true := by kernel_rfl
  have knJ : ∀ W : World, Calls Tryz.prog 41 #[.string ⟨#[74, 79, 73, 78]⟩] W fun e w' => e = .returned (.bool true) ∧ Below W.heap.size W w' := fun W => (known_any ⟨#[74, 79, 73, 78]⟩ W).mono fun e w' ⟨he, hw⟩ => ⟨he.trans (by rw [show decide (nmI ⟨#[74, 79, 73, 78]⟩ < 18) = true by decide]), by rw [hw]; exact Below.refl _ _⟩
  have knL : ∀ W : World, Calls Tryz.prog 41 #[.string ⟨#[76, 69, 78]⟩] W fun e w' => e = .returned (.bool false) ∧ Below W.heap.size W w' := fun W => (known_any ⟨#[76, 69, 78]⟩ W).mono fun e w' ⟨he, hw⟩ => ⟨he.trans (by rw [show decide (nmI ⟨#[76, 69, 78]⟩ < 18) = false by decide]), by rw [hw]; exact Below.refl _ _⟩
  have t1 : True := trivial
  have t2 : True := trivial
  have t3 : True := trivial
  have t4 : True := trivial
  have t5 : True := trivial
  have t6 : True := trivial
  have t7 : True := trivial
  have t8 : True := trivial
  go_enter Tryz.func8, Tryz.ntmps8
  go_wp2_with (go_at_call 40; refine (col_any _ _ 3 3 [20000, 50000, 10000] (nums_lit _) (by decide)).mono ?_; rintro e wa ⟨⟨up, uc, rfl, hrw⟩, hbwa⟩; have hBwa : Below w.heap.size w wa := bup (by with_reducible (repeat' first | assumption | exact Below.refl _ _ | refine Below.drew ?_ | refine bdrewN ?_ _ | refine Below.setCell ?_ (by first | exact Nat.le_refl _ | (simp; done) | (simp; omega) | omega) _ | refine Below.alloc ?_ (by first | exact Nat.le_refl _ | (simp; done) | (simp; omega) | omega) _)) hbwa; have zwa := hBwa.size; have hEa : Hid (AgE wa (agC up uc, es3)) := (show AgE wa (agC up uc, es3) from ⟨row_view hrw.out rfl, (fun x hx => by simp [es3, colE, enAt] at hx; rcases hx with h | h | h <;> subst h <;> exact ⟨by decide, by decide⟩), (show I64 0 from ⟨by decide, by decide⟩), (show 3 ≤ 1099511627776 by decide)⟩))
  go_region_held3 (fun w' => w'.cell? ⟨wa.heap.size, 0, none⟩ = some (.bool true) ∧ w'.cell? ⟨wa.heap.size, 1, none⟩ = some (.int .i64 0) ∧ w'.cell? ⟨wa.heap.size, 2, none⟩ = some (.int .i64 0) ∧ w'.cell? ⟨wa.heap.size, 3, none⟩ = some (.string ⟨#[]⟩) ∧ w'.cell? ⟨wa.heap.size, 4, none⟩ = some (.bool false) ∧ w'.cell? ⟨wa.heap.size, 5, none⟩ = some (.int .i64 0) ∧ w'.cell? ⟨wa.heap.size, 6, none⟩ = some (.int .i64 1) ∧ w'.cell? ⟨wa.heap.size, 7, none⟩ = some (.int .i64 1) ∧ w'.cell? ⟨wa.heap.size, 8, none⟩ = some (.int .i64 (btm 3)) ∧ w'.cell? ⟨wa.heap.size, 9, none⟩ = some (.int .i64 1) ∧ w'.cell? ⟨wa.heap.size, 10, none⟩ = some (.slice up 3 uc)) ((repeat' apply And.intro) <;> (first | (go_keep; done) | (go_simp; done))) (first | (go_at_call 6; clear t1; refine (sum_call _ _ up uc (av_1d _ _ (agC up uc) _ _ rfl) (hEa.out.keep (by with_reducible (repeat' first | assumption | exact Below.refl _ _ | refine Below.drew ?_ | refine bdrewN ?_ _ | refine Below.setCell ?_ (by first | exact Nat.le_refl _ | (simp; done) | (simp; omega) | omega) _ | refine Below.alloc ?_ (by first | exact Nat.le_refl _ | (simp; done) | (simp; omega) | omega) _)))).mono ?_; rintro e w1 ⟨rfl, hbw1⟩; have hBw1 : Below w.heap.size w w1 := bup (by with_reducible (repeat' first | assumption | exact Below.refl _ _ | refine Below.drew ?_ | refine bdrewN ?_ _ | refine Below.setCell ?_ (by first | exact Nat.le_refl _ | (simp; done) | (simp; omega) | omega) _ | refine Below.alloc ?_ (by first | exact Nat.le_refl _ | (simp; done) | (simp; omega) | omega) _)) hbw1; have zw1 := hBw1.size; have o0w1 : Own w1 (wa.heap.size) #[.bool true, .int .i64 0, .int .i64 0, .string ⟨#[]⟩, .bool false, .int .i64 0, .int .i64 1, .int .i64 1, .int .i64 (btm 3), .int .i64 1, .slice up 3 uc] := Own.keep (by with_reducible (repeat' first | assumption | refine Own.drew ?_ | refine Own.drewN ?_ _ | (refine Own.at ?_; first | rfl | (simp; done)) | refine Own.past ?_ _)) hbw1; have c0 := o0w1.cell; have f0 := o0w1.fro; have l0 := o0w1.lt; have hAw1 : Below wa.heap.size wa w1 := bup (by with_reducible (repeat' first | assumption | exact Below.refl _ _ | refine Below.drew ?_ | refine bdrewN ?_ _ | refine Below.setCell ?_ (by first | exact Nat.le_refl _ | (simp; done) | (simp; omega) | omega) _ | refine Below.alloc ?_ (by first | exact Nat.le_refl _ | (simp; done) | (simp; omega) | omega) _)) hbw1) | (go_at_call 13; clear t2; refine (number_any _ _).mono ?_; rintro e w2 ⟨rfl, hbw2⟩; have hBw2 : Below w.heap.size w w2 := bup (by with_reducible (repeat' first | assumption | exact Below.refl _ _ | refine Below.drew ?_ | refine bdrewN ?_ _ | refine Below.setCell ?_ (by first | exact Nat.le_refl _ | (simp; done) | (simp; omega) | omega) _ | refine Below.alloc ?_ (by first | exact Nat.le_refl _ | (simp; done) | (simp; omega) | omega) _)) hbw2; have zw2 := hBw2.size; have o0w2 : Own w2 (wa.heap.size) #[.bool true, .int .i64 0, .int .i64 0, .string ⟨#[]⟩, .bool false, .int .i64 0, .int .i64 1, .int .i64 1, .int .i64 (btm 3), .int .i64 1, .slice up 3 uc] := Own.keep (by with_reducible (repeat' first | assumption | refine Own.drew ?_ | refine Own.drewN ?_ _ | (refine Own.at ?_; first | rfl | (simp; done)) | refine Own.past ?_ _)) hbw2; have c0 := o0w2.cell; have f0 := o0w2.fro; have l0 := o0w2.lt; have hAw2 : Below wa.heap.size wa w2 := bup (by with_reducible (repeat' first | assumption | exact Below.refl _ _ | refine Below.drew ?_ | refine bdrewN ?_ _ | refine Below.setCell ?_ (by first | exact Nat.le_refl _ | (simp; done) | (simp; omega) | omega) _ | refine Below.alloc ?_ (by first | exact Nat.le_refl _ | (simp; done) | (simp; omega) | omega) _)) hbw2) | (go_at_call 13; clear t3; refine (number_any _ _).mono ?_; rintro e w3 ⟨rfl, hbw3⟩; have hBw3 : Below w.heap.size w w3 := bup (by with_reducible (repeat' first | assumption | exact Below.refl _ _ | refine Below.drew ?_ | refine bdrewN ?_ _ | refine Below.setCell ?_ (by first | exact Nat.le_refl _ | (simp; done) | (simp; omega) | omega) _ | refine Below.alloc ?_ (by first | exact Nat.le_refl _ | (simp; done) | (simp; omega) | omega) _)) hbw3; have zw3 := hBw3.size; have o0w3 : Own w3 (wa.heap.size) #[.bool true, .int .i64 0, .int .i64 0, .string ⟨#[]⟩, .bool false, .int .i64 0, .int .i64 1, .int .i64 1, .int .i64 (btm 3), .int .i64 1, .slice up 3 uc] := Own.keep (by with_reducible (repeat' first | assumption | refine Own.drew ?_ | refine Own.drewN ?_ _ | (refine Own.at ?_; first | rfl | (simp; done)) | refine Own.past ?_ _)) hbw3; have c0 := o0w3.cell; have f0 := o0w3.fro; have l0 := o0w3.lt; have hAw3 : Below wa.heap.size wa w3 := bup (by with_reducible (repeat' first | assumption | exact Below.refl _ _ | refine Below.drew ?_ | refine bdrewN ?_ _ | refine Below.setCell ?_ (by first | exact Nat.le_refl _ | (simp; done) | (simp; omega) | omega) _ | refine Below.alloc ?_ (by first | exact Nat.le_refl _ | (simp; done) | (simp; omega) | omega) _)) hbw3) | (go_at_call 12; clear t4; refine (single_any _ _ _ _ _ _).mono ?_; rintro e w4 ⟨rfl, hbw4⟩; have hBw4 : Below w.heap.size w w4 := bup (by with_reducible (repeat' first | assumption | exact Below.refl _ _ | refine Below.drew ?_ | refine bdrewN ?_ _ | refine Below.setCell ?_ (by first | exact Nat.le_refl _ | (simp; done) | (simp; omega) | omega) _ | refine Below.alloc ?_ (by first | exact Nat.le_refl _ | (simp; done) | (simp; omega) | omega) _)) hbw4; have zw4 := hBw4.size; have o0w4 : Own w4 (wa.heap.size) #[.bool true, .int .i64 0, .int .i64 0, .string ⟨#[]⟩, .bool false, .int .i64 0, .int .i64 1, .int .i64 1, .int .i64 (btm 3), .int .i64 1, .slice up 3 uc] := Own.keep (by with_reducible (repeat' first | assumption | refine Own.drew ?_ | refine Own.drewN ?_ _ | (refine Own.at ?_; first | rfl | (simp; done)) | refine Own.past ?_ _)) hbw4; have c0 := o0w4.cell; have f0 := o0w4.fro; have l0 := o0w4.lt; have hAw4 : Below wa.heap.size wa w4 := bup (by with_reducible (repeat' first | assumption | exact Below.refl _ _ | refine Below.drew ?_ | refine bdrewN ?_ _ | refine Below.setCell ?_ (by first | exact Nat.le_refl _ | (simp; done) | (simp; omega) | omega) _ | refine Below.alloc ?_ (by first | exact Nat.le_refl _ | (simp; done) | (simp; omega) | omega) _)) hbw4) | (go_at_call 6; clear t5; refine (large_call _ _ up uc (av_2 _ (agC up uc) sg2 _ _ rfl) (hEa.out.keep (by with_reducible (repeat' first | assumption | exact Below.refl _ _ | refine Below.drew ?_ | refine bdrewN ?_ _ | refine Below.setCell ?_ (by first | exact Nat.le_refl _ | (simp; done) | (simp; omega) | omega) _ | refine Below.alloc ?_ (by first | exact Nat.le_refl _ | (simp; done) | (simp; omega) | omega) _)))).mono ?_; rintro e w5 ⟨rfl, hbw5⟩; have hBw5 : Below w.heap.size w w5 := bup (by with_reducible (repeat' first | assumption | exact Below.refl _ _ | refine Below.drew ?_ | refine bdrewN ?_ _ | refine Below.setCell ?_ (by first | exact Nat.le_refl _ | (simp; done) | (simp; omega) | omega) _ | refine Below.alloc ?_ (by first | exact Nat.le_refl _ | (simp; done) | (simp; omega) | omega) _)) hbw5; have zw5 := hBw5.size; have o0w5 : Own w5 (wa.heap.size) #[.bool true, .int .i64 0, .int .i64 0, .string ⟨#[]⟩, .bool false, .int .i64 0, .int .i64 1, .int .i64 1, .int .i64 (btm 3), .int .i64 1, .slice up 3 uc] := Own.keep (by with_reducible (repeat' first | assumption | refine Own.drew ?_ | refine Own.drewN ?_ _ | (refine Own.at ?_; first | rfl | (simp; done)) | refine Own.past ?_ _)) hbw5; have c0 := o0w5.cell; have f0 := o0w5.fro; have l0 := o0w5.lt; have hAw5 : Below wa.heap.size wa w5 := bup (by with_reducible (repeat' first | assumption | exact Below.refl _ _ | refine Below.drew ?_ | refine bdrewN ?_ _ | refine Below.setCell ?_ (by first | exact Nat.le_refl _ | (simp; done) | (simp; omega) | omega) _ | refine Below.alloc ?_ (by first | exact Nat.le_refl _ | (simp; done) | (simp; omega) | omega) _)) hbw5) | (go_at_call 13; clear t6; refine (number_any _ _).mono ?_; rintro e w6 ⟨rfl, hbw6⟩; have hBw6 : Below w.heap.size w w6 := bup (by with_reducible (repeat' first | assumption | exact Below.refl _ _ | refine Below.drew ?_ | refine bdrewN ?_ _ | refine Below.setCell ?_ (by first | exact Nat.le_refl _ | (simp; done) | (simp; omega) | omega) _ | refine Below.alloc ?_ (by first | exact Nat.le_refl _ | (simp; done) | (simp; omega) | omega) _)) hbw6; have zw6 := hBw6.size; have o0w6 : Own w6 (wa.heap.size) #[.bool true, .int .i64 0, .int .i64 0, .string ⟨#[]⟩, .bool false, .int .i64 0, .int .i64 1, .int .i64 1, .int .i64 (btm 3), .int .i64 1, .slice up 3 uc] := Own.keep (by with_reducible (repeat' first | assumption | refine Own.drew ?_ | refine Own.drewN ?_ _ | (refine Own.at ?_; first | rfl | (simp; done)) | refine Own.past ?_ _)) hbw6; have c0 := o0w6.cell; have f0 := o0w6.fro; have l0 := o0w6.lt; have hAw6 : Below wa.heap.size wa w6 := bup (by with_reducible (repeat' first | assumption | exact Below.refl _ _ | refine Below.drew ?_ | refine bdrewN ?_ _ | refine Below.setCell ?_ (by first | exact Nat.le_refl _ | (simp; done) | (simp; omega) | omega) _ | refine Below.alloc ?_ (by first | exact Nat.le_refl _ | (simp; done) | (simp; omega) | omega) _)) hbw6) | (go_at_call 41; clear t7; refine (knJ _).mono ?_; rintro e w7 ⟨rfl, hbw7⟩; have hBw7 : Below w.heap.size w w7 := bup (by with_reducible (repeat' first | assumption | exact Below.refl _ _ | refine Below.drew ?_ | refine bdrewN ?_ _ | refine Below.setCell ?_ (by first | exact Nat.le_refl _ | (simp; done) | (simp; omega) | omega) _ | refine Below.alloc ?_ (by first | exact Nat.le_refl _ | (simp; done) | (simp; omega) | omega) _)) hbw7; have zw7 := hBw7.size; have o0w7 : Own w7 (wa.heap.size) #[.bool true, .int .i64 0, .int .i64 0, .string ⟨#[]⟩, .bool false, .int .i64 0, .int .i64 1, .int .i64 1, .int .i64 (btm 3), .int .i64 1, .slice up 3 uc] := Own.keep (by with_reducible (repeat' first | assumption | refine Own.drew ?_ | refine Own.drewN ?_ _ | (refine Own.at ?_; first | rfl | (simp; done)) | refine Own.past ?_ _)) hbw7; have c0 := o0w7.cell; have f0 := o0w7.fro; have l0 := o0w7.lt; have hAw7 : Below wa.heap.size wa w7 := bup (by with_reducible (repeat' first | assumption | exact Below.refl _ _ | refine Below.drew ?_ | refine bdrewN ?_ _ | refine Below.setCell ?_ (by first | exact Nat.le_refl _ | (simp; done) | (simp; omega) | omega) _ | refine Below.alloc ?_ (by first | exact Nat.le_refl _ | (simp; done) | (simp; omega) | omega) _)) hbw7) | (go_at_call 41; clear t8; refine (knL _).mono ?_; rintro e w8 ⟨rfl, hbw8⟩; have hBw8 : Below w.heap.size w w8 := bup (by with_reducible (repeat' first | assumption | exact Below.refl _ _ | refine Below.drew ?_ | refine bdrewN ?_ _ | refine Below.setCell ?_ (by first | exact Nat.le_refl _ | (simp; done) | (simp; omega) | omega) _ | refine Below.alloc ?_ (by first | exact Nat.le_refl _ | (simp; done) | (simp; omega) | omega) _)) hbw8; have zw8 := hBw8.size; have o0w8 : Own w8 (wa.heap.size) #[.bool true, .int .i64 0, .int .i64 0, .string ⟨#[]⟩, .bool false, .int .i64 0, .int .i64 1, .int .i64 1, .int .i64 (btm 3), .int .i64 1, .slice up 3 uc] := Own.keep (by with_reducible (repeat' first | assumption | refine Own.drew ?_ | refine Own.drewN ?_ _ | (refine Own.at ?_; first | rfl | (simp; done)) | refine Own.past ?_ _)) hbw8; have c0 := o0w8.cell; have f0 := o0w8.fro; have l0 := o0w8.lt; have hAw8 : Below wa.heap.size wa w8 := bup (by with_reducible (repeat' first | assumption | exact Below.refl _ _ | refine Below.drew ?_ | refine bdrewN ?_ _ | refine Below.setCell ?_ (by first | exact Nat.le_refl _ | (simp; done) | (simp; omega) | omega) _ | refine Below.alloc ?_ (by first | exact Nat.le_refl _ | (simp; done) | (simp; omega) | omega) _)) hbw8))
  go_wp2
  exact bodyPost_ret (v := .bool true) (by simp [results, Tryz.results8, go_sem]) rfl ⟨rfl, by with_reducible (repeat' first | assumption | exact Below.refl _ _ | refine Below.drew ?_ | refine bdrewN ?_ _ | refine Below.setCell ?_ (by first | exact Nat.le_refl _ | (simp; done) | (simp; omega) | omega) _ | refine Below.alloc ?_ (by first | exact Nat.le_refl _ | (simp; done) | (simp; omega) | omega) _)⟩
end Go.Proofs.YtbpbocgbfeblmaaGreatDoor
namespace Go.Proofs.YtbpbocgbfeblmaaGreatDoor
open Go.RowKit
set_option linter.all false
def dkI (k : Nat) : ByteArray := [⟨#[120]⟩, ⟨#[120]⟩, ⟨#[120]⟩, ⟨#[120]⟩, ⟨#[120]⟩, ⟨#[120]⟩, ⟨#[120]⟩, ⟨#[120]⟩, ⟨#[114]⟩, ⟨#[114, 118]⟩, ⟨#[114, 118, 114]⟩, ⟨#[118, 114]⟩, ⟨#[118, 114, 114]⟩, ⟨#[114, 118, 118]⟩, ⟨#[114, 118]⟩, ⟨#[118, 120]⟩, ⟨#[114]⟩, ⟨#[114]⟩].getD k ⟨#[]⟩
def dlI (k : Nat) : Int := [1, 1, 1, 1, 1, 1, 1, 1, 1, 2, 3, 2, 3, 3, 2, 2, 1, 1].getD k 0
def dhI (k : Nat) : Int := [16, 16, 16, 16, 16, 16, 16, 16, 1, 2, 3, 2, 3, 3, 2, 16, 1, 1].getD k 0
theorem wants_0 (w : World) : Calls Tryz.prog 56 #[.string ⟨#[83, 85, 77]⟩] w fun e w' => e = .returned (.tuple #[.string ⟨#[120]⟩, .int .i64 1, .int .i64 16]) ∧ w' = w := by
  go_enter Tryz.func56, Tryz.ntmps56
  go_wp2
  exact bodyPost_ret (v := .tuple #[.string ⟨#[120]⟩, .int .i64 1, .int .i64 16]) (by simp [results, Tryz.results56, go_sem]) rfl ⟨rfl, rfl⟩
theorem wants_1 (w : World) : Calls Tryz.prog 56 #[.string ⟨#[80, 82, 79, 68]⟩] w fun e w' => e = .returned (.tuple #[.string ⟨#[120]⟩, .int .i64 1, .int .i64 16]) ∧ w' = w := by
  go_enter Tryz.func56, Tryz.ntmps56
  go_wp2
  exact bodyPost_ret (v := .tuple #[.string ⟨#[120]⟩, .int .i64 1, .int .i64 16]) (by simp [results, Tryz.results56, go_sem]) rfl ⟨rfl, rfl⟩
theorem wants_2 (w : World) : Calls Tryz.prog 56 #[.string ⟨#[77, 73, 78]⟩] w fun e w' => e = .returned (.tuple #[.string ⟨#[120]⟩, .int .i64 1, .int .i64 16]) ∧ w' = w := by
  go_enter Tryz.func56, Tryz.ntmps56
  go_wp2
  exact bodyPost_ret (v := .tuple #[.string ⟨#[120]⟩, .int .i64 1, .int .i64 16]) (by simp [results, Tryz.results56, go_sem]) rfl ⟨rfl, rfl⟩
theorem wants_3 (w : World) : Calls Tryz.prog 56 #[.string ⟨#[77, 65, 88]⟩] w fun e w' => e = .returned (.tuple #[.string ⟨#[120]⟩, .int .i64 1, .int .i64 16]) ∧ w' = w := by
  go_enter Tryz.func56, Tryz.ntmps56
  go_wp2
  exact bodyPost_ret (v := .tuple #[.string ⟨#[120]⟩, .int .i64 1, .int .i64 16]) (by simp [results, Tryz.results56, go_sem]) rfl ⟨rfl, rfl⟩
theorem wants_4 (w : World) : Calls Tryz.prog 56 #[.string ⟨#[65, 86, 71]⟩] w fun e w' => e = .returned (.tuple #[.string ⟨#[120]⟩, .int .i64 1, .int .i64 16]) ∧ w' = w := by
  go_enter Tryz.func56, Tryz.ntmps56
  go_wp2
  exact bodyPost_ret (v := .tuple #[.string ⟨#[120]⟩, .int .i64 1, .int .i64 16]) (by simp [results, Tryz.results56, go_sem]) rfl ⟨rfl, rfl⟩
theorem wants_5 (w : World) : Calls Tryz.prog 56 #[.string ⟨#[77, 69, 68, 73, 65, 78]⟩] w fun e w' => e = .returned (.tuple #[.string ⟨#[120]⟩, .int .i64 1, .int .i64 16]) ∧ w' = w := by
  go_enter Tryz.func56, Tryz.ntmps56
  go_wp2
  exact bodyPost_ret (v := .tuple #[.string ⟨#[120]⟩, .int .i64 1, .int .i64 16]) (by simp [results, Tryz.results56, go_sem]) rfl ⟨rfl, rfl⟩
theorem wants_6 (w : World) : Calls Tryz.prog 56 #[.string ⟨#[67, 79, 85, 78, 84]⟩] w fun e w' => e = .returned (.tuple #[.string ⟨#[120]⟩, .int .i64 1, .int .i64 16]) ∧ w' = w := by
  go_enter Tryz.func56, Tryz.ntmps56
  go_wp2
  exact bodyPost_ret (v := .tuple #[.string ⟨#[120]⟩, .int .i64 1, .int .i64 16]) (by simp [results, Tryz.results56, go_sem]) rfl ⟨rfl, rfl⟩
theorem wants_7 (w : World) : Calls Tryz.prog 56 #[.string ⟨#[67, 79, 85, 78, 84, 65]⟩] w fun e w' => e = .returned (.tuple #[.string ⟨#[120]⟩, .int .i64 1, .int .i64 16]) ∧ w' = w := by
  go_enter Tryz.func56, Tryz.ntmps56
  go_wp2
  exact bodyPost_ret (v := .tuple #[.string ⟨#[120]⟩, .int .i64 1, .int .i64 16]) (by simp [results, Tryz.results56, go_sem]) rfl ⟨rfl, rfl⟩
theorem wants_8 (w : World) : Calls Tryz.prog 56 #[.string ⟨#[66, 76, 65, 78, 75, 83]⟩] w fun e w' => e = .returned (.tuple #[.string ⟨#[114]⟩, .int .i64 1, .int .i64 1]) ∧ w' = w := by
  go_enter Tryz.func56, Tryz.ntmps56
  go_wp2
  exact bodyPost_ret (v := .tuple #[.string ⟨#[114]⟩, .int .i64 1, .int .i64 1]) (by simp [results, Tryz.results56, go_sem]) rfl ⟨rfl, rfl⟩
theorem wants_9 (w : World) : Calls Tryz.prog 56 #[.string ⟨#[67, 79, 85, 78, 84, 73, 70]⟩] w fun e w' => e = .returned (.tuple #[.string ⟨#[114, 118]⟩, .int .i64 2, .int .i64 2]) ∧ w' = w := by
  go_enter Tryz.func56, Tryz.ntmps56
  go_wp2
  exact bodyPost_ret (v := .tuple #[.string ⟨#[114, 118]⟩, .int .i64 2, .int .i64 2]) (by simp [results, Tryz.results56, go_sem]) rfl ⟨rfl, rfl⟩
theorem wants_10 (w : World) : Calls Tryz.prog 56 #[.string ⟨#[83, 85, 77, 73, 70]⟩] w fun e w' => e = .returned (.tuple #[.string ⟨#[114, 118, 114]⟩, .int .i64 3, .int .i64 3]) ∧ w' = w := by
  go_enter Tryz.func56, Tryz.ntmps56
  go_wp2
  exact bodyPost_ret (v := .tuple #[.string ⟨#[114, 118, 114]⟩, .int .i64 3, .int .i64 3]) (by simp [results, Tryz.results56, go_sem]) rfl ⟨rfl, rfl⟩
theorem wants_11 (w : World) : Calls Tryz.prog 56 #[.string ⟨#[77, 65, 84, 67, 72]⟩] w fun e w' => e = .returned (.tuple #[.string ⟨#[118, 114]⟩, .int .i64 2, .int .i64 2]) ∧ w' = w := by
  go_enter Tryz.func56, Tryz.ntmps56
  go_wp2
  exact bodyPost_ret (v := .tuple #[.string ⟨#[118, 114]⟩, .int .i64 2, .int .i64 2]) (by simp [results, Tryz.results56, go_sem]) rfl ⟨rfl, rfl⟩
theorem wants_12 (w : World) : Calls Tryz.prog 56 #[.string ⟨#[76, 79, 79, 75, 85, 80]⟩] w fun e w' => e = .returned (.tuple #[.string ⟨#[118, 114, 114]⟩, .int .i64 3, .int .i64 3]) ∧ w' = w := by
  go_enter Tryz.func56, Tryz.ntmps56
  go_wp2
  exact bodyPost_ret (v := .tuple #[.string ⟨#[118, 114, 114]⟩, .int .i64 3, .int .i64 3]) (by simp [results, Tryz.results56, go_sem]) rfl ⟨rfl, rfl⟩
theorem wants_13 (w : World) : Calls Tryz.prog 56 #[.string ⟨#[73, 78, 68, 69, 88]⟩] w fun e w' => e = .returned (.tuple #[.string ⟨#[114, 118, 118]⟩, .int .i64 3, .int .i64 3]) ∧ w' = w := by
  go_enter Tryz.func56, Tryz.ntmps56
  go_wp2
  exact bodyPost_ret (v := .tuple #[.string ⟨#[114, 118, 118]⟩, .int .i64 3, .int .i64 3]) (by simp [results, Tryz.results56, go_sem]) rfl ⟨rfl, rfl⟩
theorem wants_14 (w : World) : Calls Tryz.prog 56 #[.string ⟨#[76, 65, 82, 71, 69]⟩] w fun e w' => e = .returned (.tuple #[.string ⟨#[114, 118]⟩, .int .i64 2, .int .i64 2]) ∧ w' = w := by
  go_enter Tryz.func56, Tryz.ntmps56
  go_wp2
  exact bodyPost_ret (v := .tuple #[.string ⟨#[114, 118]⟩, .int .i64 2, .int .i64 2]) (by simp [results, Tryz.results56, go_sem]) rfl ⟨rfl, rfl⟩
theorem wants_15 (w : World) : Calls Tryz.prog 56 #[.string ⟨#[74, 79, 73, 78]⟩] w fun e w' => e = .returned (.tuple #[.string ⟨#[118, 120]⟩, .int .i64 2, .int .i64 16]) ∧ w' = w := by
  go_enter Tryz.func56, Tryz.ntmps56
  go_wp2
  exact bodyPost_ret (v := .tuple #[.string ⟨#[118, 120]⟩, .int .i64 2, .int .i64 16]) (by simp [results, Tryz.results56, go_sem]) rfl ⟨rfl, rfl⟩
theorem wants_16 (w : World) : Calls Tryz.prog 56 #[.string ⟨#[82, 79, 87, 83]⟩] w fun e w' => e = .returned (.tuple #[.string ⟨#[114]⟩, .int .i64 1, .int .i64 1]) ∧ w' = w := by
  go_enter Tryz.func56, Tryz.ntmps56
  go_wp2
  exact bodyPost_ret (v := .tuple #[.string ⟨#[114]⟩, .int .i64 1, .int .i64 1]) (by simp [results, Tryz.results56, go_sem]) rfl ⟨rfl, rfl⟩
theorem wants_17 (w : World) : Calls Tryz.prog 56 #[.string ⟨#[67, 79, 76, 83]⟩] w fun e w' => e = .returned (.tuple #[.string ⟨#[114]⟩, .int .i64 1, .int .i64 1]) ∧ w' = w := by
  go_enter Tryz.func56, Tryz.ntmps56
  go_wp2
  exact bodyPost_ret (v := .tuple #[.string ⟨#[114]⟩, .int .i64 1, .int .i64 1]) (by simp [results, Tryz.results56, go_sem]) rfl ⟨rfl, rfl⟩
theorem wants_no0 (s : ByteArray) (w : World) (h0 : (s.toList == [83, 85, 77]) = false) (h1 : (s.toList == [80, 82, 79, 68]) = false) (h2 : (s.toList == [77, 73, 78]) = false) (h3 : (s.toList == [77, 65, 88]) = false) (h4 : (s.toList == [65, 86, 71]) = false) (h5 : (s.toList == [77, 69, 68, 73, 65, 78]) = false) (h6 : (s.toList == [67, 79, 85, 78, 84]) = false) (h7 : (s.toList == [67, 79, 85, 78, 84, 65]) = false) (h8 : (s.toList == [66, 76, 65, 78, 75, 83]) = false) (h9 : (s.toList == [67, 79, 85, 78, 84, 73, 70]) = false) (h10 : (s.toList == [83, 85, 77, 73, 70]) = false) (h11 : (s.toList == [77, 65, 84, 67, 72]) = false) (h12 : (s.toList == [76, 79, 79, 75, 85, 80]) = false) (h13 : (s.toList == [73, 78, 68, 69, 88]) = false) (h14 : (s.toList == [76, 65, 82, 71, 69]) = false) (h15 : (s.toList == [74, 79, 73, 78]) = false) (h16 : (s.toList == [82, 79, 87, 83]) = false) (h17 : (s.toList == [67, 79, 76, 83]) = false) : Calls Tryz.prog 56 #[.string s] w fun e w' => e = .returned (.tuple #[.string ⟨#[]⟩, .int .i64 0, .int .i64 (-1)]) ∧ w' = w := by
  go_enter Tryz.func56, Tryz.ntmps56
  go_wp2
  exact bodyPost_ret (v := .tuple #[.string ⟨#[]⟩, .int .i64 0, .int .i64 (-1)]) (by simp [results, Tryz.results56, go_sem]) rfl ⟨rfl, rfl⟩
theorem wants_no (s : ByteArray) (w : World) (h : ¬ nmI s < 18) : Calls Tryz.prog 56 #[.string s] w fun e w' => e = .returned (.tuple #[.string ⟨#[]⟩, .int .i64 0, .int .i64 (-1)]) ∧ w' = w := by
  have h18 : nmI s = 18 := by have := nm_le s; omega
  exact wants_no0 s w (nm_f (nm_no h18 _ (by decide))) (nm_f (nm_no h18 _ (by decide))) (nm_f (nm_no h18 _ (by decide))) (nm_f (nm_no h18 _ (by decide))) (nm_f (nm_no h18 _ (by decide))) (nm_f (nm_no h18 _ (by decide))) (nm_f (nm_no h18 _ (by decide))) (nm_f (nm_no h18 _ (by decide))) (nm_f (nm_no h18 _ (by decide))) (nm_f (nm_no h18 _ (by decide))) (nm_f (nm_no h18 _ (by decide))) (nm_f (nm_no h18 _ (by decide))) (nm_f (nm_no h18 _ (by decide))) (nm_f (nm_no h18 _ (by decide))) (nm_f (nm_no h18 _ (by decide))) (nm_f (nm_no h18 _ (by decide))) (nm_f (nm_no h18 _ (by decide))) (nm_f (nm_no h18 _ (by decide)))
theorem wants_any (s : ByteArray) (w : World) (h : nmI s < 18) : Calls Tryz.prog 56 #[.string s] w fun e w' => e = .returned (.tuple #[.string (dkI (nmI s)), .int .i64 (dlI (nmI s)), .int .i64 (dhI (nmI s))]) ∧ w' = w := by
  have e := nm_at h
  generalize nmI s = k at h e ⊢
  subst e
  match k, h with
  | 0, _ => exact wants_0 w
  | 1, _ => exact wants_1 w
  | 2, _ => exact wants_2 w
  | 3, _ => exact wants_3 w
  | 4, _ => exact wants_4 w
  | 5, _ => exact wants_5 w
  | 6, _ => exact wants_6 w
  | 7, _ => exact wants_7 w
  | 8, _ => exact wants_8 w
  | 9, _ => exact wants_9 w
  | 10, _ => exact wants_10 w
  | 11, _ => exact wants_11 w
  | 12, _ => exact wants_12 w
  | 13, _ => exact wants_13 w
  | 14, _ => exact wants_14 w
  | 15, _ => exact wants_15 w
  | 16, _ => exact wants_16 w
  | 17, _ => exact wants_17 w
  | j + 18, h => exact absurd h (by omega)
theorem dh_pos (k : Nat) (h : k < 18) : (0 : Int) < dhI k := by
  match k, h with
  | 0, _ => exact (by decide)
  | 1, _ => exact (by decide)
  | 2, _ => exact (by decide)
  | 3, _ => exact (by decide)
  | 4, _ => exact (by decide)
  | 5, _ => exact (by decide)
  | 6, _ => exact (by decide)
  | 7, _ => exact (by decide)
  | 8, _ => exact (by decide)
  | 9, _ => exact (by decide)
  | 10, _ => exact (by decide)
  | 11, _ => exact (by decide)
  | 12, _ => exact (by decide)
  | 13, _ => exact (by decide)
  | 14, _ => exact (by decide)
  | 15, _ => exact (by decide)
  | 16, _ => exact (by decide)
  | 17, _ => exact (by decide)
  | j + 18, h => exact absurd h (by omega)
end Go.Proofs.YtbpbocgbfeblmaaGreatDoor
