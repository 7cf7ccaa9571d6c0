/- The walk of the law AggsPlaces where there is nothing to tell: no rectangle, none that may be, or one without entries. New memory alone is made. -/
import Derived.Test.YtcgcnpcimfaecaaGreatDoorQGM6
import Derived.Test.YtcgcnpcimfaecaaGreatDoorQGX3
import Derived.Test.YtcgcnpcimfaecaaGreatDoorQGA2
import Derived.Test.YtcgcnpcimfaecaaGreatDoorQGK2
namespace Go.Proofs.YtcgcnpcimfaecaaGreatDoor
open Go.RowKit
set_option linter.all false
set_option maxRecDepth 100000 in
theorem places_f (t n : Int) (s : ByteArray) (b : Bool) (c r0 r1 r2 r3 : Int) (ep : Option Addr) (en ec : Nat) (es : List En) (wh : Int) (w : World) : Calls Tryz.prog 8 #[.agg #[.bool false, .int .i64 t, .int .i64 n, .string s, .bool b, .int .i64 c, .int .i64 r0, .int .i64 r1, .int .i64 r2, .int .i64 r3, .slice ep en ec], .int .i64 wh] w fun e w' => e = .returned (.bool true) ∧ Below w.heap.size w w' := by
  go_enter Tryz.func8, Tryz.ntmps8
  go_wp2_with (go_at_call 11; refine (known_law _).mono ?_; rintro e wk ⟨rfl, hbwk⟩; have hBwk : Below w.heap.size w wk := bup (by with_reducible (repeat' first | assumption | exact Below.refl _ _ | refine Below.drew ?_ | refine bdrewN ?_ _ | refine Below.setCell ?_ (by first | exact Nat.le_refl _ | (simp; done) | (simp; omega) | omega) _ | refine Below.alloc ?_ (by first | exact Nat.le_refl _ | (simp; done) | (simp; omega) | omega) _)) hbwk; have zwk := hBwk.size; have o0wk : Own wk (w.heap.size) #[.bool false, .int .i64 t, .int .i64 n, .string s, .bool b, .int .i64 c, .int .i64 r0, .int .i64 r1, .int .i64 r2, .int .i64 r3, .slice ep en ec] := Own.keep (by with_reducible (repeat' first | assumption | refine Own.drew ?_ | refine Own.drewN ?_ _ | (refine Own.at ?_; first | rfl | (simp; done)) | refine Own.past ?_ _)) hbwk; have c0 := o0wk.cell; have f0 := o0wk.fro; have l0 := o0wk.lt)
  go_ret
  exact ⟨rfl, by with_reducible (repeat' first | assumption | exact Below.refl _ _ | refine Below.drew ?_ | refine bdrewN ?_ _ | refine Below.setCell ?_ (by first | exact Nat.le_refl _ | (simp; done) | (simp; omega) | omega) _ | refine Below.alloc ?_ (by first | exact Nat.le_refl _ | (simp; done) | (simp; omega) | omega) _)⟩
set_option maxRecDepth 100000 in
theorem places_no (t n : Int) (s : ByteArray) (b : Bool) (c r0 r1 r2 r3 : Int) (ep : Option Addr) (en ec : Nat) (es : List En) (wh : Int) (w : World) (hV : Hid (View En.cells 7 w (.slice ep en ec) es)) (hN : Hid (∀ x ∈ es, I64 x.n)) (hl : es.length ≤ 9223372036854775807) (hm : mnB ((⟨true, t, n, s, b, c, r0, r1, r2, r3, ep, en, ec⟩ : Ag), es) = true) : Calls Tryz.prog 8 #[.agg #[.bool true, .int .i64 t, .int .i64 n, .string s, .bool b, .int .i64 c, .int .i64 r0, .int .i64 r1, .int .i64 r2, .int .i64 r3, .slice ep en ec], .int .i64 wh] w fun e w' => e = .returned (.bool true) ∧ Below w.heap.size w w' := by
  have ha := fun W (hb : Below w.heap.size w W) => darg_m (⟨true, t, n, s, b, c, r0, r1, r2, r3, ep, en, ec⟩ : Ag) es W rfl (View.keep hV.out hb) hN hl
  rw [hm] at ha
  go_enter Tryz.func8, Tryz.ntmps8
  go_wp2_with (first | (go_at_call 11; refine (known_law _).mono ?_; rintro e wk ⟨rfl, hbwk⟩; have hBwk : Below w.heap.size w wk := bup (by with_reducible (repeat' first | assumption | exact Below.refl _ _ | refine Below.drew ?_ | refine bdrewN ?_ _ | refine Below.setCell ?_ (by first | exact Nat.le_refl _ | (simp; done) | (simp; omega) | omega) _ | refine Below.alloc ?_ (by first | exact Nat.le_refl _ | (simp; done) | (simp; omega) | omega) _)) hbwk; have zwk := hBwk.size; have o0wk : Own wk (w.heap.size) #[.bool true, .int .i64 t, .int .i64 n, .string s, .bool b, .int .i64 c, .int .i64 r0, .int .i64 r1, .int .i64 r2, .int .i64 r3, .slice ep en ec] := Own.keep (by with_reducible (repeat' first | assumption | refine Own.drew ?_ | refine Own.drewN ?_ _ | (refine Own.at ?_; first | rfl | (simp; done)) | refine Own.past ?_ _)) hbwk; have c0 := o0wk.cell; have f0 := o0wk.fro; have l0 := o0wk.lt) | (go_at_call 21; refine (ha _ (by with_reducible (repeat' first | assumption | exact Below.refl _ _ | refine Below.drew ?_ | refine bdrewN ?_ _ | refine Below.setCell ?_ (by first | exact Nat.le_refl _ | (simp; done) | (simp; omega) | omega) _ | refine Below.alloc ?_ (by first | exact Nat.le_refl _ | (simp; done) | (simp; omega) | omega) _))).mono ?_; rintro e wb ⟨rfl, hbwb⟩; have hBwb : Below w.heap.size w wb := bup (by with_reducible (repeat' first | assumption | exact Below.refl _ _ | refine Below.drew ?_ | refine bdrewN ?_ _ | refine Below.setCell ?_ (by first | exact Nat.le_refl _ | (simp; done) | (simp; omega) | omega) _ | refine Below.alloc ?_ (by first | exact Nat.le_refl _ | (simp; done) | (simp; omega) | omega) _)) hbwb; have zwb := hBwb.size; have o0wb : Own wb (w.heap.size) #[.bool true, .int .i64 t, .int .i64 n, .string s, .bool b, .int .i64 c, .int .i64 r0, .int .i64 r1, .int .i64 r2, .int .i64 r3, .slice ep en ec] := Own.keep (by with_reducible (repeat' first | assumption | refine Own.drew ?_ | refine Own.drewN ?_ _ | (refine Own.at ?_; first | rfl | (simp; done)) | refine Own.past ?_ _)) hbwb; have c0 := o0wb.cell; have f0 := o0wb.fro; have l0 := o0wb.lt))
  go_ret
  exact ⟨rfl, by with_reducible (repeat' first | assumption | exact Below.refl _ _ | refine Below.drew ?_ | refine bdrewN ?_ _ | refine Below.setCell ?_ (by first | exact Nat.le_refl _ | (simp; done) | (simp; omega) | omega) _ | refine Below.alloc ?_ (by first | exact Nat.le_refl _ | (simp; done) | (simp; omega) | omega) _)⟩
set_option maxRecDepth 100000 in
theorem places_0 (t n : Int) (s : ByteArray) (b : Bool) (c r0 r1 r2 r3 : Int) (ep : Option Addr) (en ec : Nat) (es : List En) (wh : Int) (w : World) (hV : Hid (View En.cells 7 w (.slice ep en ec) es)) (hN : Hid (∀ x ∈ es, I64 x.n)) (hl : es.length ≤ 9223372036854775807) (hm : mnB ((⟨true, t, n, s, b, c, r0, r1, r2, r3, ep, en, ec⟩ : Ag), es) = false) (h0 : en = 0) : Calls Tryz.prog 8 #[.agg #[.bool true, .int .i64 t, .int .i64 n, .string s, .bool b, .int .i64 c, .int .i64 r0, .int .i64 r1, .int .i64 r2, .int .i64 r3, .slice ep en ec], .int .i64 wh] w fun e w' => e = .returned (.bool true) ∧ Below w.heap.size w w' := by
  have ha := fun W (hb : Below w.heap.size w W) => darg_m (⟨true, t, n, s, b, c, r0, r1, r2, r3, ep, en, ec⟩ : Ag) es W rfl (View.keep hV.out hb) hN hl
  rw [hm] at ha
  subst h0
  go_enter Tryz.func8, Tryz.ntmps8
  go_wp2_with (first | (go_at_call 11; refine (known_law _).mono ?_; rintro e wk ⟨rfl, hbwk⟩; have hBwk : Below w.heap.size w wk := bup (by with_reducible (repeat' first | assumption | exact Below.refl _ _ | refine Below.drew ?_ | refine bdrewN ?_ _ | refine Below.setCell ?_ (by first | exact Nat.le_refl _ | (simp; done) | (simp; omega) | omega) _ | refine Below.alloc ?_ (by first | exact Nat.le_refl _ | (simp; done) | (simp; omega) | omega) _)) hbwk; have zwk := hBwk.size; have o0wk : Own wk (w.heap.size) #[.bool true, .int .i64 t, .int .i64 n, .string s, .bool b, .int .i64 c, .int .i64 r0, .int .i64 r1, .int .i64 r2, .int .i64 r3, .slice ep 0 ec] := Own.keep (by with_reducible (repeat' first | assumption | refine Own.drew ?_ | refine Own.drewN ?_ _ | (refine Own.at ?_; first | rfl | (simp; done)) | refine Own.past ?_ _)) hbwk; have c0 := o0wk.cell; have f0 := o0wk.fro; have l0 := o0wk.lt) | (go_at_call 21; refine (ha _ (by with_reducible (repeat' first | assumption | exact Below.refl _ _ | refine Below.drew ?_ | refine bdrewN ?_ _ | refine Below.setCell ?_ (by first | exact Nat.le_refl _ | (simp; done) | (simp; omega) | omega) _ | refine Below.alloc ?_ (by first | exact Nat.le_refl _ | (simp; done) | (simp; omega) | omega) _))).mono ?_; rintro e wb ⟨rfl, hbwb⟩; have hBwb : Below w.heap.size w wb := bup (by with_reducible (repeat' first | assumption | exact Below.refl _ _ | refine Below.drew ?_ | refine bdrewN ?_ _ | refine Below.setCell ?_ (by first | exact Nat.le_refl _ | (simp; done) | (simp; omega) | omega) _ | refine Below.alloc ?_ (by first | exact Nat.le_refl _ | (simp; done) | (simp; omega) | omega) _)) hbwb; have zwb := hBwb.size; have o0wb : Own wb (w.heap.size) #[.bool true, .int .i64 t, .int .i64 n, .string s, .bool b, .int .i64 c, .int .i64 r0, .int .i64 r1, .int .i64 r2, .int .i64 r3, .slice ep 0 ec] := Own.keep (by with_reducible (repeat' first | assumption | refine Own.drew ?_ | refine Own.drewN ?_ _ | (refine Own.at ?_; first | rfl | (simp; done)) | refine Own.past ?_ _)) hbwb; have c0 := o0wb.cell; have f0 := o0wb.fro; have l0 := o0wb.lt))
  go_ret
  exact ⟨rfl, by with_reducible (repeat' first | assumption | exact Below.refl _ _ | refine Below.drew ?_ | refine bdrewN ?_ _ | refine Below.setCell ?_ (by first | exact Nat.le_refl _ | (simp; done) | (simp; omega) | omega) _ | refine Below.alloc ?_ (by first | exact Nat.le_refl _ | (simp; done) | (simp; omega) | omega) _)⟩
theorem av_own2 {W : World} {g : Nat} {a b : Ag} {A : Array Value} (h : Own W g A) (hA : A = a.cells ++ b.cells) : AV W (.slice (some ⟨g, 0, none⟩) 2 2) [a, b] := by
  subst hA
  refine ⟨_, _, rfl, Nat.le_refl _, fun _ => ⟨g, 0, rfl, h.lt, fun i x hi j hj => ?_⟩⟩
  have hl := (List.getElem?_eq_some_iff.1 hi).1
  simp at hl
  rw [Nat.zero_add, h.cell]
  match i, hl with
  | 0, _ =>
    simp at hi; subst hi
    rw [Nat.zero_mul, Nat.zero_add, Array.getElem?_append_left (by rw [Ag.csize]; omega)]
  | 1, _ =>
    simp at hi; subst hi
    rw [Nat.one_mul, Array.getElem?_append_right (by rw [Ag.csize]; omega), Ag.csize, Nat.add_sub_cancel_left]
theorem av_own3 {W : World} {g : Nat} {a b c : Ag} {A : Array Value} (h : Own W g A) (hA : A = a.cells ++ b.cells ++ c.cells) : AV W (.slice (some ⟨g, 0, none⟩) 3 3) [a, b, c] := by
  subst hA
  refine ⟨_, _, rfl, Nat.le_refl _, fun _ => ⟨g, 0, rfl, h.lt, fun i x hi j hj => ?_⟩⟩
  have hl := (List.getElem?_eq_some_iff.1 hi).1
  simp at hl
  rw [Nat.zero_add, h.cell]
  match i, hl with
  | 0, _ =>
    simp at hi; subst hi
    rw [Nat.zero_mul, Nat.zero_add, Array.getElem?_append_left (by rw [Array.size_append, Ag.csize]; omega), Array.getElem?_append_left (by rw [Ag.csize]; omega)]
  | 1, _ =>
    simp at hi; subst hi
    rw [Nat.one_mul, Array.getElem?_append_left (by rw [Array.size_append, Ag.csize, Ag.csize]; omega), Array.getElem?_append_right (by rw [Ag.csize]; omega), Ag.csize, Nat.add_sub_cancel_left]
  | 2, _ =>
    simp at hi; subst hi
    rw [Array.getElem?_append_right (by rw [Array.size_append, Ag.csize, Ag.csize]; omega), Array.size_append, Ag.csize, Ag.csize, show 2 * 11 + j - (11 + 11) = j by omega]
theorem neS (t n : Int) (s : ByteArray) (b : Bool) (c : Int) (w : World) : (binOp .neq 26 (.agg #[.int .i64 t, .int .i64 n, .string s, .bool b, .int .i64 c]) (.agg #[.int .i64 t, .int .i64 n, .string s, .bool b, .int .i64 c])).run Tryz.prog w = .ok (.bool false) w := by
  rw [run_neq_struct, run_equalIn_agg w 9999 26 _ _ (by kernel_rfl) (by kernel_rfl)]
  go_simp
theorem eqS (t n : Int) (s : ByteArray) (b : Bool) (c : Int) (w : World) : (binOp .eql 26 (.agg #[.int .i64 t, .int .i64 n, .string s, .bool b, .int .i64 c]) (.agg #[.int .i64 t, .int .i64 n, .string s, .bool b, .int .i64 c])).run Tryz.prog w = .ok (.bool true) w := by
  rw [eqv]
  unfold sameB
  simp
theorem via_ex {K : Exit → Act → World → Prop} {e : Exit} {a : Act} {W : World} (h : ∀ X, X = W → K e a X) : K e a W := h _ rfl
end Go.Proofs.YtcgcnpcimfaecaaGreatDoor
