/- SUM and LARGE of the law's column of three numbers. New memory alone is made. The law's known calls are answered as they must (package oriellaw10). New memory alone is made. -/
import Derived.Test.YtcgcnpcimfaecaaGreatDoorQGK1
import Derived.Test.YtcgcnpcimfaecaaGreatDoorQGC4
namespace Go.Proofs.YtcgcnpcimfaecaaGreatDoor
open Go.RowKit
set_option linter.all false
/-- The column of the law's own known calls. -/
def agC (p : Option Addr) (c : Nat) : Ag := ⟨true, 0, 0, ⟨#[]⟩, false, 0, 1, 1, 3, 1, p, 3, c⟩
def es3 : List En := colE [20000, 50000, 10000]
def sg2 : Ag := ⟨false, 1, 20000, ⟨#[]⟩, false, 0, 0, 0, 0, 0, none, 0, 0⟩
theorem callf_sum (args : Array Value) (W : World) : (callFunc 78 args).run Tryz.prog W = .ok (.enter 78 args) W := by kernel_rfl
theorem nm_sum : nmI ⟨#[83, 85, 77]⟩ = 0 := by decide
theorem nm_large : nmI ⟨#[76, 65, 82, 71, 69]⟩ = 14 := by decide
theorem mn_c (p : Option Addr) (c : Nat) : mnB (agC p c, es3) = false := by
  show (!vz5 0 0 ⟨#[]⟩ false 0 || !Ad.mayR 1 1 3 1 || !entsB 1 1 3 1 es3) = false
  decide
theorem nums_c (p : Option Addr) (c : Nat) : numsI (itms [(agC p c, es3)]) = [20000, 50000, 10000] := rfl
theorem first_c (p : Option Addr) (c : Nat) : firstI (itms [(agC p c, es3)]) = none := rfl
theorem first_c2 (p : Option Addr) (c : Nat) : firstI (itms [(agC p c, es3), (sg2, [])]) = none := rfl
theorem sum_call (W : World) (v : Value) (p : Option Addr) (c : Nat) (hv : AV W v [agC p c]) (hE : AgE W (agC p c, es3)) : Calls Tryz.prog 9 #[.string ⟨#[83, 85, 77]⟩, v, .int .i64 8] W fun e w' => e = .returned (.agg #[.int .i64 (1), .int .i64 (80000), .string ⟨#[]⟩, .bool false, .int .i64 (0)]) ∧ Below W.heap.size W w' := by
  have hE1 : ∀ q ∈ [(agC p c, es3)], AgE W q := fun q hq => by simp at hq; subst hq; exact hE
  refine c_an_cs ⟨#[83, 85, 77]⟩ W v 8 [(agC p c, es3)] hv (show Hid _ from fun a ha => by simp at ha; subst ha; exact (show I64 0 from ⟨by decide, by decide⟩)) (show 1 ≤ 1099511627776 by decide) hE1 (by rw [nm_sum]; decide) (by decide) (by decide)
    (by rw [nm_sum]; rfl) (by rw [List.any_cons, mn_c]; rfl) rfl (by rw [nm_sum]; rfl) (by rw [nm_sum]; rfl) (first_c p c) (by rw [nm_sum]; decide) 1 80000 ⟨#[]⟩ false 0 ?_
  intro W2 up um uc bb hW hAB hrow
  rw [nm_sum] at hAB ⊢
  have hv2 := View.keep hv hW
  obtain ⟨vq, vc, rfl, hcc, hf⟩ := hv2
  refine ofa_any 78 bb callf_sum W2 vq up _ vc um uc 8 [(agC p c, es3)] ⟨vq, vc, rfl, hcc, hf⟩ (show 1 ≤ 1099511627776 by decide) (show Hid _ from fun q hq => (hE1 q hq).keep hW) (show 3 ≤ 1099511627776 by decide) hAB 1 80000 ⟨#[]⟩ false 0 (show Hid _ from fun W3 q m c3 h => ?_)
  have hx := sum_any W3 q m c3 _ h.out.1 (by have := h.out.1.len; rw [nums_c] at this; simp at this; omega) (show Hid _ from fun x hx => by rw [nums_c] at hx; simp at hx; rcases hx with h | h | h <;> subst h <;> exact ⟨by decide, by decide⟩)
  rw [nums_c] at hx
  exact hx.mono fun e w' ⟨he, hb⟩ => ⟨he, Mut.below (Mut.refl _ _) hb⟩
theorem srt_3 : (srt [20000, 50000, 10000])[1]? = some 20000 := by unfold srt; simp [List.mergeSort, List.MergeSort.Internal.splitInTwo]
theorem view_first {w : World} {q : Option Addr} {n c : Nat} {a b : Ag} (h : AV w (.slice q n c) [a, b]) : ∃ ab ao, q = some ⟨ab, ao, none⟩ ∧ n = 2 ∧ 2 ≤ c ∧ AV w (.slice (some ⟨ab, ao, none⟩) 1 c) [a] := by
  obtain ⟨p, c', e, hc, hf⟩ := h
  injection e with e1 e2 e3
  subst e1 e2 e3
  obtain ⟨ab, ao, rfl, hl, hcell⟩ := hf (by simp)
  refine ⟨ab, ao, rfl, rfl, hc, _, _, rfl, ?_, fun _ => ⟨ab, ao, rfl, hl, fun i x hi j hj => ?_⟩⟩
  · exact Nat.le_trans (by decide : 1 ≤ 2) hc
  · have h0 : i = 0 := by
      have := (List.getElem?_eq_some_iff.1 hi).1
      simp at this; omega
    subst h0
    exact hcell 0 x (by simpa using hi) j hj
theorem large_call (W : World) (v : Value) (p : Option Addr) (c : Nat) (hv : AV W v [agC p c, sg2]) (hE : AgE W (agC p c, es3)) : Calls Tryz.prog 9 #[.string ⟨#[76, 65, 82, 71, 69]⟩, v, .int .i64 8] W fun e w' => e = .returned (.agg #[.int .i64 (1), .int .i64 (20000), .string ⟨#[]⟩, .bool false, .int .i64 (0)]) ∧ Below W.heap.size W w' := by
  have hEs : AgE W (sg2, []) := ⟨⟨none, 0, rfl, Nat.le_refl _, fun h => absurd h (by simp)⟩, fun x hx => (by cases hx), (show I64 20000 from ⟨by decide, by decide⟩), by simp⟩
  have hE1 : ∀ q ∈ [(agC p c, es3), (sg2, [])], AgE W q := fun q hq => by
    simp at hq
    rcases hq with h | h
    · subst h; exact hE
    · subst h; exact hEs
  refine c_an_ps ⟨#[76, 65, 82, 71, 69]⟩ W v 8 [(agC p c, es3), (sg2, [])] hv (show Hid _ from fun a ha => by
      simp at ha
      rcases ha with h | h
      · subst h; exact (show I64 0 from ⟨by decide, by decide⟩)
      · subst h; exact (show I64 20000 from ⟨by decide, by decide⟩)) (show 2 ≤ 1099511627776 by decide) hE1 (by rw [nm_large]; decide) (by decide) (by decide)
    (by rw [nm_large]; rfl) (by rw [List.any_cons, mn_c]; rfl) rfl (by rw [nm_large]; rfl) (by rw [nm_large]; rfl) (first_c2 p c) (by rw [nm_large]; decide) 1 20000 ⟨#[]⟩ false 0 ?_
  intro W2 up um uc hW hrow
  rw [nm_large] at hrow ⊢
  have hv2 := View.keep hv hW
  have hsl : ∃ q n c, v = .slice q n c := by obtain ⟨q, c, e, _⟩ := hv; exact ⟨q, _, c, e⟩
  obtain ⟨vq, vn, vc, rfl⟩ := hsl
  obtain ⟨ab, ao, rfl, rfl, hc2, hv1⟩ := view_first hv2
  have hr : Row icell 1 2 W2 0 (.slice up um uc) [2] := hrow.out
  rcases Row.two icell_size hr with ⟨_, e⟩ | ⟨g, cap, e, _, hgl, hcap, _, hcl, _⟩
  · cases e
  · injection e with e1 e2 e3
    subst e1 e2 e3
    have hk : W2.cell? ⟨g, 0, none⟩ = some (.int .i64 2) := by have := hcl 0 2 rfl 0 (by decide); simpa [icell] using this
    refine fg_ok W2 ab ao vc g 0 uc 8 2 [(agC p c, es3)] hv1 (show 1 ≤ 1099511627776 by decide) (show Hid _ from fun q hq => (hE1 q (by simp at hq ⊢; exact .inl hq)).keep hW) (show 3 ≤ 1099511627776 by decide) (by omega) (by omega) hgl hk (by decide) (show (2 : Int) ≤ 3 by decide) 1 20000 (show (1 : Int) = 3 - 2 by decide) (show Hid _ from srt_3) 1 20000 0 (show Hid _ from fun W3 => num_t 20000 W3 ⟨by decide, by decide⟩ (by decide)) (show Hid _ from fun W3 q m c3 h0 h => ?_)
    exact sort_row W3 _ q m c3 _ h.out.2.2 h0 (by have := h.out.1.len; rw [nums_c] at this; simp at this; omega)
end Go.Proofs.YtcgcnpcimfaecaaGreatDoor
namespace Go.Proofs.YtcgcnpcimfaecaaGreatDoor
open Go.RowKit
set_option linter.all false
theorem nums_lit (w : World) : NV (w.alloc (.cells #[.int .i64 20000, .int .i64 50000, .int .i64 10000] 2)) (some ⟨w.heap.size, 0, none⟩) 3 [20000, 50000, 10000] := by
  have h := Own.new w #[.int .i64 20000, .int .i64 50000, .int .i64 10000] 2
  refine ⟨rfl, fun _ => ⟨w.heap.size, 0, rfl, h.lt, fun i x hi => ?_⟩⟩
  rw [Nat.zero_add, h.cell i]
  have hl := (List.getElem?_eq_some_iff.1 hi).1
  simp at hl
  match i, hl with
  | 0, _ => simp at hi; subst hi; rfl
  | 1, _ => simp at hi; subst hi; rfl
  | 2, _ => simp at hi; subst hi; rfl
theorem row_view {w : World} {B : Nat} {p : Option Addr} {n c : Nat} {l : List En} (h : Row En.cells 7 51 w B (.slice p n c) l) (hn : l.length = n) : View En.cells 7 w (.slice p n c) l := by
  subst hn
  rcases Row.two En.csize h with ⟨e, hl⟩ | ⟨g, cap, e, _, hgl, hcap, _, hcl, _⟩
  · subst hl
    injection e with e1 _ e3
    exact ⟨p, c, rfl, by simp, fun h => absurd h (by simp)⟩
  · injection e with e1 _ e3
    subst e1 e3
    exact ⟨_, _, rfl, hcap, fun _ => ⟨g, 0, rfl, hgl, fun i x hi j hj => by rw [Nat.zero_add]; exact hcl i x hi j hj⟩⟩
theorem av_1 (w : World) (a : Ag) (T : TypeId) : AV (w.alloc (.cells a.cells T)) (.slice (some ⟨w.heap.size, 0, none⟩) 1 1) [a] := by
  have h := Own.new w a.cells T
  refine ⟨_, _, rfl, Nat.le_refl _, fun _ => ⟨w.heap.size, 0, rfl, h.lt, fun i x hi j hj => ?_⟩⟩
  have h0 : i = 0 := by have := (List.getElem?_eq_some_iff.1 hi).1; simp at this; omega
  subst h0
  simp at hi
  subst hi
  rw [Nat.zero_mul, Nat.zero_add, h.cell j]
theorem av_1d (w : World) (O : Obj) (a : Ag) (A : Array Value) (T : TypeId) (hA : A = a.cells) : AV ((w.alloc O).alloc (.cells A T)).drew (.slice (some ⟨w.heap.size + 1, 0, none⟩) 1 1) [a] := by
  subst hA
  have h := av_1 (w.alloc O) a T
  rw [show (w.alloc O).heap.size = w.heap.size + 1 from Array.size_push ..] at h
  exact View.keep h (Below.drew (Below.refl _ _))
theorem av_2 (w : World) (a b : Ag) (A : Array Value) (T : TypeId) (hA : A = a.cells ++ b.cells) : AV (w.alloc (.cells A T)) (.slice (some ⟨w.heap.size, 0, none⟩) 2 2) [a, b] := by
  subst hA
  have h := Own.new w (a.cells ++ b.cells) T
  refine ⟨_, _, rfl, Nat.le_refl _, fun _ => ⟨w.heap.size, 0, rfl, h.lt, fun i x hi j hj => ?_⟩⟩
  have hl := (List.getElem?_eq_some_iff.1 hi).1
  simp at hl
  rw [Nat.zero_add, h.cell]
  match i, hl with
  | 0, _ =>
    simp at hi; subst hi
    rw [Nat.zero_mul, Nat.zero_add, Array.getElem?_append_left (by rw [Ag.csize]; omega)]
  | 1, _ =>
    simp at hi; subst hi
    rw [Nat.one_mul, Array.getElem?_append_right (by rw [Ag.csize]; omega), Ag.csize, Nat.add_sub_cancel_left]
set_option maxRecDepth 100000 in
set_option maxHeartbeats 4000000 in
theorem known_law (w : World) : Calls Tryz.prog 11 #[] w fun e w' => e = .returned (.bool true) ∧ Below w.heap.size w w' := by
  have mixed : Tryz.prog.follows .mixedOrders = true := by kernel_rfl
  have knJ : ∀ W : World, Calls Tryz.prog 12 #[.string ⟨#[74, 79, 73, 78]⟩] W fun e w' => e = .returned (.bool true) ∧ Below W.heap.size W w' := fun W => (known_any ⟨#[74, 79, 73, 78]⟩ W).mono fun e w' ⟨he, hw⟩ => ⟨he.trans (by rw [show decide (nmI ⟨#[74, 79, 73, 78]⟩ < 18) = true by decide]), by rw [hw]; exact Below.refl _ _⟩
  have knL : ∀ W : World, Calls Tryz.prog 12 #[.string ⟨#[76, 69, 78]⟩] W fun e w' => e = .returned (.bool false) ∧ Below W.heap.size W w' := fun W => (known_any ⟨#[76, 69, 78]⟩ W).mono fun e w' ⟨he, hw⟩ => ⟨he.trans (by rw [show decide (nmI ⟨#[76, 69, 78]⟩ < 18) = false by decide]), by rw [hw]; exact Below.refl _ _⟩
  have t1 : True := trivial
  have t2 : True := trivial
  have t3 : True := trivial
  have t4 : True := trivial
  have t5 : True := trivial
  have t6 : True := trivial
  have t7 : True := trivial
  have t8 : True := trivial
  go_enter Tryz.func11, Tryz.ntmps11
  go_wp2_with (go_at_call 18; refine (col_any _ _ 3 3 [20000, 50000, 10000] (nums_lit _) (by decide)).mono ?_; rintro e wa ⟨⟨up, uc, rfl, hrw⟩, hbwa⟩; have hBwa : Below w.heap.size w wa := bup (by with_reducible (repeat' first | assumption | exact Below.refl _ _ | refine Below.drew ?_ | refine bdrewN ?_ _ | refine Below.setCell ?_ (by first | exact Nat.le_refl _ | (simp; done) | (simp; omega) | omega) _ | refine Below.alloc ?_ (by first | exact Nat.le_refl _ | (simp; done) | (simp; omega) | omega) _)) hbwa; have zwa := hBwa.size; have hEa : Hid (AgE wa (agC up uc, es3)) := (show AgE wa (agC up uc, es3) from ⟨row_view hrw.out rfl, (fun x hx => by simp [es3, colE, enAt] at hx; rcases hx with h | h | h <;> subst h <;> exact ⟨by decide, by decide⟩), (show I64 0 from ⟨by decide, by decide⟩), (show 3 ≤ 1099511627776 by decide)⟩))
  go_region_held3 (fun w' => w'.cell? ⟨wa.heap.size, 0, none⟩ = some (.bool true) ∧ w'.cell? ⟨wa.heap.size, 1, none⟩ = some (.int .i64 0) ∧ w'.cell? ⟨wa.heap.size, 2, none⟩ = some (.int .i64 0) ∧ w'.cell? ⟨wa.heap.size, 3, none⟩ = some (.string ⟨#[]⟩) ∧ w'.cell? ⟨wa.heap.size, 4, none⟩ = some (.bool false) ∧ w'.cell? ⟨wa.heap.size, 5, none⟩ = some (.int .i64 0) ∧ w'.cell? ⟨wa.heap.size, 6, none⟩ = some (.int .i64 1) ∧ w'.cell? ⟨wa.heap.size, 7, none⟩ = some (.int .i64 1) ∧ w'.cell? ⟨wa.heap.size, 8, none⟩ = some (.int .i64 (btm 3)) ∧ w'.cell? ⟨wa.heap.size, 9, none⟩ = some (.int .i64 1) ∧ w'.cell? ⟨wa.heap.size, 10, none⟩ = some (.slice up 3 uc)) ((repeat' apply And.intro) <;> (first | (go_keep; done) | (go_simp; done))) (first | (go_at_call 9; clear t1; refine (sum_call _ _ up uc (av_1d _ _ (agC up uc) _ _ rfl) (hEa.out.keep (by with_reducible (repeat' first | assumption | exact Below.refl _ _ | refine Below.drew ?_ | refine bdrewN ?_ _ | refine Below.setCell ?_ (by first | exact Nat.le_refl _ | (simp; done) | (simp; omega) | omega) _ | refine Below.alloc ?_ (by first | exact Nat.le_refl _ | (simp; done) | (simp; omega) | omega) _)))).mono ?_; rintro e w1 ⟨rfl, hbw1⟩; have hBw1 : Below w.heap.size w w1 := bup (by with_reducible (repeat' first | assumption | exact Below.refl _ _ | refine Below.drew ?_ | refine bdrewN ?_ _ | refine Below.setCell ?_ (by first | exact Nat.le_refl _ | (simp; done) | (simp; omega) | omega) _ | refine Below.alloc ?_ (by first | exact Nat.le_refl _ | (simp; done) | (simp; omega) | omega) _)) hbw1; have zw1 := hBw1.size; have o0w1 : Own w1 (wa.heap.size) #[.bool true, .int .i64 0, .int .i64 0, .string ⟨#[]⟩, .bool false, .int .i64 0, .int .i64 1, .int .i64 1, .int .i64 (btm 3), .int .i64 1, .slice up 3 uc] := Own.keep (by with_reducible (repeat' first | assumption | refine Own.drew ?_ | refine Own.drewN ?_ _ | (refine Own.at ?_; first | rfl | (simp; done)) | refine Own.past ?_ _)) hbw1; have c0 := o0w1.cell; have f0 := o0w1.fro; have l0 := o0w1.lt; have hAw1 : Below wa.heap.size wa w1 := bup (by with_reducible (repeat' first | assumption | exact Below.refl _ _ | refine Below.drew ?_ | refine bdrewN ?_ _ | refine Below.setCell ?_ (by first | exact Nat.le_refl _ | (simp; done) | (simp; omega) | omega) _ | refine Below.alloc ?_ (by first | exact Nat.le_refl _ | (simp; done) | (simp; omega) | omega) _)) hbw1) | (go_at_call 19; clear t2; refine (number_any _ _).mono ?_; rintro e w2 ⟨rfl, hbw2⟩; have hBw2 : Below w.heap.size w w2 := bup (by with_reducible (repeat' first | assumption | exact Below.refl _ _ | refine Below.drew ?_ | refine bdrewN ?_ _ | refine Below.setCell ?_ (by first | exact Nat.le_refl _ | (simp; done) | (simp; omega) | omega) _ | refine Below.alloc ?_ (by first | exact Nat.le_refl _ | (simp; done) | (simp; omega) | omega) _)) hbw2; have zw2 := hBw2.size; have o0w2 : Own w2 (wa.heap.size) #[.bool true, .int .i64 0, .int .i64 0, .string ⟨#[]⟩, .bool false, .int .i64 0, .int .i64 1, .int .i64 1, .int .i64 (btm 3), .int .i64 1, .slice up 3 uc] := Own.keep (by with_reducible (repeat' first | assumption | refine Own.drew ?_ | refine Own.drewN ?_ _ | (refine Own.at ?_; first | rfl | (simp; done)) | refine Own.past ?_ _)) hbw2; have c0 := o0w2.cell; have f0 := o0w2.fro; have l0 := o0w2.lt; have hAw2 : Below wa.heap.size wa w2 := bup (by with_reducible (repeat' first | assumption | exact Below.refl _ _ | refine Below.drew ?_ | refine bdrewN ?_ _ | refine Below.setCell ?_ (by first | exact Nat.le_refl _ | (simp; done) | (simp; omega) | omega) _ | refine Below.alloc ?_ (by first | exact Nat.le_refl _ | (simp; done) | (simp; omega) | omega) _)) hbw2) | (go_at_call 19; clear t3; refine (number_any _ _).mono ?_; rintro e w3 ⟨rfl, hbw3⟩; have hBw3 : Below w.heap.size w w3 := bup (by with_reducible (repeat' first | assumption | exact Below.refl _ _ | refine Below.drew ?_ | refine bdrewN ?_ _ | refine Below.setCell ?_ (by first | exact Nat.le_refl _ | (simp; done) | (simp; omega) | omega) _ | refine Below.alloc ?_ (by first | exact Nat.le_refl _ | (simp; done) | (simp; omega) | omega) _)) hbw3; have zw3 := hBw3.size; have o0w3 : Own w3 (wa.heap.size) #[.bool true, .int .i64 0, .int .i64 0, .string ⟨#[]⟩, .bool false, .int .i64 0, .int .i64 1, .int .i64 1, .int .i64 (btm 3), .int .i64 1, .slice up 3 uc] := Own.keep (by with_reducible (repeat' first | assumption | refine Own.drew ?_ | refine Own.drewN ?_ _ | (refine Own.at ?_; first | rfl | (simp; done)) | refine Own.past ?_ _)) hbw3; have c0 := o0w3.cell; have f0 := o0w3.fro; have l0 := o0w3.lt; have hAw3 : Below wa.heap.size wa w3 := bup (by with_reducible (repeat' first | assumption | exact Below.refl _ _ | refine Below.drew ?_ | refine bdrewN ?_ _ | refine Below.setCell ?_ (by first | exact Nat.le_refl _ | (simp; done) | (simp; omega) | omega) _ | refine Below.alloc ?_ (by first | exact Nat.le_refl _ | (simp; done) | (simp; omega) | omega) _)) hbw3) | (go_at_call 20; clear t4; refine (single_any _ _ _ _ _ _).mono ?_; rintro e w4 ⟨rfl, hbw4⟩; have hBw4 : Below w.heap.size w w4 := bup (by with_reducible (repeat' first | assumption | exact Below.refl _ _ | refine Below.drew ?_ | refine bdrewN ?_ _ | refine Below.setCell ?_ (by first | exact Nat.le_refl _ | (simp; done) | (simp; omega) | omega) _ | refine Below.alloc ?_ (by first | exact Nat.le_refl _ | (simp; done) | (simp; omega) | omega) _)) hbw4; have zw4 := hBw4.size; have o0w4 : Own w4 (wa.heap.size) #[.bool true, .int .i64 0, .int .i64 0, .string ⟨#[]⟩, .bool false, .int .i64 0, .int .i64 1, .int .i64 1, .int .i64 (btm 3), .int .i64 1, .slice up 3 uc] := Own.keep (by with_reducible (repeat' first | assumption | refine Own.drew ?_ | refine Own.drewN ?_ _ | (refine Own.at ?_; first | rfl | (simp; done)) | refine Own.past ?_ _)) hbw4; have c0 := o0w4.cell; have f0 := o0w4.fro; have l0 := o0w4.lt; have hAw4 : Below wa.heap.size wa w4 := bup (by with_reducible (repeat' first | assumption | exact Below.refl _ _ | refine Below.drew ?_ | refine bdrewN ?_ _ | refine Below.setCell ?_ (by first | exact Nat.le_refl _ | (simp; done) | (simp; omega) | omega) _ | refine Below.alloc ?_ (by first | exact Nat.le_refl _ | (simp; done) | (simp; omega) | omega) _)) hbw4) | (go_at_call 9; clear t5; refine (large_call _ _ up uc (av_2 _ (agC up uc) sg2 _ _ rfl) (hEa.out.keep (by with_reducible (repeat' first | assumption | exact Below.refl _ _ | refine Below.drew ?_ | refine bdrewN ?_ _ | refine Below.setCell ?_ (by first | exact Nat.le_refl _ | (simp; done) | (simp; omega) | omega) _ | refine Below.alloc ?_ (by first | exact Nat.le_refl _ | (simp; done) | (simp; omega) | omega) _)))).mono ?_; rintro e w5 ⟨rfl, hbw5⟩; have hBw5 : Below w.heap.size w w5 := bup (by with_reducible (repeat' first | assumption | exact Below.refl _ _ | refine Below.drew ?_ | refine bdrewN ?_ _ | refine Below.setCell ?_ (by first | exact Nat.le_refl _ | (simp; done) | (simp; omega) | omega) _ | refine Below.alloc ?_ (by first | exact Nat.le_refl _ | (simp; done) | (simp; omega) | omega) _)) hbw5; have zw5 := hBw5.size; have o0w5 : Own w5 (wa.heap.size) #[.bool true, .int .i64 0, .int .i64 0, .string ⟨#[]⟩, .bool false, .int .i64 0, .int .i64 1, .int .i64 1, .int .i64 (btm 3), .int .i64 1, .slice up 3 uc] := Own.keep (by with_reducible (repeat' first | assumption | refine Own.drew ?_ | refine Own.drewN ?_ _ | (refine Own.at ?_; first | rfl | (simp; done)) | refine Own.past ?_ _)) hbw5; have c0 := o0w5.cell; have f0 := o0w5.fro; have l0 := o0w5.lt; have hAw5 : Below wa.heap.size wa w5 := bup (by with_reducible (repeat' first | assumption | exact Below.refl _ _ | refine Below.drew ?_ | refine bdrewN ?_ _ | refine Below.setCell ?_ (by first | exact Nat.le_refl _ | (simp; done) | (simp; omega) | omega) _ | refine Below.alloc ?_ (by first | exact Nat.le_refl _ | (simp; done) | (simp; omega) | omega) _)) hbw5) | (go_at_call 19; clear t6; refine (number_any _ _).mono ?_; rintro e w6 ⟨rfl, hbw6⟩; have hBw6 : Below w.heap.size w w6 := bup (by with_reducible (repeat' first | assumption | exact Below.refl _ _ | refine Below.drew ?_ | refine bdrewN ?_ _ | refine Below.setCell ?_ (by first | exact Nat.le_refl _ | (simp; done) | (simp; omega) | omega) _ | refine Below.alloc ?_ (by first | exact Nat.le_refl _ | (simp; done) | (simp; omega) | omega) _)) hbw6; have zw6 := hBw6.size; have o0w6 : Own w6 (wa.heap.size) #[.bool true, .int .i64 0, .int .i64 0, .string ⟨#[]⟩, .bool false, .int .i64 0, .int .i64 1, .int .i64 1, .int .i64 (btm 3), .int .i64 1, .slice up 3 uc] := Own.keep (by with_reducible (repeat' first | assumption | refine Own.drew ?_ | refine Own.drewN ?_ _ | (refine Own.at ?_; first | rfl | (simp; done)) | refine Own.past ?_ _)) hbw6; have c0 := o0w6.cell; have f0 := o0w6.fro; have l0 := o0w6.lt; have hAw6 : Below wa.heap.size wa w6 := bup (by with_reducible (repeat' first | assumption | exact Below.refl _ _ | refine Below.drew ?_ | refine bdrewN ?_ _ | refine Below.setCell ?_ (by first | exact Nat.le_refl _ | (simp; done) | (simp; omega) | omega) _ | refine Below.alloc ?_ (by first | exact Nat.le_refl _ | (simp; done) | (simp; omega) | omega) _)) hbw6) | (go_at_call 12; clear t7; refine (knJ _).mono ?_; rintro e w7 ⟨rfl, hbw7⟩; have hBw7 : Below w.heap.size w w7 := bup (by with_reducible (repeat' first | assumption | exact Below.refl _ _ | refine Below.drew ?_ | refine bdrewN ?_ _ | refine Below.setCell ?_ (by first | exact Nat.le_refl _ | (simp; done) | (simp; omega) | omega) _ | refine Below.alloc ?_ (by first | exact Nat.le_refl _ | (simp; done) | (simp; omega) | omega) _)) hbw7; have zw7 := hBw7.size; have o0w7 : Own w7 (wa.heap.size) #[.bool true, .int .i64 0, .int .i64 0, .string ⟨#[]⟩, .bool false, .int .i64 0, .int .i64 1, .int .i64 1, .int .i64 (btm 3), .int .i64 1, .slice up 3 uc] := Own.keep (by with_reducible (repeat' first | assumption | refine Own.drew ?_ | refine Own.drewN ?_ _ | (refine Own.at ?_; first | rfl | (simp; done)) | refine Own.past ?_ _)) hbw7; have c0 := o0w7.cell; have f0 := o0w7.fro; have l0 := o0w7.lt; have hAw7 : Below wa.heap.size wa w7 := bup (by with_reducible (repeat' first | assumption | exact Below.refl _ _ | refine Below.drew ?_ | refine bdrewN ?_ _ | refine Below.setCell ?_ (by first | exact Nat.le_refl _ | (simp; done) | (simp; omega) | omega) _ | refine Below.alloc ?_ (by first | exact Nat.le_refl _ | (simp; done) | (simp; omega) | omega) _)) hbw7) | (go_at_call 12; clear t8; refine (knL _).mono ?_; rintro e w8 ⟨rfl, hbw8⟩; have hBw8 : Below w.heap.size w w8 := bup (by with_reducible (repeat' first | assumption | exact Below.refl _ _ | refine Below.drew ?_ | refine bdrewN ?_ _ | refine Below.setCell ?_ (by first | exact Nat.le_refl _ | (simp; done) | (simp; omega) | omega) _ | refine Below.alloc ?_ (by first | exact Nat.le_refl _ | (simp; done) | (simp; omega) | omega) _)) hbw8; have zw8 := hBw8.size; have o0w8 : Own w8 (wa.heap.size) #[.bool true, .int .i64 0, .int .i64 0, .string ⟨#[]⟩, .bool false, .int .i64 0, .int .i64 1, .int .i64 1, .int .i64 (btm 3), .int .i64 1, .slice up 3 uc] := Own.keep (by with_reducible (repeat' first | assumption | refine Own.drew ?_ | refine Own.drewN ?_ _ | (refine Own.at ?_; first | rfl | (simp; done)) | refine Own.past ?_ _)) hbw8; have c0 := o0w8.cell; have f0 := o0w8.fro; have l0 := o0w8.lt; have hAw8 : Below wa.heap.size wa w8 := bup (by with_reducible (repeat' first | assumption | exact Below.refl _ _ | refine Below.drew ?_ | refine bdrewN ?_ _ | refine Below.setCell ?_ (by first | exact Nat.le_refl _ | (simp; done) | (simp; omega) | omega) _ | refine Below.alloc ?_ (by first | exact Nat.le_refl _ | (simp; done) | (simp; omega) | omega) _)) hbw8))
  go_wp2
  exact bodyPost_ret (v := .bool true) (by simp [results, Tryz.results11, go_sem]) rfl ⟨rfl, by with_reducible (repeat' first | assumption | exact Below.refl _ _ | refine Below.drew ?_ | refine bdrewN ?_ _ | refine Below.setCell ?_ (by first | exact Nat.le_refl _ | (simp; done) | (simp; omega) | omega) _ | refine Below.alloc ?_ (by first | exact Nat.le_refl _ | (simp; done) | (simp; omega) | omega) _)⟩
end Go.Proofs.YtcgcnpcimfaecaaGreatDoor
