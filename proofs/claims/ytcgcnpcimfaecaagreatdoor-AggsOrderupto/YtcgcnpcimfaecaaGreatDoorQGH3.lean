/- The walk of the law AggsOrder: of any arguments. New memory alone is made. -/
import Derived.Test.YtcgcnpcimfaecaaGreatDoorQGH1
import Derived.Test.YtcgcnpcimfaecaaGreatDoorQGK2
import Derived.Test.YtcgcnpcimfaecaaGreatDoorQGY1
namespace Go.Proofs.YtcgcnpcimfaecaaGreatDoor
open Go.RowKit
set_option linter.all false
theorem any_t {L : List (Ag × List En)} (h : L.any mnB = true) : (!L.any mnB) = false := by rw [h]; rfl
theorem any_f {L : List (Ag × List En)} (h : L.any mnB = false) : (!L.any mnB) = true := by rw [h]; rfl
set_option maxRecDepth 100000 in
theorem order_no (w : World) (p : Option Addr) (n c : Nat) (L : List (Ag × List En)) (hv : Hid (AV w (.slice p n c) (L.map Prod.fst))) (hE : Hid (∀ q ∈ L, AgE w q)) (hn : L.length = n) (hl : n ≤ 1099511627776) (hm : L.any mnB = true) : Calls Tryz.prog 5 #[.slice p n c] w fun e w' => e = .returned (.bool true) ∧ Below w.heap.size w w' := by
  have HL : Hid (L.length = n) := hn
  clear hn
  have hm' := any_t hm
  clear hm
  go_enter Tryz.func5, Tryz.ntmps5
  go_wp2_with (first | (go_at_call 11; refine (known_law _).mono ?_; rintro e wk ⟨rfl, hbwk⟩; have hBwk : Below w.heap.size w wk := bup (by with_reducible (repeat' first | assumption | exact Below.refl _ _ | refine Below.drew ?_ | refine bdrewN ?_ _ | refine Below.setCell ?_ (by first | exact Nat.le_refl _ | (simp; done) | (simp; omega) | omega) _ | refine Below.alloc ?_ (by first | exact Nat.le_refl _ | (simp; done) | (simp; omega) | omega) _)) hbwk; have zwk := hBwk.size) | (go_at_call 16; refine (argsx_any _ _ L (View.keep hv.out (by with_reducible (repeat' first | assumption | exact Below.refl _ _ | refine Below.drew ?_ | refine bdrewN ?_ _ | refine Below.setCell ?_ (by first | exact Nat.le_refl _ | (simp; done) | (simp; omega) | omega) _ | refine Below.alloc ?_ (by first | exact Nat.le_refl _ | (simp; done) | (simp; omega) | omega) _))) (by rw [HL.out]; exact hl) (show Hid _ from fun q hq => (hE.out q hq).keep (by with_reducible (repeat' first | assumption | exact Below.refl _ _ | refine Below.drew ?_ | refine bdrewN ?_ _ | refine Below.setCell ?_ (by first | exact Nat.le_refl _ | (simp; done) | (simp; omega) | omega) _ | refine Below.alloc ?_ (by first | exact Nat.le_refl _ | (simp; done) | (simp; omega) | omega) _)))).mono ?_; rintro e wa ⟨⟨mv, rfl, hrw⟩, hbwa⟩; have hBwa : Below w.heap.size w wa := bup (by with_reducible (repeat' first | assumption | exact Below.refl _ _ | refine Below.drew ?_ | refine bdrewN ?_ _ | refine Below.setCell ?_ (by first | exact Nat.le_refl _ | (simp; done) | (simp; omega) | omega) _ | refine Below.alloc ?_ (by first | exact Nat.le_refl _ | (simp; done) | (simp; omega) | omega) _)) hbwa; have zwa := hBwa.size; rw [hm']))
  go_ret
  exact ⟨rfl, by with_reducible (repeat' first | assumption | exact Below.refl _ _ | refine Below.drew ?_ | refine bdrewN ?_ _ | refine Below.setCell ?_ (by first | exact Nat.le_refl _ | (simp; done) | (simp; omega) | omega) _ | refine Below.alloc ?_ (by first | exact Nat.le_refl _ | (simp; done) | (simp; omega) | omega) _)⟩
set_option maxRecDepth 100000 in
theorem order_f (w : World) (p : Option Addr) (n c : Nat) (L : List (Ag × List En)) (hv : Hid (AV w (.slice p n c) (L.map Prod.fst))) (hE : Hid (∀ q ∈ L, AgE w q)) (hn : L.length = n) (hl : n ≤ 1099511627776) (hm : L.any mnB = false) (hf : fltB L = true) : Calls Tryz.prog 5 #[.slice p n c] w fun e w' => e = .returned (.bool true) ∧ Below w.heap.size w w' := by
  have HL : Hid (L.length = n) := hn
  clear hn
  have hm' := any_f hm
  clear hm
  go_enter Tryz.func5, Tryz.ntmps5
  go_wp2_with (first | (go_at_call 11; refine (known_law _).mono ?_; rintro e wk ⟨rfl, hbwk⟩; have hBwk : Below w.heap.size w wk := bup (by with_reducible (repeat' first | assumption | exact Below.refl _ _ | refine Below.drew ?_ | refine bdrewN ?_ _ | refine Below.setCell ?_ (by first | exact Nat.le_refl _ | (simp; done) | (simp; omega) | omega) _ | refine Below.alloc ?_ (by first | exact Nat.le_refl _ | (simp; done) | (simp; omega) | omega) _)) hbwk; have zwk := hBwk.size) | (go_at_call 16; refine (argsx_any _ _ L (View.keep hv.out (by with_reducible (repeat' first | assumption | exact Below.refl _ _ | refine Below.drew ?_ | refine bdrewN ?_ _ | refine Below.setCell ?_ (by first | exact Nat.le_refl _ | (simp; done) | (simp; omega) | omega) _ | refine Below.alloc ?_ (by first | exact Nat.le_refl _ | (simp; done) | (simp; omega) | omega) _))) (by rw [HL.out]; exact hl) (show Hid _ from fun q hq => (hE.out q hq).keep (by with_reducible (repeat' first | assumption | exact Below.refl _ _ | refine Below.drew ?_ | refine bdrewN ?_ _ | refine Below.setCell ?_ (by first | exact Nat.le_refl _ | (simp; done) | (simp; omega) | omega) _ | refine Below.alloc ?_ (by first | exact Nat.le_refl _ | (simp; done) | (simp; omega) | omega) _)))).mono ?_; rintro e wa ⟨⟨mv, rfl, hrw⟩, hbwa⟩; have hBwa : Below w.heap.size w wa := bup (by with_reducible (repeat' first | assumption | exact Below.refl _ _ | refine Below.drew ?_ | refine bdrewN ?_ _ | refine Below.setCell ?_ (by first | exact Nat.le_refl _ | (simp; done) | (simp; omega) | omega) _ | refine Below.alloc ?_ (by first | exact Nat.le_refl _ | (simp; done) | (simp; omega) | omega) _)) hbwa; have zwa := hBwa.size; rw [hm']) | (go_at_call 17; refine (faulty_any _ _ L (View.keep hv.out (by with_reducible (repeat' first | assumption | exact Below.refl _ _ | refine Below.drew ?_ | refine bdrewN ?_ _ | refine Below.setCell ?_ (by first | exact Nat.le_refl _ | (simp; done) | (simp; omega) | omega) _ | refine Below.alloc ?_ (by first | exact Nat.le_refl _ | (simp; done) | (simp; omega) | omega) _))) (by rw [HL.out]; exact hl) (show Hid _ from fun q hq => (hE.out q hq).keep (by with_reducible (repeat' first | assumption | exact Below.refl _ _ | refine Below.drew ?_ | refine bdrewN ?_ _ | refine Below.setCell ?_ (by first | exact Nat.le_refl _ | (simp; done) | (simp; omega) | omega) _ | refine Below.alloc ?_ (by first | exact Nat.le_refl _ | (simp; done) | (simp; omega) | omega) _)))).mono ?_; rintro e wf ⟨rfl, hbwf⟩; have hBwf : Below w.heap.size w wf := bup (by with_reducible (repeat' first | assumption | exact Below.refl _ _ | refine Below.drew ?_ | refine bdrewN ?_ _ | refine Below.setCell ?_ (by first | exact Nat.le_refl _ | (simp; done) | (simp; omega) | omega) _ | refine Below.alloc ?_ (by first | exact Nat.le_refl _ | (simp; done) | (simp; omega) | omega) _)) hbwf; have zwf := hBwf.size; rw [hf]))
  go_ret
  exact ⟨rfl, by with_reducible (repeat' first | assumption | exact Below.refl _ _ | refine Below.drew ?_ | refine bdrewN ?_ _ | refine Below.setCell ?_ (by first | exact Nat.le_refl _ | (simp; done) | (simp; omega) | omega) _ | refine Below.alloc ?_ (by first | exact Nat.le_refl _ | (simp; done) | (simp; omega) | omega) _)⟩
set_option maxRecDepth 100000 in
theorem order_16 (w : World) (p : Option Addr) (n c : Nat) (L : List (Ag × List En)) (hv : Hid (AV w (.slice p n c) (L.map Prod.fst))) (hE : Hid (∀ q ∈ L, AgE w q)) (hn : L.length = n) (hl : n ≤ 1099511627776) (hm : L.any mnB = false) (hf : fltB L = false) (h16 : 16 < n) : Calls Tryz.prog 5 #[.slice p n c] w fun e w' => e = .returned (.bool true) ∧ Below w.heap.size w w' := by
  have HL : Hid (L.length = n) := hn
  clear hn
  have hm' := any_f hm
  have h16' : (16 : Int) < n := by omega
  clear hm
  go_enter Tryz.func5, Tryz.ntmps5
  go_wp2_with (first | (go_at_call 11; refine (known_law _).mono ?_; rintro e wk ⟨rfl, hbwk⟩; have hBwk : Below w.heap.size w wk := bup (by with_reducible (repeat' first | assumption | exact Below.refl _ _ | refine Below.drew ?_ | refine bdrewN ?_ _ | refine Below.setCell ?_ (by first | exact Nat.le_refl _ | (simp; done) | (simp; omega) | omega) _ | refine Below.alloc ?_ (by first | exact Nat.le_refl _ | (simp; done) | (simp; omega) | omega) _)) hbwk; have zwk := hBwk.size) | (go_at_call 16; refine (argsx_any _ _ L (View.keep hv.out (by with_reducible (repeat' first | assumption | exact Below.refl _ _ | refine Below.drew ?_ | refine bdrewN ?_ _ | refine Below.setCell ?_ (by first | exact Nat.le_refl _ | (simp; done) | (simp; omega) | omega) _ | refine Below.alloc ?_ (by first | exact Nat.le_refl _ | (simp; done) | (simp; omega) | omega) _))) (by rw [HL.out]; exact hl) (show Hid _ from fun q hq => (hE.out q hq).keep (by with_reducible (repeat' first | assumption | exact Below.refl _ _ | refine Below.drew ?_ | refine bdrewN ?_ _ | refine Below.setCell ?_ (by first | exact Nat.le_refl _ | (simp; done) | (simp; omega) | omega) _ | refine Below.alloc ?_ (by first | exact Nat.le_refl _ | (simp; done) | (simp; omega) | omega) _)))).mono ?_; rintro e wa ⟨⟨mv, rfl, hrw⟩, hbwa⟩; have hBwa : Below w.heap.size w wa := bup (by with_reducible (repeat' first | assumption | exact Below.refl _ _ | refine Below.drew ?_ | refine bdrewN ?_ _ | refine Below.setCell ?_ (by first | exact Nat.le_refl _ | (simp; done) | (simp; omega) | omega) _ | refine Below.alloc ?_ (by first | exact Nat.le_refl _ | (simp; done) | (simp; omega) | omega) _)) hbwa; have zwa := hBwa.size; rw [hm']) | (go_at_call 17; refine (faulty_any _ _ L (View.keep hv.out (by with_reducible (repeat' first | assumption | exact Below.refl _ _ | refine Below.drew ?_ | refine bdrewN ?_ _ | refine Below.setCell ?_ (by first | exact Nat.le_refl _ | (simp; done) | (simp; omega) | omega) _ | refine Below.alloc ?_ (by first | exact Nat.le_refl _ | (simp; done) | (simp; omega) | omega) _))) (by rw [HL.out]; exact hl) (show Hid _ from fun q hq => (hE.out q hq).keep (by with_reducible (repeat' first | assumption | exact Below.refl _ _ | refine Below.drew ?_ | refine bdrewN ?_ _ | refine Below.setCell ?_ (by first | exact Nat.le_refl _ | (simp; done) | (simp; omega) | omega) _ | refine Below.alloc ?_ (by first | exact Nat.le_refl _ | (simp; done) | (simp; omega) | omega) _)))).mono ?_; rintro e wf ⟨rfl, hbwf⟩; have hBwf : Below w.heap.size w wf := bup (by with_reducible (repeat' first | assumption | exact Below.refl _ _ | refine Below.drew ?_ | refine bdrewN ?_ _ | refine Below.setCell ?_ (by first | exact Nat.le_refl _ | (simp; done) | (simp; omega) | omega) _ | refine Below.alloc ?_ (by first | exact Nat.le_refl _ | (simp; done) | (simp; omega) | omega) _)) hbwf; have zwf := hBwf.size; rw [hf]))
  go_ret
  exact ⟨rfl, by with_reducible (repeat' first | assumption | exact Below.refl _ _ | refine Below.drew ?_ | refine bdrewN ?_ _ | refine Below.setCell ?_ (by first | exact Nat.le_refl _ | (simp; done) | (simp; omega) | omega) _ | refine Below.alloc ?_ (by first | exact Nat.le_refl _ | (simp; done) | (simp; omega) | omega) _)⟩
theorem drop_rev {α : Type} {l : List α} {q : Nat} {x : α} (h : l[q]? = some x) : (l.drop (q + 1)).reverse ++ [x] = (l.drop q).reverse := by
  obtain ⟨hq, e⟩ := List.getElem?_eq_some_iff.1 h
  rw [List.drop_eq_getElem_cons hq, e, List.reverse_cons]
theorem drop_revm {L : List (Ag × List En)} {q : Nat} {x : Ag × List En} (h : L[q]? = some x) : ((L.drop (q + 1)).reverse.map Prod.fst) ++ [x.1] = ((L.drop q).reverse.map Prod.fst) := by
  rw [← drop_rev h, List.map_append]; rfl
theorem ne_same (a b c : Int) (w : World) : (binOp .neq 26 (.agg #[.int .i64 a, .int .i64 b, .string ⟨#[]⟩, .bool false, .int .i64 c]) (.agg #[.int .i64 a, .int .i64 b, .string ⟨#[]⟩, .bool false, .int .i64 c])).run Tryz.prog w = .ok (.bool false) w := by
  rw [run_neq_struct, run_equalIn_agg w 9999 26 _ _ (by kernel_rfl) (by kernel_rfl)]
  go_simp
theorem names_at {W : World} {g : Nat} (h : Own W g #[.string ⟨#[83, 85, 77]⟩, .string ⟨#[77, 73, 78]⟩, .string ⟨#[77, 65, 88]⟩, .string ⟨#[65, 86, 71]⟩, .string ⟨#[77, 69, 68, 73, 65, 78]⟩, .string ⟨#[67, 79, 85, 78, 84]⟩, .string ⟨#[67, 79, 85, 78, 84, 65]⟩]) {k : Nat} (hk : k < 7) : W.cell? ⟨g, k, none⟩ = some (.string (odS k)) := by
  rw [h.cell k]
  match k, hk with
  | 0, _ => rfl
  | 1, _ => rfl
  | 2, _ => rfl
  | 3, _ => rfl
  | 4, _ => rfl
  | 5, _ => rfl
  | 6, _ => rfl
set_option maxRecDepth 100000 in
set_option maxHeartbeats 4000000 in
theorem order_ok (w : World) (p : Option Addr) (n c : Nat) (L : List (Ag × List En)) (hv : Hid (AV w (.slice p n c) (L.map Prod.fst))) (hE : Hid (∀ q ∈ L, AgE w q)) (hn : L.length = n) (hl : n ≤ 1099511627776) (hm : L.any mnB = false) (hf : fltB L = false) (h16 : n ≤ 16) (ht : Oa.tot L ≤ 1048576) : Calls Tryz.prog 5 #[.slice p n c] w fun e w' => e = .returned (.bool true) ∧ Below w.heap.size w w' := by
  have HL : Hid (L.length = n) := hn
  clear hn
  have hm' := any_f hm
  have h16' : ¬ (16 : Int) < n := by omega
  have HM : Hid (L.any mnB = false) := hm
  have HF : Hid (fltB L = false) := hf
  have HT : Hid (Oa.tot L ≤ 1048576) := ht
  clear hm ht
  obtain ⟨i0, hi, hz0, hz1, hz2⟩ := info_parts infoAg
  have HI : Hid _ := hi
  have HZ0 : Hid _ := hz0
  have HZ1 : Hid _ := hz1
  have HZ2 : Hid _ := hz2
  clear hi hz0 hz1 hz2
  have mixed : Tryz.prog.follows .mixedOrders = true := by kernel_rfl
  go_enter Tryz.func5, Tryz.ntmps5
  go_wp2_with (first | (go_at_call 11; refine (known_law _).mono ?_; rintro e wk ⟨rfl, hbwk⟩; have hBwk : Below w.heap.size w wk := bup (by with_reducible (repeat' first | assumption | exact Below.refl _ _ | refine Below.drew ?_ | refine bdrewN ?_ _ | refine Below.setCell ?_ (by first | exact Nat.le_refl _ | (simp; done) | (simp; omega) | omega) _ | refine Below.alloc ?_ (by first | exact Nat.le_refl _ | (simp; done) | (simp; omega) | omega) _)) hbwk; have zwk := hBwk.size) | (go_at_call 16; refine (argsx_any _ _ L (View.keep hv.out (by with_reducible (repeat' first | assumption | exact Below.refl _ _ | refine Below.drew ?_ | refine bdrewN ?_ _ | refine Below.setCell ?_ (by first | exact Nat.le_refl _ | (simp; done) | (simp; omega) | omega) _ | refine Below.alloc ?_ (by first | exact Nat.le_refl _ | (simp; done) | (simp; omega) | omega) _))) (by rw [HL.out]; exact hl) (show Hid _ from fun q hq => (hE.out q hq).keep (by with_reducible (repeat' first | assumption | exact Below.refl _ _ | refine Below.drew ?_ | refine bdrewN ?_ _ | refine Below.setCell ?_ (by first | exact Nat.le_refl _ | (simp; done) | (simp; omega) | omega) _ | refine Below.alloc ?_ (by first | exact Nat.le_refl _ | (simp; done) | (simp; omega) | omega) _)))).mono ?_; rintro e wa ⟨⟨mv, rfl, hrw⟩, hbwa⟩; have hBwa : Below w.heap.size w wa := bup (by with_reducible (repeat' first | assumption | exact Below.refl _ _ | refine Below.drew ?_ | refine bdrewN ?_ _ | refine Below.setCell ?_ (by first | exact Nat.le_refl _ | (simp; done) | (simp; omega) | omega) _ | refine Below.alloc ?_ (by first | exact Nat.le_refl _ | (simp; done) | (simp; omega) | omega) _)) hbwa; have zwa := hBwa.size; rw [hm']) | (go_at_call 17; refine (faulty_any _ _ L (View.keep hv.out (by with_reducible (repeat' first | assumption | exact Below.refl _ _ | refine Below.drew ?_ | refine bdrewN ?_ _ | refine Below.setCell ?_ (by first | exact Nat.le_refl _ | (simp; done) | (simp; omega) | omega) _ | refine Below.alloc ?_ (by first | exact Nat.le_refl _ | (simp; done) | (simp; omega) | omega) _))) (by rw [HL.out]; exact hl) (show Hid _ from fun q hq => (hE.out q hq).keep (by with_reducible (repeat' first | assumption | exact Below.refl _ _ | refine Below.drew ?_ | refine bdrewN ?_ _ | refine Below.setCell ?_ (by first | exact Nat.le_refl _ | (simp; done) | (simp; omega) | omega) _ | refine Below.alloc ?_ (by first | exact Nat.le_refl _ | (simp; done) | (simp; omega) | omega) _)))).mono ?_; rintro e wf ⟨rfl, hbwf⟩; have hBwf : Below w.heap.size w wf := bup (by with_reducible (repeat' first | assumption | exact Below.refl _ _ | refine Below.drew ?_ | refine bdrewN ?_ _ | refine Below.setCell ?_ (by first | exact Nat.le_refl _ | (simp; done) | (simp; omega) | omega) _ | refine Below.alloc ?_ (by first | exact Nat.le_refl _ | (simp; done) | (simp; omega) | omega) _)) hbwf; have zwf := hBwf.size; rw [hf]))
  go_loopw [5, 6] (fun u j w' => Below w.heap.size w w' ∧ ((∃ q : Nat, j = .int .i64 q ∧ q < n ∧ Hid (Row Ag.cells 11 40 w' w.heap.size u ((L.drop (q + 1)).reverse.map Prod.fst))) ∨ (j = .int .i64 (-1) ∧ Hid (Row Ag.cells 11 40 w' w.heap.size u (L.reverse.map Prod.fst))))) (fun _ j _ => (intOf j + 1).toNat)
  case atStart =>
    refine ⟨by with_reducible (repeat' first | assumption | exact Below.refl _ _ | refine Below.drew ?_ | refine bdrewN ?_ _ | refine Below.setCell ?_ (by first | exact Nat.le_refl _ | (simp; done) | (simp; omega) | omega) _ | refine Below.alloc ?_ (by first | exact Nat.le_refl _ | (simp; done) | (simp; omega) | omega) _), ?_⟩
    by_cases h0 : n = 0
    · refine Or.inr ⟨by subst h0; rfl, (show Hid _ from ?_)⟩
      have e : L = [] := List.eq_nil_of_length_eq_zero (by rw [HL.out]; exact h0)
      rw [e]; exact Row.nil _ _
    · refine Or.inl ⟨n - 1, by rw [show ((n - 1 : Nat) : Int) = (n : Int) - 1 by omega], by omega, (show Hid _ from ?_)⟩
      rw [List.drop_of_length_le (by rw [HL.out]; omega)]
      exact Row.nil _ _
  case round =>
    obtain ⟨hB3, hrel⟩ := hrel
    have z3 := hB3.size
    rcases hrel with ⟨q, rfl, hqn, HR⟩ | ⟨rfl, HR⟩
    · have hq0 : (0 : Int) ≤ q := by omega
      have hqn' : (q : Int) < n := by omega
      obtain ⟨p2, c2, e0, hc2, hfv⟩ := hv.out
      injection e0 with e1 e2 e3
      rw [List.length_map] at e2 hc2 hfv
      obtain ⟨b, o, hp, hla, HA⟩ := hfv (by omega)
      subst e3
      rw [hp] at e1
      subst e1
      have hcn : n ≤ c := by omega
      clear e2 hc2
      have hai : L[q]? = some (L[q]'(by rw [HL.out]; exact hqn)) := List.getElem?_eq_getElem _
      have ca' := fun j hj => (hB3.cell (p := ⟨b, o + q * 11 + j, none⟩) hla).trans (HA q _ (by rw [List.getElem?_map, hai]; rfl) j hj)
      have HAi : Hid _ := hai
      revert ca' HAi
      clear hai HA hfv
      generalize (L[q]'(by rw [HL.out]; exact hqn)) = x
      intro ca' HAi
      have y0 : wr.cell? ⟨b, o + q * 11, none⟩ = some (.bool x.1.many) := ca' 0 (by decide)
      have y1 : wr.cell? ⟨b, o + q * 11 + 1, none⟩ = some (.int .i64 x.1.t) := ca' 1 (by decide)
      have y2 : wr.cell? ⟨b, o + q * 11 + 2, none⟩ = some (.int .i64 x.1.n) := ca' 2 (by decide)
      have y3 : wr.cell? ⟨b, o + q * 11 + 3, none⟩ = some (.string x.1.s) := ca' 3 (by decide)
      have y4 : wr.cell? ⟨b, o + q * 11 + 4, none⟩ = some (.bool x.1.b) := ca' 4 (by decide)
      have y5 : wr.cell? ⟨b, o + q * 11 + 5, none⟩ = some (.int .i64 x.1.c) := ca' 5 (by decide)
      have y6 : wr.cell? ⟨b, o + q * 11 + 6, none⟩ = some (.int .i64 x.1.r0) := ca' 6 (by decide)
      have y7 : wr.cell? ⟨b, o + q * 11 + 7, none⟩ = some (.int .i64 x.1.r1) := ca' 7 (by decide)
      have y8 : wr.cell? ⟨b, o + q * 11 + 8, none⟩ = some (.int .i64 x.1.r2) := ca' 8 (by decide)
      have y9 : wr.cell? ⟨b, o + q * 11 + 9, none⟩ = some (.int .i64 x.1.r3) := ca' 9 (by decide)
      have y10 : wr.cell? ⟨b, o + q * 11 + 10, none⟩ = some (.slice x.1.ep x.1.en x.1.ec) := ca' 10 (by decide)
      clear ca'
      have hlen : ((L.drop (q + 1)).reverse.map Prod.fst).length = n - (q + 1) := by rw [List.length_map, List.length_reverse, List.length_drop, HL.out]
      obtain ⟨up, uc, rfl, hu1, hu2⟩ := Row.slice HR.out
      have HO : Hid (wr.ownsRow w.heap.size 40 11 (.slice up ((L.drop (q + 1)).reverse.map Prod.fst).length uc) ((L.drop (q + 1)).reverse.map Prod.fst).length (flatC Ag.cells ((L.drop (q + 1)).reverse.map Prod.fst))) := HR.out
      go_wp2_with (at_builtin; refine wpList_append_own _ rfl _ _ 22 rfl w.heap.size 40 i0 _ 11 112 Tryz.underlying22 HI.out HZ0.out HZ1.out HZ2.out rfl (by decide) _ _ _ rfl (HO.out.alloc _) ⟨wr.heap.size, 0, none⟩ 1 1 (Ag.cells x.1).toList rfl rfl (by exact news_pl _ _ _) (Ag.one _) (by rw [hlen]; unfold maxLen; omega) (by rw [hlen]; omega) (by rw [World.size_alloc]; omega) ?_; intro v' w1 hown' hgrow _; have R := app_rowv (t := x.1) (hB3.alloc (by omega) _) HR.out hown' hgrow; rw [drop_revm HAi.out] at R; have hB4 := R.2; have z4 := hB4.size; have HR4 : Hid _ := R.1; clear R hown' hgrow)
      by_cases hq : q = 0
      all_goals refine ⟨⟨by with_reducible (repeat' first | assumption | exact Below.refl _ _ | refine Below.drew ?_ | refine bdrewN ?_ _ | refine Below.setCell ?_ (by first | exact Nat.le_refl _ | (simp; done) | (simp; omega) | omega) _ | refine Below.alloc ?_ (by first | exact Nat.le_refl _ | (simp; done) | (simp; omega) | omega) _), ?_⟩, by first | (simp [intOf]; done) | (simp [intOf]; omega)⟩
      · subst hq
        exact Or.inr ⟨by go_num, HR4⟩
      · exact Or.inl ⟨q - 1, by rw [show ((q - 1 : Nat) : Int) = (q : Int) - 1 by omega], by omega, by rw [show q - 1 + 1 = q by omega]; exact HR4⟩
    · have hAg : Hid (OkG L wr (.slice p n c)) := (show _ from by
        by_cases h0 : 0 < n
        · exact Or.inr (Or.inl (gd_of (View.keep hv.out hB3) (fun q hq => (hE.out q hq).keep hB3) (by rw [HL.out]; exact h0) (by rw [HL.out]; exact h16) HM.out HF.out HT.out))
        · have e : n = 0 := by omega
          subst e
          exact Or.inl ⟨List.eq_nil_of_length_eq_zero HL.out, p, c, rfl⟩)
      have hBg : Hid (OkG L wr u5) := (show _ from by
        by_cases h0 : 0 < n
        · exact Or.inr (Or.inr (gd_rev (Row.view Ag.csize HR.out) (fun q hq => (hE.out q hq).keep hB3) (by rw [HL.out]; exact h0) (by rw [HL.out]; exact h16) HM.out HF.out HT.out))
        · have e : L = [] := List.eq_nil_of_length_eq_zero (by rw [HL.out]; omega)
          obtain ⟨up, uc, e2, _, _⟩ := Row.slice HR.out
          refine Or.inl ⟨e, up, uc, ?_⟩
          rw [e2, e]; rfl)
      clear HR
      obtain ⟨wo, rfl⟩ : ∃ wo : World, wo = wr := ⟨_, rfl⟩
      go_wp2
      go_loopw [8] (fun j w' => ∃ k : Nat, j = .int .i64 k ∧ k ≤ 7 ∧ Below wo.heap.size wo w' ∧ Own w' wo.heap.size #[.string ⟨#[83, 85, 77]⟩, .string ⟨#[77, 73, 78]⟩, .string ⟨#[77, 65, 88]⟩, .string ⟨#[65, 86, 71]⟩, .string ⟨#[77, 69, 68, 73, 65, 78]⟩, .string ⟨#[67, 79, 85, 78, 84]⟩, .string ⟨#[67, 79, 85, 78, 84, 65]⟩]) (fun j _ => 7 - (intOf j).toNat)
      case atStart => exact ⟨0, rfl, by omega, by with_reducible (repeat' first | assumption | exact Below.refl _ _ | refine Below.drew ?_ | refine bdrewN ?_ _ | refine Below.setCell ?_ (by first | exact Nat.le_refl _ | (simp; done) | (simp; omega) | omega) _ | refine Below.alloc ?_ (by first | exact Nat.le_refl _ | (simp; done) | (simp; omega) | omega) _), by with_reducible (repeat' first | assumption | refine Own.drew ?_ | refine Own.drewN ?_ _ | (refine Own.at ?_; first | rfl | (simp; done)) | refine Own.past ?_ _)⟩
      case round =>
        obtain ⟨k, rfl, hk7, hB5, o5⟩ := hrel
        have z5 := hB5.size
        have hB6 : Below w.heap.size w wr := bup hB3 hB5
        by_cases hlt : k < 7
        · have hlt' : (k : Int) < 7 := by omega
          have nk := names_at o5 hlt
          have hne := ne_same (odT k L) (odN k L) (odC k L)
          have hC : Hid (∀ (W : World) (g : Value), OkG L W g → Calls Tryz.prog 9 #[.string (odS k), g, .int .i64 0] W fun e w' => e = .returned (.agg #[.int .i64 (odT k L), .int .i64 (odN k L), .string ⟨#[]⟩, .bool false, .int .i64 (odC k L)]) ∧ Below W.heap.size W w') := (show _ from fun W g h => od_call k hlt h)
          revert nk hne hC
          generalize odS k = sk
          generalize odT k L = tk
          generalize odN k L = nk2
          generalize odC k L = ck
          intro nk hne hC
          have hO5 : Hid _ := o5
          have hG1 : Hid (OkG L wr (.slice p n c)) := (show _ from hAg.out.keep hB5)
          have hG2 : Hid (OkG L wr u5) := (show _ from hBg.out.keep hB5)
          have l5 := o5.lt
          have t1 : True := trivial
          have t2 : True := trivial
          go_wp2
          go_region_held3 (fun w' => w'.cell? ⟨wo.heap.size, k, none⟩ = some (.string sk)) ((repeat' apply And.intro) <;> (first | (go_keep; done) | (go_simp; done))) (first | (go_at_call 9; clear t1; refine (hC.out _ _ (by first | exact hG1.out.keep (by with_reducible (repeat' first | assumption | exact Below.refl _ _ | refine Below.drew ?_ | refine bdrewN ?_ _ | refine Below.setCell ?_ (by first | exact Nat.le_refl _ | (simp; done) | (simp; omega) | omega) _ | refine Below.alloc ?_ (by first | exact Nat.le_refl _ | (simp; done) | (simp; omega) | omega) _)) | exact hG2.out.keep (by with_reducible (repeat' first | assumption | exact Below.refl _ _ | refine Below.drew ?_ | refine bdrewN ?_ _ | refine Below.setCell ?_ (by first | exact Nat.le_refl _ | (simp; done) | (simp; omega) | omega) _ | refine Below.alloc ?_ (by first | exact Nat.le_refl _ | (simp; done) | (simp; omega) | omega) _)))).mono ?_; rintro e w1 ⟨rfl, hb1⟩; have hB1 : Below wr.heap.size wr w1 := bup (by with_reducible (repeat' first | assumption | exact Below.refl _ _ | refine Below.drew ?_ | refine bdrewN ?_ _ | refine Below.setCell ?_ (by first | exact Nat.le_refl _ | (simp; done) | (simp; omega) | omega) _ | refine Below.alloc ?_ (by first | exact Nat.le_refl _ | (simp; done) | (simp; omega) | omega) _)) hb1; have z1b := hB1.size; have d1 := (hB1.cell (p := ⟨wo.heap.size, k, none⟩) l5).trans nk) | (go_at_call 9; clear t2; refine (hC.out _ _ (by first | exact hG1.out.keep (by with_reducible (repeat' first | assumption | exact Below.refl _ _ | refine Below.drew ?_ | refine bdrewN ?_ _ | refine Below.setCell ?_ (by first | exact Nat.le_refl _ | (simp; done) | (simp; omega) | omega) _ | refine Below.alloc ?_ (by first | exact Nat.le_refl _ | (simp; done) | (simp; omega) | omega) _)) | exact hG2.out.keep (by with_reducible (repeat' first | assumption | exact Below.refl _ _ | refine Below.drew ?_ | refine bdrewN ?_ _ | refine Below.setCell ?_ (by first | exact Nat.le_refl _ | (simp; done) | (simp; omega) | omega) _ | refine Below.alloc ?_ (by first | exact Nat.le_refl _ | (simp; done) | (simp; omega) | omega) _)))).mono ?_; rintro e w2 ⟨rfl, hb2⟩; have hB2 : Below wr.heap.size wr w2 := bup (by with_reducible (repeat' first | assumption | exact Below.refl _ _ | refine Below.drew ?_ | refine bdrewN ?_ _ | refine Below.setCell ?_ (by first | exact Nat.le_refl _ | (simp; done) | (simp; omega) | omega) _ | refine Below.alloc ?_ (by first | exact Nat.le_refl _ | (simp; done) | (simp; omega) | omega) _)) hb2; have z2b := hB2.size; have d2 := (hB2.cell (p := ⟨wo.heap.size, k, none⟩) l5).trans nk))
          go_wp2
          exact ⟨⟨k + 1, by go_num, by omega, bup hB5 hB2, hO5.out.keep hB2⟩, by simp [intOf]; omega⟩
        · have hlt' : ¬ (k : Int) < 7 := by omega
          go_wp2
          go_ret
          exact ⟨rfl, by with_reducible (repeat' first | assumption | exact Below.refl _ _ | refine Below.drew ?_ | refine bdrewN ?_ _ | refine Below.setCell ?_ (by first | exact Nat.le_refl _ | (simp; done) | (simp; omega) | omega) _ | refine Below.alloc ?_ (by first | exact Nat.le_refl _ | (simp; done) | (simp; omega) | omega) _)⟩
end Go.Proofs.YtcgcnpcimfaecaaGreatDoor
