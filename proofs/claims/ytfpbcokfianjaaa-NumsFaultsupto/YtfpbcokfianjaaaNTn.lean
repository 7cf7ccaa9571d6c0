/- NumsFaults's walk where there are no values. -/
import Derived.Test.YtfpbcokfianjaaaNTm
namespace Go.Proofs.Ytfpbcokfianjaaa
open Go.RowKit
set_option linter.all false
set_option maxRecDepth 100000 in
set_option maxHeartbeats 2000000 in
theorem nf_0 (s : ByteArray) (tx : Int) (w : World) (p : Option Addr) (c n : Nat) (vs : List Vl) (hvs : vs = []) (hn0 : n = 0) (rt rn : Int) (rs : ByteArray) (rb : Bool) (rc : Int) (hm : mayB rt rn rs rb rc = true) (hrn : I64 rn)
    (HC : Hid (∀ (W : World) (v : Value) (x : Int), AV W v (vs.map argOf) → Calls Try.prog 14 #[.string s, v, .int .i64 x] W fun e w' => e = .returned (.agg #[.int .i64 rt, .int .i64 rn, .string rs, .bool rb, .int .i64 rc]) ∧ Below W.heap.size W w'))
    (H1 : Hid ((hasB (wlI s) (whI s) (n : Int) && vs.all mayL) = false → sameB rt rn rs rb rc 4 0 ⟨#[]⟩ false 8 = true)) (H2 : Hid ((hasB (wlI s) (whI s) (n : Int) && vs.all mayL) = true → ∀ y, vs.find? isF = some y → sameB rt rn rs rb rc y.t y.n y.s y.b y.c = true)) : Calls Try.prog 4 #[.string s, .slice p 0 c, .int .i64 tx] w fun e w' => e = .returned (.bool true) ∧ Below w.heap.size w w' := by
  have mixed : Try.prog.follows .mixedOrders = true := by kernel_rfl
  have hav0 : ∀ W, AV W (.slice none 0 0) (vs.map argOf) := fun W => by rw [hvs]; exact Row.view (e := 37) Ag.csize (Row.nil W 0)
  have hbv0 : ∀ W, BV W (.slice none 0 0) (List.replicate n false) := fun W => by rw [hn0]; exact Row.view (e := 4) bcell1_size (Row.nil W 0)
  have hall : vs.all mayL = true := by rw [hvs]; rfl
  rw [hall] at H1 H2
  have hlr : n ≤ 1048576 := by omega
  clear hall hvs hn0
  go_enter Try.func4, Try.ntmps4
  go_wp2
  go_loopw [7, 8, 10, 11] (fun u7 u8 uo vi w' => u7 = .slice none 0 0 ∧ u8 = .slice none 0 0 ∧ uo = .bool true ∧ vi = .int .i64 0 ∧ w' = w.alloc (.cells #[.int .i64 0, .int .i64 0, .string ⟨#[]⟩, .bool false, .int .i64 0] 31)) (fun _ _ _ _ _ => 0)
  case atStart => exact ⟨rfl, rfl, rfl, rfl, rfl⟩
  case round =>
    obtain ⟨rfl, rfl, rfl, rfl, hwr⟩ := hrel
    have oFr : Own wr w.heap.size #[.int .i64 0, .int .i64 0, .string ⟨#[]⟩, .bool false, .int .i64 0] := by rw [hwr]; exact Own.new _ _ _
    have hB3 : Below w.heap.size w wr := by rw [hwr]; exact bal _ _
    have z3 := hB3.size
    have hav := hav0 wr
    have hbv := hbv0 wr
    clear hwr hav0 hbv0
    have e1 := nev rt rn rs rb rc rt rn rs rb rc
    rw [show sameB rt rn rs rb rc rt rn rs rb rc = true by simp [sameB]] at e1
    cases htk2 : hasB (wlI s) (whI s) (n : Int)
    · rw [htk2] at H1 H2
      have hsm := H1.out (by simp)
      have e2 := eqv rt rn rs rb rc 4 0 ⟨#[]⟩ false 8
      rw [hsm] at e2
      clear hsm
      go_wp2_with (go_at_call 14; refine (HC.out _ _ _ hav).mono ?_; rintro e wc ⟨rfl, hbwc⟩; have hBwc : Below w.heap.size w wc := bup (by with_reducible (repeat' first | assumption | exact Below.refl _ _ | refine Below.drew ?_ | refine bdrewN ?_ _ | refine Below.setCell ?_ (by first | exact Nat.le_refl _ | (simp; done) | (simp; omega) | omega) _ | refine Below.alloc ?_ (by first | exact Nat.le_refl _ | (simp; done) | (simp; omega) | omega) _)) hbwc; have zwc := hBwc.size; have o0wc : Own wc (w.heap.size) #[.int .i64 0, .int .i64 0, .string ⟨#[]⟩, .bool false, .int .i64 0] := Own.keep (by with_reducible (repeat' first | assumption | refine Own.drew ?_ | refine Own.drewN ?_ _ | (refine Own.at ?_; first | rfl | (simp; done)) | refine Own.past ?_ _)) hbwc; have c0 := o0wc.cell; have f0 := o0wc.fro; have l0 := o0wc.lt; have havc := hav.keep hbwc; have hbvc := hbv.keep hbwc; have ywc := hbwc.size)
      obtain ⟨w6, hw6⟩ : ∃ w6, wc.alloc (.cells #[.int .i64 rt, .int .i64 rn, .string rs, .bool rb, .int .i64 rc] 31) = w6 := ⟨_, rfl⟩
      obtain ⟨vb, hvb⟩ : ∃ vb, wc.heap.size = vb := ⟨_, rfl⟩
      have oV6 : Own w6 vb #[.int .i64 rt, .int .i64 rn, .string rs, .bool rb, .int .i64 rc] := by rw [← hw6, ← hvb]; exact Own.new _ _ _
      have oF6 : Own w6 w.heap.size #[.int .i64 0, .int .i64 0, .string ⟨#[]⟩, .bool false, .int .i64 0] := by rw [← hw6]; exact Own.past o0wc _
      have hB6 : Below w.heap.size w w6 := by rw [← hw6]; exact hBwc.alloc zwc _
      have hav6 : AV w6 (.slice none 0 0) (vs.map argOf) := by rw [← hw6]; exact havc.keep (bal _ _)
      have hbv6 : BV w6 (.slice none 0 0) (List.replicate n false) := by rw [← hw6]; exact hbvc.keep (bal _ _)
      rw [hw6, hvb]
      clear hw6 hvb c0 f0 l0 o0wc havc hbvc hbwc hBwc hav hbv
      have z6 := hB6.size
      have c0 := oV6.cell
      have f0 := oV6.fro
      have l0 := oV6.lt
      have c1 := oF6.cell
      have l1 := oF6.lt
      go_region_held3 (fun w' => w'.cell? ⟨vb, 0, none⟩ = some (.int .i64 rt) ∧ w'.cell? ⟨vb, 1, none⟩ = some (.int .i64 rn) ∧ w'.cell? ⟨vb, 2, none⟩ = some (.string rs) ∧ w'.cell? ⟨vb, 3, none⟩ = some (.bool rb) ∧ w'.cell? ⟨vb, 4, none⟩ = some (.int .i64 rc)) ((repeat' apply And.intro) <;> (first | (go_keep; done) | (go_simp; done))) (first | (go_at_call 11; refine (known_law _).mono ?_; rintro e wk ⟨rfl, hbwk⟩; have hSwk : Below w6.heap.size w6 wk := bup (by with_reducible (repeat' first | assumption | exact Below.refl _ _ | refine Below.drew ?_ | refine bdrewN ?_ _ | refine Below.setCell ?_ (by first | exact Nat.le_refl _ | (simp; done) | (simp; omega) | omega) _ | refine Below.alloc ?_ (by first | exact Nat.le_refl _ | (simp; done) | (simp; omega) | omega) _)) hbwk; have c0 := (oV6.keep hSwk).cell; have f0 := (oV6.keep hSwk).fro; have l0 := (oV6.keep hSwk).lt; have c1 := (oF6.keep hSwk).cell; have l1 := (oF6.keep hSwk).lt; have zSwk := hSwk.size) | (go_at_call 14; refine (HC.out _ _ _ (hav6.keep (by with_reducible (repeat' first | assumption | exact Below.refl _ _ | refine Below.drew ?_ | refine bdrewN ?_ _ | refine Below.setCell ?_ (by first | exact Nat.le_refl _ | (simp; done) | (simp; omega) | omega) _ | refine Below.alloc ?_ (by first | exact Nat.le_refl _ | (simp; done) | (simp; omega) | omega) _)))).mono ?_; rintro e wd ⟨rfl, hbwd⟩; have hSwd : Below w6.heap.size w6 wd := bup (by with_reducible (repeat' first | assumption | exact Below.refl _ _ | refine Below.drew ?_ | refine bdrewN ?_ _ | refine Below.setCell ?_ (by first | exact Nat.le_refl _ | (simp; done) | (simp; omega) | omega) _ | refine Below.alloc ?_ (by first | exact Nat.le_refl _ | (simp; done) | (simp; omega) | omega) _)) hbwd; have c0 := (oV6.keep hSwd).cell; have f0 := (oV6.keep hSwd).fro; have l0 := (oV6.keep hSwd).lt; have c1 := (oF6.keep hSwd).cell; have l1 := (oF6.keep hSwd).lt; have zSwd := hSwd.size) | (go_at_call 12; refine (rmayV _ _ _ _ _ _ hrn).mono ?_; rintro e we ⟨rfl, hbwe⟩; have hSwe : Below w6.heap.size w6 we := bup (by with_reducible (repeat' first | assumption | exact Below.refl _ _ | refine Below.drew ?_ | refine bdrewN ?_ _ | refine Below.setCell ?_ (by first | exact Nat.le_refl _ | (simp; done) | (simp; omega) | omega) _ | refine Below.alloc ?_ (by first | exact Nat.le_refl _ | (simp; done) | (simp; omega) | omega) _)) hbwe; have c0 := (oV6.keep hSwe).cell; have f0 := (oV6.keep hSwe).fro; have l0 := (oV6.keep hSwe).lt; have c1 := (oF6.keep hSwe).cell; have l1 := (oF6.keep hSwe).lt; have zSwe := hSwe.size; rw [hm]))
      go_wp2_with (go_at_call 10; refine (rtakes_any s _ _ _ (hbv6.keep (by with_reducible (repeat' first | assumption | exact Below.refl _ _ | refine Below.drew ?_ | refine bdrewN ?_ _ | refine Below.setCell ?_ (by first | exact Nat.le_refl _ | (simp; done) | (simp; omega) | omega) _ | refine Below.alloc ?_ (by first | exact Nat.le_refl _ | (simp; done) | (simp; omega) | omega) _))) (by rw [List.length_replicate]; omega)).mono ?_; rintro e wt ⟨rfl, hbwt⟩; have hSwt : Below w6.heap.size w6 wt := bup (by with_reducible (repeat' first | assumption | exact Below.refl _ _ | refine Below.drew ?_ | refine bdrewN ?_ _ | refine Below.setCell ?_ (by first | exact Nat.le_refl _ | (simp; done) | (simp; omega) | omega) _ | refine Below.alloc ?_ (by first | exact Nat.le_refl _ | (simp; done) | (simp; omega) | omega) _)) hbwt; have c0 := (oV6.keep hSwt).cell; have f0 := (oV6.keep hSwt).fro; have l0 := (oV6.keep hSwt).lt; have c1 := (oF6.keep hSwt).cell; have l1 := (oF6.keep hSwt).lt; have zSwt := hSwt.size; rw [List.length_replicate, any_rep, Bool.not_false, Bool.and_true, htk2])
      go_ret
      exact ⟨retBl (by first | rfl | (simp; done)), bup hB6 (by with_reducible (repeat' first | assumption | exact Below.refl _ _ | refine Below.drew ?_ | refine bdrewN ?_ _ | refine Below.setCell ?_ (by first | exact Nat.le_refl _ | (simp; done) | (simp; omega) | omega) _ | refine Below.alloc ?_ (by first | exact Nat.le_refl _ | (simp; done) | (simp; omega) | omega) _))⟩
    · rw [htk2] at H1 H2
      go_wp2_with (go_at_call 14; refine (HC.out _ _ _ hav).mono ?_; rintro e wc ⟨rfl, hbwc⟩; have hBwc : Below w.heap.size w wc := bup (by with_reducible (repeat' first | assumption | exact Below.refl _ _ | refine Below.drew ?_ | refine bdrewN ?_ _ | refine Below.setCell ?_ (by first | exact Nat.le_refl _ | (simp; done) | (simp; omega) | omega) _ | refine Below.alloc ?_ (by first | exact Nat.le_refl _ | (simp; done) | (simp; omega) | omega) _)) hbwc; have zwc := hBwc.size; have o0wc : Own wc (w.heap.size) #[.int .i64 0, .int .i64 0, .string ⟨#[]⟩, .bool false, .int .i64 0] := Own.keep (by with_reducible (repeat' first | assumption | refine Own.drew ?_ | refine Own.drewN ?_ _ | (refine Own.at ?_; first | rfl | (simp; done)) | refine Own.past ?_ _)) hbwc; have c0 := o0wc.cell; have f0 := o0wc.fro; have l0 := o0wc.lt; have havc := hav.keep hbwc; have hbvc := hbv.keep hbwc; have ywc := hbwc.size)
      obtain ⟨w6, hw6⟩ : ∃ w6, wc.alloc (.cells #[.int .i64 rt, .int .i64 rn, .string rs, .bool rb, .int .i64 rc] 31) = w6 := ⟨_, rfl⟩
      obtain ⟨vb, hvb⟩ : ∃ vb, wc.heap.size = vb := ⟨_, rfl⟩
      have oV6 : Own w6 vb #[.int .i64 rt, .int .i64 rn, .string rs, .bool rb, .int .i64 rc] := by rw [← hw6, ← hvb]; exact Own.new _ _ _
      have oF6 : Own w6 w.heap.size #[.int .i64 0, .int .i64 0, .string ⟨#[]⟩, .bool false, .int .i64 0] := by rw [← hw6]; exact Own.past o0wc _
      have hB6 : Below w.heap.size w w6 := by rw [← hw6]; exact hBwc.alloc zwc _
      have hav6 : AV w6 (.slice none 0 0) (vs.map argOf) := by rw [← hw6]; exact havc.keep (bal _ _)
      have hbv6 : BV w6 (.slice none 0 0) (List.replicate n false) := by rw [← hw6]; exact hbvc.keep (bal _ _)
      rw [hw6, hvb]
      clear hw6 hvb c0 f0 l0 o0wc havc hbvc hbwc hBwc hav hbv
      have z6 := hB6.size
      have c0 := oV6.cell
      have f0 := oV6.fro
      have l0 := oV6.lt
      have c1 := oF6.cell
      have l1 := oF6.lt
      go_region_held3 (fun w' => w'.cell? ⟨vb, 0, none⟩ = some (.int .i64 rt) ∧ w'.cell? ⟨vb, 1, none⟩ = some (.int .i64 rn) ∧ w'.cell? ⟨vb, 2, none⟩ = some (.string rs) ∧ w'.cell? ⟨vb, 3, none⟩ = some (.bool rb) ∧ w'.cell? ⟨vb, 4, none⟩ = some (.int .i64 rc)) ((repeat' apply And.intro) <;> (first | (go_keep; done) | (go_simp; done))) (first | (go_at_call 11; refine (known_law _).mono ?_; rintro e wk ⟨rfl, hbwk⟩; have hSwk : Below w6.heap.size w6 wk := bup (by with_reducible (repeat' first | assumption | exact Below.refl _ _ | refine Below.drew ?_ | refine bdrewN ?_ _ | refine Below.setCell ?_ (by first | exact Nat.le_refl _ | (simp; done) | (simp; omega) | omega) _ | refine Below.alloc ?_ (by first | exact Nat.le_refl _ | (simp; done) | (simp; omega) | omega) _)) hbwk; have c0 := (oV6.keep hSwk).cell; have f0 := (oV6.keep hSwk).fro; have l0 := (oV6.keep hSwk).lt; have c1 := (oF6.keep hSwk).cell; have l1 := (oF6.keep hSwk).lt; have zSwk := hSwk.size) | (go_at_call 14; refine (HC.out _ _ _ (hav6.keep (by with_reducible (repeat' first | assumption | exact Below.refl _ _ | refine Below.drew ?_ | refine bdrewN ?_ _ | refine Below.setCell ?_ (by first | exact Nat.le_refl _ | (simp; done) | (simp; omega) | omega) _ | refine Below.alloc ?_ (by first | exact Nat.le_refl _ | (simp; done) | (simp; omega) | omega) _)))).mono ?_; rintro e wd ⟨rfl, hbwd⟩; have hSwd : Below w6.heap.size w6 wd := bup (by with_reducible (repeat' first | assumption | exact Below.refl _ _ | refine Below.drew ?_ | refine bdrewN ?_ _ | refine Below.setCell ?_ (by first | exact Nat.le_refl _ | (simp; done) | (simp; omega) | omega) _ | refine Below.alloc ?_ (by first | exact Nat.le_refl _ | (simp; done) | (simp; omega) | omega) _)) hbwd; have c0 := (oV6.keep hSwd).cell; have f0 := (oV6.keep hSwd).fro; have l0 := (oV6.keep hSwd).lt; have c1 := (oF6.keep hSwd).cell; have l1 := (oF6.keep hSwd).lt; have zSwd := hSwd.size) | (go_at_call 12; refine (rmayV _ _ _ _ _ _ hrn).mono ?_; rintro e we ⟨rfl, hbwe⟩; have hSwe : Below w6.heap.size w6 we := bup (by with_reducible (repeat' first | assumption | exact Below.refl _ _ | refine Below.drew ?_ | refine bdrewN ?_ _ | refine Below.setCell ?_ (by first | exact Nat.le_refl _ | (simp; done) | (simp; omega) | omega) _ | refine Below.alloc ?_ (by first | exact Nat.le_refl _ | (simp; done) | (simp; omega) | omega) _)) hbwe; have c0 := (oV6.keep hSwe).cell; have f0 := (oV6.keep hSwe).fro; have l0 := (oV6.keep hSwe).lt; have c1 := (oF6.keep hSwe).cell; have l1 := (oF6.keep hSwe).lt; have zSwe := hSwe.size; rw [hm]))
      go_wp2_with (go_at_call 10; refine (rtakes_any s _ _ _ (hbv6.keep (by with_reducible (repeat' first | assumption | exact Below.refl _ _ | refine Below.drew ?_ | refine bdrewN ?_ _ | refine Below.setCell ?_ (by first | exact Nat.le_refl _ | (simp; done) | (simp; omega) | omega) _ | refine Below.alloc ?_ (by first | exact Nat.le_refl _ | (simp; done) | (simp; omega) | omega) _))) (by rw [List.length_replicate]; omega)).mono ?_; rintro e wt ⟨rfl, hbwt⟩; have hSwt : Below w6.heap.size w6 wt := bup (by with_reducible (repeat' first | assumption | exact Below.refl _ _ | refine Below.drew ?_ | refine bdrewN ?_ _ | refine Below.setCell ?_ (by first | exact Nat.le_refl _ | (simp; done) | (simp; omega) | omega) _ | refine Below.alloc ?_ (by first | exact Nat.le_refl _ | (simp; done) | (simp; omega) | omega) _)) hbwt; have c0 := (oV6.keep hSwt).cell; have f0 := (oV6.keep hSwt).fro; have l0 := (oV6.keep hSwt).lt; have c1 := (oF6.keep hSwt).cell; have l1 := (oF6.keep hSwt).lt; have zSwt := hSwt.size; rw [List.length_replicate, any_rep, Bool.not_false, Bool.and_true, htk2])
      go_ret
      exact ⟨retBl (by first | rfl | (simp; done)), bup hB6 (by with_reducible (repeat' first | assumption | exact Below.refl _ _ | refine Below.drew ?_ | refine bdrewN ?_ _ | refine Below.setCell ?_ (by first | exact Nat.le_refl _ | (simp; done) | (simp; omega) | omega) _ | refine Below.alloc ?_ (by first | exact Nat.le_refl _ | (simp; done) | (simp; omega) | omega) _))⟩
end Go.Proofs.Ytfpbcokfianjaaa
