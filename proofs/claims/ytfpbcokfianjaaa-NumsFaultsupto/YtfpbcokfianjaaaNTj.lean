/- The contracts of nums.sign, floor, small, placesOf, round, power, root, odd and of trunc at two numbers, of numbers that may be. New memory alone is made. -/
import Derived.Test.YtfpbcokfianjaaaNTi
import Derived.Test.YtfpbcokfianjaaaRound
import Derived.Test.YtfpbcokfianjaaaPwDPow
namespace Go.Proofs.Ytfpbcokfianjaaa
open Go.RowKit
set_option linter.all false
theorem cmpI_in (x : Int) : In (cmpI x 0 * 10000) ∧ wrap64 (cmpI x 0 * 10000) = cmpI x 0 * 10000 := by
  unfold cmpI; split
  · exact ⟨⟨by decide, by decide⟩, by unfold wrap64; omega⟩
  · split
    · exact ⟨⟨by decide, by decide⟩, by unfold wrap64; omega⟩
    · exact ⟨⟨by decide, by decide⟩, by unfold wrap64; omega⟩
theorem sign_any (x : Int) (b : Nat) (w : World) (hb : NB w b [x])  : Calls Try.prog 34 #[.slice (some ⟨b, 0, none⟩) 1 1] w fun e w' => e = .returned (.agg #[.int .i64 (1), .int .i64 (cmpI x 0 * 10000), .string ⟨#[]⟩, .bool false, .int .i64 (0)]) ∧ Below w.heap.size w w' := by
  have x0 := hb.at (i := 0) (x := x) rfl
  have hlt := hb.lt
  obtain ⟨hi, hw⟩ := cmpI_in x
  have h0 := fun w1 => cmp64 x 0 w1
  have h1 := fun w1 => num_t (cmpI x 0 * 10000) w1 hi.i64 (by have := hi.1; omega)
  generalize cmpI x 0 = r at *
  go_enter Try.func34, Try.ntmps34
  go_wp2_with (first | (go_at_call 56; refine (h0 _).mono ?_; rintro e w5 ⟨rfl, e5⟩; rw [e5]; clear e5 w5) | (go_at_call 54; refine (h1 _).mono ?_; rintro e wa ⟨rfl, hbwa⟩; have hBwa : Below w.heap.size w wa := bup (by with_reducible (repeat' first | assumption | exact Below.refl _ _ | refine Below.drew ?_ | refine bdrewN ?_ _ | refine Below.setCell ?_ (by first | exact Nat.le_refl _ | (simp; done) | (simp; omega) | omega) _ | refine Below.alloc ?_ (by first | exact Nat.le_refl _ | (simp; done) | (simp; omega) | omega) _)) hbwa; have zwa := hBwa.size; have o0wa : Own wa (w.heap.size) #[.int .i64 0, .int .i64 0, .string ⟨#[]⟩, .bool false, .int .i64 0] := Own.keep (by with_reducible (repeat' first | assumption | refine Own.drew ?_ | refine Own.drewN ?_ _ | (refine Own.at ?_; first | rfl | (simp; done)) | refine Own.past ?_ _)) hbwa; have c0 := o0wa.cell; have f0 := o0wa.fro; have l0 := o0wa.lt))
  exact bodyPost_ret (v := (.agg #[.int .i64 (1), .int .i64 (r * 10000), .string ⟨#[]⟩, .bool false, .int .i64 (0)])) (by simp [results, Try.results34, go_sem, c0, f0, l0]) rfl ⟨rfl, by with_reducible (repeat' first | assumption | exact Below.refl _ _ | refine Below.drew ?_ | refine bdrewN ?_ _ | refine Below.setCell ?_ (by first | exact Nat.le_refl _ | (simp; done) | (simp; omega) | omega) _ | refine Below.alloc ?_ (by first | exact Nat.le_refl _ | (simp; done) | (simp; omega) | omega) _)⟩
theorem flo_in {x : Int} (hx : In x) : In (okV (floorOk x) (x - x % 10000)) := by
  cases h : floorOk x
  · exact in0
  · unfold floorOk subOk at h; simp at h; rw [okV_t rfl]; exact ⟨by omega, by omega⟩
theorem int_any (x : Int) (b : Nat) (w : World) (hb : NB w b [x]) (hx : In x) : Calls Try.prog 35 #[.slice (some ⟨b, 0, none⟩) 1 1] w fun e w' => e = .returned (.agg #[.int .i64 (tT (okC (floorOk x))), .int .i64 (okV (floorOk x) (x - x % 10000)), .string ⟨#[]⟩, .bool false, .int .i64 (okC (floorOk x))]) ∧ Below w.heap.size w w' := by
  have x0 := hb.at (i := 0) (x := x) rfl
  have hlt := hb.lt
  have h0 := fun w1 => floor_any x w1 hx.i64
  have h1 := fun w1 => told_any _ _ w1 (flo_in hx) (okVC (floorOk x) (x - x % 10000))
  generalize okV (floorOk x) (x - x % 10000) = r at *
  generalize okC (floorOk x) = c at *
  generalize tT c = t at h1 ⊢
  go_enter Try.func35, Try.ntmps35
  go_wp2_with (first | (go_at_call 58; refine (h0 _).mono ?_; rintro e w5 ⟨rfl, e5⟩; rw [e5]; clear e5 w5) | (go_at_call 57; refine (h1 _).mono ?_; rintro e wa ⟨rfl, hbwa⟩; have hBwa : Below w.heap.size w wa := bup (by with_reducible (repeat' first | assumption | exact Below.refl _ _ | refine Below.drew ?_ | refine bdrewN ?_ _ | refine Below.setCell ?_ (by first | exact Nat.le_refl _ | (simp; done) | (simp; omega) | omega) _ | refine Below.alloc ?_ (by first | exact Nat.le_refl _ | (simp; done) | (simp; omega) | omega) _)) hbwa; have zwa := hBwa.size; have o0wa : Own wa (w.heap.size) #[.int .i64 0, .int .i64 0, .string ⟨#[]⟩, .bool false, .int .i64 0] := Own.keep (by with_reducible (repeat' first | assumption | refine Own.drew ?_ | refine Own.drewN ?_ _ | (refine Own.at ?_; first | rfl | (simp; done)) | refine Own.past ?_ _)) hbwa; have c0 := o0wa.cell; have f0 := o0wa.fro; have l0 := o0wa.lt))
  exact bodyPost_ret (v := (.agg #[.int .i64 t, .int .i64 r, .string ⟨#[]⟩, .bool false, .int .i64 c])) (by simp [results, Try.results35, go_sem, c0, f0, l0]) rfl ⟨rfl, by with_reducible (repeat' first | assumption | exact Below.refl _ _ | refine Below.drew ?_ | refine bdrewN ?_ _ | refine Below.setCell ?_ (by first | exact Nat.le_refl _ | (simp; done) | (simp; omega) | omega) _ | refine Below.alloc ?_ (by first | exact Nat.le_refl _ | (simp; done) | (simp; omega) | omega) _)⟩
/-- So many places, held within 1000. -/
def plc (y : Int) : Int := max (-1000) (min 1000 (okV (wholeOk y) (y.tdiv 10000)))
theorem plc_bd (y : Int) : -1000 ≤ plc y ∧ plc y ≤ 1000 := by unfold plc; constructor <;> omega
theorem plc_i64 (y : Int) : I64 (plc y) := by have := plc_bd y; exact ⟨by omega, by omega⟩
theorem small_any (y : Int) (w : World) (hy : I64 y) : Calls Try.prog 64 #[.int .i64 y] w fun e w' => e = .returned (.tuple #[.int .i64 (plc y), .bool (wholeOk y)]) ∧ w' = w := by
  have h0 := fun w1 => whole_any y w1 hy
  unfold plc
  generalize okV (wholeOk y) (y.tdiv 10000) = r at h0 ⊢
  generalize wholeOk y = q at h0 ⊢
  go_enter Try.func64, Try.ntmps64
  go_wp2_with (go_at_call 71; refine (h0 _).mono ?_; rintro e w5 ⟨rfl, e5⟩; rw [e5]; clear e5 w5)
  go_ret2
  exact ⟨rfl, rfl⟩
theorem places_2 (x y : Int) (b : Nat) (w : World) (hb : NB w b [x, y]) (hy : I64 y) : Calls Try.prog 59 #[.slice (some ⟨b, 0, none⟩) 2 2] w fun e w' => e = .returned (.tuple #[.int .i64 (plc y), .bool (wholeOk y)]) ∧ w' = w := by
  have x1 := hb.at (i := 1) (x := y) rfl
  have h0 := fun w1 => small_any y w1 hy
  generalize plc y = r at h0 ⊢
  generalize wholeOk y = q at h0 ⊢
  go_enter Try.func59, Try.ntmps59
  go_wp2_with (go_at_call 64; refine (h0 _).mono ?_; rintro e w5 ⟨rfl, e5⟩; rw [e5]; clear e5 w5)
  go_ret2
  exact ⟨rfl, rfl⟩
theorem rou_in {x p : Int} (hx : In x) : In (okV (roundOk x p) (roundN x p)) := by
  obtain ⟨h1, h2⟩ := hx
  have hsz := sizeV_range h1 h2
  cases h : roundOk x p
  · exact in0
  · rw [okV_t rfl]
    unfold roundOk at h; simp at h
    have hn : 0 ≤ rnd (sizeV x) (roundStep p) := by
      unfold rnd
      have g : (0 : Int) ≤ (roundStep p : Int) := by omega
      refine Int.mul_nonneg (Int.add_nonneg (Int.ediv_nonneg hsz.1 g) ?_) g
      split <;> omega
    unfold roundN
    split
    · exact ⟨h1, h2⟩
    · split
      · exact in0
      · have := h.2
        split <;> exact ⟨by omega, by omega⟩
theorem round_1 (x : Int) (b : Nat) (w : World) (hb : NB w b [x]) (hx : In x)  : Calls Try.prog 37 #[.slice (some ⟨b, 0, none⟩) 1 1] w fun e w' => e = .returned (.agg #[.int .i64 (tT (okC (roundOk x (0)))), .int .i64 (okV (roundOk x (0)) (roundN x (0))), .string ⟨#[]⟩, .bool false, .int .i64 (okC (roundOk x (0)))]) ∧ Below w.heap.size w w' := by
  have x0 := hb.at (i := 0) (x := x) rfl
  have hlt := hb.lt
  have hp := fun w1 => places_1 ⟨b, 0, none⟩ w1
  have h0 := fun w1 => round_any x (0) w1 hx.i64 ⟨by decide, by decide⟩
  have h1 := fun w1 => told_any _ _ w1 (rou_in (p := 0) hx) (okVC (roundOk x (0)) (roundN x (0)))
  generalize okV (roundOk x (0)) (roundN x (0)) = r at *
  generalize okC (roundOk x (0)) = c at *
  generalize tT c = t at h1 ⊢
  go_enter Try.func37, Try.ntmps37
  go_wp2_with (first | (go_at_call 59; refine (hp _).mono ?_; rintro e w5 ⟨rfl, e5⟩; rw [e5]; clear e5 w5) | (go_at_call 60; refine (h0 _).mono ?_; rintro e wd ⟨rfl, nd, rfl⟩) | (go_at_call 57; refine (h1 _).mono ?_; rintro e wa ⟨rfl, hbwa⟩; have hBwa : Below w.heap.size w wa := bup (by with_reducible (repeat' first | assumption | exact Below.refl _ _ | refine Below.drew ?_ | refine bdrewN ?_ _ | refine Below.setCell ?_ (by first | exact Nat.le_refl _ | (simp; done) | (simp; omega) | omega) _ | refine Below.alloc ?_ (by first | exact Nat.le_refl _ | (simp; done) | (simp; omega) | omega) _)) hbwa; have zwa := hBwa.size; have o0wa : Own wa (w.heap.size) #[.int .i64 0, .int .i64 0, .string ⟨#[]⟩, .bool false, .int .i64 0] := Own.keep (by with_reducible (repeat' first | assumption | refine Own.drew ?_ | refine Own.drewN ?_ _ | (refine Own.at ?_; first | rfl | (simp; done)) | refine Own.past ?_ _)) hbwa; have c0 := o0wa.cell; have f0 := o0wa.fro; have l0 := o0wa.lt))
  exact bodyPost_ret (v := (.agg #[.int .i64 t, .int .i64 r, .string ⟨#[]⟩, .bool false, .int .i64 c])) (by simp [results, Try.results37, go_sem, c0, f0, l0]) rfl ⟨rfl, by with_reducible (repeat' first | assumption | exact Below.refl _ _ | refine Below.drew ?_ | refine bdrewN ?_ _ | refine Below.setCell ?_ (by first | exact Nat.le_refl _ | (simp; done) | (simp; omega) | omega) _ | refine Below.alloc ?_ (by first | exact Nat.le_refl _ | (simp; done) | (simp; omega) | omega) _)⟩
theorem round_2 (x y : Int) (b : Nat) (w : World) (hb : NB w b [x, y]) (hx : In x) (hy : In y) (hw : wholeOk y = true) : Calls Try.prog 37 #[.slice (some ⟨b, 0, none⟩) 2 2] w fun e w' => e = .returned (.agg #[.int .i64 (tT (okC (roundOk x (plc y)))), .int .i64 (okV (roundOk x (plc y)) (roundN x (plc y))), .string ⟨#[]⟩, .bool false, .int .i64 (okC (roundOk x (plc y)))]) ∧ Below w.heap.size w w' := by
  have x0 := hb.at (i := 0) (x := x) rfl
  have hlt := hb.lt
  have hp := fun w1 (h : NB w1 b [x, y]) => places_2 x y b w1 h hy.i64
  rw [hw] at hp
  have h0 := fun w1 => round_any x (plc y) w1 hx.i64 (plc_i64 y)
  have h1 := fun w1 => told_any _ _ w1 (rou_in (p := plc y) hx) (okVC (roundOk x (plc y)) (roundN x (plc y)))
  generalize okV (roundOk x (plc y)) (roundN x (plc y)) = r at *
  generalize okC (roundOk x (plc y)) = c at *
  generalize tT c = t at h1 ⊢
  generalize plc y = p at *
  go_enter Try.func37, Try.ntmps37
  go_wp2_with (first | (go_at_call 59; refine (hp _ (hb.keep (bal _ _))).mono ?_; rintro e w5 ⟨rfl, e5⟩; rw [e5]; clear e5 w5) | (go_at_call 60; refine (h0 _).mono ?_; rintro e wd ⟨rfl, nd, rfl⟩) | (go_at_call 57; refine (h1 _).mono ?_; rintro e wa ⟨rfl, hbwa⟩; have hBwa : Below w.heap.size w wa := bup (by with_reducible (repeat' first | assumption | exact Below.refl _ _ | refine Below.drew ?_ | refine bdrewN ?_ _ | refine Below.setCell ?_ (by first | exact Nat.le_refl _ | (simp; done) | (simp; omega) | omega) _ | refine Below.alloc ?_ (by first | exact Nat.le_refl _ | (simp; done) | (simp; omega) | omega) _)) hbwa; have zwa := hBwa.size; have o0wa : Own wa (w.heap.size) #[.int .i64 0, .int .i64 0, .string ⟨#[]⟩, .bool false, .int .i64 0] := Own.keep (by with_reducible (repeat' first | assumption | refine Own.drew ?_ | refine Own.drewN ?_ _ | (refine Own.at ?_; first | rfl | (simp; done)) | refine Own.past ?_ _)) hbwa; have c0 := o0wa.cell; have f0 := o0wa.fro; have l0 := o0wa.lt))
  exact bodyPost_ret (v := (.agg #[.int .i64 t, .int .i64 r, .string ⟨#[]⟩, .bool false, .int .i64 c])) (by simp [results, Try.results37, go_sem, c0, f0, l0]) rfl ⟨rfl, by with_reducible (repeat' first | assumption | exact Below.refl _ _ | refine Below.drew ?_ | refine bdrewN ?_ _ | refine Below.setCell ?_ (by first | exact Nat.le_refl _ | (simp; done) | (simp; omega) | omega) _ | refine Below.alloc ?_ (by first | exact Nat.le_refl _ | (simp; done) | (simp; omega) | omega) _)⟩
theorem round_no (x y : Int) (b : Nat) (w : World) (hb : NB w b [x, y]) (hy : In y) (hw : wholeOk y = false) : Calls Try.prog 37 #[.slice (some ⟨b, 0, none⟩) 2 2] w fun e w' => e = .returned (.agg #[.int .i64 (4), .int .i64 (0), .string ⟨#[]⟩, .bool false, .int .i64 (8)]) ∧ Below w.heap.size w w' := by
  have hlt := hb.lt
  have hp := fun w1 (h : NB w1 b [x, y]) => places_2 x y b w1 h hy.i64
  rw [hw] at hp
  generalize plc y = p at *
  go_enter Try.func37, Try.ntmps37
  go_wp2_with (first | (go_at_call 59; refine (hp _ (hb.keep (bal _ _))).mono ?_; rintro e w5 ⟨rfl, e5⟩; rw [e5]; clear e5 w5) | (go_at_call 23; refine (err_ok _ _ (by decide) (by decide)).mono ?_; rintro e wa ⟨rfl, hbwa⟩; have hBwa : Below w.heap.size w wa := bup (by with_reducible (repeat' first | assumption | exact Below.refl _ _ | refine Below.drew ?_ | refine bdrewN ?_ _ | refine Below.setCell ?_ (by first | exact Nat.le_refl _ | (simp; done) | (simp; omega) | omega) _ | refine Below.alloc ?_ (by first | exact Nat.le_refl _ | (simp; done) | (simp; omega) | omega) _)) hbwa; have zwa := hBwa.size; have o0wa : Own wa (w.heap.size) #[.int .i64 0, .int .i64 0, .string ⟨#[]⟩, .bool false, .int .i64 0] := Own.keep (by with_reducible (repeat' first | assumption | refine Own.drew ?_ | refine Own.drewN ?_ _ | (refine Own.at ?_; first | rfl | (simp; done)) | refine Own.past ?_ _)) hbwa; have c0 := o0wa.cell; have f0 := o0wa.fro; have l0 := o0wa.lt))
  exact bodyPost_ret (v := (.agg #[.int .i64 (4), .int .i64 (0), .string ⟨#[]⟩, .bool false, .int .i64 (8)])) (by simp [results, Try.results37, go_sem, c0, f0, l0]) rfl ⟨rfl, by with_reducible (repeat' first | assumption | exact Below.refl _ _ | refine Below.drew ?_ | refine bdrewN ?_ _ | refine Below.setCell ?_ (by first | exact Nat.le_refl _ | (simp; done) | (simp; omega) | omega) _ | refine Below.alloc ?_ (by first | exact Nat.le_refl _ | (simp; done) | (simp; omega) | omega) _)⟩
/-- What a power answers, and the code. -/
def powX (x n : Int) : Int := if n < -64 ∨ 64 < n then 0 else if n = 0 then 10000 else if x = 0 then 0 else if n < 0 then Pw.pwV (Pw.rnd (10000 ^ n.natAbs * 10000) (x.natAbs ^ n.natAbs)) (Pw.sgp (decide (x < 0)) n.natAbs) else Pw.pwV (Pw.rnd (x.natAbs ^ n.natAbs * 10000) (10000 ^ n.natAbs)) (Pw.sgp (decide (x < 0)) n.natAbs)
def powC (x n : Int) : Int := if n < -64 ∨ 64 < n then 8 else if n = 0 then 0 else if x = 0 then (if n < 0 then 3 else 0) else if n < 0 then Pw.pwC (Pw.rnd (10000 ^ n.natAbs * 10000) (x.natAbs ^ n.natAbs)) else Pw.pwC (Pw.rnd (x.natAbs ^ n.natAbs * 10000) (10000 ^ n.natAbs))
theorem pow_all (x n : Int) (w : World) (hx : In x) : Calls Try.prog 65 #[.int .i64 x, .int .i64 n] w fun e w' => e = .returned (.tuple #[.int .i64 (powX x n), .int .i64 (powC x n)]) ∧ Below w.heap.size w w' := by
  obtain ⟨h1, h2⟩ := hx
  unfold powX powC
  by_cases ho : n < -64 ∨ 64 < n
  · rw [if_pos ho, if_pos ho]
    rcases ho with ho | ho
    · exact Pw.pow_lo x n w h1 ho
    · exact Pw.pow_hi x n w h1 ho
  rw [if_neg ho, if_neg ho]
  have hs : x = (x.natAbs : Int) ∨ x = -(x.natAbs : Int) := by omega
  by_cases h0 : n = 0
  · rw [if_pos h0, if_pos h0, h0]
    exact Pw.pow_n0 x x.natAbs (decide (x < 0)) w h1 hs (by omega) rfl
  rw [if_neg h0, if_neg h0]
  by_cases hz : x = 0
  · rw [if_pos hz, if_pos hz, hz]
    by_cases hn : n < 0
    · rw [if_pos hn]; exact Pw.pow_0n n w (by omega) hn
    · rw [if_neg hn]; exact Pw.pow_0p n w (by omega) (by omega)
  rw [if_neg hz, if_neg hz]
  by_cases hn : n < 0
  · rw [if_pos hn, if_pos hn]
    have q := Pw.pow_neg x x.natAbs n.natAbs (decide (x < 0)) w h1 hs (by omega) (by omega) (by omega) (by omega) rfl
    rw [show -(n.natAbs : Int) = n by omega] at q
    exact q
  · rw [if_neg hn, if_neg hn]
    have q := Pw.pow_pos x x.natAbs n.natAbs (decide (x < 0)) w h1 hs (.inr (by omega)) (by omega) (by omega) rfl (by simp; exact hz)
    rw [show ((n.natAbs : Nat) : Int) = n by omega] at q
    exact q
theorem pwV_in (R : Nat) (b : Bool) : In (Pw.pwV R b) := by
  unfold Pw.pwV; split
  · cases b <;> simp <;> exact ⟨by omega, by omega⟩
  · exact in0
theorem pwVC (R : Nat) (b : Bool) : Pw.pwC R = 0 ∨ (1 ≤ Pw.pwC R ∧ Pw.pwC R ≤ 8 ∧ Pw.pwV R b = 0) := by
  unfold Pw.pwC Pw.pwV; split
  · exact .inl rfl
  · exact .inr ⟨by decide, by decide, rfl⟩
theorem powX_in (x n : Int) : In (powX x n) := by
  unfold powX; split
  · exact in0
  split
  · exact ⟨by decide, by decide⟩
  split
  · exact in0
  split
  · exact pwV_in _ _
  · exact pwV_in _ _
theorem powXC (x n : Int) : powC x n = 0 ∨ (1 ≤ powC x n ∧ powC x n ≤ 8 ∧ powX x n = 0) := by
  unfold powC powX; split
  · exact .inr ⟨by decide, by decide, rfl⟩
  split
  · exact .inl rfl
  split
  · split
    · exact .inr ⟨by decide, by decide, rfl⟩
    · exact .inl rfl
  split
  · exact pwVC _ _
  · exact pwVC _ _
theorem power_ok (x y : Int) (b : Nat) (w : World) (hb : NB w b [x, y]) (hx : In x) (hy : In y) (hw : wholeOk y = true) : Calls Try.prog 42 #[.slice (some ⟨b, 0, none⟩) 2 2] w fun e w' => e = .returned (.agg #[.int .i64 (tT (powC x (plc y))), .int .i64 (powX x (plc y)), .string ⟨#[]⟩, .bool false, .int .i64 (powC x (plc y))]) ∧ Below w.heap.size w w' := by
  have x0 := hb.at (i := 0) (x := x) rfl
  have x1 := hb.at (i := 1) (x := y) rfl
  have hlt := hb.lt
  have hp := fun w1 => small_any y w1 hy.i64
  rw [hw] at hp
  have h0 := fun w1 => pow_all x (plc y) w1 hx
  have h1 := fun w1 => told_any _ _ w1 (powX_in x (plc y)) (powXC x (plc y))
  generalize powX x (plc y) = r at *
  generalize powC x (plc y) = c at *
  generalize plc y = p at *
  generalize tT c = t at h1 ⊢
  go_enter Try.func42, Try.ntmps42
  go_wp2_with (first | (go_at_call 64; refine (hp _).mono ?_; rintro e w5 ⟨rfl, e5⟩; rw [e5]; clear e5 w5) | (go_at_call 65; refine (h0 _).mono ?_; rintro e wb ⟨rfl, hbwb⟩; have hBwb : Below w.heap.size w wb := bup (by with_reducible (repeat' first | assumption | exact Below.refl _ _ | refine Below.drew ?_ | refine bdrewN ?_ _ | refine Below.setCell ?_ (by first | exact Nat.le_refl _ | (simp; done) | (simp; omega) | omega) _ | refine Below.alloc ?_ (by first | exact Nat.le_refl _ | (simp; done) | (simp; omega) | omega) _)) hbwb; have zwb := hBwb.size; have o0wb : Own wb (w.heap.size) #[.int .i64 0, .int .i64 0, .string ⟨#[]⟩, .bool false, .int .i64 0] := Own.keep (by with_reducible (repeat' first | assumption | refine Own.drew ?_ | refine Own.drewN ?_ _ | (refine Own.at ?_; first | rfl | (simp; done)) | refine Own.past ?_ _)) hbwb; have c0 := o0wb.cell; have f0 := o0wb.fro; have l0 := o0wb.lt) | (go_at_call 57; refine (h1 _).mono ?_; rintro e wa ⟨rfl, hbwa⟩; have hBwa : Below w.heap.size w wa := bup (by with_reducible (repeat' first | assumption | exact Below.refl _ _ | refine Below.drew ?_ | refine bdrewN ?_ _ | refine Below.setCell ?_ (by first | exact Nat.le_refl _ | (simp; done) | (simp; omega) | omega) _ | refine Below.alloc ?_ (by first | exact Nat.le_refl _ | (simp; done) | (simp; omega) | omega) _)) hbwa; have zwa := hBwa.size; have o0wa : Own wa (w.heap.size) #[.int .i64 0, .int .i64 0, .string ⟨#[]⟩, .bool false, .int .i64 0] := Own.keep (by with_reducible (repeat' first | assumption | refine Own.drew ?_ | refine Own.drewN ?_ _ | (refine Own.at ?_; first | rfl | (simp; done)) | refine Own.past ?_ _)) hbwa; have c0 := o0wa.cell; have f0 := o0wa.fro; have l0 := o0wa.lt))
  exact bodyPost_ret (v := (.agg #[.int .i64 t, .int .i64 r, .string ⟨#[]⟩, .bool false, .int .i64 c])) (by simp [results, Try.results42, go_sem, c0, f0, l0]) rfl ⟨rfl, by with_reducible (repeat' first | assumption | exact Below.refl _ _ | refine Below.drew ?_ | refine bdrewN ?_ _ | refine Below.setCell ?_ (by first | exact Nat.le_refl _ | (simp; done) | (simp; omega) | omega) _ | refine Below.alloc ?_ (by first | exact Nat.le_refl _ | (simp; done) | (simp; omega) | omega) _)⟩
theorem power_no (x y : Int) (b : Nat) (w : World) (hb : NB w b [x, y]) (hy : In y) (hw : wholeOk y = false) : Calls Try.prog 42 #[.slice (some ⟨b, 0, none⟩) 2 2] w fun e w' => e = .returned (.agg #[.int .i64 (4), .int .i64 (0), .string ⟨#[]⟩, .bool false, .int .i64 (8)]) ∧ Below w.heap.size w w' := by
  have x1 := hb.at (i := 1) (x := y) rfl
  have hlt := hb.lt
  have hp := fun w1 => small_any y w1 hy.i64
  rw [hw] at hp
  generalize plc y = p at *
  go_enter Try.func42, Try.ntmps42
  go_wp2_with (first | (go_at_call 64; refine (hp _).mono ?_; rintro e w5 ⟨rfl, e5⟩; rw [e5]; clear e5 w5) | (go_at_call 23; refine (err_ok _ _ (by decide) (by decide)).mono ?_; rintro e wa ⟨rfl, hbwa⟩; have hBwa : Below w.heap.size w wa := bup (by with_reducible (repeat' first | assumption | exact Below.refl _ _ | refine Below.drew ?_ | refine bdrewN ?_ _ | refine Below.setCell ?_ (by first | exact Nat.le_refl _ | (simp; done) | (simp; omega) | omega) _ | refine Below.alloc ?_ (by first | exact Nat.le_refl _ | (simp; done) | (simp; omega) | omega) _)) hbwa; have zwa := hBwa.size; have o0wa : Own wa (w.heap.size) #[.int .i64 0, .int .i64 0, .string ⟨#[]⟩, .bool false, .int .i64 0] := Own.keep (by with_reducible (repeat' first | assumption | refine Own.drew ?_ | refine Own.drewN ?_ _ | (refine Own.at ?_; first | rfl | (simp; done)) | refine Own.past ?_ _)) hbwa; have c0 := o0wa.cell; have f0 := o0wa.fro; have l0 := o0wa.lt))
  exact bodyPost_ret (v := (.agg #[.int .i64 (4), .int .i64 (0), .string ⟨#[]⟩, .bool false, .int .i64 (8)])) (by simp [results, Try.results42, go_sem, c0, f0, l0]) rfl ⟨rfl, by with_reducible (repeat' first | assumption | exact Below.refl _ _ | refine Below.drew ?_ | refine bdrewN ?_ _ | refine Below.setCell ?_ (by first | exact Nat.le_refl _ | (simp; done) | (simp; omega) | omega) _ | refine Below.alloc ?_ (by first | exact Nat.le_refl _ | (simp; done) | (simp; omega) | omega) _)⟩
theorem root_lt {T r r' : Int} (h : RootInv T 0 r) (h' : RootInv T 0 r') : ¬ r < r' := by
  intro hlt
  have a := h.hi
  have b := h'.lo
  have c := h.r0
  rcases b with b | b
  · omega
  · have e : (2 * r + 1) * (2 * r + 1) ≤ (2 * r' - 1) * (2 * r' - 1) := Int.mul_le_mul (by omega) (by omega) (by omega) (by omega)
    have a2 : T < (2 * r + 1) * (2 * r + 1) := by
      have : (2 * (r + ((2 ^ 0 : Nat) : Int)) - 1) = 2 * r + 1 := by simp; omega
      rw [this] at a; exact a
    omega
theorem root_one {T r r' : Int} (h : RootInv T 0 r) (h' : RootInv T 0 r') : r = r' := by
  have := root_lt h h'; have := root_lt h' h; omega
/-- The root, in parts. -/
noncomputable def rootX (x : Int) : Int := Classical.epsilon (fun r => RootInv (x * 40000) 0 r)
theorem rootX_is {x r : Int} (h : RootInv (x * 40000) 0 r) : rootX x = r := by
  exact root_one (Classical.epsilon_spec (p := fun r => RootInv (x * 40000) 0 r) ⟨r, h⟩) h
theorem sqrt_all (x : Int) (w : World) (h0 : 0 ≤ x) (h1 : x ≤ 9223372036854775807) : Calls Try.prog 66 #[.int .i64 x] w fun e w' => (e = .returned (.tuple #[.int .i64 (rootX x), .int .i64 0]) ∧ In (rootX x)) ∧ w' = w := by
  refine (sqrt_ok x w h0 h1).mono ?_
  rintro e w' ⟨⟨r, rfl, hr⟩, rfl⟩
  rw [rootX_is hr]
  have a := hr.r0
  have b := hr.top
  exact ⟨⟨rfl, by omega, by simp at b; omega⟩, rfl⟩
theorem root_ok (x : Int) (b : Nat) (w : World) (hb : NB w b [x]) (hx : In x) (h0 : 0 ≤ x) : Calls Try.prog 43 #[.slice (some ⟨b, 0, none⟩) 1 1] w fun e w' => (e = .returned (.agg #[.int .i64 (1), .int .i64 (rootX x), .string ⟨#[]⟩, .bool false, .int .i64 (0)]) ∧ In (rootX x)) ∧ Below w.heap.size w w' := by
  have x0 := hb.at (i := 0) (x := x) rfl
  have hlt := hb.lt
  have hq := fun w1 => sqrt_all x w1 h0 hx.2
  generalize rootX x = r at *
  go_enter Try.func43, Try.ntmps43
  go_wp2_with (first | (go_at_call 66; refine (hq _).mono ?_; rintro e w5 ⟨⟨rfl, hr⟩, e5⟩; rw [e5]; clear e5 w5) | (go_at_call 57; refine (told_any r 0 _ hr (.inl rfl)).mono ?_; rintro e wa ⟨rfl, hbwa⟩; have hBwa : Below w.heap.size w wa := bup (by with_reducible (repeat' first | assumption | exact Below.refl _ _ | refine Below.drew ?_ | refine bdrewN ?_ _ | refine Below.setCell ?_ (by first | exact Nat.le_refl _ | (simp; done) | (simp; omega) | omega) _ | refine Below.alloc ?_ (by first | exact Nat.le_refl _ | (simp; done) | (simp; omega) | omega) _)) hbwa; have zwa := hBwa.size; have o0wa : Own wa (w.heap.size) #[.int .i64 0, .int .i64 0, .string ⟨#[]⟩, .bool false, .int .i64 0] := Own.keep (by with_reducible (repeat' first | assumption | refine Own.drew ?_ | refine Own.drewN ?_ _ | (refine Own.at ?_; first | rfl | (simp; done)) | refine Own.past ?_ _)) hbwa; have c0 := o0wa.cell; have f0 := o0wa.fro; have l0 := o0wa.lt; rw [show tT 0 = 1 from rfl]))
  exact bodyPost_ret (v := (.agg #[.int .i64 (1), .int .i64 (r), .string ⟨#[]⟩, .bool false, .int .i64 (0)])) (by simp [results, Try.results43, go_sem, c0, f0, l0]) rfl ⟨⟨rfl, hr⟩, by with_reducible (repeat' first | assumption | exact Below.refl _ _ | refine Below.drew ?_ | refine bdrewN ?_ _ | refine Below.setCell ?_ (by first | exact Nat.le_refl _ | (simp; done) | (simp; omega) | omega) _ | refine Below.alloc ?_ (by first | exact Nat.le_refl _ | (simp; done) | (simp; omega) | omega) _)⟩
theorem root_no (x : Int) (b : Nat) (w : World) (hb : NB w b [x]) (hx : In x) (h0 : x < 0) : Calls Try.prog 43 #[.slice (some ⟨b, 0, none⟩) 1 1] w fun e w' => e = .returned (.agg #[.int .i64 (4), .int .i64 (0), .string ⟨#[]⟩, .bool false, .int .i64 (8)]) ∧ Below w.heap.size w w' := by
  have x0 := hb.at (i := 0) (x := x) rfl
  have hlt := hb.lt
  have hq := fun w1 => sqrt_neg x w1 hx.1 h0
  go_enter Try.func43, Try.ntmps43
  go_wp2_with (first | (go_at_call 66; refine (hq _).mono ?_; rintro e w5 ⟨rfl, e5⟩; rw [e5]; clear e5 w5) | (go_at_call 57; refine (told_any 0 8 _ in0 (.inr ⟨by decide, by decide, rfl⟩)).mono ?_; rintro e wa ⟨rfl, hbwa⟩; have hBwa : Below w.heap.size w wa := bup (by with_reducible (repeat' first | assumption | exact Below.refl _ _ | refine Below.drew ?_ | refine bdrewN ?_ _ | refine Below.setCell ?_ (by first | exact Nat.le_refl _ | (simp; done) | (simp; omega) | omega) _ | refine Below.alloc ?_ (by first | exact Nat.le_refl _ | (simp; done) | (simp; omega) | omega) _)) hbwa; have zwa := hBwa.size; have o0wa : Own wa (w.heap.size) #[.int .i64 0, .int .i64 0, .string ⟨#[]⟩, .bool false, .int .i64 0] := Own.keep (by with_reducible (repeat' first | assumption | refine Own.drew ?_ | refine Own.drewN ?_ _ | (refine Own.at ?_; first | rfl | (simp; done)) | refine Own.past ?_ _)) hbwa; have c0 := o0wa.cell; have f0 := o0wa.fro; have l0 := o0wa.lt; rw [show tT 8 = 4 from rfl]))
  exact bodyPost_ret (v := (.agg #[.int .i64 (4), .int .i64 (0), .string ⟨#[]⟩, .bool false, .int .i64 (8)])) (by simp [results, Try.results43, go_sem, c0, f0, l0]) rfl ⟨rfl, by with_reducible (repeat' first | assumption | exact Below.refl _ _ | refine Below.drew ?_ | refine bdrewN ?_ _ | refine Below.setCell ?_ (by first | exact Nat.le_refl _ | (simp; done) | (simp; omega) | omega) _ | refine Below.alloc ?_ (by first | exact Nat.le_refl _ | (simp; done) | (simp; omega) | omega) _)⟩
theorem odd_no (x : Int) (b : Nat) (w : World) (hb : NB w b [x]) (hx : In x) (hw : wholeOk x = false) : Calls Try.prog 48 #[.slice (some ⟨b, 0, none⟩) 1 1] w fun e w' => e = .returned (.agg #[.int .i64 (4), .int .i64 (0), .string ⟨#[]⟩, .bool false, .int .i64 (8)]) ∧ Below w.heap.size w w' := by
  have x0 := hb.at (i := 0) (x := x) rfl
  have hlt := hb.lt
  have hq := fun w1 => whole_any x w1 hx.i64
  rw [hw] at hq
  generalize okV false (x.tdiv 10000) = r at hq
  go_enter Try.func48, Try.ntmps48
  go_wp2_with (first | (go_at_call 71; refine (hq _).mono ?_; rintro e w5 ⟨rfl, e5⟩; rw [e5]; clear e5 w5) | (go_at_call 23; refine (err_ok _ _ (by decide) (by decide)).mono ?_; rintro e wa ⟨rfl, hbwa⟩; have hBwa : Below w.heap.size w wa := bup (by with_reducible (repeat' first | assumption | exact Below.refl _ _ | refine Below.drew ?_ | refine bdrewN ?_ _ | refine Below.setCell ?_ (by first | exact Nat.le_refl _ | (simp; done) | (simp; omega) | omega) _ | refine Below.alloc ?_ (by first | exact Nat.le_refl _ | (simp; done) | (simp; omega) | omega) _)) hbwa; have zwa := hBwa.size; have o0wa : Own wa (w.heap.size) #[.int .i64 0, .int .i64 0, .string ⟨#[]⟩, .bool false, .int .i64 0] := Own.keep (by with_reducible (repeat' first | assumption | refine Own.drew ?_ | refine Own.drewN ?_ _ | (refine Own.at ?_; first | rfl | (simp; done)) | refine Own.past ?_ _)) hbwa; have c0 := o0wa.cell; have f0 := o0wa.fro; have l0 := o0wa.lt))
  exact bodyPost_ret (v := (.agg #[.int .i64 (4), .int .i64 (0), .string ⟨#[]⟩, .bool false, .int .i64 (8)])) (by simp [results, Try.results48, go_sem, c0, f0, l0]) rfl ⟨rfl, by with_reducible (repeat' first | assumption | exact Below.refl _ _ | refine Below.drew ?_ | refine bdrewN ?_ _ | refine Below.setCell ?_ (by first | exact Nat.le_refl _ | (simp; done) | (simp; omega) | omega) _ | refine Below.alloc ?_ (by first | exact Nat.le_refl _ | (simp; done) | (simp; omega) | omega) _)⟩
theorem odd_ok (x : Int) (b : Nat) (w : World) (hb : NB w b [x]) (hx : In x) (hw : wholeOk x = true) : Calls Try.prog 48 #[.slice (some ⟨b, 0, none⟩) 1 1] w fun e w' => e = .returned (.agg #[.int .i64 (3), .int .i64 (0), .string ⟨#[]⟩, .bool ((x.tdiv 10000).tmod 2 != 0), .int .i64 (0)]) ∧ Below w.heap.size w w' := by
  have x0 := hb.at (i := 0) (x := x) rfl
  have hlt := hb.lt
  have hq := fun w1 => whole_any x w1 hx.i64
  rw [hw, okV_t rfl] at hq
  generalize x.tdiv 10000 = r at hq ⊢
  have hb2 := tmod_bd r 2 (by decide)
  generalize hg : r.tmod 2 = q at hb2 ⊢
  have hw2 : wrap64 q = q := by unfold wrap64; omega
  go_enter Try.func48, Try.ntmps48
  go_wp2_with (first | (go_at_call 71; refine (hq _).mono ?_; rintro e w5 ⟨rfl, e5⟩; rw [e5]; clear e5 w5) | (go_at_call 72; refine (truth _ _).mono ?_; rintro e wa ⟨rfl, hbwa⟩; have hBwa : Below w.heap.size w wa := bup (by with_reducible (repeat' first | assumption | exact Below.refl _ _ | refine Below.drew ?_ | refine bdrewN ?_ _ | refine Below.setCell ?_ (by first | exact Nat.le_refl _ | (simp; done) | (simp; omega) | omega) _ | refine Below.alloc ?_ (by first | exact Nat.le_refl _ | (simp; done) | (simp; omega) | omega) _)) hbwa; have zwa := hBwa.size; have o0wa : Own wa (w.heap.size) #[.int .i64 0, .int .i64 0, .string ⟨#[]⟩, .bool false, .int .i64 0] := Own.keep (by with_reducible (repeat' first | assumption | refine Own.drew ?_ | refine Own.drewN ?_ _ | (refine Own.at ?_; first | rfl | (simp; done)) | refine Own.past ?_ _)) hbwa; have c0 := o0wa.cell; have f0 := o0wa.fro; have l0 := o0wa.lt))
  exact bodyPost_ret (v := (.agg #[.int .i64 (3), .int .i64 (0), .string ⟨#[]⟩, .bool (q != 0), .int .i64 (0)])) (by simp [results, Try.results48, go_sem, c0, f0, l0]) rfl ⟨rfl, by with_reducible (repeat' first | assumption | exact Below.refl _ _ | refine Below.drew ?_ | refine bdrewN ?_ _ | refine Below.setCell ?_ (by first | exact Nat.le_refl _ | (simp; done) | (simp; omega) | omega) _ | refine Below.alloc ?_ (by first | exact Nat.le_refl _ | (simp; done) | (simp; omega) | omega) _)⟩
end Go.Proofs.Ytfpbcokfianjaaa
