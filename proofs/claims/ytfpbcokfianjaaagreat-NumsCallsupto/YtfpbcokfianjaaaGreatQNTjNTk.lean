/- The contracts of nums.sign, floor, small, placesOf, round, power, root, odd and of trunc at two numbers, of numbers that may be. New memory alone is made. · The contracts of nums.factorial and of trunc at two numbers, of numbers that may be. New memory alone is made. -/
import Derived.Test.YtfpbcokfianjaaaGreatQNTiRound
import Derived.Test.YtfpbcokfianjaaaGreatQPwUPowPwDPow
namespace Go.Proofs.YtfpbcokfianjaaaGreat
open Go.RowKit
set_option linter.all false
theorem cmpI_in (x : Int) : In (cmpI x 0 * 10000) ∧ wrap64 (cmpI x 0 * 10000) = cmpI x 0 * 10000 := by
  unfold cmpI; split
  · exact ⟨⟨by decide, by decide⟩, by unfold wrap64; omega⟩
  · split
    · exact ⟨⟨by decide, by decide⟩, by unfold wrap64; omega⟩
    · exact ⟨⟨by decide, by decide⟩, by unfold wrap64; omega⟩
theorem sign_any (x : Int) (b : Nat) (w : World) (hb : NB w b [x])  : Calls Tryz.prog 50 #[.slice (some ⟨b, 0, none⟩) 1 1] w fun e w' => e = .returned (.agg #[.int .i64 (1), .int .i64 (cmpI x 0 * 10000), .string ⟨#[]⟩, .bool false, .int .i64 (0)]) ∧ Below w.heap.size w w' := by
  have x0 := hb.at (i := 0) (x := x) rfl
  have hlt := hb.lt
  obtain ⟨hi, hw⟩ := cmpI_in x
  have h0 := fun w1 => cmp64 x 0 w1
  have h1 := fun w1 => num_t (cmpI x 0 * 10000) w1 hi.i64 (by have := hi.1; omega)
  generalize cmpI x 0 = r at *
  go_enter Tryz.func50, Tryz.ntmps50
  go_wp2_with (first | (go_at_call 85; refine (h0 _).mono ?_; rintro e w5 ⟨rfl, e5⟩; rw [e5]; clear e5 w5) | (go_at_call 83; refine (h1 _).mono ?_; rintro e wa ⟨rfl, hbwa⟩; have hBwa : Below w.heap.size w wa := bup (by with_reducible (repeat' first | assumption | exact Below.refl _ _ | refine Below.drew ?_ | refine bdrewN ?_ _ | refine Below.setCell ?_ (by first | exact Nat.le_refl _ | (simp; done) | (simp; omega) | omega) _ | refine Below.alloc ?_ (by first | exact Nat.le_refl _ | (simp; done) | (simp; omega) | omega) _)) hbwa; have zwa := hBwa.size; have o0wa : Own wa (w.heap.size) #[.int .i64 0, .int .i64 0, .string ⟨#[]⟩, .bool false, .int .i64 0] := Own.keep (by with_reducible (repeat' first | assumption | refine Own.drew ?_ | refine Own.drewN ?_ _ | (refine Own.at ?_; first | rfl | (simp; done)) | refine Own.past ?_ _)) hbwa; have c0 := o0wa.cell; have f0 := o0wa.fro; have l0 := o0wa.lt))
  exact bodyPost_ret (v := (.agg #[.int .i64 (1), .int .i64 (r * 10000), .string ⟨#[]⟩, .bool false, .int .i64 (0)])) (by simp [results, Tryz.results50, go_sem, c0, f0, l0]) rfl ⟨rfl, by with_reducible (repeat' first | assumption | exact Below.refl _ _ | refine Below.drew ?_ | refine bdrewN ?_ _ | refine Below.setCell ?_ (by first | exact Nat.le_refl _ | (simp; done) | (simp; omega) | omega) _ | refine Below.alloc ?_ (by first | exact Nat.le_refl _ | (simp; done) | (simp; omega) | omega) _)⟩
theorem flo_in {x : Int} (hx : In x) : In (okV (floorOk x) (x - x % 10000)) := by
  cases h : floorOk x
  · exact in0
  · unfold floorOk subOk at h; simp at h; rw [okV_t rfl]; exact ⟨by omega, by omega⟩
theorem int_any (x : Int) (b : Nat) (w : World) (hb : NB w b [x]) (hx : In x) : Calls Tryz.prog 51 #[.slice (some ⟨b, 0, none⟩) 1 1] w fun e w' => e = .returned (.agg #[.int .i64 (tT (okC (floorOk x))), .int .i64 (okV (floorOk x) (x - x % 10000)), .string ⟨#[]⟩, .bool false, .int .i64 (okC (floorOk x))]) ∧ Below w.heap.size w w' := by
  have x0 := hb.at (i := 0) (x := x) rfl
  have hlt := hb.lt
  have h0 := fun w1 => floor_any x w1 hx.i64
  have h1 := fun w1 => told_any _ _ w1 (flo_in hx) (okVC (floorOk x) (x - x % 10000))
  generalize okV (floorOk x) (x - x % 10000) = r at *
  generalize okC (floorOk x) = c at *
  generalize tT c = t at h1 ⊢
  go_enter Tryz.func51, Tryz.ntmps51
  go_wp2_with (first | (go_at_call 87; refine (h0 _).mono ?_; rintro e w5 ⟨rfl, e5⟩; rw [e5]; clear e5 w5) | (go_at_call 86; refine (h1 _).mono ?_; rintro e wa ⟨rfl, hbwa⟩; have hBwa : Below w.heap.size w wa := bup (by with_reducible (repeat' first | assumption | exact Below.refl _ _ | refine Below.drew ?_ | refine bdrewN ?_ _ | refine Below.setCell ?_ (by first | exact Nat.le_refl _ | (simp; done) | (simp; omega) | omega) _ | refine Below.alloc ?_ (by first | exact Nat.le_refl _ | (simp; done) | (simp; omega) | omega) _)) hbwa; have zwa := hBwa.size; have o0wa : Own wa (w.heap.size) #[.int .i64 0, .int .i64 0, .string ⟨#[]⟩, .bool false, .int .i64 0] := Own.keep (by with_reducible (repeat' first | assumption | refine Own.drew ?_ | refine Own.drewN ?_ _ | (refine Own.at ?_; first | rfl | (simp; done)) | refine Own.past ?_ _)) hbwa; have c0 := o0wa.cell; have f0 := o0wa.fro; have l0 := o0wa.lt))
  exact bodyPost_ret (v := (.agg #[.int .i64 t, .int .i64 r, .string ⟨#[]⟩, .bool false, .int .i64 c])) (by simp [results, Tryz.results51, go_sem, c0, f0, l0]) rfl ⟨rfl, by with_reducible (repeat' first | assumption | exact Below.refl _ _ | refine Below.drew ?_ | refine bdrewN ?_ _ | refine Below.setCell ?_ (by first | exact Nat.le_refl _ | (simp; done) | (simp; omega) | omega) _ | refine Below.alloc ?_ (by first | exact Nat.le_refl _ | (simp; done) | (simp; omega) | omega) _)⟩
/-- So many places, held within 1000. -/
def plc (y : Int) : Int := max (-1000) (min 1000 (okV (wholeOk y) (y.tdiv 10000)))
theorem plc_bd (y : Int) : -1000 ≤ plc y ∧ plc y ≤ 1000 := by unfold plc; constructor <;> omega
theorem plc_i64 (y : Int) : I64 (plc y) := by have := plc_bd y; exact ⟨by omega, by omega⟩
theorem small_any (y : Int) (w : World) (hy : I64 y) : Calls Tryz.prog 93 #[.int .i64 y] w fun e w' => e = .returned (.tuple #[.int .i64 (plc y), .bool (wholeOk y)]) ∧ w' = w := by
  have h0 := fun w1 => whole_any y w1 hy
  unfold plc
  generalize okV (wholeOk y) (y.tdiv 10000) = r at h0 ⊢
  generalize wholeOk y = q at h0 ⊢
  go_enter Tryz.func93, Tryz.ntmps93
  go_wp2_with (go_at_call 100; refine (h0 _).mono ?_; rintro e w5 ⟨rfl, e5⟩; rw [e5]; clear e5 w5)
  go_ret2
  exact ⟨rfl, rfl⟩
theorem places_2 (x y : Int) (b : Nat) (w : World) (hb : NB w b [x, y]) (hy : I64 y) : Calls Tryz.prog 88 #[.slice (some ⟨b, 0, none⟩) 2 2] w fun e w' => e = .returned (.tuple #[.int .i64 (plc y), .bool (wholeOk y)]) ∧ w' = w := by
  have x1 := hb.at (i := 1) (x := y) rfl
  have h0 := fun w1 => small_any y w1 hy
  generalize plc y = r at h0 ⊢
  generalize wholeOk y = q at h0 ⊢
  go_enter Tryz.func88, Tryz.ntmps88
  go_wp2_with (go_at_call 93; refine (h0 _).mono ?_; rintro e w5 ⟨rfl, e5⟩; rw [e5]; clear e5 w5)
  go_ret2
  exact ⟨rfl, rfl⟩
theorem rou_in {x p : Int} (hx : In x) : In (okV (roundOk x p) (roundN x p)) := by
  obtain ⟨h1, h2⟩ := hx
  have hsz := sizeV_range h1 h2
  cases h : roundOk x p
  · exact in0
  · rw [okV_t rfl]
    unfold roundOk at h; simp at h
    have hn : 0 ≤ rnd (sizeV x) (roundStep p) := by
      unfold rnd
      have g : (0 : Int) ≤ (roundStep p : Int) := by omega
      refine Int.mul_nonneg (Int.add_nonneg (Int.ediv_nonneg hsz.1 g) ?_) g
      split <;> omega
    unfold roundN
    split
    · exact ⟨h1, h2⟩
    · split
      · exact in0
      · have := h.2
        split <;> exact ⟨by omega, by omega⟩
theorem round_1 (x : Int) (b : Nat) (w : World) (hb : NB w b [x]) (hx : In x)  : Calls Tryz.prog 53 #[.slice (some ⟨b, 0, none⟩) 1 1] w fun e w' => e = .returned (.agg #[.int .i64 (tT (okC (roundOk x (0)))), .int .i64 (okV (roundOk x (0)) (roundN x (0))), .string ⟨#[]⟩, .bool false, .int .i64 (okC (roundOk x (0)))]) ∧ Below w.heap.size w w' := by
  have x0 := hb.at (i := 0) (x := x) rfl
  have hlt := hb.lt
  have hp := fun w1 => places_1 ⟨b, 0, none⟩ w1
  have h0 := fun w1 => round_any x (0) w1 hx.i64 ⟨by decide, by decide⟩
  have h1 := fun w1 => told_any _ _ w1 (rou_in (p := 0) hx) (okVC (roundOk x (0)) (roundN x (0)))
  generalize okV (roundOk x (0)) (roundN x (0)) = r at *
  generalize okC (roundOk x (0)) = c at *
  generalize tT c = t at h1 ⊢
  go_enter Tryz.func53, Tryz.ntmps53
  go_wp2_with (first | (go_at_call 88; refine (hp _).mono ?_; rintro e w5 ⟨rfl, e5⟩; rw [e5]; clear e5 w5) | (go_at_call 89; refine (h0 _).mono ?_; rintro e wd ⟨rfl, nd, rfl⟩) | (go_at_call 86; refine (h1 _).mono ?_; rintro e wa ⟨rfl, hbwa⟩; have hBwa : Below w.heap.size w wa := bup (by with_reducible (repeat' first | assumption | exact Below.refl _ _ | refine Below.drew ?_ | refine bdrewN ?_ _ | refine Below.setCell ?_ (by first | exact Nat.le_refl _ | (simp; done) | (simp; omega) | omega) _ | refine Below.alloc ?_ (by first | exact Nat.le_refl _ | (simp; done) | (simp; omega) | omega) _)) hbwa; have zwa := hBwa.size; have o0wa : Own wa (w.heap.size) #[.int .i64 0, .int .i64 0, .string ⟨#[]⟩, .bool false, .int .i64 0] := Own.keep (by with_reducible (repeat' first | assumption | refine Own.drew ?_ | refine Own.drewN ?_ _ | (refine Own.at ?_; first | rfl | (simp; done)) | refine Own.past ?_ _)) hbwa; have c0 := o0wa.cell; have f0 := o0wa.fro; have l0 := o0wa.lt))
  exact bodyPost_ret (v := (.agg #[.int .i64 t, .int .i64 r, .string ⟨#[]⟩, .bool false, .int .i64 c])) (by simp [results, Tryz.results53, go_sem, c0, f0, l0]) rfl ⟨rfl, by with_reducible (repeat' first | assumption | exact Below.refl _ _ | refine Below.drew ?_ | refine bdrewN ?_ _ | refine Below.setCell ?_ (by first | exact Nat.le_refl _ | (simp; done) | (simp; omega) | omega) _ | refine Below.alloc ?_ (by first | exact Nat.le_refl _ | (simp; done) | (simp; omega) | omega) _)⟩
theorem round_2 (x y : Int) (b : Nat) (w : World) (hb : NB w b [x, y]) (hx : In x) (hy : In y) (hw : wholeOk y = true) : Calls Tryz.prog 53 #[.slice (some ⟨b, 0, none⟩) 2 2] w fun e w' => e = .returned (.agg #[.int .i64 (tT (okC (roundOk x (plc y)))), .int .i64 (okV (roundOk x (plc y)) (roundN x (plc y))), .string ⟨#[]⟩, .bool false, .int .i64 (okC (roundOk x (plc y)))]) ∧ Below w.heap.size w w' := by
  have x0 := hb.at (i := 0) (x := x) rfl
  have hlt := hb.lt
  have hp := fun w1 (h : NB w1 b [x, y]) => places_2 x y b w1 h hy.i64
  rw [hw] at hp
  have h0 := fun w1 => round_any x (plc y) w1 hx.i64 (plc_i64 y)
  have h1 := fun w1 => told_any _ _ w1 (rou_in (p := plc y) hx) (okVC (roundOk x (plc y)) (roundN x (plc y)))
  generalize okV (roundOk x (plc y)) (roundN x (plc y)) = r at *
  generalize okC (roundOk x (plc y)) = c at *
  generalize tT c = t at h1 ⊢
  generalize plc y = p at *
  go_enter Tryz.func53, Tryz.ntmps53
  go_wp2_with (first | (go_at_call 88; refine (hp _ (hb.keep (bal _ _))).mono ?_; rintro e w5 ⟨rfl, e5⟩; rw [e5]; clear e5 w5) | (go_at_call 89; refine (h0 _).mono ?_; rintro e wd ⟨rfl, nd, rfl⟩) | (go_at_call 86; refine (h1 _).mono ?_; rintro e wa ⟨rfl, hbwa⟩; have hBwa : Below w.heap.size w wa := bup (by with_reducible (repeat' first | assumption | exact Below.refl _ _ | refine Below.drew ?_ | refine bdrewN ?_ _ | refine Below.setCell ?_ (by first | exact Nat.le_refl _ | (simp; done) | (simp; omega) | omega) _ | refine Below.alloc ?_ (by first | exact Nat.le_refl _ | (simp; done) | (simp; omega) | omega) _)) hbwa; have zwa := hBwa.size; have o0wa : Own wa (w.heap.size) #[.int .i64 0, .int .i64 0, .string ⟨#[]⟩, .bool false, .int .i64 0] := Own.keep (by with_reducible (repeat' first | assumption | refine Own.drew ?_ | refine Own.drewN ?_ _ | (refine Own.at ?_; first | rfl | (simp; done)) | refine Own.past ?_ _)) hbwa; have c0 := o0wa.cell; have f0 := o0wa.fro; have l0 := o0wa.lt))
  exact bodyPost_ret (v := (.agg #[.int .i64 t, .int .i64 r, .string ⟨#[]⟩, .bool false, .int .i64 c])) (by simp [results, Tryz.results53, go_sem, c0, f0, l0]) rfl ⟨rfl, by with_reducible (repeat' first | assumption | exact Below.refl _ _ | refine Below.drew ?_ | refine bdrewN ?_ _ | refine Below.setCell ?_ (by first | exact Nat.le_refl _ | (simp; done) | (simp; omega) | omega) _ | refine Below.alloc ?_ (by first | exact Nat.le_refl _ | (simp; done) | (simp; omega) | omega) _)⟩
theorem round_no (x y : Int) (b : Nat) (w : World) (hb : NB w b [x, y]) (hy : In y) (hw : wholeOk y = false) : Calls Tryz.prog 53 #[.slice (some ⟨b, 0, none⟩) 2 2] w fun e w' => e = .returned (.agg #[.int .i64 (4), .int .i64 (0), .string ⟨#[]⟩, .bool false, .int .i64 (8)]) ∧ Below w.heap.size w w' := by
  have hlt := hb.lt
  have hp := fun w1 (h : NB w1 b [x, y]) => places_2 x y b w1 h hy.i64
  rw [hw] at hp
  generalize plc y = p at *
  go_enter Tryz.func53, Tryz.ntmps53
  go_wp2_with (first | (go_at_call 88; refine (hp _ (hb.keep (bal _ _))).mono ?_; rintro e w5 ⟨rfl, e5⟩; rw [e5]; clear e5 w5) | (go_at_call 9; refine (err_ok _ _ (by decide) (by decide)).mono ?_; rintro e wa ⟨rfl, hbwa⟩; have hBwa : Below w.heap.size w wa := bup (by with_reducible (repeat' first | assumption | exact Below.refl _ _ | refine Below.drew ?_ | refine bdrewN ?_ _ | refine Below.setCell ?_ (by first | exact Nat.le_refl _ | (simp; done) | (simp; omega) | omega) _ | refine Below.alloc ?_ (by first | exact Nat.le_refl _ | (simp; done) | (simp; omega) | omega) _)) hbwa; have zwa := hBwa.size; have o0wa : Own wa (w.heap.size) #[.int .i64 0, .int .i64 0, .string ⟨#[]⟩, .bool false, .int .i64 0] := Own.keep (by with_reducible (repeat' first | assumption | refine Own.drew ?_ | refine Own.drewN ?_ _ | (refine Own.at ?_; first | rfl | (simp; done)) | refine Own.past ?_ _)) hbwa; have c0 := o0wa.cell; have f0 := o0wa.fro; have l0 := o0wa.lt))
  exact bodyPost_ret (v := (.agg #[.int .i64 (4), .int .i64 (0), .string ⟨#[]⟩, .bool false, .int .i64 (8)])) (by simp [results, Tryz.results53, go_sem, c0, f0, l0]) rfl ⟨rfl, by with_reducible (repeat' first | assumption | exact Below.refl _ _ | refine Below.drew ?_ | refine bdrewN ?_ _ | refine Below.setCell ?_ (by first | exact Nat.le_refl _ | (simp; done) | (simp; omega) | omega) _ | refine Below.alloc ?_ (by first | exact Nat.le_refl _ | (simp; done) | (simp; omega) | omega) _)⟩
/-- What a power answers, and the code. -/
def powX (x n : Int) : Int := if n < -64 ∨ 64 < n then 0 else if n = 0 then 10000 else if x = 0 then 0 else if n < 0 then Pw.pwV (Pw.rnd (10000 ^ n.natAbs * 10000) (x.natAbs ^ n.natAbs)) (Pw.sgp (decide (x < 0)) n.natAbs) else Pw.pwV (Pw.rnd (x.natAbs ^ n.natAbs * 10000) (10000 ^ n.natAbs)) (Pw.sgp (decide (x < 0)) n.natAbs)
def powC (x n : Int) : Int := if n < -64 ∨ 64 < n then 8 else if n = 0 then 0 else if x = 0 then (if n < 0 then 3 else 0) else if n < 0 then Pw.pwC (Pw.rnd (10000 ^ n.natAbs * 10000) (x.natAbs ^ n.natAbs)) else Pw.pwC (Pw.rnd (x.natAbs ^ n.natAbs * 10000) (10000 ^ n.natAbs))
theorem pow_all (x n : Int) (w : World) (hx : In x) : Calls Tryz.prog 94 #[.int .i64 x, .int .i64 n] w fun e w' => e = .returned (.tuple #[.int .i64 (powX x n), .int .i64 (powC x n)]) ∧ Below w.heap.size w w' := by
  obtain ⟨h1, h2⟩ := hx
  unfold powX powC
  by_cases ho : n < -64 ∨ 64 < n
  · rw [if_pos ho, if_pos ho]
    rcases ho with ho | ho
    · exact Pw.pow_lo x n w h1 ho
    · exact Pw.pow_hi x n w h1 ho
  rw [if_neg ho, if_neg ho]
  have hs : x = (x.natAbs : Int) ∨ x = -(x.natAbs : Int) := by omega
  by_cases h0 : n = 0
  · rw [if_pos h0, if_pos h0, h0]
    exact Pw.pow_n0 x x.natAbs (decide (x < 0)) w h1 hs (by omega) rfl
  rw [if_neg h0, if_neg h0]
  by_cases hz : x = 0
  · rw [if_pos hz, if_pos hz, hz]
    by_cases hn : n < 0
    · rw [if_pos hn]; exact Pw.pow_0n n w (by omega) hn
    · rw [if_neg hn]; exact Pw.pow_0p n w (by omega) (by omega)
  rw [if_neg hz, if_neg hz]
  by_cases hn : n < 0
  · rw [if_pos hn, if_pos hn]
    have q := Pw.pow_neg x x.natAbs n.natAbs (decide (x < 0)) w h1 hs (by omega) (by omega) (by omega) (by omega) rfl
    rw [show -(n.natAbs : Int) = n by omega] at q
    exact q
  · rw [if_neg hn, if_neg hn]
    have q := Pw.pow_pos x x.natAbs n.natAbs (decide (x < 0)) w h1 hs (.inr (by omega)) (by omega) (by omega) rfl (by simp; exact hz)
    rw [show ((n.natAbs : Nat) : Int) = n by omega] at q
    exact q
theorem pwV_in (R : Nat) (b : Bool) : In (Pw.pwV R b) := by
  unfold Pw.pwV; split
  · cases b <;> simp <;> exact ⟨by omega, by omega⟩
  · exact in0
theorem pwVC (R : Nat) (b : Bool) : Pw.pwC R = 0 ∨ (1 ≤ Pw.pwC R ∧ Pw.pwC R ≤ 8 ∧ Pw.pwV R b = 0) := by
  unfold Pw.pwC Pw.pwV; split
  · exact .inl rfl
  · exact .inr ⟨by decide, by decide, rfl⟩
theorem powX_in (x n : Int) : In (powX x n) := by
  unfold powX; split
  · exact in0
  split
  · exact ⟨by decide, by decide⟩
  split
  · exact in0
  split
  · exact pwV_in _ _
  · exact pwV_in _ _
theorem powXC (x n : Int) : powC x n = 0 ∨ (1 ≤ powC x n ∧ powC x n ≤ 8 ∧ powX x n = 0) := by
  unfold powC powX; split
  · exact .inr ⟨by decide, by decide, rfl⟩
  split
  · exact .inl rfl
  split
  · split
    · exact .inr ⟨by decide, by decide, rfl⟩
    · exact .inl rfl
  split
  · exact pwVC _ _
  · exact pwVC _ _
theorem power_ok (x y : Int) (b : Nat) (w : World) (hb : NB w b [x, y]) (hx : In x) (hy : In y) (hw : wholeOk y = true) : Calls Tryz.prog 58 #[.slice (some ⟨b, 0, none⟩) 2 2] w fun e w' => e = .returned (.agg #[.int .i64 (tT (powC x (plc y))), .int .i64 (powX x (plc y)), .string ⟨#[]⟩, .bool false, .int .i64 (powC x (plc y))]) ∧ Below w.heap.size w w' := by
  have x0 := hb.at (i := 0) (x := x) rfl
  have x1 := hb.at (i := 1) (x := y) rfl
  have hlt := hb.lt
  have hp := fun w1 => small_any y w1 hy.i64
  rw [hw] at hp
  have h0 := fun w1 => pow_all x (plc y) w1 hx
  have h1 := fun w1 => told_any _ _ w1 (powX_in x (plc y)) (powXC x (plc y))
  generalize powX x (plc y) = r at *
  generalize powC x (plc y) = c at *
  generalize plc y = p at *
  generalize tT c = t at h1 ⊢
  go_enter Tryz.func58, Tryz.ntmps58
  go_wp2_with (first | (go_at_call 93; refine (hp _).mono ?_; rintro e w5 ⟨rfl, e5⟩; rw [e5]; clear e5 w5) | (go_at_call 94; refine (h0 _).mono ?_; rintro e wb ⟨rfl, hbwb⟩; have hBwb : Below w.heap.size w wb := bup (by with_reducible (repeat' first | assumption | exact Below.refl _ _ | refine Below.drew ?_ | refine bdrewN ?_ _ | refine Below.setCell ?_ (by first | exact Nat.le_refl _ | (simp; done) | (simp; omega) | omega) _ | refine Below.alloc ?_ (by first | exact Nat.le_refl _ | (simp; done) | (simp; omega) | omega) _)) hbwb; have zwb := hBwb.size; have o0wb : Own wb (w.heap.size) #[.int .i64 0, .int .i64 0, .string ⟨#[]⟩, .bool false, .int .i64 0] := Own.keep (by with_reducible (repeat' first | assumption | refine Own.drew ?_ | refine Own.drewN ?_ _ | (refine Own.at ?_; first | rfl | (simp; done)) | refine Own.past ?_ _)) hbwb; have c0 := o0wb.cell; have f0 := o0wb.fro; have l0 := o0wb.lt) | (go_at_call 86; refine (h1 _).mono ?_; rintro e wa ⟨rfl, hbwa⟩; have hBwa : Below w.heap.size w wa := bup (by with_reducible (repeat' first | assumption | exact Below.refl _ _ | refine Below.drew ?_ | refine bdrewN ?_ _ | refine Below.setCell ?_ (by first | exact Nat.le_refl _ | (simp; done) | (simp; omega) | omega) _ | refine Below.alloc ?_ (by first | exact Nat.le_refl _ | (simp; done) | (simp; omega) | omega) _)) hbwa; have zwa := hBwa.size; have o0wa : Own wa (w.heap.size) #[.int .i64 0, .int .i64 0, .string ⟨#[]⟩, .bool false, .int .i64 0] := Own.keep (by with_reducible (repeat' first | assumption | refine Own.drew ?_ | refine Own.drewN ?_ _ | (refine Own.at ?_; first | rfl | (simp; done)) | refine Own.past ?_ _)) hbwa; have c0 := o0wa.cell; have f0 := o0wa.fro; have l0 := o0wa.lt))
  exact bodyPost_ret (v := (.agg #[.int .i64 t, .int .i64 r, .string ⟨#[]⟩, .bool false, .int .i64 c])) (by simp [results, Tryz.results58, go_sem, c0, f0, l0]) rfl ⟨rfl, by with_reducible (repeat' first | assumption | exact Below.refl _ _ | refine Below.drew ?_ | refine bdrewN ?_ _ | refine Below.setCell ?_ (by first | exact Nat.le_refl _ | (simp; done) | (simp; omega) | omega) _ | refine Below.alloc ?_ (by first | exact Nat.le_refl _ | (simp; done) | (simp; omega) | omega) _)⟩
theorem power_no (x y : Int) (b : Nat) (w : World) (hb : NB w b [x, y]) (hy : In y) (hw : wholeOk y = false) : Calls Tryz.prog 58 #[.slice (some ⟨b, 0, none⟩) 2 2] w fun e w' => e = .returned (.agg #[.int .i64 (4), .int .i64 (0), .string ⟨#[]⟩, .bool false, .int .i64 (8)]) ∧ Below w.heap.size w w' := by
  have x1 := hb.at (i := 1) (x := y) rfl
  have hlt := hb.lt
  have hp := fun w1 => small_any y w1 hy.i64
  rw [hw] at hp
  generalize plc y = p at *
  go_enter Tryz.func58, Tryz.ntmps58
  go_wp2_with (first | (go_at_call 93; refine (hp _).mono ?_; rintro e w5 ⟨rfl, e5⟩; rw [e5]; clear e5 w5) | (go_at_call 9; refine (err_ok _ _ (by decide) (by decide)).mono ?_; rintro e wa ⟨rfl, hbwa⟩; have hBwa : Below w.heap.size w wa := bup (by with_reducible (repeat' first | assumption | exact Below.refl _ _ | refine Below.drew ?_ | refine bdrewN ?_ _ | refine Below.setCell ?_ (by first | exact Nat.le_refl _ | (simp; done) | (simp; omega) | omega) _ | refine Below.alloc ?_ (by first | exact Nat.le_refl _ | (simp; done) | (simp; omega) | omega) _)) hbwa; have zwa := hBwa.size; have o0wa : Own wa (w.heap.size) #[.int .i64 0, .int .i64 0, .string ⟨#[]⟩, .bool false, .int .i64 0] := Own.keep (by with_reducible (repeat' first | assumption | refine Own.drew ?_ | refine Own.drewN ?_ _ | (refine Own.at ?_; first | rfl | (simp; done)) | refine Own.past ?_ _)) hbwa; have c0 := o0wa.cell; have f0 := o0wa.fro; have l0 := o0wa.lt))
  exact bodyPost_ret (v := (.agg #[.int .i64 (4), .int .i64 (0), .string ⟨#[]⟩, .bool false, .int .i64 (8)])) (by simp [results, Tryz.results58, go_sem, c0, f0, l0]) rfl ⟨rfl, by with_reducible (repeat' first | assumption | exact Below.refl _ _ | refine Below.drew ?_ | refine bdrewN ?_ _ | refine Below.setCell ?_ (by first | exact Nat.le_refl _ | (simp; done) | (simp; omega) | omega) _ | refine Below.alloc ?_ (by first | exact Nat.le_refl _ | (simp; done) | (simp; omega) | omega) _)⟩
theorem root_lt {T r r' : Int} (h : RootInv T 0 r) (h' : RootInv T 0 r') : ¬ r < r' := by
  intro hlt
  have a := h.hi
  have b := h'.lo
  have c := h.r0
  rcases b with b | b
  · omega
  · have e : (2 * r + 1) * (2 * r + 1) ≤ (2 * r' - 1) * (2 * r' - 1) := Int.mul_le_mul (by omega) (by omega) (by omega) (by omega)
    have a2 : T < (2 * r + 1) * (2 * r + 1) := by
      have : (2 * (r + ((2 ^ 0 : Nat) : Int)) - 1) = 2 * r + 1 := by simp; omega
      rw [this] at a; exact a
    omega
theorem root_one {T r r' : Int} (h : RootInv T 0 r) (h' : RootInv T 0 r') : r = r' := by
  have := root_lt h h'; have := root_lt h' h; omega
/-- The root, in parts. -/
noncomputable def rootX (x : Int) : Int := Classical.epsilon (fun r => RootInv (x * 40000) 0 r)
theorem rootX_is {x r : Int} (h : RootInv (x * 40000) 0 r) : rootX x = r := by
  exact root_one (Classical.epsilon_spec (p := fun r => RootInv (x * 40000) 0 r) ⟨r, h⟩) h
theorem sqrt_all (x : Int) (w : World) (h0 : 0 ≤ x) (h1 : x ≤ 9223372036854775807) : Calls Tryz.prog 95 #[.int .i64 x] w fun e w' => (e = .returned (.tuple #[.int .i64 (rootX x), .int .i64 0]) ∧ In (rootX x)) ∧ w' = w := by
  refine (sqrt_ok x w h0 h1).mono ?_
  rintro e w' ⟨⟨r, rfl, hr⟩, rfl⟩
  rw [rootX_is hr]
  have a := hr.r0
  have b := hr.top
  exact ⟨⟨rfl, by omega, by simp at b; omega⟩, rfl⟩
theorem root_ok (x : Int) (b : Nat) (w : World) (hb : NB w b [x]) (hx : In x) (h0 : 0 ≤ x) : Calls Tryz.prog 59 #[.slice (some ⟨b, 0, none⟩) 1 1] w fun e w' => (e = .returned (.agg #[.int .i64 (1), .int .i64 (rootX x), .string ⟨#[]⟩, .bool false, .int .i64 (0)]) ∧ In (rootX x)) ∧ Below w.heap.size w w' := by
  have x0 := hb.at (i := 0) (x := x) rfl
  have hlt := hb.lt
  have hq := fun w1 => sqrt_all x w1 h0 hx.2
  generalize rootX x = r at *
  go_enter Tryz.func59, Tryz.ntmps59
  go_wp2_with (first | (go_at_call 95; refine (hq _).mono ?_; rintro e w5 ⟨⟨rfl, hr⟩, e5⟩; rw [e5]; clear e5 w5) | (go_at_call 86; refine (told_any r 0 _ hr (.inl rfl)).mono ?_; rintro e wa ⟨rfl, hbwa⟩; have hBwa : Below w.heap.size w wa := bup (by with_reducible (repeat' first | assumption | exact Below.refl _ _ | refine Below.drew ?_ | refine bdrewN ?_ _ | refine Below.setCell ?_ (by first | exact Nat.le_refl _ | (simp; done) | (simp; omega) | omega) _ | refine Below.alloc ?_ (by first | exact Nat.le_refl _ | (simp; done) | (simp; omega) | omega) _)) hbwa; have zwa := hBwa.size; have o0wa : Own wa (w.heap.size) #[.int .i64 0, .int .i64 0, .string ⟨#[]⟩, .bool false, .int .i64 0] := Own.keep (by with_reducible (repeat' first | assumption | refine Own.drew ?_ | refine Own.drewN ?_ _ | (refine Own.at ?_; first | rfl | (simp; done)) | refine Own.past ?_ _)) hbwa; have c0 := o0wa.cell; have f0 := o0wa.fro; have l0 := o0wa.lt; rw [show tT 0 = 1 from rfl]))
  exact bodyPost_ret (v := (.agg #[.int .i64 (1), .int .i64 (r), .string ⟨#[]⟩, .bool false, .int .i64 (0)])) (by simp [results, Tryz.results59, go_sem, c0, f0, l0]) rfl ⟨⟨rfl, hr⟩, by with_reducible (repeat' first | assumption | exact Below.refl _ _ | refine Below.drew ?_ | refine bdrewN ?_ _ | refine Below.setCell ?_ (by first | exact Nat.le_refl _ | (simp; done) | (simp; omega) | omega) _ | refine Below.alloc ?_ (by first | exact Nat.le_refl _ | (simp; done) | (simp; omega) | omega) _)⟩
theorem root_no (x : Int) (b : Nat) (w : World) (hb : NB w b [x]) (hx : In x) (h0 : x < 0) : Calls Tryz.prog 59 #[.slice (some ⟨b, 0, none⟩) 1 1] w fun e w' => e = .returned (.agg #[.int .i64 (4), .int .i64 (0), .string ⟨#[]⟩, .bool false, .int .i64 (8)]) ∧ Below w.heap.size w w' := by
  have x0 := hb.at (i := 0) (x := x) rfl
  have hlt := hb.lt
  have hq := fun w1 => sqrt_neg x w1 hx.1 h0
  go_enter Tryz.func59, Tryz.ntmps59
  go_wp2_with (first | (go_at_call 95; refine (hq _).mono ?_; rintro e w5 ⟨rfl, e5⟩; rw [e5]; clear e5 w5) | (go_at_call 86; refine (told_any 0 8 _ in0 (.inr ⟨by decide, by decide, rfl⟩)).mono ?_; rintro e wa ⟨rfl, hbwa⟩; have hBwa : Below w.heap.size w wa := bup (by with_reducible (repeat' first | assumption | exact Below.refl _ _ | refine Below.drew ?_ | refine bdrewN ?_ _ | refine Below.setCell ?_ (by first | exact Nat.le_refl _ | (simp; done) | (simp; omega) | omega) _ | refine Below.alloc ?_ (by first | exact Nat.le_refl _ | (simp; done) | (simp; omega) | omega) _)) hbwa; have zwa := hBwa.size; have o0wa : Own wa (w.heap.size) #[.int .i64 0, .int .i64 0, .string ⟨#[]⟩, .bool false, .int .i64 0] := Own.keep (by with_reducible (repeat' first | assumption | refine Own.drew ?_ | refine Own.drewN ?_ _ | (refine Own.at ?_; first | rfl | (simp; done)) | refine Own.past ?_ _)) hbwa; have c0 := o0wa.cell; have f0 := o0wa.fro; have l0 := o0wa.lt; rw [show tT 8 = 4 from rfl]))
  exact bodyPost_ret (v := (.agg #[.int .i64 (4), .int .i64 (0), .string ⟨#[]⟩, .bool false, .int .i64 (8)])) (by simp [results, Tryz.results59, go_sem, c0, f0, l0]) rfl ⟨rfl, by with_reducible (repeat' first | assumption | exact Below.refl _ _ | refine Below.drew ?_ | refine bdrewN ?_ _ | refine Below.setCell ?_ (by first | exact Nat.le_refl _ | (simp; done) | (simp; omega) | omega) _ | refine Below.alloc ?_ (by first | exact Nat.le_refl _ | (simp; done) | (simp; omega) | omega) _)⟩
theorem odd_no (x : Int) (b : Nat) (w : World) (hb : NB w b [x]) (hx : In x) (hw : wholeOk x = false) : Calls Tryz.prog 64 #[.slice (some ⟨b, 0, none⟩) 1 1] w fun e w' => e = .returned (.agg #[.int .i64 (4), .int .i64 (0), .string ⟨#[]⟩, .bool false, .int .i64 (8)]) ∧ Below w.heap.size w w' := by
  have x0 := hb.at (i := 0) (x := x) rfl
  have hlt := hb.lt
  have hq := fun w1 => whole_any x w1 hx.i64
  rw [hw] at hq
  generalize okV false (x.tdiv 10000) = r at hq
  go_enter Tryz.func64, Tryz.ntmps64
  go_wp2_with (first | (go_at_call 100; refine (hq _).mono ?_; rintro e w5 ⟨rfl, e5⟩; rw [e5]; clear e5 w5) | (go_at_call 9; refine (err_ok _ _ (by decide) (by decide)).mono ?_; rintro e wa ⟨rfl, hbwa⟩; have hBwa : Below w.heap.size w wa := bup (by with_reducible (repeat' first | assumption | exact Below.refl _ _ | refine Below.drew ?_ | refine bdrewN ?_ _ | refine Below.setCell ?_ (by first | exact Nat.le_refl _ | (simp; done) | (simp; omega) | omega) _ | refine Below.alloc ?_ (by first | exact Nat.le_refl _ | (simp; done) | (simp; omega) | omega) _)) hbwa; have zwa := hBwa.size; have o0wa : Own wa (w.heap.size) #[.int .i64 0, .int .i64 0, .string ⟨#[]⟩, .bool false, .int .i64 0] := Own.keep (by with_reducible (repeat' first | assumption | refine Own.drew ?_ | refine Own.drewN ?_ _ | (refine Own.at ?_; first | rfl | (simp; done)) | refine Own.past ?_ _)) hbwa; have c0 := o0wa.cell; have f0 := o0wa.fro; have l0 := o0wa.lt))
  exact bodyPost_ret (v := (.agg #[.int .i64 (4), .int .i64 (0), .string ⟨#[]⟩, .bool false, .int .i64 (8)])) (by simp [results, Tryz.results64, go_sem, c0, f0, l0]) rfl ⟨rfl, by with_reducible (repeat' first | assumption | exact Below.refl _ _ | refine Below.drew ?_ | refine bdrewN ?_ _ | refine Below.setCell ?_ (by first | exact Nat.le_refl _ | (simp; done) | (simp; omega) | omega) _ | refine Below.alloc ?_ (by first | exact Nat.le_refl _ | (simp; done) | (simp; omega) | omega) _)⟩
theorem odd_ok (x : Int) (b : Nat) (w : World) (hb : NB w b [x]) (hx : In x) (hw : wholeOk x = true) : Calls Tryz.prog 64 #[.slice (some ⟨b, 0, none⟩) 1 1] w fun e w' => e = .returned (.agg #[.int .i64 (3), .int .i64 (0), .string ⟨#[]⟩, .bool ((x.tdiv 10000).tmod 2 != 0), .int .i64 (0)]) ∧ Below w.heap.size w w' := by
  have x0 := hb.at (i := 0) (x := x) rfl
  have hlt := hb.lt
  have hq := fun w1 => whole_any x w1 hx.i64
  rw [hw, okV_t rfl] at hq
  generalize x.tdiv 10000 = r at hq ⊢
  have hb2 := tmod_bd r 2 (by decide)
  generalize hg : r.tmod 2 = q at hb2 ⊢
  have hw2 : wrap64 q = q := by unfold wrap64; omega
  go_enter Tryz.func64, Tryz.ntmps64
  go_wp2_with (first | (go_at_call 100; refine (hq _).mono ?_; rintro e w5 ⟨rfl, e5⟩; rw [e5]; clear e5 w5) | (go_at_call 101; refine (truth _ _).mono ?_; rintro e wa ⟨rfl, hbwa⟩; have hBwa : Below w.heap.size w wa := bup (by with_reducible (repeat' first | assumption | exact Below.refl _ _ | refine Below.drew ?_ | refine bdrewN ?_ _ | refine Below.setCell ?_ (by first | exact Nat.le_refl _ | (simp; done) | (simp; omega) | omega) _ | refine Below.alloc ?_ (by first | exact Nat.le_refl _ | (simp; done) | (simp; omega) | omega) _)) hbwa; have zwa := hBwa.size; have o0wa : Own wa (w.heap.size) #[.int .i64 0, .int .i64 0, .string ⟨#[]⟩, .bool false, .int .i64 0] := Own.keep (by with_reducible (repeat' first | assumption | refine Own.drew ?_ | refine Own.drewN ?_ _ | (refine Own.at ?_; first | rfl | (simp; done)) | refine Own.past ?_ _)) hbwa; have c0 := o0wa.cell; have f0 := o0wa.fro; have l0 := o0wa.lt))
  exact bodyPost_ret (v := (.agg #[.int .i64 (3), .int .i64 (0), .string ⟨#[]⟩, .bool (q != 0), .int .i64 (0)])) (by simp [results, Tryz.results64, go_sem, c0, f0, l0]) rfl ⟨rfl, by with_reducible (repeat' first | assumption | exact Below.refl _ _ | refine Below.drew ?_ | refine bdrewN ?_ _ | refine Below.setCell ?_ (by first | exact Nat.le_refl _ | (simp; done) | (simp; omega) | omega) _ | refine Below.alloc ?_ (by first | exact Nat.le_refl _ | (simp; done) | (simp; omega) | omega) _)⟩
end Go.Proofs.YtfpbcokfianjaaaGreat
namespace Go.Proofs.YtfpbcokfianjaaaGreat
open Go.RowKit
set_option linter.all false
theorem fact_no (x : Int) (b : Nat) (w : World) (hb : NB w b [x]) (hx : In x) (hw : wholeOk x = false) : Calls Tryz.prog 62 #[.slice (some ⟨b, 0, none⟩) 1 1] w fun e w' => e = .returned (.agg #[.int .i64 (4), .int .i64 (0), .string ⟨#[]⟩, .bool false, .int .i64 (8)]) ∧ Below w.heap.size w w' := by
  have x0 := hb.at (i := 0) (x := x) rfl
  have hlt := hb.lt
  have hne : ¬ b = w.heap.size := by omega
  have hq := fun w1 => broken_any x w1 hx.i64
  rw [hw] at hq
  go_enter Tryz.func62, Tryz.ntmps62
  go_wp2_with (first | (go_at_call 97; refine (hq _).mono ?_; rintro e w5 ⟨rfl, e5⟩; rw [e5]; clear e5 w5) | (go_at_call 9; refine (err_ok _ _ (by decide) (by decide)).mono ?_; rintro e wa ⟨rfl, hbwa⟩; have hBwa : Below w.heap.size w wa := bup (by with_reducible (repeat' first | assumption | exact Below.refl _ _ | refine Below.drew ?_ | refine bdrewN ?_ _ | refine Below.setCell ?_ (by first | exact Nat.le_refl _ | (simp; done) | (simp; omega) | omega) _ | refine Below.alloc ?_ (by first | exact Nat.le_refl _ | (simp; done) | (simp; omega) | omega) _)) hbwa; have zwa := hBwa.size; have o0wa : Own wa (w.heap.size) #[.int .i64 0, .int .i64 0, .string ⟨#[]⟩, .bool false, .int .i64 0] := Own.keep (by with_reducible (repeat' first | assumption | refine Own.drew ?_ | refine Own.drewN ?_ _ | (refine Own.at ?_; first | rfl | (simp; done)) | refine Own.past ?_ _)) hbwa; have c0 := o0wa.cell; have f0 := o0wa.fro; have l0 := o0wa.lt))
  exact bodyPost_ret (v := (.agg #[.int .i64 (4), .int .i64 (0), .string ⟨#[]⟩, .bool false, .int .i64 (8)])) (by simp [results, Tryz.results62, go_sem, c0, f0, l0]) rfl ⟨rfl, by with_reducible (repeat' first | assumption | exact Below.refl _ _ | refine Below.drew ?_ | refine bdrewN ?_ _ | refine Below.setCell ?_ (by first | exact Nat.le_refl _ | (simp; done) | (simp; omega) | omega) _ | refine Below.alloc ?_ (by first | exact Nat.le_refl _ | (simp; done) | (simp; omega) | omega) _)⟩
theorem fact_neg (x : Int) (b : Nat) (w : World) (hb : NB w b [x]) (hx : In x) (hw : wholeOk x = true) (h0 : x < 0) : Calls Tryz.prog 62 #[.slice (some ⟨b, 0, none⟩) 1 1] w fun e w' => e = .returned (.agg #[.int .i64 (4), .int .i64 (0), .string ⟨#[]⟩, .bool false, .int .i64 (8)]) ∧ Below w.heap.size w w' := by
  have x0 := hb.at (i := 0) (x := x) rfl
  have hlt := hb.lt
  have hne : ¬ b = w.heap.size := by omega
  have hq := fun w1 => broken_any x w1 hx.i64
  rw [hw] at hq
  go_enter Tryz.func62, Tryz.ntmps62
  go_wp2_with (first | (go_at_call 97; refine (hq _).mono ?_; rintro e w5 ⟨rfl, e5⟩; rw [e5]; clear e5 w5) | (go_at_call 9; refine (err_ok _ _ (by decide) (by decide)).mono ?_; rintro e wa ⟨rfl, hbwa⟩; have hBwa : Below w.heap.size w wa := bup (by with_reducible (repeat' first | assumption | exact Below.refl _ _ | refine Below.drew ?_ | refine bdrewN ?_ _ | refine Below.setCell ?_ (by first | exact Nat.le_refl _ | (simp; done) | (simp; omega) | omega) _ | refine Below.alloc ?_ (by first | exact Nat.le_refl _ | (simp; done) | (simp; omega) | omega) _)) hbwa; have zwa := hBwa.size; have o0wa : Own wa (w.heap.size) #[.int .i64 0, .int .i64 0, .string ⟨#[]⟩, .bool false, .int .i64 0] := Own.keep (by with_reducible (repeat' first | assumption | refine Own.drew ?_ | refine Own.drewN ?_ _ | (refine Own.at ?_; first | rfl | (simp; done)) | refine Own.past ?_ _)) hbwa; have c0 := o0wa.cell; have f0 := o0wa.fro; have l0 := o0wa.lt))
  exact bodyPost_ret (v := (.agg #[.int .i64 (4), .int .i64 (0), .string ⟨#[]⟩, .bool false, .int .i64 (8)])) (by simp [results, Tryz.results62, go_sem, c0, f0, l0]) rfl ⟨rfl, by with_reducible (repeat' first | assumption | exact Below.refl _ _ | refine Below.drew ?_ | refine bdrewN ?_ _ | refine Below.setCell ?_ (by first | exact Nat.le_refl _ | (simp; done) | (simp; omega) | omega) _ | refine Below.alloc ?_ (by first | exact Nat.le_refl _ | (simp; done) | (simp; omega) | omega) _)⟩
/-- The product of the whole numbers up to one. -/
def fct : Nat → Nat
  | 0 => 1
  | n + 1 => fct n * (n + 1)
/-- What FACT answers of a whole number that is not below 0. -/
def factV (x : Int) : Value := if x / 10000 ≤ 17 then (.agg #[.int .i64 (1), .int .i64 ((fct (x / 10000).toNat : Int) * 10000), .string ⟨#[]⟩, .bool false, .int .i64 (0)]) else (.agg #[.int .i64 (4), .int .i64 (0), .string ⟨#[]⟩, .bool false, .int .i64 (2)])
theorem fct_le : ∀ n, n ≤ 17 → fct n ≤ 355687428096000 := by decide
theorem fct_pos : ∀ n, 0 < fct n
  | 0 => by decide
  | n + 1 => Nat.mul_pos (fct_pos n) (by omega)
set_option maxRecDepth 100000 in
set_option maxHeartbeats 1000000 in
theorem fact_ok (x : Int) (b : Nat) (w : World) (hb : NB w b [x]) (hx : In x) (hw : wholeOk x = true) (h0 : 0 ≤ x) : Calls Tryz.prog 62 #[.slice (some ⟨b, 0, none⟩) 1 1] w fun e w' => e = .returned (factV x) ∧ Below w.heap.size w w' := by
  have mixed : Tryz.prog.follows .mixedOrders = true := by kernel_rfl
  have x0 := hb.at (i := 0) (x := x) rfl
  have hlt := hb.lt
  have hne : ¬ b = w.heap.size := by omega
  have hq := fun w1 => broken_any x w1 hx.i64
  rw [hw] at hq
  have HB : Hid _ := hb
  obtain ⟨hx1, hx2⟩ := hx
  go_enter Tryz.func62, Tryz.ntmps62
  go_wp2_with (go_at_call 97; refine (hq _).mono ?_; rintro e w5 ⟨rfl, e5⟩; rw [e5]; clear e5 w5)
  go_loopw [3, 4] (fun u v w' => ∃ i : Nat, u = .int .i64 ((fct i : Int) * 10000) ∧ v = .int .i64 (((i : Int) + 1) * 10000) ∧ i ≤ 17 ∧ (i : Int) * 10000 ≤ x ∧ Below w.heap.size w w' ∧ Own w' w.heap.size #[.int .i64 0, .int .i64 0, .string ⟨#[]⟩, .bool false, .int .i64 0]) (fun _ v _ => 20 - (intOf v / 10000).toNat)
  case atStart => exact ⟨0, rfl, rfl, by omega, by omega, by with_reducible (repeat' first | assumption | exact Below.refl _ _ | refine Below.drew ?_ | refine bdrewN ?_ _ | refine Below.setCell ?_ (by first | exact Nat.le_refl _ | (simp; done) | (simp; omega) | omega) _ | refine Below.alloc ?_ (by first | exact Nat.le_refl _ | (simp; done) | (simp; omega) | omega) _), by with_reducible (repeat' first | assumption | refine Own.drew ?_ | refine Own.drewN ?_ _ | (refine Own.at ?_; first | rfl | (simp; done)) | refine Own.past ?_ _)⟩
  case round =>
    obtain ⟨i, rfl, rfl, hi, hix, hB3, o3⟩ := hrel
    have z3 := hB3.size
    have c0 := o3.cell
    have f0 := o3.fro
    have l0 := o3.lt
    have y0 := (HB.out.keep hB3).at (i := 0) (x := x) rfl
    have hf := fct_le i hi
    have hfp := fct_pos i
    by_cases hle : ((i : Int) + 1) * 10000 ≤ x
    · have hs : fct (i + 1) = fct i * (i + 1) := rfl
      have e1 : (fct i : Int) * (((i : Int) + 1) * 10000) = (fct (i + 1) : Int) * 10000 := by rw [hs, Int.natCast_mul, ← Int.mul_assoc]; rfl
      by_cases h17 : i + 1 ≤ 17
      · have hf2 := fct_le (i + 1) h17
        have hml := fun w1 => mul_ex (fct i : Int) (((i : Int) + 1) * 10000) w1 (by omega) (by omega) (by omega) (by omega) (by rw [e1]; omega)
        rw [e1] at hml
        have hw1 : wrap64 (((i : Int) + 1) * 10000 + 10000) = ((i : Int) + 1) * 10000 + 10000 := by unfold wrap64; omega
        have e2 : ((i : Int) + 1) * 10000 + 10000 = (((i + 1 : Nat) : Int) + 1) * 10000 := by omega
        clear hs e1 hf hfp hf2
        obtain ⟨F2, hF2⟩ : ∃ F2 : Int, (fct (i + 1) : Int) = F2 := ⟨_, rfl⟩
        obtain ⟨F1, hF1⟩ : ∃ F1 : Int, (fct i : Int) = F1 := ⟨_, rfl⟩
        rw [hF2, hF1] at hml
        rw [hF1]
        have HF2 : Hid _ := hF2
        clear hF1 hF2
        go_wp2_with (go_at_call 92; refine (hml _).mono ?_; rintro e wa ⟨rfl, hbwa⟩; have hBwa : Below w.heap.size w wa := bup (by with_reducible (repeat' first | assumption | exact Below.refl _ _ | refine Below.drew ?_ | refine bdrewN ?_ _ | refine Below.setCell ?_ (by first | exact Nat.le_refl _ | (simp; done) | (simp; omega) | omega) _ | refine Below.alloc ?_ (by first | exact Nat.le_refl _ | (simp; done) | (simp; omega) | omega) _)) hbwa; have zwa := hBwa.size; have o0wa : Own wa (w.heap.size) #[.int .i64 0, .int .i64 0, .string ⟨#[]⟩, .bool false, .int .i64 0] := Own.keep (by with_reducible (repeat' first | assumption | refine Own.drew ?_ | refine Own.drewN ?_ _ | (refine Own.at ?_; first | rfl | (simp; done)) | refine Own.past ?_ _)) hbwa; have c0 := o0wa.cell; have f0 := o0wa.fro; have l0 := o0wa.lt)
        exact ⟨⟨i + 1, by rw [HF2.out], congrArg (Value.int IntKind.i64) (by omega), h17, by omega, by with_reducible (repeat' first | assumption | exact Below.refl _ _ | refine Below.drew ?_ | refine bdrewN ?_ _ | refine Below.setCell ?_ (by first | exact Nat.le_refl _ | (simp; done) | (simp; omega) | omega) _ | refine Below.alloc ?_ (by first | exact Nat.le_refl _ | (simp; done) | (simp; omega) | omega) _), by with_reducible (repeat' first | assumption | refine Own.drew ?_ | refine Own.drewN ?_ _ | (refine Own.at ?_; first | rfl | (simp; done)) | refine Own.past ?_ _)⟩, by simp [intOf]; omega⟩
      · have hi17 : i = 17 := by omega
        subst hi17
        have hml := fun w1 => mul_exb (fct 17 : Int) (((17 : Nat) : Int) + 1) w1
        have hml2 := fun w1 => mul_exb (fct 17 : Int) ((((17 : Nat) : Int) + 1) * 10000) w1 (by decide) (by decide) (by decide) (by decide) (by decide)
        have hgt : ¬ x / 10000 ≤ 17 := by omega
        clear hml hs e1 hf hfp
        go_wp2_with (first | (go_at_call 92; refine (hml2 _).mono ?_; rintro e wa ⟨rfl, hbwa⟩; have hBwa : Below w.heap.size w wa := bup (by with_reducible (repeat' first | assumption | exact Below.refl _ _ | refine Below.drew ?_ | refine bdrewN ?_ _ | refine Below.setCell ?_ (by first | exact Nat.le_refl _ | (simp; done) | (simp; omega) | omega) _ | refine Below.alloc ?_ (by first | exact Nat.le_refl _ | (simp; done) | (simp; omega) | omega) _)) hbwa; have zwa := hBwa.size; have o0wa : Own wa (w.heap.size) #[.int .i64 0, .int .i64 0, .string ⟨#[]⟩, .bool false, .int .i64 0] := Own.keep (by with_reducible (repeat' first | assumption | refine Own.drew ?_ | refine Own.drewN ?_ _ | (refine Own.at ?_; first | rfl | (simp; done)) | refine Own.past ?_ _)) hbwa; have c0 := o0wa.cell; have f0 := o0wa.fro; have l0 := o0wa.lt) | (go_at_call 9; refine (err_ok _ _ (by decide) (by decide)).mono ?_; rintro e wb ⟨rfl, hbwb⟩; have hBwb : Below w.heap.size w wb := bup (by with_reducible (repeat' first | assumption | exact Below.refl _ _ | refine Below.drew ?_ | refine bdrewN ?_ _ | refine Below.setCell ?_ (by first | exact Nat.le_refl _ | (simp; done) | (simp; omega) | omega) _ | refine Below.alloc ?_ (by first | exact Nat.le_refl _ | (simp; done) | (simp; omega) | omega) _)) hbwb; have zwb := hBwb.size; have o0wb : Own wb (w.heap.size) #[.int .i64 0, .int .i64 0, .string ⟨#[]⟩, .bool false, .int .i64 0] := Own.keep (by with_reducible (repeat' first | assumption | refine Own.drew ?_ | refine Own.drewN ?_ _ | (refine Own.at ?_; first | rfl | (simp; done)) | refine Own.past ?_ _)) hbwb; have c0 := o0wb.cell; have f0 := o0wb.fro; have l0 := o0wb.lt))
        exact bodyPost_ret (v := (.agg #[.int .i64 (4), .int .i64 (0), .string ⟨#[]⟩, .bool false, .int .i64 (2)])) (by simp [results, Tryz.results62, go_sem, c0, f0, l0]) rfl ⟨by unfold factV; rw [if_neg (by omega)], by with_reducible (repeat' first | assumption | exact Below.refl _ _ | refine Below.drew ?_ | refine bdrewN ?_ _ | refine Below.setCell ?_ (by first | exact Nat.le_refl _ | (simp; done) | (simp; omega) | omega) _ | refine Below.alloc ?_ (by first | exact Nat.le_refl _ | (simp; done) | (simp; omega) | omega) _)⟩
    · have hdx : x / 10000 = (i : Int) := by omega
      have hin : In ((fct i : Int) * 10000) := ⟨by omega, by omega⟩
      go_wp2_with (go_at_call 83; refine (num_t _ _ hin.i64 (by have := hin.1; omega)).mono ?_; rintro e wa ⟨rfl, hbwa⟩; have hBwa : Below w.heap.size w wa := bup (by with_reducible (repeat' first | assumption | exact Below.refl _ _ | refine Below.drew ?_ | refine bdrewN ?_ _ | refine Below.setCell ?_ (by first | exact Nat.le_refl _ | (simp; done) | (simp; omega) | omega) _ | refine Below.alloc ?_ (by first | exact Nat.le_refl _ | (simp; done) | (simp; omega) | omega) _)) hbwa; have zwa := hBwa.size; have o0wa : Own wa (w.heap.size) #[.int .i64 0, .int .i64 0, .string ⟨#[]⟩, .bool false, .int .i64 0] := Own.keep (by with_reducible (repeat' first | assumption | refine Own.drew ?_ | refine Own.drewN ?_ _ | (refine Own.at ?_; first | rfl | (simp; done)) | refine Own.past ?_ _)) hbwa; have c0 := o0wa.cell; have f0 := o0wa.fro; have l0 := o0wa.lt)
      exact bodyPost_ret (v := (.agg #[.int .i64 (1), .int .i64 ((fct i : Int) * 10000), .string ⟨#[]⟩, .bool false, .int .i64 (0)])) (by simp [results, Tryz.results62, go_sem, c0, f0, l0]) rfl ⟨by unfold factV; rw [hdx, if_pos (by omega), show ((i : Int)).toNat = i by omega], by with_reducible (repeat' first | assumption | exact Below.refl _ _ | refine Below.drew ?_ | refine bdrewN ?_ _ | refine Below.setCell ?_ (by first | exact Nat.le_refl _ | (simp; done) | (simp; omega) | omega) _ | refine Below.alloc ?_ (by first | exact Nat.le_refl _ | (simp; done) | (simp; omega) | omega) _)⟩
theorem trunc2_no (x y : Int) (b : Nat) (w : World) (hb : NB w b [x, y]) (hy : In y) (hw : wholeOk y = false) : Calls Tryz.prog 52 #[.slice (some ⟨b, 0, none⟩) 2 2] w fun e w' => e = .returned (.agg #[.int .i64 (4), .int .i64 (0), .string ⟨#[]⟩, .bool false, .int .i64 (8)]) ∧ Below w.heap.size w w' := by
  have hlt := hb.lt
  have hp := fun w1 (h : NB w1 b [x, y]) => places_2 x y b w1 h hy.i64
  rw [hw] at hp
  generalize plc y = p at *
  go_enter Tryz.func52, Tryz.ntmps52
  go_wp2_with (first | (go_at_call 88; refine (hp _ (hb.keep (bal _ _))).mono ?_; rintro e w5 ⟨rfl, e5⟩; rw [e5]; clear e5 w5) | (go_at_call 9; refine (err_ok _ _ (by decide) (by decide)).mono ?_; rintro e wa ⟨rfl, hbwa⟩; have hBwa : Below w.heap.size w wa := bup (by with_reducible (repeat' first | assumption | exact Below.refl _ _ | refine Below.drew ?_ | refine bdrewN ?_ _ | refine Below.setCell ?_ (by first | exact Nat.le_refl _ | (simp; done) | (simp; omega) | omega) _ | refine Below.alloc ?_ (by first | exact Nat.le_refl _ | (simp; done) | (simp; omega) | omega) _)) hbwa; have zwa := hBwa.size; have o0wa : Own wa (w.heap.size) #[.int .i64 0, .int .i64 0, .string ⟨#[]⟩, .bool false, .int .i64 0] := Own.keep (by with_reducible (repeat' first | assumption | refine Own.drew ?_ | refine Own.drewN ?_ _ | (refine Own.at ?_; first | rfl | (simp; done)) | refine Own.past ?_ _)) hbwa; have c0 := o0wa.cell; have f0 := o0wa.fro; have l0 := o0wa.lt))
  exact bodyPost_ret (v := (.agg #[.int .i64 (4), .int .i64 (0), .string ⟨#[]⟩, .bool false, .int .i64 (8)])) (by simp [results, Tryz.results52, go_sem, c0, f0, l0]) rfl ⟨rfl, by with_reducible (repeat' first | assumption | exact Below.refl _ _ | refine Below.drew ?_ | refine bdrewN ?_ _ | refine Below.setCell ?_ (by first | exact Nat.le_refl _ | (simp; done) | (simp; omega) | omega) _ | refine Below.alloc ?_ (by first | exact Nat.le_refl _ | (simp; done) | (simp; omega) | omega) _)⟩
theorem trunc2_hi (x y : Int) (b : Nat) (w : World) (hb : NB w b [x, y]) (hx : In x) (hy : In y) (hw : wholeOk y = true) (h3 : 3 < plc y) : Calls Tryz.prog 52 #[.slice (some ⟨b, 0, none⟩) 2 2] w fun e w' => e = .returned (.agg #[.int .i64 (1), .int .i64 (x), .string ⟨#[]⟩, .bool false, .int .i64 (0)]) ∧ Below w.heap.size w w' := by
  have x0 := hb.at (i := 0) (x := x) rfl
  have hlt := hb.lt
  have hp := fun w1 (h : NB w1 b [x, y]) => places_2 x y b w1 h hy.i64
  rw [hw] at hp
  generalize plc y = p at *
  go_enter Tryz.func52, Tryz.ntmps52
  go_wp2_with (first | (go_at_call 88; refine (hp _ (hb.keep (bal _ _))).mono ?_; rintro e w5 ⟨rfl, e5⟩; rw [e5]; clear e5 w5) | (go_at_call 83; refine (num_t _ _ hx.i64 (by have := hx.1; omega)).mono ?_; rintro e wa ⟨rfl, hbwa⟩; have hBwa : Below w.heap.size w wa := bup (by with_reducible (repeat' first | assumption | exact Below.refl _ _ | refine Below.drew ?_ | refine bdrewN ?_ _ | refine Below.setCell ?_ (by first | exact Nat.le_refl _ | (simp; done) | (simp; omega) | omega) _ | refine Below.alloc ?_ (by first | exact Nat.le_refl _ | (simp; done) | (simp; omega) | omega) _)) hbwa; have zwa := hBwa.size; have o0wa : Own wa (w.heap.size) #[.int .i64 0, .int .i64 0, .string ⟨#[]⟩, .bool false, .int .i64 0] := Own.keep (by with_reducible (repeat' first | assumption | refine Own.drew ?_ | refine Own.drewN ?_ _ | (refine Own.at ?_; first | rfl | (simp; done)) | refine Own.past ?_ _)) hbwa; have c0 := o0wa.cell; have f0 := o0wa.fro; have l0 := o0wa.lt))
  exact bodyPost_ret (v := (.agg #[.int .i64 (1), .int .i64 (x), .string ⟨#[]⟩, .bool false, .int .i64 (0)])) (by simp [results, Tryz.results52, go_sem, c0, f0, l0]) rfl ⟨rfl, by with_reducible (repeat' first | assumption | exact Below.refl _ _ | refine Below.drew ?_ | refine bdrewN ?_ _ | refine Below.setCell ?_ (by first | exact Nat.le_refl _ | (simp; done) | (simp; omega) | omega) _ | refine Below.alloc ?_ (by first | exact Nat.le_refl _ | (simp; done) | (simp; omega) | omega) _)⟩
theorem trunc2_lo (x y : Int) (b : Nat) (w : World) (hb : NB w b [x, y]) (hy : In y) (hw : wholeOk y = true) (h3 : plc y ≤ -15) : Calls Tryz.prog 52 #[.slice (some ⟨b, 0, none⟩) 2 2] w fun e w' => e = .returned (.agg #[.int .i64 (1), .int .i64 (0), .string ⟨#[]⟩, .bool false, .int .i64 (0)]) ∧ Below w.heap.size w w' := by
  have hlt := hb.lt
  have hp := fun w1 (h : NB w1 b [x, y]) => places_2 x y b w1 h hy.i64
  rw [hw] at hp
  generalize plc y = p at *
  go_enter Tryz.func52, Tryz.ntmps52
  go_wp2_with (first | (go_at_call 88; refine (hp _ (hb.keep (bal _ _))).mono ?_; rintro e w5 ⟨rfl, e5⟩; rw [e5]; clear e5 w5) | (go_at_call 83; refine (num_t _ _ in0.i64 (by decide)).mono ?_; rintro e wa ⟨rfl, hbwa⟩; have hBwa : Below w.heap.size w wa := bup (by with_reducible (repeat' first | assumption | exact Below.refl _ _ | refine Below.drew ?_ | refine bdrewN ?_ _ | refine Below.setCell ?_ (by first | exact Nat.le_refl _ | (simp; done) | (simp; omega) | omega) _ | refine Below.alloc ?_ (by first | exact Nat.le_refl _ | (simp; done) | (simp; omega) | omega) _)) hbwa; have zwa := hBwa.size; have o0wa : Own wa (w.heap.size) #[.int .i64 0, .int .i64 0, .string ⟨#[]⟩, .bool false, .int .i64 0] := Own.keep (by with_reducible (repeat' first | assumption | refine Own.drew ?_ | refine Own.drewN ?_ _ | (refine Own.at ?_; first | rfl | (simp; done)) | refine Own.past ?_ _)) hbwa; have c0 := o0wa.cell; have f0 := o0wa.fro; have l0 := o0wa.lt))
  exact bodyPost_ret (v := (.agg #[.int .i64 (1), .int .i64 (0), .string ⟨#[]⟩, .bool false, .int .i64 (0)])) (by simp [results, Tryz.results52, go_sem, c0, f0, l0]) rfl ⟨rfl, by with_reducible (repeat' first | assumption | exact Below.refl _ _ | refine Below.drew ?_ | refine bdrewN ?_ _ | refine Below.setCell ?_ (by first | exact Nat.le_refl _ | (simp; done) | (simp; omega) | omega) _ | refine Below.alloc ?_ (by first | exact Nat.le_refl _ | (simp; done) | (simp; omega) | omega) _)⟩
theorem tenp_le : ∀ i, i ≤ 18 → 10 ^ i ≤ 1000000000000000000 := by decide
theorem tenp (k : Nat) (hk : k ≤ 18) : ∃ P : Int, ((10 ^ k : Nat) : Int) = P ∧ 0 < P ∧ P ≤ 1000000000000000000 := by
  have h := tenp_le k hk
  have h2 : 0 < 10 ^ k := Nat.pow_pos (by decide)
  generalize 10 ^ k = n at h h2 ⊢
  exact ⟨(n : Int), rfl, by omega, by omega⟩
theorem tenp_s (i : Nat) (hk : i + 1 ≤ 18) : ∃ p0 p1 : Int, ((10 ^ i : Nat) : Int) = p0 ∧ ((10 ^ (i + 1) : Nat) : Int) = p1 ∧ wrap64 (p0 * 10) = p1 := by
  obtain ⟨P, hP, h1, h2⟩ := tenp (i + 1) hk
  refine ⟨_, P, rfl, hP, ?_⟩
  have e : ((10 ^ i : Nat) : Int) * 10 = P := by rw [← hP, Nat.pow_succ, Int.natCast_mul]; rfl
  rw [e]; unfold wrap64; omega
set_option maxRecDepth 100000 in
set_option maxHeartbeats 1000000 in
theorem trunc2_in (x y : Int) (k : Nat) (b : Nat) (w : World) (hb : NB w b [x, y]) (hx : In x) (hy : In y) (hw : wholeOk y = true) (h3 : plc y = 4 - (k : Int)) (hk1 : 1 ≤ k) (hk2 : k ≤ 18) : Calls Tryz.prog 52 #[.slice (some ⟨b, 0, none⟩) 2 2] w fun e w' => e = .returned (.agg #[.int .i64 (1), .int .i64 (x - x.tmod ((10 ^ k : Nat) : Int)), .string ⟨#[]⟩, .bool false, .int .i64 (0)]) ∧ Below w.heap.size w w' := by
  have mixed : Tryz.prog.follows .mixedOrders = true := by kernel_rfl
  have x0 := hb.at (i := 0) (x := x) rfl
  have hlt := hb.lt
  have hne : ¬ b = w.heap.size := by omega
  have hp := fun w1 (h : NB w1 b [x, y]) => places_2 x y b w1 h hy.i64
  rw [hw, h3] at hp
  have hd1 : ¬ (3 : Int) < 4 - (k : Int) := by omega
  have hd2 : ¬ 4 - (k : Int) ≤ -15 := by omega
  have wk1 : ∀ a : Int, 0 ≤ a → a ≤ 100 → wrap64 a = a := fun a q1 q2 => by clear hd1 hd2; unfold wrap64; omega
  have hw7 : wrap64 (k : Int) = (k : Int) := wk1 _ (by omega) (by omega)
  have hw6 : wrap64 (4 - (4 - (k : Int))) = (k : Int) := by rw [show 4 - (4 - (k : Int)) = (k : Int) from by clear hw7; omega]; exact hw7
  have HW6 : Hid _ := hw6
  have HW7 : Hid _ := hw7
  clear hw6 hw7 wk1
  obtain ⟨P, hP, h1, h2⟩ := tenp k hk2
  rw [hP]
  have HP : Hid _ := hP
  clear hP h3
  have hz' : ¬ P = 0 := by omega
  have hz : (P == 0) = false := by simp; exact hz'
  have hti := trunc_in hx h1
  have hmb := tmod_bd x P hz'
  revert hti hmb
  generalize hr : x.tmod P = r
  have HR : Hid _ := hr
  intro hti hmb
  have hrl : -1000000000000000000 ≤ r := by clear hti hr hp hx hy; omega
  have hrh : r ≤ 1000000000000000000 := by clear hti hr hp hx hy; omega
  clear hmb
  have hn := fun w1 => num_t (x - r) w1 hti.i64 (by have := hti.1; omega)
  generalize hv : x - r = v at hti hn ⊢
  have HV : Hid _ := hv
  obtain ⟨a1, a2⟩ := hti
  have hw1 : wrap64 r = r := by clear hv hr hp hn hx hy; unfold wrap64; omega
  have hw2 : wrap64 v = v := by clear hv hr hp hn hx hy hw1; unfold wrap64; omega
  have hw3 : IntKind.i64.wrap r = r := by rw [IntKind.wrap_i64]; unfold wrap64 at hw1; exact hw1
  have hw4 : IntKind.i64.wrap v = v := by rw [IntKind.wrap_i64]; unfold wrap64 at hw2; exact hw2
  clear h1 h2 hrl hrh a1 a2
  have H1 : Hid _ := hw1
  have H2 : Hid _ := hw2
  have H3 : Hid _ := hw3
  have H4 : Hid _ := hw4
  clear hw1 hw2 hw3 hw4
  have hw6 := HW6.out
  have hw7 := HW7.out
  go_enter Tryz.func52, Tryz.ntmps52
  go_wp2_with (go_at_call 88; refine (hp _ (hb.keep (bal _ _))).mono ?_; rintro e w5 ⟨rfl, e5⟩; rw [e5]; clear e5 w5)
  clear hw6 hw7 HW6 HW7 hr hv
  go_loopw [5, 28] (fun u v w' => ∃ i : Nat, v = .int .i64 i ∧ i ≤ k ∧ u = .int .i64 ((10 ^ i : Nat) : Int) ∧ w' = w.alloc (.cells #[.int .i64 0, .int .i64 0, .string ⟨#[]⟩, .bool false, .int .i64 0] 26)) (fun _ v _ => k - (intOf v).toNat)
  case atStart => exact ⟨0, rfl, by omega, rfl, rfl⟩
  case round =>
    obtain ⟨i, rfl, hi, rfl, rfl⟩ := hrel
    by_cases hik : i < k
    · have hik' : (i : Int) < (k : Int) := by omega
      have hms : k - (i + 1) < k - i := by omega
      obtain ⟨p0, p1, hp0, hp1, hwi⟩ := tenp_s i (by omega)
      rw [hp0]
      have HP1 : Hid _ := hp1
      have HW : Hid _ := hwi
      clear hp1 hp0 hwi
      go_wp2
      exact ⟨⟨i + 1, by go_num, by omega, by rw [HP1.out, HW.out], trivial⟩, by simp [intOf]; omega⟩
    · have hik2 : i = k := by omega
      subst hik2
      have hik' : ¬ (i : Int) < (i : Int) := by omega
      rw [HP.out]
      have hw1 := H1.out
      have hw2 := H2.out
      have hw3 := H3.out
      have hw4 := H4.out
      have hr := HR.out
      have hv := HV.out
      go_wp2
      go_region_held3 (fun w' => w'.cell? ⟨b, 0, none⟩ = some (.int .i64 x)) ((repeat' apply And.intro) <;> (first | (go_keep; done) | (go_simp; done))) ((go_at_call 83; refine (hn _).mono ?_; rintro e wa ⟨rfl, hbwa⟩; have hBwa : Below w.heap.size w wa := bup (by with_reducible (repeat' first | assumption | exact Below.refl _ _ | refine Below.drew ?_ | refine bdrewN ?_ _ | refine Below.setCell ?_ (by first | exact Nat.le_refl _ | (simp; done) | (simp; omega) | omega) _ | refine Below.alloc ?_ (by first | exact Nat.le_refl _ | (simp; done) | (simp; omega) | omega) _)) hbwa; have zwa := hBwa.size; have o0wa : Own wa (w.heap.size) #[.int .i64 0, .int .i64 0, .string ⟨#[]⟩, .bool false, .int .i64 0] := Own.keep (by with_reducible (repeat' first | assumption | refine Own.drew ?_ | refine Own.drewN ?_ _ | (refine Own.at ?_; first | rfl | (simp; done)) | refine Own.past ?_ _)) hbwa; have c0 := o0wa.cell; have f0 := o0wa.fro; have l0 := o0wa.lt; have y0 := (hb.keep hBwa).at (i := 0) (x := x) rfl))
      go_wp2
      exact bodyPost_ret (v := (.agg #[.int .i64 (1), .int .i64 (v), .string ⟨#[]⟩, .bool false, .int .i64 (0)])) (by simp [results, Tryz.results52, go_sem, c0, f0, l0]) rfl ⟨rfl, by with_reducible (repeat' first | assumption | exact Below.refl _ _ | refine Below.drew ?_ | refine bdrewN ?_ _ | refine Below.setCell ?_ (by first | exact Nat.le_refl _ | (simp; done) | (simp; omega) | omega) _ | refine Below.alloc ?_ (by first | exact Nat.le_refl _ | (simp; done) | (simp; omega) | omega) _)⟩
end Go.Proofs.YtfpbcokfianjaaaGreat
