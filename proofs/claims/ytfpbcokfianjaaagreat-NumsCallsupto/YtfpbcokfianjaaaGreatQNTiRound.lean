/- The contracts of nums.told, multiple, multipleBelow, multipleAbove, rest, quotient, clamp and of trunc at one number, of numbers that may be. New memory alone is made. · The contracts of dec.Round, dec.Floor and dec.Whole, of any int64 and any places: what each answers. Nothing is written (orders are drawn). -/
import Derived.Test.YtfpbcokfianjaaaGreatQMulNTg
import Derived.Test.YtfpbcokfianjaaaGreatQNTdNTe
import Derived.Test.YtfpbcokfianjaaaGreatQParseWQuot
namespace Go.Proofs.YtfpbcokfianjaaaGreat
open Go.RowKit
set_option linter.all false
def tT (c : Int) : Int := if c = 0 then 1 else 4
theorem told_any (x c : Int) (w : World) (hx : In x) (hc : c = 0 ∨ (1 ≤ c ∧ c ≤ 8 ∧ x = 0)) : Calls Tryz.prog 86 #[.int .i64 x, .int .i64 c] w fun e w' => e = .returned (.agg #[.int .i64 (tT (c)), .int .i64 (x), .string ⟨#[]⟩, .bool false, .int .i64 (c)]) ∧ Below w.heap.size w w' := by
  rcases hc with rfl | ⟨h1, h2, rfl⟩
  · exact told_ok x w hx
  · have e : tT c = 4 := if_neg (by omega)
    rw [e]
    exact told_no 0 c w h1 h2 (by simp; omega)
theorem okVC (ok : Bool) (x : Int) : okC ok = 0 ∨ (1 ≤ okC ok ∧ okC ok ≤ 8 ∧ okV ok x = 0) := by cases ok <;> simp [okC, okV]
theorem sub_in {a b : Int} (ha : In a) : In (okV (subOk a b) (a - b)) := by
  cases h : subOk a b
  · simp [okV]; exact in0
  · unfold subOk at h; simp at h; simp [okV]; exact ⟨by omega, by omega⟩
theorem modV_in {a b : Int} (hb : In b) (h0 : b ≠ 0) : In (modV a b) := by
  obtain ⟨h1, h2⟩ := hb
  unfold modV
  split
  · have := Int.emod_nonneg a h0; have := Int.emod_lt_of_pos a (b := b) (by omega); exact ⟨by omega, by omega⟩
  · have := Int.emod_nonneg (-a) (b := -b) (by omega); have := Int.emod_lt_of_pos (-a) (b := -b) (by omega); exact ⟨by omega, by omega⟩
theorem mult_no (x s b : Int) (w : World) (hs : s ≤ 0) : Calls Tryz.prog 90 #[.int .i64 x, .int .i64 s, .int .i64 b] w fun e w' => e = .returned (.agg #[.int .i64 (tT (8)), .int .i64 (0), .string ⟨#[]⟩, .bool false, .int .i64 (8)]) ∧ Below w.heap.size w w' := by
  show Calls _ _ _ _ fun e w' => e = .returned (.agg #[.int .i64 (4), .int .i64 (0), .string ⟨#[]⟩, .bool false, .int .i64 (8)]) ∧ _
  go_enter Tryz.func90, Tryz.ntmps90
  go_wp2_with (go_at_call 9; refine (err_ok _ _ (by decide) (by decide)).mono ?_; rintro e wa ⟨rfl, hbwa⟩; have hBwa : Below w.heap.size w wa := bup (by with_reducible (repeat' first | assumption | exact Below.refl _ _ | refine Below.drew ?_ | refine bdrewN ?_ _ | refine Below.setCell ?_ (by first | exact Nat.le_refl _ | (simp; done) | (simp; omega) | omega) _ | refine Below.alloc ?_ (by first | exact Nat.le_refl _ | (simp; done) | (simp; omega) | omega) _)) hbwa; have zwa := hBwa.size; have o0wa : Own wa (w.heap.size) #[.int .i64 0, .int .i64 0, .string ⟨#[]⟩, .bool false, .int .i64 0] := Own.keep (by with_reducible (repeat' first | assumption | refine Own.drew ?_ | refine Own.drewN ?_ _ | (refine Own.at ?_; first | rfl | (simp; done)) | refine Own.past ?_ _)) hbwa; have c0 := o0wa.cell; have f0 := o0wa.fro; have l0 := o0wa.lt)
  exact bodyPost_ret (v := (.agg #[.int .i64 (4), .int .i64 (0), .string ⟨#[]⟩, .bool false, .int .i64 (8)])) (by simp [results, Tryz.results90, go_sem, c0, f0, l0]) rfl ⟨rfl, by with_reducible (repeat' first | assumption | exact Below.refl _ _ | refine Below.drew ?_ | refine bdrewN ?_ _ | refine Below.setCell ?_ (by first | exact Nat.le_refl _ | (simp; done) | (simp; omega) | omega) _ | refine Below.alloc ?_ (by first | exact Nat.le_refl _ | (simp; done) | (simp; omega) | omega) _)⟩
theorem mult_ok (x s b : Int) (w : World) (hs : 0 < s) (hx : In x) (hb : In b) (h0 : b ≠ 0) : Calls Tryz.prog 90 #[.int .i64 x, .int .i64 s, .int .i64 b] w fun e w' => e = .returned (.agg #[.int .i64 (tT (okC (subOk x (modV x b)))), .int .i64 (okV (subOk x (modV x b)) (x - modV x b)), .string ⟨#[]⟩, .bool false, .int .i64 (okC (subOk x (modV x b)))]) ∧ Below w.heap.size w w' := by
  have h1 := fun w1 => modw_ok x b w1 hx.1 hx.2 hb.1 hb.2 h0
  have hm := modV_in (a := x) hb h0
  generalize modV x b = m at h1 hm ⊢
  have h2 := fun w1 => sub_any x m w1 hx.i64 hm.i64
  have h3 := fun w1 => told_any _ _ w1 (sub_in (b := m) hx) (okVC (subOk x m) (x - m))
  generalize okV (subOk x m) (x - m) = r at h2 h3 ⊢
  generalize okC (subOk x m) = c at h2 h3 ⊢
  generalize tT c = t at h3 ⊢
  go_enter Tryz.func90, Tryz.ntmps90
  go_wp2_with (first | (go_at_call 91; refine (h1 _).mono ?_; rintro e w5 ⟨rfl, e5⟩; rw [e5]; clear e5 w5) | (go_at_call 111; refine (h2 _).mono ?_; rintro e w5 ⟨rfl, e5⟩; rw [e5]; clear e5 w5) | (go_at_call 86; refine (h3 _).mono ?_; rintro e wa ⟨rfl, hbwa⟩; have hBwa : Below w.heap.size w wa := bup (by with_reducible (repeat' first | assumption | exact Below.refl _ _ | refine Below.drew ?_ | refine bdrewN ?_ _ | refine Below.setCell ?_ (by first | exact Nat.le_refl _ | (simp; done) | (simp; omega) | omega) _ | refine Below.alloc ?_ (by first | exact Nat.le_refl _ | (simp; done) | (simp; omega) | omega) _)) hbwa; have zwa := hBwa.size; have o0wa : Own wa (w.heap.size) #[.int .i64 0, .int .i64 0, .string ⟨#[]⟩, .bool false, .int .i64 0] := Own.keep (by with_reducible (repeat' first | assumption | refine Own.drew ?_ | refine Own.drewN ?_ _ | (refine Own.at ?_; first | rfl | (simp; done)) | refine Own.past ?_ _)) hbwa; have c0 := o0wa.cell; have f0 := o0wa.fro; have l0 := o0wa.lt))
  exact bodyPost_ret (v := (.agg #[.int .i64 t, .int .i64 r, .string ⟨#[]⟩, .bool false, .int .i64 c])) (by simp [results, Tryz.results90, go_sem, c0, f0, l0]) rfl ⟨rfl, by with_reducible (repeat' first | assumption | exact Below.refl _ _ | refine Below.drew ?_ | refine bdrewN ?_ _ | refine Below.setCell ?_ (by first | exact Nat.le_refl _ | (simp; done) | (simp; omega) | omega) _ | refine Below.alloc ?_ (by first | exact Nat.le_refl _ | (simp; done) | (simp; omega) | omega) _)⟩
theorem floor_ok (x s : Int) (b : Nat) (w : World) (hb : NB w b [x, s]) (hs : 0 < s) (hx : In x) (hs2 : In s) : Calls Tryz.prog 54 #[.slice (some ⟨b, 0, none⟩) 2 2] w fun e w' => e = .returned (.agg #[.int .i64 (tT (okC (subOk x (modV x s)))), .int .i64 (okV (subOk x (modV x s)) (x - modV x s)), .string ⟨#[]⟩, .bool false, .int .i64 (okC (subOk x (modV x s)))]) ∧ Below w.heap.size w w' := by
  have mixed : Tryz.prog.follows .mixedOrders = true := by kernel_rfl
  have x0 := hb.at (i := 0) (x := x) rfl
  have x1 := hb.at (i := 1) (x := s) rfl
  have hlt := hb.lt
  have hne : ¬ b = w.heap.size := by omega
  have h1 := fun w1 => mult_ok x s s w1 hs hx hs2 (by omega)
  generalize okV (subOk x (modV x s)) (x - modV x s) = r at h1 ⊢
  generalize okC (subOk x (modV x s)) = c at h1 ⊢
  generalize tT c = t at h1 ⊢
  go_enter Tryz.func54, Tryz.ntmps54
  go_wp2
  go_region_held3 (fun w' => w'.cell? ⟨b, 0, none⟩ = some (.int .i64 x) ∧ w'.cell? ⟨b, 1, none⟩ = some (.int .i64 s)) ((repeat' apply And.intro) <;> (first | (go_keep; done) | (go_simp; done))) ((go_at_call 90; refine (h1 _).mono ?_; rintro e wa ⟨rfl, hbwa⟩; have hBwa : Below w.heap.size w wa := bup (by with_reducible (repeat' first | assumption | exact Below.refl _ _ | refine Below.drew ?_ | refine bdrewN ?_ _ | refine Below.setCell ?_ (by first | exact Nat.le_refl _ | (simp; done) | (simp; omega) | omega) _ | refine Below.alloc ?_ (by first | exact Nat.le_refl _ | (simp; done) | (simp; omega) | omega) _)) hbwa; have zwa := hBwa.size; have y0 := (hb.keep hBwa).at (i := 0) (x := x) rfl; have y1 := (hb.keep hBwa).at (i := 1) (x := s) rfl; have o0wa : Own wa (w.heap.size) #[.int .i64 0, .int .i64 0, .string ⟨#[]⟩, .bool false, .int .i64 0] := Own.keep (by with_reducible (repeat' first | assumption | refine Own.drew ?_ | refine Own.drewN ?_ _ | (refine Own.at ?_; first | rfl | (simp; done)) | refine Own.past ?_ _)) hbwa; have c0 := o0wa.cell; have f0 := o0wa.fro; have l0 := o0wa.lt))
  go_wp2
  exact bodyPost_ret (v := (.agg #[.int .i64 t, .int .i64 r, .string ⟨#[]⟩, .bool false, .int .i64 c])) (by simp [results, Tryz.results54, go_sem, c0, f0, l0]) rfl ⟨rfl, by with_reducible (repeat' first | assumption | exact Below.refl _ _ | refine Below.drew ?_ | refine bdrewN ?_ _ | refine Below.setCell ?_ (by first | exact Nat.le_refl _ | (simp; done) | (simp; omega) | omega) _ | refine Below.alloc ?_ (by first | exact Nat.le_refl _ | (simp; done) | (simp; omega) | omega) _)⟩
theorem floor_no (x s : Int) (b : Nat) (w : World) (hb : NB w b [x, s]) (hs : s ≤ 0) (hs2 : In s) : Calls Tryz.prog 54 #[.slice (some ⟨b, 0, none⟩) 2 2] w fun e w' => e = .returned (.agg #[.int .i64 (tT (8)), .int .i64 (0), .string ⟨#[]⟩, .bool false, .int .i64 (8)]) ∧ Below w.heap.size w w' := by
  have mixed : Tryz.prog.follows .mixedOrders = true := by kernel_rfl
  have x0 := hb.at (i := 0) (x := x) rfl
  have x1 := hb.at (i := 1) (x := s) rfl
  have hlt := hb.lt
  have hne : ¬ b = w.heap.size := by omega
  have h1 := fun w1 => mult_no x s s w1 hs
  have e8 : tT 8 = 4 := rfl
  rw [e8] at h1 ⊢
  go_enter Tryz.func54, Tryz.ntmps54
  go_wp2
  go_region_held3 (fun w' => w'.cell? ⟨b, 0, none⟩ = some (.int .i64 x) ∧ w'.cell? ⟨b, 1, none⟩ = some (.int .i64 s)) ((repeat' apply And.intro) <;> (first | (go_keep; done) | (go_simp; done))) ((go_at_call 90; refine (h1 _).mono ?_; rintro e wa ⟨rfl, hbwa⟩; have hBwa : Below w.heap.size w wa := bup (by with_reducible (repeat' first | assumption | exact Below.refl _ _ | refine Below.drew ?_ | refine bdrewN ?_ _ | refine Below.setCell ?_ (by first | exact Nat.le_refl _ | (simp; done) | (simp; omega) | omega) _ | refine Below.alloc ?_ (by first | exact Nat.le_refl _ | (simp; done) | (simp; omega) | omega) _)) hbwa; have zwa := hBwa.size; have y0 := (hb.keep hBwa).at (i := 0) (x := x) rfl; have y1 := (hb.keep hBwa).at (i := 1) (x := s) rfl; have o0wa : Own wa (w.heap.size) #[.int .i64 0, .int .i64 0, .string ⟨#[]⟩, .bool false, .int .i64 0] := Own.keep (by with_reducible (repeat' first | assumption | refine Own.drew ?_ | refine Own.drewN ?_ _ | (refine Own.at ?_; first | rfl | (simp; done)) | refine Own.past ?_ _)) hbwa; have c0 := o0wa.cell; have f0 := o0wa.fro; have l0 := o0wa.lt))
  go_wp2
  exact bodyPost_ret (v := (.agg #[.int .i64 (4), .int .i64 (0), .string ⟨#[]⟩, .bool false, .int .i64 (8)])) (by simp [results, Tryz.results54, go_sem, c0, f0, l0]) rfl ⟨rfl, by with_reducible (repeat' first | assumption | exact Below.refl _ _ | refine Below.drew ?_ | refine bdrewN ?_ _ | refine Below.setCell ?_ (by first | exact Nat.le_refl _ | (simp; done) | (simp; omega) | omega) _ | refine Below.alloc ?_ (by first | exact Nat.le_refl _ | (simp; done) | (simp; omega) | omega) _)⟩
theorem ceil_ok (x s : Int) (b : Nat) (w : World) (hb : NB w b [x, s]) (hs : 0 < s) (hx : In x) (hs2 : In s) : Calls Tryz.prog 55 #[.slice (some ⟨b, 0, none⟩) 2 2] w fun e w' => e = .returned (.agg #[.int .i64 (tT (okC (subOk x (modV x (-s))))), .int .i64 (okV (subOk x (modV x (-s))) (x - modV x (-s))), .string ⟨#[]⟩, .bool false, .int .i64 (okC (subOk x (modV x (-s))))]) ∧ Below w.heap.size w w' := by
  have mixed : Tryz.prog.follows .mixedOrders = true := by kernel_rfl
  have x0 := hb.at (i := 0) (x := x) rfl
  have x1 := hb.at (i := 1) (x := s) rfl
  have hlt := hb.lt
  have hne : ¬ b = w.heap.size := by omega
  have hw : wrap64 (-s) = -s := by obtain ⟨a1, a2⟩ := hs2; unfold wrap64; omega
  have hw2 : IntKind.i64.wrap (-s) = -s := by rw [IntKind.wrap_i64]; unfold wrap64 at hw; exact hw
  have h1 := fun w1 => mult_ok x s (-s) w1 hs hx ⟨by have := hs2.2; omega, by have := hs2.1; omega⟩ (by omega)
  generalize okV (subOk x (modV x (-s))) (x - modV x (-s)) = r at h1 ⊢
  generalize okC (subOk x (modV x (-s))) = c at h1 ⊢
  generalize tT c = t at h1 ⊢
  go_enter Tryz.func55, Tryz.ntmps55
  go_wp2
  go_region_held3 (fun w' => w'.cell? ⟨b, 0, none⟩ = some (.int .i64 x) ∧ w'.cell? ⟨b, 1, none⟩ = some (.int .i64 s)) ((repeat' apply And.intro) <;> (first | (go_keep; done) | (go_simp; done))) ((go_at_call 90; refine (h1 _).mono ?_; rintro e wa ⟨rfl, hbwa⟩; have hBwa : Below w.heap.size w wa := bup (by with_reducible (repeat' first | assumption | exact Below.refl _ _ | refine Below.drew ?_ | refine bdrewN ?_ _ | refine Below.setCell ?_ (by first | exact Nat.le_refl _ | (simp; done) | (simp; omega) | omega) _ | refine Below.alloc ?_ (by first | exact Nat.le_refl _ | (simp; done) | (simp; omega) | omega) _)) hbwa; have zwa := hBwa.size; have y0 := (hb.keep hBwa).at (i := 0) (x := x) rfl; have y1 := (hb.keep hBwa).at (i := 1) (x := s) rfl; have o0wa : Own wa (w.heap.size) #[.int .i64 0, .int .i64 0, .string ⟨#[]⟩, .bool false, .int .i64 0] := Own.keep (by with_reducible (repeat' first | assumption | refine Own.drew ?_ | refine Own.drewN ?_ _ | (refine Own.at ?_; first | rfl | (simp; done)) | refine Own.past ?_ _)) hbwa; have c0 := o0wa.cell; have f0 := o0wa.fro; have l0 := o0wa.lt))
  go_wp2
  exact bodyPost_ret (v := (.agg #[.int .i64 t, .int .i64 r, .string ⟨#[]⟩, .bool false, .int .i64 c])) (by simp [results, Tryz.results55, go_sem, c0, f0, l0]) rfl ⟨rfl, by with_reducible (repeat' first | assumption | exact Below.refl _ _ | refine Below.drew ?_ | refine bdrewN ?_ _ | refine Below.setCell ?_ (by first | exact Nat.le_refl _ | (simp; done) | (simp; omega) | omega) _ | refine Below.alloc ?_ (by first | exact Nat.le_refl _ | (simp; done) | (simp; omega) | omega) _)⟩
theorem ceil_no (x s : Int) (b : Nat) (w : World) (hb : NB w b [x, s]) (hs : s ≤ 0) (hs2 : In s) : Calls Tryz.prog 55 #[.slice (some ⟨b, 0, none⟩) 2 2] w fun e w' => e = .returned (.agg #[.int .i64 (tT (8)), .int .i64 (0), .string ⟨#[]⟩, .bool false, .int .i64 (8)]) ∧ Below w.heap.size w w' := by
  have mixed : Tryz.prog.follows .mixedOrders = true := by kernel_rfl
  have x0 := hb.at (i := 0) (x := x) rfl
  have x1 := hb.at (i := 1) (x := s) rfl
  have hlt := hb.lt
  have hne : ¬ b = w.heap.size := by omega
  have hw : wrap64 (-s) = -s := by obtain ⟨a1, a2⟩ := hs2; unfold wrap64; omega
  have hw2 : IntKind.i64.wrap (-s) = -s := by rw [IntKind.wrap_i64]; unfold wrap64 at hw; exact hw
  have h1 := fun w1 => mult_no x s (-s) w1 hs
  have e8 : tT 8 = 4 := rfl
  rw [e8] at h1 ⊢
  go_enter Tryz.func55, Tryz.ntmps55
  go_wp2
  go_region_held3 (fun w' => w'.cell? ⟨b, 0, none⟩ = some (.int .i64 x) ∧ w'.cell? ⟨b, 1, none⟩ = some (.int .i64 s)) ((repeat' apply And.intro) <;> (first | (go_keep; done) | (go_simp; done))) ((go_at_call 90; refine (h1 _).mono ?_; rintro e wa ⟨rfl, hbwa⟩; have hBwa : Below w.heap.size w wa := bup (by with_reducible (repeat' first | assumption | exact Below.refl _ _ | refine Below.drew ?_ | refine bdrewN ?_ _ | refine Below.setCell ?_ (by first | exact Nat.le_refl _ | (simp; done) | (simp; omega) | omega) _ | refine Below.alloc ?_ (by first | exact Nat.le_refl _ | (simp; done) | (simp; omega) | omega) _)) hbwa; have zwa := hBwa.size; have y0 := (hb.keep hBwa).at (i := 0) (x := x) rfl; have y1 := (hb.keep hBwa).at (i := 1) (x := s) rfl; have o0wa : Own wa (w.heap.size) #[.int .i64 0, .int .i64 0, .string ⟨#[]⟩, .bool false, .int .i64 0] := Own.keep (by with_reducible (repeat' first | assumption | refine Own.drew ?_ | refine Own.drewN ?_ _ | (refine Own.at ?_; first | rfl | (simp; done)) | refine Own.past ?_ _)) hbwa; have c0 := o0wa.cell; have f0 := o0wa.fro; have l0 := o0wa.lt))
  go_wp2
  exact bodyPost_ret (v := (.agg #[.int .i64 (4), .int .i64 (0), .string ⟨#[]⟩, .bool false, .int .i64 (8)])) (by simp [results, Tryz.results55, go_sem, c0, f0, l0]) rfl ⟨rfl, by with_reducible (repeat' first | assumption | exact Below.refl _ _ | refine Below.drew ?_ | refine bdrewN ?_ _ | refine Below.setCell ?_ (by first | exact Nat.le_refl _ | (simp; done) | (simp; omega) | omega) _ | refine Below.alloc ?_ (by first | exact Nat.le_refl _ | (simp; done) | (simp; omega) | omega) _)⟩
/-- What is left, and the code. -/
def modC (b : Int) : Int := if b = 0 then 3 else 0
def modX (a b : Int) : Int := if b = 0 then 0 else modV a b
theorem mod_all (a b : Int) (w : World) (ha : In a) (hb : In b) : Calls Tryz.prog 91 #[.int .i64 a, .int .i64 b] w fun e w' => e = .returned (.tuple #[.int .i64 (modX a b), .int .i64 (modC b)]) ∧ w' = w := by
  unfold modX modC
  by_cases h : b = 0
  · rw [if_pos h, if_pos h]; exact modw_bZero a b w ha.1 h
  · rw [if_neg h, if_neg h]; exact modw_ok a b w ha.1 ha.2 hb.1 hb.2 h
theorem modX_in {a b : Int} (hb : In b) : In (modX a b) := by
  unfold modX; split
  · exact in0
  · exact modV_in hb (by assumption)
theorem modXC (a b : Int) : modC b = 0 ∨ (1 ≤ modC b ∧ modC b ≤ 8 ∧ modX a b = 0) := by
  unfold modC modX; split
  · exact .inr ⟨by decide, by decide, rfl⟩
  · exact .inl rfl
theorem rest_any (x s : Int) (b : Nat) (w : World) (hb : NB w b [x, s]) (hx : In x) (hs : In s) : Calls Tryz.prog 56 #[.slice (some ⟨b, 0, none⟩) 2 2] w fun e w' => e = .returned (.agg #[.int .i64 (tT (modC s)), .int .i64 (modX x s), .string ⟨#[]⟩, .bool false, .int .i64 (modC s)]) ∧ Below w.heap.size w w' := by
  have mixed : Tryz.prog.follows .mixedOrders = true := by kernel_rfl
  have x0 := hb.at (i := 0) (x := x) rfl
  have x1 := hb.at (i := 1) (x := s) rfl
  have hlt := hb.lt
  have hne : ¬ b = w.heap.size := by omega
  have h0 := fun w1 => mod_all x s w1 hx hs
  have h1 := fun w1 => told_any _ _ w1 (modX_in (a := x) hs) (modXC x s)
  generalize modX x s = r at h0 h1 ⊢
  generalize modC s = c at h0 h1 ⊢
  generalize tT c = t at h1 ⊢
  go_enter Tryz.func56, Tryz.ntmps56
  go_wp2
  go_region_held3 (fun w' => w'.cell? ⟨b, 0, none⟩ = some (.int .i64 x) ∧ w'.cell? ⟨b, 1, none⟩ = some (.int .i64 s)) ((repeat' apply And.intro) <;> (first | (go_keep; done) | (go_simp; done))) (first | (go_at_call 91; refine (h0 _).mono ?_; rintro e w5 ⟨rfl, e5⟩; rw [e5]; clear e5 w5) | (go_at_call 86; refine (h1 _).mono ?_; rintro e wa ⟨rfl, hbwa⟩; have hBwa : Below w.heap.size w wa := bup (by with_reducible (repeat' first | assumption | exact Below.refl _ _ | refine Below.drew ?_ | refine bdrewN ?_ _ | refine Below.setCell ?_ (by first | exact Nat.le_refl _ | (simp; done) | (simp; omega) | omega) _ | refine Below.alloc ?_ (by first | exact Nat.le_refl _ | (simp; done) | (simp; omega) | omega) _)) hbwa; have zwa := hBwa.size; have y0 := (hb.keep hBwa).at (i := 0) (x := x) rfl; have y1 := (hb.keep hBwa).at (i := 1) (x := s) rfl; have o0wa : Own wa (w.heap.size) #[.int .i64 0, .int .i64 0, .string ⟨#[]⟩, .bool false, .int .i64 0] := Own.keep (by with_reducible (repeat' first | assumption | refine Own.drew ?_ | refine Own.drewN ?_ _ | (refine Own.at ?_; first | rfl | (simp; done)) | refine Own.past ?_ _)) hbwa; have c0 := o0wa.cell; have f0 := o0wa.fro; have l0 := o0wa.lt))
  go_wp2
  exact bodyPost_ret (v := (.agg #[.int .i64 t, .int .i64 r, .string ⟨#[]⟩, .bool false, .int .i64 c])) (by simp [results, Tryz.results56, go_sem, c0, f0, l0]) rfl ⟨rfl, by with_reducible (repeat' first | assumption | exact Below.refl _ _ | refine Below.drew ?_ | refine bdrewN ?_ _ | refine Below.setCell ?_ (by first | exact Nat.le_refl _ | (simp; done) | (simp; omega) | omega) _ | refine Below.alloc ?_ (by first | exact Nat.le_refl _ | (simp; done) | (simp; omega) | omega) _)⟩
theorem qr_ex {q : Int} (h0 : 0 ≤ q) : qr (q * 100000000) 10000 = if 9223372036854775808 ≤ q * 10000 then 9223372036854775808 else q * 10000 := by
  have e1 : q * 100000000 / 10000 = q * 10000 := by omega
  have e2 : q * 100000000 % 10000 = 0 := by omega
  unfold qr
  rw [e1, e2]
  split
  · rfl
  · rw [if_neg (by omega), Int.add_zero]
/-- The whole part of a quotient, in parts; whether it may be. -/
def quoOk (q : Int) : Bool := decide (-9223372036854775807 ≤ q * 10000 ∧ q * 10000 ≤ 9223372036854775807)
theorem mul_quo (q : Int) (w : World) (hq : In q) : Calls Tryz.prog 92 #[.int .i64 q, .int .i64 100000000] w fun e w' => e = .returned (.tuple #[.int .i64 (okV (quoOk q) (q * 10000)), .int .i64 (okC (quoOk q))]) ∧ Below w.heap.size w w' := by
  have h := mul_any q 100000000 w hq.i64 ⟨by decide, by decide⟩
  obtain ⟨h1, h2⟩ := hq
  have hs := sizeV_range h1 h2
  have eq : mulQ q 100000000 = if 9223372036854775808 ≤ sizeV q * 10000 then 9223372036854775808 else sizeV q * 10000 := by
    unfold mulQ; rw [sizeV_pos (x := 100000000) (by decide)]; exact qr_ex hs.1
  have eo : mulOk q 100000000 = quoOk q := by
    unfold mulOk quoOk
    rw [mayOk_t h1, mayOk_t (by decide), eq, Bool.true_and, Bool.true_and]
    apply decide_eq_decide.2
    by_cases hn : q < 0
    · rw [sizeV_neg hn]; split <;> omega
    · rw [sizeV_pos (by omega)]; split <;> omega
  have ev : okV (quoOk q) (sgn q 100000000 (mulQ q 100000000)) = okV (quoOk q) (q * 10000) := by
    cases hk : quoOk q
    · rfl
    · unfold quoOk at hk
      simp at hk
      rw [okV_t rfl, okV_t rfl, eq]
      by_cases hn : q < 0
      · rw [sgn_diff (by rw [decide_eq_true hn]; decide), sizeV_neg hn, if_neg (by omega)]; omega
      · rw [sgn_same (by rw [decide_eq_false hn]; decide), sizeV_pos (by omega), if_neg (by omega)]
  rw [eo, ev] at h
  refine h.mono ?_
  rintro e w' ⟨rfl, n, rfl⟩
  exact ⟨rfl, bdrewN (Below.refl _ _) n⟩
theorem quo_in {q : Int} : In (okV (quoOk q) (q * 10000)) := by
  cases h : quoOk q
  · exact in0
  · unfold quoOk at h; simp at h; rw [okV_t rfl]; exact ⟨h.1, h.2⟩
theorem tdiv_in {a b : Int} (ha : In a) : In (a.tdiv b) := by
  have h : (a.tdiv b).natAbs ≤ a.natAbs := by rw [Int.natAbs_tdiv]; exact Nat.div_le_self _ _
  obtain ⟨h1, h2⟩ := ha
  exact ⟨by omega, by omega⟩
theorem quo_no (x s : Int) (b : Nat) (w : World) (hb : NB w b [x, s]) (hs : s = 0) : Calls Tryz.prog 57 #[.slice (some ⟨b, 0, none⟩) 2 2] w fun e w' => e = .returned (.agg #[.int .i64 (4), .int .i64 (0), .string ⟨#[]⟩, .bool false, .int .i64 (3)]) ∧ Below w.heap.size w w' := by
  have mixed : Tryz.prog.follows .mixedOrders = true := by kernel_rfl
  have x0 := hb.at (i := 0) (x := x) rfl
  have x1 := hb.at (i := 1) (x := s) rfl
  have hlt := hb.lt
  have hne : ¬ b = w.heap.size := by omega
  subst hs
  go_enter Tryz.func57, Tryz.ntmps57
  go_wp2
  go_quiet (fail)
  go_wp2_with (go_at_call 9; refine (err_ok _ _ (by decide) (by decide)).mono ?_; rintro e wa ⟨rfl, hbwa⟩; have hBwa : Below w.heap.size w wa := bup (by with_reducible (repeat' first | assumption | exact Below.refl _ _ | refine Below.drew ?_ | refine bdrewN ?_ _ | refine Below.setCell ?_ (by first | exact Nat.le_refl _ | (simp; done) | (simp; omega) | omega) _ | refine Below.alloc ?_ (by first | exact Nat.le_refl _ | (simp; done) | (simp; omega) | omega) _)) hbwa; have zwa := hBwa.size; have o0wa : Own wa (w.heap.size) #[.int .i64 0, .int .i64 0, .string ⟨#[]⟩, .bool false, .int .i64 0] := Own.keep (by with_reducible (repeat' first | assumption | refine Own.drew ?_ | refine Own.drewN ?_ _ | (refine Own.at ?_; first | rfl | (simp; done)) | refine Own.past ?_ _)) hbwa; have c0 := o0wa.cell; have f0 := o0wa.fro; have l0 := o0wa.lt)
  exact bodyPost_ret (v := (.agg #[.int .i64 (4), .int .i64 (0), .string ⟨#[]⟩, .bool false, .int .i64 (3)])) (by simp [results, Tryz.results57, go_sem, c0, f0, l0]) rfl ⟨rfl, by with_reducible (repeat' first | assumption | exact Below.refl _ _ | refine Below.drew ?_ | refine bdrewN ?_ _ | refine Below.setCell ?_ (by first | exact Nat.le_refl _ | (simp; done) | (simp; omega) | omega) _ | refine Below.alloc ?_ (by first | exact Nat.le_refl _ | (simp; done) | (simp; omega) | omega) _)⟩
theorem quo_ok (x s : Int) (b : Nat) (w : World) (hb : NB w b [x, s]) (hx : In x) (hs2 : In s) (hs : s ≠ 0) : Calls Tryz.prog 57 #[.slice (some ⟨b, 0, none⟩) 2 2] w fun e w' => e = .returned (.agg #[.int .i64 (tT (okC (quoOk (x.tdiv s)))), .int .i64 (okV (quoOk (x.tdiv s)) (x.tdiv s * 10000)), .string ⟨#[]⟩, .bool false, .int .i64 (okC (quoOk (x.tdiv s)))]) ∧ Below w.heap.size w w' := by
  have mixed : Tryz.prog.follows .mixedOrders = true := by kernel_rfl
  have x0 := hb.at (i := 0) (x := x) rfl
  have x1 := hb.at (i := 1) (x := s) rfl
  have hlt := hb.lt
  have hne : ¬ b = w.heap.size := by omega
  have hz : (s == 0) = false := by simp; exact hs
  have hz' : ¬ s = 0 := hs
  have hqi := tdiv_in (b := s) hx
  generalize hq : x.tdiv s = q at hqi ⊢
  have hw : wrap64 q = q := by obtain ⟨a1, a2⟩ := hqi; unfold wrap64; omega
  have h0 := fun w1 => mul_quo q w1 hqi
  have h1 := fun w1 => told_any _ _ w1 (quo_in (q := q)) (okVC (quoOk q) (q * 10000))
  generalize okV (quoOk q) (q * 10000) = r at h0 h1 ⊢
  generalize okC (quoOk q) = c at h0 h1 ⊢
  generalize tT c = t at h1 ⊢
  go_enter Tryz.func57, Tryz.ntmps57
  go_wp2
  go_quiet (fail)
  go_wp2_with (first | (go_at_call 92; refine (h0 _).mono ?_; rintro e wb ⟨rfl, hbwb⟩; have hBwb : Below w.heap.size w wb := bup (by with_reducible (repeat' first | assumption | exact Below.refl _ _ | refine Below.drew ?_ | refine bdrewN ?_ _ | refine Below.setCell ?_ (by first | exact Nat.le_refl _ | (simp; done) | (simp; omega) | omega) _ | refine Below.alloc ?_ (by first | exact Nat.le_refl _ | (simp; done) | (simp; omega) | omega) _)) hbwb; have zwb := hBwb.size; have o0wb : Own wb (w.heap.size) #[.int .i64 0, .int .i64 0, .string ⟨#[]⟩, .bool false, .int .i64 0] := Own.keep (by with_reducible (repeat' first | assumption | refine Own.drew ?_ | refine Own.drewN ?_ _ | (refine Own.at ?_; first | rfl | (simp; done)) | refine Own.past ?_ _)) hbwb; have c0 := o0wb.cell; have f0 := o0wb.fro; have l0 := o0wb.lt) | (go_at_call 86; refine (h1 _).mono ?_; rintro e wa ⟨rfl, hbwa⟩; have hBwa : Below w.heap.size w wa := bup (by with_reducible (repeat' first | assumption | exact Below.refl _ _ | refine Below.drew ?_ | refine bdrewN ?_ _ | refine Below.setCell ?_ (by first | exact Nat.le_refl _ | (simp; done) | (simp; omega) | omega) _ | refine Below.alloc ?_ (by first | exact Nat.le_refl _ | (simp; done) | (simp; omega) | omega) _)) hbwa; have zwa := hBwa.size; have o0wa : Own wa (w.heap.size) #[.int .i64 0, .int .i64 0, .string ⟨#[]⟩, .bool false, .int .i64 0] := Own.keep (by with_reducible (repeat' first | assumption | refine Own.drew ?_ | refine Own.drewN ?_ _ | (refine Own.at ?_; first | rfl | (simp; done)) | refine Own.past ?_ _)) hbwa; have c0 := o0wa.cell; have f0 := o0wa.fro; have l0 := o0wa.lt))
  exact bodyPost_ret (v := (.agg #[.int .i64 t, .int .i64 r, .string ⟨#[]⟩, .bool false, .int .i64 c])) (by simp [results, Tryz.results57, go_sem, c0, f0, l0]) rfl ⟨rfl, by with_reducible (repeat' first | assumption | exact Below.refl _ _ | refine Below.drew ?_ | refine bdrewN ?_ _ | refine Below.setCell ?_ (by first | exact Nat.le_refl _ | (simp; done) | (simp; omega) | omega) _ | refine Below.alloc ?_ (by first | exact Nat.le_refl _ | (simp; done) | (simp; omega) | omega) _)⟩
theorem clamp_no (x l h : Int) (b : Nat) (w : World) (hb : NB w b [x, l, h]) (hlh : h < l) : Calls Tryz.prog 63 #[.slice (some ⟨b, 0, none⟩) 3 3] w fun e w' => e = .returned (.agg #[.int .i64 (4), .int .i64 (0), .string ⟨#[]⟩, .bool false, .int .i64 (8)]) ∧ Below w.heap.size w w' := by
  have mixed : Tryz.prog.follows .mixedOrders = true := by kernel_rfl
  have x0 := hb.at (i := 0) (x := x) rfl
  have x1 := hb.at (i := 1) (x := l) rfl
  have x2 := hb.at (i := 2) (x := h) rfl
  have hlt := hb.lt
  have hne : ¬ b = w.heap.size := by omega
  go_enter Tryz.func63, Tryz.ntmps63
  go_wp2
  go_quiet (fail)
  go_wp2_with (go_at_call 9; refine (err_ok _ _ (by decide) (by decide)).mono ?_; rintro e wa ⟨rfl, hbwa⟩; have hBwa : Below w.heap.size w wa := bup (by with_reducible (repeat' first | assumption | exact Below.refl _ _ | refine Below.drew ?_ | refine bdrewN ?_ _ | refine Below.setCell ?_ (by first | exact Nat.le_refl _ | (simp; done) | (simp; omega) | omega) _ | refine Below.alloc ?_ (by first | exact Nat.le_refl _ | (simp; done) | (simp; omega) | omega) _)) hbwa; have zwa := hBwa.size; have o0wa : Own wa (w.heap.size) #[.int .i64 0, .int .i64 0, .string ⟨#[]⟩, .bool false, .int .i64 0] := Own.keep (by with_reducible (repeat' first | assumption | refine Own.drew ?_ | refine Own.drewN ?_ _ | (refine Own.at ?_; first | rfl | (simp; done)) | refine Own.past ?_ _)) hbwa; have c0 := o0wa.cell; have f0 := o0wa.fro; have l0 := o0wa.lt)
  exact bodyPost_ret (v := (.agg #[.int .i64 (4), .int .i64 (0), .string ⟨#[]⟩, .bool false, .int .i64 (8)])) (by simp [results, Tryz.results63, go_sem, c0, f0, l0]) rfl ⟨rfl, by with_reducible (repeat' first | assumption | exact Below.refl _ _ | refine Below.drew ?_ | refine bdrewN ?_ _ | refine Below.setCell ?_ (by first | exact Nat.le_refl _ | (simp; done) | (simp; omega) | omega) _ | refine Below.alloc ?_ (by first | exact Nat.le_refl _ | (simp; done) | (simp; omega) | omega) _)⟩
theorem clamp_ok (x l h : Int) (b : Nat) (w : World) (hb : NB w b [x, l, h]) (hlh : l ≤ h) (hx : In x) (hl : In l) (hh : In h) : Calls Tryz.prog 63 #[.slice (some ⟨b, 0, none⟩) 3 3] w fun e w' => e = .returned (.agg #[.int .i64 (1), .int .i64 (max l (min h x)), .string ⟨#[]⟩, .bool false, .int .i64 (0)]) ∧ Below w.heap.size w w' := by
  have mixed : Tryz.prog.follows .mixedOrders = true := by kernel_rfl
  have x0 := hb.at (i := 0) (x := x) rfl
  have x1 := hb.at (i := 1) (x := l) rfl
  have x2 := hb.at (i := 2) (x := h) rfl
  have hlt := hb.lt
  have hne : ¬ b = w.heap.size := by omega
  have hm : In (max l (min h x)) := by obtain ⟨a1, a2⟩ := hx; obtain ⟨a3, a4⟩ := hl; obtain ⟨a5, a6⟩ := hh; exact ⟨by omega, by omega⟩
  go_enter Tryz.func63, Tryz.ntmps63
  go_wp2
  go_quiet (fail)
  go_wp2_with (go_at_call 83; refine (num_t _ _ hm.i64 (by have := hm.1; omega)).mono ?_; rintro e wa ⟨rfl, hbwa⟩; have hBwa : Below w.heap.size w wa := bup (by with_reducible (repeat' first | assumption | exact Below.refl _ _ | refine Below.drew ?_ | refine bdrewN ?_ _ | refine Below.setCell ?_ (by first | exact Nat.le_refl _ | (simp; done) | (simp; omega) | omega) _ | refine Below.alloc ?_ (by first | exact Nat.le_refl _ | (simp; done) | (simp; omega) | omega) _)) hbwa; have zwa := hBwa.size; have o0wa : Own wa (w.heap.size) #[.int .i64 0, .int .i64 0, .string ⟨#[]⟩, .bool false, .int .i64 0] := Own.keep (by with_reducible (repeat' first | assumption | refine Own.drew ?_ | refine Own.drewN ?_ _ | (refine Own.at ?_; first | rfl | (simp; done)) | refine Own.past ?_ _)) hbwa; have c0 := o0wa.cell; have f0 := o0wa.fro; have l0 := o0wa.lt)
  exact bodyPost_ret (v := (.agg #[.int .i64 (1), .int .i64 (max l (min h x)), .string ⟨#[]⟩, .bool false, .int .i64 (0)])) (by simp [results, Tryz.results63, go_sem, c0, f0, l0]) rfl ⟨rfl, by with_reducible (repeat' first | assumption | exact Below.refl _ _ | refine Below.drew ?_ | refine bdrewN ?_ _ | refine Below.setCell ?_ (by first | exact Nat.le_refl _ | (simp; done) | (simp; omega) | omega) _ | refine Below.alloc ?_ (by first | exact Nat.le_refl _ | (simp; done) | (simp; omega) | omega) _)⟩
theorem places_1 (p : Addr) (w : World) : Calls Tryz.prog 88 #[.slice (some p) 1 1] w fun e w' => e = .returned (.tuple #[.int .i64 0, .bool true]) ∧ w' = w := by
  go_enter Tryz.func88, Tryz.ntmps88
  go_wp2
  go_ret2
  exact ⟨rfl, rfl⟩
theorem trunc_in {x u : Int} (hx : In x) (hu : 0 < u) : In (x - x.tmod u) := by
  obtain ⟨h1, h2⟩ := hx
  by_cases h : 0 ≤ x
  · have e := Int.tmod_nonneg u h
    have e2 : x.tmod u ≤ x := by
      have q := Int.tmod_add_mul_tdiv x u
      have q2 : 0 ≤ u * x.tdiv u := Int.mul_nonneg (by omega) (Int.tdiv_nonneg h (by omega))
      omega
    exact ⟨by omega, by omega⟩
  · have e := Int.tmod_nonneg u (show 0 ≤ -x by omega)
    rw [Int.neg_tmod] at e
    have e2 : (-x).tmod u ≤ -x := by
      have q := Int.tmod_add_mul_tdiv (-x) u
      have q2 : 0 ≤ u * (-x).tdiv u := Int.mul_nonneg (by omega) (Int.tdiv_nonneg (by omega) (by omega))
      omega
    rw [Int.neg_tmod] at e2
    exact ⟨by omega, by omega⟩
set_option maxHeartbeats 1000000 in
theorem trunc_1 (x : Int) (b : Nat) (w : World) (hb : NB w b [x]) (hx : In x) : Calls Tryz.prog 52 #[.slice (some ⟨b, 0, none⟩) 1 1] w fun e w' => e = .returned (.agg #[.int .i64 (1), .int .i64 (x - x.tmod 10000), .string ⟨#[]⟩, .bool false, .int .i64 (0)]) ∧ Below w.heap.size w w' := by
  have mixed : Tryz.prog.follows .mixedOrders = true := by kernel_rfl
  have x0 := hb.at (i := 0) (x := x) rfl
  have hlt := hb.lt
  have hne : ¬ b = w.heap.size := by omega
  have hti := trunc_in hx (u := 10000) (by decide)
  have hmb := tmod_bd x 10000 (by decide)
  have hw : wrap64 (x.tmod 10000) = x.tmod 10000 := by unfold wrap64; omega
  have hw2 : wrap64 (x - x.tmod 10000) = x - x.tmod 10000 := by obtain ⟨a1, a2⟩ := hti; unfold wrap64; omega
  have hw3 : IntKind.i64.wrap (x.tmod 10000) = x.tmod 10000 := by rw [IntKind.wrap_i64]; unfold wrap64 at hw; exact hw
  have hw4 : IntKind.i64.wrap (x - x.tmod 10000) = x - x.tmod 10000 := by rw [IntKind.wrap_i64]; unfold wrap64 at hw2; exact hw2
  have hn := fun w1 => num_t (x - x.tmod 10000) w1 hti.i64 (by have := hti.1; omega)
  generalize hr : x.tmod 10000 = r at *
  generalize hv : x - r = v at *
  clear hmb hti
  go_enter Tryz.func52, Tryz.ntmps52
  go_wp2_with (go_at_call 88; refine (places_1 _ _).mono ?_; rintro e w5 ⟨rfl, e5⟩; rw [e5]; clear e5 w5)
  go_loopw [5, 28] (fun u v w' => ∃ i : Nat, v = .int .i64 i ∧ i ≤ 4 ∧ u = .int .i64 ((10 ^ i : Nat) : Int) ∧ w' = w.alloc (.cells #[.int .i64 0, .int .i64 0, .string ⟨#[]⟩, .bool false, .int .i64 0] 26)) (fun _ v _ => 4 - (intOf v).toNat)
  case atStart => exact ⟨0, rfl, by omega, rfl, rfl⟩
  case round =>
    obtain ⟨i, rfl, hi, rfl, rfl⟩ := hrel
    have hi5 : i = 0 ∨ i = 1 ∨ i = 2 ∨ i = 3 ∨ i = 4 := by omega
    rcases hi5 with rfl | rfl | rfl | rfl | rfl
    · go_wp2
      exact ⟨⟨1, rfl, by omega, rfl, trivial⟩, by simp [intOf]⟩
    · go_wp2
      exact ⟨⟨2, rfl, by omega, rfl, trivial⟩, by simp [intOf]⟩
    · go_wp2
      exact ⟨⟨3, rfl, by omega, rfl, trivial⟩, by simp [intOf]⟩
    · go_wp2
      exact ⟨⟨4, rfl, by omega, rfl, trivial⟩, by simp [intOf]⟩
    · go_wp2
      go_region_held3 (fun w' => w'.cell? ⟨b, 0, none⟩ = some (.int .i64 x)) ((repeat' apply And.intro) <;> (first | (go_keep; done) | (go_simp; done))) ((go_at_call 83; refine (hn _).mono ?_; rintro e wa ⟨rfl, hbwa⟩; have hBwa : Below w.heap.size w wa := bup (by with_reducible (repeat' first | assumption | exact Below.refl _ _ | refine Below.drew ?_ | refine bdrewN ?_ _ | refine Below.setCell ?_ (by first | exact Nat.le_refl _ | (simp; done) | (simp; omega) | omega) _ | refine Below.alloc ?_ (by first | exact Nat.le_refl _ | (simp; done) | (simp; omega) | omega) _)) hbwa; have zwa := hBwa.size; have o0wa : Own wa (w.heap.size) #[.int .i64 0, .int .i64 0, .string ⟨#[]⟩, .bool false, .int .i64 0] := Own.keep (by with_reducible (repeat' first | assumption | refine Own.drew ?_ | refine Own.drewN ?_ _ | (refine Own.at ?_; first | rfl | (simp; done)) | refine Own.past ?_ _)) hbwa; have c0 := o0wa.cell; have f0 := o0wa.fro; have l0 := o0wa.lt; have y0 := (hb.keep hBwa).at (i := 0) (x := x) rfl))
      go_wp2
      exact bodyPost_ret (v := (.agg #[.int .i64 (1), .int .i64 (v), .string ⟨#[]⟩, .bool false, .int .i64 (0)])) (by simp [results, Tryz.results52, go_sem, c0, f0, l0]) rfl ⟨rfl, by with_reducible (repeat' first | assumption | exact Below.refl _ _ | refine Below.drew ?_ | refine bdrewN ?_ _ | refine Below.setCell ?_ (by first | exact Nat.le_refl _ | (simp; done) | (simp; omega) | omega) _ | refine Below.alloc ?_ (by first | exact Nat.le_refl _ | (simp; done) | (simp; omega) | omega) _)⟩
end Go.Proofs.YtfpbcokfianjaaaGreat
namespace Go.Proofs.YtfpbcokfianjaaaGreat
open Go.Shelf Go.RowKit
set_option linter.unusedVariables false
/-- Powers of ten. -/
def p10 (j : Nat) : Nat := 10 ^ j
theorem p10_succ (j : Nat) : p10 (j + 1) = 10 * p10 j := by unfold p10; rw [Nat.pow_succ]; omega
theorem p10_le {j k : Nat} (h : j ≤ k) : p10 j ≤ p10 k := Nat.pow_le_pow_right (by decide) h
theorem p10_18 {j : Nat} (h : j ≤ 18) : p10 j ≤ 1000000000000000000 := p10_le h
theorem p10_19 {j : Nat} (h : j ≤ 19) : p10 j ≤ 10000000000000000000 := p10_le h
theorem p10_pos (j : Nat) : 1 ≤ p10 j := Nat.pos_of_ne_zero (by unfold p10; simp)
theorem p10_1 {j : Nat} (h : 1 ≤ j) : 10 ≤ p10 j := p10_le h
/-- A size rounded to a multiple of y. -/
def rnd (n y : Int) : Int := (n / y + (if y ≤ 2 * (n % y) then 1 else 0)) * y
theorem qr_rnd {n y : Int} (h0 : 0 ≤ n) (h1 : n ≤ 9223372036854775807) (hy : 10 ≤ y) : qr n y * y = rnd n y ∧ 0 ≤ qr n y := by
  have hd : n / y ≤ n := Int.ediv_le_self _ h0
  have hd0 : 0 ≤ n / y := Int.ediv_nonneg h0 (by omega)
  have hb : ¬ 9223372036854775808 ≤ n / y := by omega
  unfold qr rnd
  rw [if_neg hb]
  refine ⟨rfl, ?_⟩
  split <;> omega
theorem rnd_bd {n y : Int} (h0 : 0 ≤ n) (hy : 0 < y) : 0 ≤ rnd n y ∧ 2 * rnd n y ≤ 2 * n + y := by
  have hm := Int.mul_ediv_add_emod n y
  have hm0 := Int.emod_nonneg n (show y ≠ 0 by omega)
  have hm1 := Int.emod_lt_of_pos n hy
  have hd0 : 0 ≤ n / y := Int.ediv_nonneg h0 (by omega)
  have hp : 0 ≤ y * (n / y) := Int.mul_nonneg (by omega) hd0
  unfold rnd
  rw [Int.add_mul, Int.mul_comm (n / y) y]
  split
  · rw [Int.one_mul]; omega
  · rw [Int.zero_mul]; omega
theorem round_big (x places v P : Int) (k : Nat) (w : World) (hx1 : -9223372036854775807 ≤ x) (hx2 : x ≤ 9223372036854775807) (hp1 : -15 ≤ places) (hp2 : places ≤ 3) (hk : (k : Int) = 4 - places) (hq : QuotIs 0 (sizeV x) (p10 k) v) (hP : v * (p10 k : Int) = P) (hP0 : 0 ≤ P) (hPu : P < 18446744073709551616) (hb : 9223372036854775807 < P) :
    Calls Tryz.prog 89 #[.int .i64 x, .int .i64 places] w fun e w' => e = .returned (.tuple #[.int .i64 0, .int .i64 2]) ∧ ∃ n, w' = w.drewN n := by
  go_enter Tryz.func89, Tryz.ntmps89
  go_wp2_with (first | (go_at_call 109; refine (may_t _ _ (by omega)).mono ?_; rintro e w' ⟨rfl, rfl⟩))
  go_loop [6, 17] (fun st i => ∃ j : Nat, j ≤ k ∧ i = .int .i64 j ∧ st = .int .u64 (p10 j : Nat)) (fun _ i => k - (intOf i).toNat)
  case atStart => exact ⟨0, Nat.zero_le _, rfl, rfl⟩
  case round =>
    obtain ⟨j, hj, rfl, rfl⟩ := hrel
    by_cases hlt : j < k
    · have h18 := p10_18 (j := j) (by omega)
      have HS := Lib.hid (p10_succ j)
      have hlt' : (j : Int) < 4 - places := by omega
      go_wp2
      go_round
      case rel => exact ⟨j + 1, by omega, by go_num, by rw [HS.out]; go_num⟩
      case measure => simp [intOf]; omega
    · obtain rfl : j = k := by omega
      have hnlt : ¬ (j : Int) < 4 - places := by omega
      go_wp2_with (first | (go_at_call 114; refine (size_any _ _ (by omega) (by omega)).mono ?_; rintro e w' ⟨rfl, rfl⟩) | (go_at_call 113; refine (hq _).mono ?_; rintro e w' ⟨rfl, n, rfl⟩) | (go_at_call 112; refine (signed_big _ _ _ (by omega)).mono ?_; rintro e w' ⟨rfl, rfl⟩))
      go_ret2
      exact ⟨rfl, n, rfl⟩
theorem round_pos (x places v P : Int) (k : Nat) (w : World) (hx1 : -9223372036854775807 ≤ x) (hx2 : x ≤ 9223372036854775807) (hp1 : -15 ≤ places) (hp2 : places ≤ 3) (hk : (k : Int) = 4 - places) (hq : QuotIs 0 (sizeV x) (p10 k) v) (hP : v * (p10 k : Int) = P) (hP0 : 0 ≤ P) (hPu : P < 18446744073709551616) (hb : P ≤ 9223372036854775807) (hx0 : 0 ≤ x) :
    Calls Tryz.prog 89 #[.int .i64 x, .int .i64 places] w fun e w' => e = .returned (.tuple #[.int .i64 P, .int .i64 0]) ∧ ∃ n, w' = w.drewN n := by
  have dx : decide (x < 0) = false := decide_eq_false (by omega)
  go_enter Tryz.func89, Tryz.ntmps89
  go_wp2_with (first | (go_at_call 109; refine (may_t _ _ (by omega)).mono ?_; rintro e w' ⟨rfl, rfl⟩))
  go_loop [6, 17] (fun st i => ∃ j : Nat, j ≤ k ∧ i = .int .i64 j ∧ st = .int .u64 (p10 j : Nat)) (fun _ i => k - (intOf i).toNat)
  case atStart => exact ⟨0, Nat.zero_le _, rfl, rfl⟩
  case round =>
    obtain ⟨j, hj, rfl, rfl⟩ := hrel
    by_cases hlt : j < k
    · have h18 := p10_18 (j := j) (by omega)
      have HS := Lib.hid (p10_succ j)
      have hlt' : (j : Int) < 4 - places := by omega
      go_wp2
      go_round
      case rel => exact ⟨j + 1, by omega, by go_num, by rw [HS.out]; go_num⟩
      case measure => simp [intOf]; omega
    · obtain rfl : j = k := by omega
      have hnlt : ¬ (j : Int) < 4 - places := by omega
      go_wp2_with (first | (go_at_call 114; refine (size_any _ _ (by omega) (by omega)).mono ?_; rintro e w' ⟨rfl, rfl⟩) | (go_at_call 113; refine (hq _).mono ?_; rintro e w' ⟨rfl, n, rfl⟩) | (go_at_call 112; refine (signed_pos _ _ (by omega) (by omega)).mono ?_; rintro e w' ⟨rfl, rfl⟩))
      go_ret2
      exact ⟨rfl, n, rfl⟩
theorem round_neg (x places v P : Int) (k : Nat) (w : World) (hx1 : -9223372036854775807 ≤ x) (hx2 : x ≤ 9223372036854775807) (hp1 : -15 ≤ places) (hp2 : places ≤ 3) (hk : (k : Int) = 4 - places) (hq : QuotIs 0 (sizeV x) (p10 k) v) (hP : v * (p10 k : Int) = P) (hP0 : 0 ≤ P) (hPu : P < 18446744073709551616) (hb : P ≤ 9223372036854775807) (hx0 : x < 0) :
    Calls Tryz.prog 89 #[.int .i64 x, .int .i64 places] w fun e w' => e = .returned (.tuple #[.int .i64 (-P), .int .i64 0]) ∧ ∃ n, w' = w.drewN n := by
  have dx : decide (x < 0) = true := decide_eq_true hx0
  go_enter Tryz.func89, Tryz.ntmps89
  go_wp2_with (first | (go_at_call 109; refine (may_t _ _ (by omega)).mono ?_; rintro e w' ⟨rfl, rfl⟩))
  go_loop [6, 17] (fun st i => ∃ j : Nat, j ≤ k ∧ i = .int .i64 j ∧ st = .int .u64 (p10 j : Nat)) (fun _ i => k - (intOf i).toNat)
  case atStart => exact ⟨0, Nat.zero_le _, rfl, rfl⟩
  case round =>
    obtain ⟨j, hj, rfl, rfl⟩ := hrel
    by_cases hlt : j < k
    · have h18 := p10_18 (j := j) (by omega)
      have HS := Lib.hid (p10_succ j)
      have hlt' : (j : Int) < 4 - places := by omega
      go_wp2
      go_round
      case rel => exact ⟨j + 1, by omega, by go_num, by rw [HS.out]; go_num⟩
      case measure => simp [intOf]; omega
    · obtain rfl : j = k := by omega
      have hnlt : ¬ (j : Int) < 4 - places := by omega
      go_wp2_with (first | (go_at_call 114; refine (size_any _ _ (by omega) (by omega)).mono ?_; rintro e w' ⟨rfl, rfl⟩) | (go_at_call 113; refine (hq _).mono ?_; rintro e w' ⟨rfl, n, rfl⟩) | (go_at_call 112; refine (signed_neg _ _ (by omega) (by omega)).mono ?_; rintro e w' ⟨rfl, rfl⟩))
      go_ret2
      exact ⟨rfl, n, rfl⟩
/-- Rounded, of a size. -/
theorem rnd_room {n : Int} {k : Nat} (h0 : 0 ≤ n) (h1 : n ≤ 9223372036854775807) (hk1 : 1 ≤ k) (hk : k ≤ 19) : 0 ≤ rnd n (p10 k) ∧ rnd n (p10 k) < 18446744073709551616 := by
  have h := rnd_bd (n := n) (y := (p10 k : Int)) h0 (by have := p10_pos k; omega)
  have := p10_19 hk
  omega
/-- A number rounded to so many places; how it can't be. -/
def roundStep (places : Int) : Nat := p10 (4 - places).toNat
def roundOk (x places : Int) : Bool := mayOk x && (decide (3 < places) || decide (places < -15) || decide (rnd (sizeV x) (roundStep places) ≤ 9223372036854775807))
def roundN (x places : Int) : Int := if 3 < places then x else if places < -15 then 0 else if x < 0 then -rnd (sizeV x) (roundStep places) else rnd (sizeV x) (roundStep places)
theorem round_any (x places : Int) (w : World) (hx : I64 x) (hp : I64 places) : Calls Tryz.prog 89 #[.int .i64 x, .int .i64 places] w fun e w' => e = .returned (.tuple #[.int .i64 (okV (roundOk x places) (roundN x places)), .int .i64 (okC (roundOk x places))]) ∧ ∃ n, w' = w.drewN n := by
  obtain ⟨hx1, hx2⟩ := hx
  obtain ⟨hp1, hp2⟩ := hp
  by_cases hm : x = -9223372036854775808
  · have ok : roundOk x places = false := by unfold roundOk; rw [mayOk_f hm]; rfl
    rw [okV_f ok, okC_f ok]
    go_enter Tryz.func89, Tryz.ntmps89
    go_wp2_with (go_at_call 109; refine (may_f _ _ (by omega)).mono ?_; rintro e w' ⟨rfl, rfl⟩)
    go_ret2
    exact ⟨rfl, 0, rfl⟩
  have hx3 : -9223372036854775807 ≤ x := by omega
  have hmay := mayOk_t hx3
  by_cases h3 : 3 < places
  · have ok : roundOk x places = true := by unfold roundOk; rw [hmay, decide_eq_true h3]; rfl
    have hN : roundN x places = x := by unfold roundN; rw [if_pos h3]
    rw [okV_t ok, okC_t ok, hN]
    go_enter Tryz.func89, Tryz.ntmps89
    go_wp2_with (go_at_call 109; refine (may_t _ _ (by omega)).mono ?_; rintro e w' ⟨rfl, rfl⟩)
    go_ret2
    exact ⟨rfl, 0, rfl⟩
  by_cases h15 : places < -15
  · have ok : roundOk x places = true := by unfold roundOk; rw [hmay, decide_eq_true h15]; simp
    have hN : roundN x places = 0 := by unfold roundN; rw [if_neg h3, if_pos h15]
    rw [okV_t ok, okC_t ok, hN]
    go_enter Tryz.func89, Tryz.ntmps89
    go_wp2_with (go_at_call 109; refine (may_t _ _ (by omega)).mono ?_; rintro e w' ⟨rfl, rfl⟩)
    go_ret2
    exact ⟨rfl, 0, rfl⟩
  have hk : (((4 - places).toNat : Nat) : Int) = 4 - places := by omega
  generalize hkk : (4 - places).toNat = k at hk
  have hst : roundStep places = p10 k := by unfold roundStep; rw [hkk]
  have hsz := sizeV_range hx3 hx2
  have h10 := p10_1 (j := k) (by omega)
  have h19 := p10_19 (j := k) (by omega)
  have hq := quot_0 (sizeV x) (p10 k) hsz.1 (by omega) (by omega) (by omega)
  have hr := qr_rnd (n := sizeV x) (y := (p10 k : Int)) hsz.1 hsz.2 (by omega)
  have hroom := rnd_room (k := k) hsz.1 hsz.2 (by omega) (by omega)
  by_cases hb : 9223372036854775807 < rnd (sizeV x) (p10 k)
  · have ok : roundOk x places = false := by unfold roundOk; rw [hst, decide_eq_false h3, decide_eq_false h15, decide_eq_false (by omega)]; simp
    rw [okV_f ok, okC_f ok]
    exact round_big x places _ _ k w hx3 hx2 (by omega) (by omega) hk hq hr.1 hroom.1 hroom.2 hb
  · have ok : roundOk x places = true := by unfold roundOk; rw [hst, hmay, decide_eq_true (show rnd (sizeV x) (p10 k) ≤ 9223372036854775807 by omega)]; simp
    rw [okV_t ok, okC_t ok]
    by_cases h0 : x < 0
    · have hN : roundN x places = -rnd (sizeV x) (p10 k) := by unfold roundN; rw [if_neg h3, if_neg h15, if_pos h0, hst]
      rw [hN]
      exact round_neg x places _ _ k w hx3 hx2 (by omega) (by omega) hk hq hr.1 hroom.1 hroom.2 (by omega) h0
    · have hN : roundN x places = rnd (sizeV x) (p10 k) := by unfold roundN; rw [if_neg h3, if_neg h15, if_neg h0, hst]
      rw [hN]
      exact round_pos x places _ _ k w hx3 hx2 (by omega) (by omega) hk hq hr.1 hroom.1 hroom.2 (by omega) (by omega)
end Go.Proofs.YtfpbcokfianjaaaGreat
