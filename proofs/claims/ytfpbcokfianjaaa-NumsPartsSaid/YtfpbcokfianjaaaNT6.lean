/- The contracts of nums.size, told, abs, broken, common and greatestDivisor, of numbers that may be. New memory alone is made. -/
import Derived.Test.YtfpbcokfianjaaaNT5
import Derived.Test.YtfpbcokfianjaaaWhole
namespace Go.Proofs.Ytfpbcokfianjaaa
open Go.RowKit
set_option linter.all false
def In (x : Int) : Prop := -9223372036854775807 ≤ x ∧ x ≤ 9223372036854775807
theorem In.i64 {x : Int} (h : In x) : I64 x := ⟨by have := h.1; omega, h.2⟩
theorem nsize_p (x : Int) (w : World) (h : 0 ≤ x) (h2 : x ≤ 9223372036854775807) : Calls Try.prog 55 #[.int .i64 x] w fun e w' => e = .returned (.int .i64 x) ∧ w' = w := by
  have hm : max x (-x) = x := by omega
  go_enter Try.func55, Try.ntmps55
  go_wp2
  go_ret
  exact ⟨ret1 (by omega), rfl⟩
theorem nsize_n (x : Int) (w : World) (h : -9223372036854775807 ≤ x) (h2 : x < 0) : Calls Try.prog 55 #[.int .i64 x] w fun e w' => e = .returned (.int .i64 (-x)) ∧ w' = w := by
  have hm : max x (-x) = -x := by omega
  go_enter Try.func55, Try.ntmps55
  go_wp2
  go_ret
  exact ⟨ret1 (by omega), rfl⟩
def sz (x : Int) : Int := (x.natAbs : Int)
theorem nsize_any (x : Int) (w : World) (h : In x) : Calls Try.prog 55 #[.int .i64 x] w fun e w' => e = .returned (.int .i64 (sz x)) ∧ w' = w := by
  obtain ⟨h1, h2⟩ := h
  unfold sz
  by_cases hx : 0 ≤ x
  · rw [show ((x.natAbs : Nat) : Int) = x by omega]; exact nsize_p x w hx h2
  · rw [show ((x.natAbs : Nat) : Int) = -x by omega]; exact nsize_n x w h1 (by omega)
theorem sz_in {x : Int} (h : In x) : In (sz x) := by obtain ⟨h1, h2⟩ := h; unfold sz; constructor <;> omega
/-- A number's value; a fault's. -/
def numV (x : Int) : Value := (.agg #[.int .i64 (1), .int .i64 (x), .string ⟨#[]⟩, .bool false, .int .i64 (0)])
def errV (c : Int) : Value := (.agg #[.int .i64 (4), .int .i64 (0), .string ⟨#[]⟩, .bool false, .int .i64 (c)])
theorem told_ok (x : Int) (w : World) (h : In x) : Calls Try.prog 57 #[.int .i64 x, .int .i64 0] w fun e w' => e = .returned (numV x) ∧ Below w.heap.size w w' := by
  unfold numV
  go_enter Try.func57, Try.ntmps57
  go_wp2_with (go_at_call 54; refine (num_t _ _ h.i64 (by have := h.1; omega)).mono ?_; rintro e w1 ⟨rfl, hb⟩; have hB : Below w.heap.size w w1 := bup (by with_reducible (repeat' first | assumption | exact Below.refl _ _ | refine Below.drew ?_ | refine bdrewN ?_ _ | refine Below.setCell ?_ (by first | exact Nat.le_refl _ | (simp; done) | (simp; omega) | omega) _ | refine Below.alloc ?_ (by first | exact Nat.le_refl _ | (simp; done) | (simp; omega) | omega) _)) hb; have o0 : Own w1 (w.heap.size) #[.int .i64 0, .int .i64 0, .string ⟨#[]⟩, .bool false, .int .i64 0] := Own.keep (by with_reducible (repeat' first | assumption | refine Own.drew ?_ | refine Own.drewN ?_ _ | (refine Own.at ?_; first | rfl | (simp; done)) | refine Own.past ?_ _)) hb; have c0 := o0.cell; have f0 := o0.fro; have l0 := o0.lt)
  exact bodyPost_ret (v := (.agg #[.int .i64 (1), .int .i64 (x), .string ⟨#[]⟩, .bool false, .int .i64 (0)])) (by simp [results, Try.results57, go_sem, c0, f0, l0]) rfl ⟨rfl, by with_reducible (repeat' first | assumption | exact Below.refl _ _ | refine Below.drew ?_ | refine bdrewN ?_ _ | refine Below.setCell ?_ (by first | exact Nat.le_refl _ | (simp; done) | (simp; omega) | omega) _ | refine Below.alloc ?_ (by first | exact Nat.le_refl _ | (simp; done) | (simp; omega) | omega) _)⟩
theorem told_no (x c : Int) (w : World) (h1 : 1 ≤ c) (h2 : c ≤ 8) (hc : (c != 0) = true) : Calls Try.prog 57 #[.int .i64 x, .int .i64 c] w fun e w' => e = .returned (errV c) ∧ Below w.heap.size w w' := by
  unfold errV
  go_enter Try.func57, Try.ntmps57
  go_wp2_with (go_at_call 23; refine (err_ok _ _ h1 h2).mono ?_; rintro e w1 ⟨rfl, hb⟩; have hB : Below w.heap.size w w1 := bup (by with_reducible (repeat' first | assumption | exact Below.refl _ _ | refine Below.drew ?_ | refine bdrewN ?_ _ | refine Below.setCell ?_ (by first | exact Nat.le_refl _ | (simp; done) | (simp; omega) | omega) _ | refine Below.alloc ?_ (by first | exact Nat.le_refl _ | (simp; done) | (simp; omega) | omega) _)) hb; have o0 : Own w1 (w.heap.size) #[.int .i64 0, .int .i64 0, .string ⟨#[]⟩, .bool false, .int .i64 0] := Own.keep (by with_reducible (repeat' first | assumption | refine Own.drew ?_ | refine Own.drewN ?_ _ | (refine Own.at ?_; first | rfl | (simp; done)) | refine Own.past ?_ _)) hb; have c0 := o0.cell; have f0 := o0.fro; have l0 := o0.lt)
  exact bodyPost_ret (v := (.agg #[.int .i64 (4), .int .i64 (0), .string ⟨#[]⟩, .bool false, .int .i64 (c)])) (by simp [results, Try.results57, go_sem, c0, f0, l0]) rfl ⟨rfl, by with_reducible (repeat' first | assumption | exact Below.refl _ _ | refine Below.drew ?_ | refine bdrewN ?_ _ | refine Below.setCell ?_ (by first | exact Nat.le_refl _ | (simp; done) | (simp; omega) | omega) _ | refine Below.alloc ?_ (by first | exact Nat.le_refl _ | (simp; done) | (simp; omega) | omega) _)⟩
/-- A row of numbers in a block of its own. -/
structure NB (w : World) (b : Nat) (l : List Int) : Prop where
  lt : b < w.heap.size
  own : Own w b (nv l)
theorem NB.keep {w w' : World} {b : Nat} {l : List Int} (h : NB w b l) (hb : Below w.heap.size w w') : NB w' b l := ⟨Nat.lt_of_lt_of_le h.lt hb.size, h.own.keep hb⟩
theorem NB.at {w : World} {b : Nat} {l : List Int} (h : NB w b l) {i : Nat} {x : Int} (hi : l[i]? = some x) : w.cell? ⟨b, i, none⟩ = some (.int .i64 x) := by
  rw [h.own.cell, nv_at, hi]; rfl
theorem abs_any (x : Int) (b : Nat) (w : World) (hb0 : NB w b [x]) (h : In x) : Calls Try.prog 33 #[.slice (some ⟨b, 0, none⟩) 1 1] w fun e w' => e = .returned (numV (sz x)) ∧ Below w.heap.size w w' := by
  have x0 := hb0.at (i := 0) (x := x) rfl
  have hlt := hb0.lt
  have hs := sz_in h
  unfold numV
  go_enter Try.func33, Try.ntmps33
  go_wp2_with (first | (go_at_call 55; refine (nsize_any _ _ h).mono ?_; rintro e w1 ⟨rfl, rfl⟩) | (go_at_call 54; refine (num_t _ _ hs.i64 (by have := hs.1; omega)).mono ?_; rintro e w1 ⟨rfl, hb⟩; have hB : Below w.heap.size w w1 := bup (by with_reducible (repeat' first | assumption | exact Below.refl _ _ | refine Below.drew ?_ | refine bdrewN ?_ _ | refine Below.setCell ?_ (by first | exact Nat.le_refl _ | (simp; done) | (simp; omega) | omega) _ | refine Below.alloc ?_ (by first | exact Nat.le_refl _ | (simp; done) | (simp; omega) | omega) _)) hb; have o0 : Own w1 (w.heap.size) #[.int .i64 0, .int .i64 0, .string ⟨#[]⟩, .bool false, .int .i64 0] := Own.keep (by with_reducible (repeat' first | assumption | refine Own.drew ?_ | refine Own.drewN ?_ _ | (refine Own.at ?_; first | rfl | (simp; done)) | refine Own.past ?_ _)) hb; have c0 := o0.cell; have f0 := o0.fro; have l0 := o0.lt))
  exact bodyPost_ret (v := (.agg #[.int .i64 (1), .int .i64 (sz x), .string ⟨#[]⟩, .bool false, .int .i64 (0)])) (by simp [results, Try.results33, go_sem, c0, f0, l0]) rfl ⟨rfl, by with_reducible (repeat' first | assumption | exact Below.refl _ _ | refine Below.drew ?_ | refine bdrewN ?_ _ | refine Below.setCell ?_ (by first | exact Nat.le_refl _ | (simp; done) | (simp; omega) | omega) _ | refine Below.alloc ?_ (by first | exact Nat.le_refl _ | (simp; done) | (simp; omega) | omega) _)⟩
theorem broken_any (x : Int) (w : World) (h : I64 x) : Calls Try.prog 68 #[.int .i64 x] w fun e w' => e = .returned (.bool (!wholeOk x)) ∧ w' = w := by
  go_enter Try.func68, Try.ntmps68
  go_wp2_with (go_at_call 71; refine (whole_any _ _ h).mono ?_; rintro e w1 ⟨rfl, rfl⟩)
  go_ret
  exact ⟨rfl, rfl⟩
end Go.Proofs.Ytfpbcokfianjaaa
