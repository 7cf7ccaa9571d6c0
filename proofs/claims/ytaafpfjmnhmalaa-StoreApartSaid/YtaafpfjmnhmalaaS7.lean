/- The contract of Store.Get: of every cell its content, none if it has none or may not be. New memory alone is made. -/
import Derived.Test.YtaafpfjmnhmalaaS6
namespace Go.Proofs.Ytaafpfjmnhmalaa
open Go.RowKit
set_option linter.all false
theorem split_ij (w : World) (i j : Nat) (r : Int) (hi : i < 64) (hj : j < 64) (hr : r = ((i * 64 + j + 1 : Nat) : Int)) : Calls Try.prog 28 #[.int .i64 r] w fun e w' => e = .returned (.tuple #[.int .i64 i, .int .i64 j]) ∧ w' = w := by
  refine (split_any w r (by omega) (by omega)).mono ?_
  rintro e w' ⟨rfl, rfl⟩
  have e1 : (r - 1) / 64 = (i : Int) := by omega
  have e2 : (r - 1) % 64 = (j : Int) := by omega
  rw [e1, e2]
  exact ⟨rfl, rfl⟩
set_option maxRecDepth 100000 in
theorem get_may (w : World) (S : Nat) (r c : Int) (hm : mayC r c = false) : Calls Try.prog 19 #[.pointer (some ⟨S, 0, none⟩), .agg #[.int .i64 r, .int .i64 c]] w fun e w' => e = .returned (.pointer none) ∧ Below w.heap.size w w' := by
  go_enter Try.func19, Try.ntmps19
  go_wp2_with (go_at_call 27; refine (may_any _ _ _).mono ?_; rintro e wa ⟨rfl, hbwa⟩; have hBwa : Below w.heap.size w wa := bup (by with_reducible (repeat' first | assumption | exact Below.refl _ _ | refine Below.drew ?_ | refine bdrewN ?_ _ | refine Below.setCell ?_ (by first | exact Nat.le_refl _ | (simp; done) | (simp; omega) | omega) _ | refine Below.alloc ?_ (by first | exact Nat.le_refl _ | (simp; done) | (simp; omega) | omega) _)) hbwa; have zwa := hBwa.size; have o0wa : Own wa (w.heap.size) #[.int .i64 r, .int .i64 c] := Own.keep (by with_reducible (repeat' first | assumption | refine Own.drew ?_ | refine Own.drewN ?_ _ | (refine Own.at ?_; first | rfl | (simp; done)) | refine Own.past ?_ _)) hbwa; have c0 := o0wa.cell; have f0 := o0wa.fro; have l0 := o0wa.lt; try rw [hm])
  go_ret
  exact ⟨rfl, by with_reducible (repeat' first | assumption | exact Below.refl _ _ | refine Below.drew ?_ | refine bdrewN ?_ _ | refine Below.setCell ?_ (by first | exact Nat.le_refl _ | (simp; done) | (simp; omega) | omega) _ | refine Below.alloc ?_ (by first | exact Nat.le_refl _ | (simp; done) | (simp; omega) | omega) _)⟩
set_option maxRecDepth 100000 in
theorem get_none (w : World) (S i j : Nat) (A : Array Value) (r c : Int) (hm : mayC r c = true) (hi : i < 64) (hj : j < 64) (hr : Hid (r = ((i * 64 + j + 1 : Nat) : Int))) (hA : Hid (Own w S A)) (hv : A[i]? = some (.pointer none)) : Calls Try.prog 19 #[.pointer (some ⟨S, 0, none⟩), .agg #[.int .i64 r, .int .i64 c]] w fun e w' => e = .returned (.pointer none) ∧ Below w.heap.size w w' := by
  have h1 := hA.out.lt
  have h2 : w.cell? ⟨S, i, none⟩ = some (.pointer none) := (hA.out.cell i).trans hv
  have hi' : (i : Int) < 64 := by omega
  clear hv hA
  go_enter Try.func19, Try.ntmps19
  go_wp2_with (first | ((go_at_call 27; refine (may_any _ _ _).mono ?_; rintro e wa ⟨rfl, hbwa⟩; have hBwa : Below w.heap.size w wa := bup (by with_reducible (repeat' first | assumption | exact Below.refl _ _ | refine Below.drew ?_ | refine bdrewN ?_ _ | refine Below.setCell ?_ (by first | exact Nat.le_refl _ | (simp; done) | (simp; omega) | omega) _ | refine Below.alloc ?_ (by first | exact Nat.le_refl _ | (simp; done) | (simp; omega) | omega) _)) hbwa; have zwa := hBwa.size; have o0wa : Own wa (w.heap.size) #[.int .i64 r, .int .i64 c] := Own.keep (by with_reducible (repeat' first | assumption | refine Own.drew ?_ | refine Own.drewN ?_ _ | (refine Own.at ?_; first | rfl | (simp; done)) | refine Own.past ?_ _)) hbwa; have c0 := o0wa.cell; have f0 := o0wa.fro; have l0 := o0wa.lt; try rw [hm]); have y0 := (hBwa.cell (p := ⟨S, i, none⟩) h1).trans h2) | (go_at_call 28; refine (split_ij _ i j r hi hj hr.out).mono ?_; rintro e w5 ⟨rfl, rfl⟩))
  go_ret
  exact ⟨rfl, by with_reducible (repeat' first | assumption | exact Below.refl _ _ | refine Below.drew ?_ | refine bdrewN ?_ _ | refine Below.setCell ?_ (by first | exact Nat.le_refl _ | (simp; done) | (simp; omega) | omega) _ | refine Below.alloc ?_ (by first | exact Nat.le_refl _ | (simp; done) | (simp; omega) | omega) _)⟩
set_option maxRecDepth 100000 in
set_option maxHeartbeats 1000000 in
theorem get_some (w : World) (S i j b : Nat) (A B : Array Value) (u : Value) (l : List Sp) (r c : Int) (hm : mayC r c = true) (hi : i < 64) (hj : j < 64) (hr : Hid (r = ((i * 64 + j + 1 : Nat) : Int))) (hA : Hid (Own w S A)) (hv : A[i]? = some (.pointer (some ⟨b, 0, none⟩))) (hB : Hid (Own w b B)) (hu : B[j]? = some u) (hR : Hid (RowW w u l)) (hl : l.length ≤ 1099511627776) (hS : Hid (Srt l)) : Calls Try.prog 19 #[.pointer (some ⟨S, 0, none⟩), .agg #[.int .i64 r, .int .i64 c]] w fun e w' => e = .returned (.pointer (getS l c)) ∧ Below w.heap.size w w' := by
  have h1 := hA.out.lt
  have h3 := hB.out.lt
  have h2 : w.cell? ⟨S, i, none⟩ = some (.pointer (some ⟨b, 0, none⟩)) := (hA.out.cell i).trans hv
  have h4 : w.cell? ⟨b, j, none⟩ = some u := (hB.out.cell j).trans hu
  have hi' : (i : Int) < 64 := by omega
  have hj' : (j : Int) < 64 := by omega
  have hsl : ∃ q n cp, u = .slice q n cp := by rcases hR.out.two with ⟨rfl, _⟩ | ⟨g, cap, cur, rfl, _⟩ <;> exact ⟨_, _, _, rfl⟩
  obtain ⟨q, n, cp, rfl⟩ := hsl
  have mixed : Try.prog.follows .mixedOrders = true := by kernel_rfl
  have HK : Hid (∀ w1, Below w.heap.size w w1 → Calls Try.prog 34 #[.slice q n cp, .int .i64 c] w1 fun e w' => e = .returned (.pointer (getS l c)) ∧ Below w1.heap.size w1 w') := fun w1 hb => rget_any w1 _ l c (show Hid _ from hR.out.keep hb) hl hS
  revert HK
  generalize getS l c = G
  intro HK
  clear hv hA hu hB hR hS
  go_enter Try.func19, Try.ntmps19
  go_wp2_with (first | ((go_at_call 27; refine (may_any _ _ _).mono ?_; rintro e wa ⟨rfl, hbwa⟩; have hBwa : Below w.heap.size w wa := bup (by with_reducible (repeat' first | assumption | exact Below.refl _ _ | refine Below.drew ?_ | refine bdrewN ?_ _ | refine Below.setCell ?_ (by first | exact Nat.le_refl _ | (simp; done) | (simp; omega) | omega) _ | refine Below.alloc ?_ (by first | exact Nat.le_refl _ | (simp; done) | (simp; omega) | omega) _)) hbwa; have zwa := hBwa.size; have o0wa : Own wa (w.heap.size) #[.int .i64 r, .int .i64 c] := Own.keep (by with_reducible (repeat' first | assumption | refine Own.drew ?_ | refine Own.drewN ?_ _ | (refine Own.at ?_; first | rfl | (simp; done)) | refine Own.past ?_ _)) hbwa; have c0 := o0wa.cell; have f0 := o0wa.fro; have l0 := o0wa.lt; try rw [hm]); have y0 := (hBwa.cell (p := ⟨S, i, none⟩) h1).trans h2; have y1 := (hBwa.cell (p := ⟨b, j, none⟩) h3).trans h4) | (go_at_call 28; refine (split_ij _ i j r hi hj hr.out).mono ?_; rintro e w5 ⟨rfl, rfl⟩))
  go_region_held3 (fun w' => w'.cell? ⟨S, i, none⟩ = some (.pointer (some ⟨b, 0, none⟩)) ∧ w'.cell? ⟨b, j, none⟩ = some (.slice q n cp) ∧ w'.cell? ⟨w.heap.size, 0, none⟩ = some (.int .i64 r) ∧ w'.cell? ⟨w.heap.size, 1, none⟩ = some (.int .i64 c)) ((repeat' apply And.intro) <;> (first | (go_keep; done) | (go_simp; done))) (first | (go_at_call 34; refine (HK.out _ (by with_reducible (repeat' first | assumption | exact Below.refl _ _ | refine Below.drew ?_ | refine bdrewN ?_ _ | refine Below.setCell ?_ (by first | exact Nat.le_refl _ | (simp; done) | (simp; omega) | omega) _ | refine Below.alloc ?_ (by first | exact Nat.le_refl _ | (simp; done) | (simp; omega) | omega) _))).mono ?_; rintro e wb ⟨rfl, hbwb⟩; have hBwb : Below w.heap.size w wb := bup (by with_reducible (repeat' first | assumption | exact Below.refl _ _ | refine Below.drew ?_ | refine bdrewN ?_ _ | refine Below.setCell ?_ (by first | exact Nat.le_refl _ | (simp; done) | (simp; omega) | omega) _ | refine Below.alloc ?_ (by first | exact Nat.le_refl _ | (simp; done) | (simp; omega) | omega) _)) hbwb; have d0 := (hBwb.cell (p := ⟨S, i, none⟩) h1).trans h2; have d1 := (hBwb.cell (p := ⟨b, j, none⟩) h3).trans h4; have o0wb : Own wb (w.heap.size) #[.int .i64 r, .int .i64 c] := Own.keep (by with_reducible (repeat' first | assumption | refine Own.drew ?_ | refine Own.drewN ?_ _ | (refine Own.at ?_; first | rfl | (simp; done)) | refine Own.past ?_ _)) hbwb; have c0b := o0wb.cell))
  go_wp2
  all_goals go_ret
  all_goals exact ⟨rfl, by with_reducible (repeat' first | assumption | exact Below.refl _ _ | refine Below.drew ?_ | refine bdrewN ?_ _ | refine Below.setCell ?_ (by first | exact Nat.le_refl _ | (simp; done) | (simp; omega) | omega) _ | refine Below.alloc ?_ (by first | exact Nat.le_refl _ | (simp; done) | (simp; omega) | omega) _)⟩
theorem get_any (w : World) (D : Nat → Option Nat) (S : Nat) (L : List It) (r c : Int) (h : SW w D S L) : Calls Try.prog 19 #[.pointer (some ⟨S, 0, none⟩), .agg #[.int .i64 r, .int .i64 c]] w fun e w' => e = .returned (.pointer (getL L r c)) ∧ Below w.heap.size w w' := by
  cases hm : mayC r c
  · rw [get_out h.ins hm]; exact get_may w S r c hm
  · have hmm := mayC_is hm
    obtain ⟨i, j, hi, hj, hr⟩ := row_of hmm.1 hmm.2.1
    obtain ⟨A, a1, a2, a3, a4⟩ := h.own
    obtain ⟨v, v1, v2⟩ := a4 i hi
    rcases v2 with ⟨rfl, v2⟩ | ⟨b, B, rfl, b1, b2, b3, b4⟩
    · have := v2 j hj
      rw [← hr] at this
      rw [get_nil this]
      exact get_none w S i j A r c hm hi hj hr a1 v1
    · obtain ⟨u, u1, u2, u3⟩ := b4 j hj
      have e : getL L r c = getS (rowL L ((i * 64 + j + 1 : Nat) : Int)) c := by rw [← hr]; rfl
      rw [e]
      exact get_some w S i j b A B u _ r c hm hi hj hr a1 v1 b2 u1 u2 (by have := row_few h.srt h.ins ((i * 64 + j + 1 : Nat) : Int); omega) (row_srt h.srt _)
end Go.Proofs.Ytaafpfjmnhmalaa
