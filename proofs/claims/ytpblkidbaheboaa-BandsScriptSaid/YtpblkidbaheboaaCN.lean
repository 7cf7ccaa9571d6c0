/- The law's known: a pair that is added: true. New memory alone is made. -/
import Derived.Test.YtpblkidbaheboaaCK
namespace Go.Proofs.Ytpblkidbaheboaa
open Go.RowKit
set_option linter.all false
def p0 : Pr := ⟨4, 4, 1, 1, 2, 2⟩
theorem p0_add : addB [] p0 = true ∧ addR [] p0 = [p0] := ⟨by rfl, by rfl⟩
theorem p0_over : overP [p0] 2 1 = [⟨4, 4⟩] := by rfl
set_option maxRecDepth 100000 in
set_option maxHeartbeats 4000000 in
theorem known_any (w : World) : Calls Try.prog 7 #[] w fun e w' => e = .returned (.bool true) ∧ Below w.heap.size w w' := by
  have mixed : Try.prog.follows .mixedOrders = true := by kernel_rfl
  have heq := eqC 4 4 4 4
  rw [sameC_refl] at heq
  have HN : Hid (∀ W, Calls Try.prog 6 #[] W fun e w' => e = .returned (.pointer (some ⟨W.heap.size, 0, none⟩)) ∧ Bd w' W.heap.size (fun b => if b = W.heap.size then some (0, 0, 0) else none) [] 0 ∧ Below W.heap.size W w' ∧ w'.heap.size = W.heap.size + 1) := bnew_any
  have HA : Hid (∀ W N D, Bd W N D [] 0 → Calls Try.prog 8 #[.pointer (some ⟨N, 0, none⟩), .agg #[.int .i64 1, .int .i64 1, .int .i64 2, .int .i64 2], .agg #[.int .i64 4, .int .i64 4]] W fun e w' => e = .returned (.bool true) ∧ ∃ D', Bd w' N D' [p0] 1 ∧ Mut (fun b => (D b).isSome = true) W w') := (show _ from fun W N D h => (badd_any W N D [] 0 p0 h (by omega)).mono (by
    rintro e w' ⟨rfl, D', q1, q2, q3⟩
    rw [p0_add.2] at q1
    exact ⟨by rw [p0_add.1], D', q1, q2⟩))
  have HO : Hid (∀ W N D, Bd W N D [p0] 1 → Calls Try.prog 13 #[.pointer (some ⟨N, 0, none⟩), .agg #[.int .i64 2, .int .i64 1]] W fun e w' => ∃ g cp, e = .returned (.slice (some ⟨g, 0, none⟩) 1 cp) ∧ 1 ≤ cp ∧ cp ≤ 9223372036854775807 ∧ g < w'.heap.size ∧ w'.cell? ⟨g, 0, none⟩ = some (.int .i64 4) ∧ w'.cell? ⟨g, 1, none⟩ = some (.int .i64 4) ∧ Below W.heap.size W w') := (show _ from fun W N D h => (bover_any W N D [p0] 1 2 1 h).mono (by
    rintro e w' ⟨v, rfl, q1, q2⟩
    rw [p0_over] at q1
    obtain ⟨q, cp, rfl, k1, k2, k3⟩ := q1.view Cl.len
    obtain ⟨g, rfl, k4, k5⟩ := k3 (by decide)
    exact ⟨g, cp, rfl, k1, k2, k4, k5 0 _ rfl 0 _ rfl, k5 0 _ rfl 1 _ rfl, q2⟩))
  go_enter Try.func7, Try.ntmps7
  go_wp2_with (first
    | (go_at_call 6; refine (HN.out _).mono ?_; rintro e w1 ⟨rfl, hs, hb1, z1⟩; have HS : Hid (Bd w1 w.heap.size (fun b => if b = w.heap.size then some (0, 0, 0) else none) [] 0) := hs; have hB1 : Below w.heap.size w w1 := bup (by with_reducible (repeat' first | assumption | exact Below.refl _ _ | refine Below.drew ?_ | refine bdrewN ?_ _ | refine Below.setCell ?_ (by first | exact Nat.le_refl _ | (simp; done) | (simp; omega) | omega) _ | refine Below.alloc ?_ (by first | exact Nat.le_refl _ | (simp; done) | (simp; omega) | omega) _)) hb1; have zz1 : w1.heap.size = w.heap.size + 1 := (by simpa using z1); clear hs hb1 z1)
    | (go_at_call 8; refine (HA.out _ _ _ (HS.out.keep (by with_reducible (repeat' first | assumption | exact Below.refl _ _ | refine Below.drew ?_ | refine bdrewN ?_ _ | refine Below.setCell ?_ (by first | exact Nat.le_refl _ | (simp; done) | (simp; omega) | omega) _ | refine Below.alloc ?_ (by first | exact Nat.le_refl _ | (simp; done) | (simp; omega) | omega) _)))).mono ?_; rintro e w2 ⟨rfl, D', q1, q2⟩; have HS2 : Hid (Bd w2 w.heap.size D' [p0] 1) := q1; have hB2 : Below w.heap.size w w2 := Below.trans (show Below w.heap.size w _ from by with_reducible (repeat' first | assumption | exact Below.refl _ _ | refine Below.drew ?_ | refine bdrewN ?_ _ | refine Below.setCell ?_ (by first | exact Nat.le_refl _ | (simp; done) | (simp; omega) | omega) _ | refine Below.alloc ?_ (by first | exact Nat.le_refl _ | (simp; done) | (simp; omega) | omega) _)) (Mut.to_below q2 (by simp; omega) (fun k hk => by by_cases e : k = w.heap.size; omega; simp [e] at hk)); have o2 : Own w2 (w.heap.size + 1) #[.int .i64 4, .int .i64 4] := Own.mut (by refine Own.at ?_; simp [zz1]) q2 (by simp); have c2 := o2.cell; have l2 := o2.lt; clear q1 q2)
    | (go_at_call 13; refine (HO.out _ _ _ (HS2.out.keep (by with_reducible (repeat' first | assumption | exact Below.refl _ _ | refine Below.drew ?_ | refine bdrewN ?_ _ | refine Below.setCell ?_ (by first | exact Nat.le_refl _ | (simp; done) | (simp; omega) | omega) _ | refine Below.alloc ?_ (by first | exact Nat.le_refl _ | (simp; done) | (simp; omega) | omega) _)))).mono ?_; rintro e w3 ⟨g, cp, rfl, k1, k2, k3, k4, k5, hb3⟩; have hB3 : Below w.heap.size w w3 := bup (by with_reducible (repeat' first | assumption | exact Below.refl _ _ | refine Below.drew ?_ | refine bdrewN ?_ _ | refine Below.setCell ?_ (by first | exact Nat.le_refl _ | (simp; done) | (simp; omega) | omega) _ | refine Below.alloc ?_ (by first | exact Nat.le_refl _ | (simp; done) | (simp; omega) | omega) _)) hb3; have o3 : Own w3 (w.heap.size + 1) #[.int .i64 4, .int .i64 4] := Own.keep (by with_reducible (repeat' first | assumption | refine Own.drew ?_ | refine Own.drewN ?_ _ | (refine Own.at ?_; first | rfl | (simp; done)) | refine Own.past ?_ _)) hb3; have c3 := o3.cell; have l3 := o3.lt))
  go_quiet (fail)
  go_wp2
  go_ret
  exact ⟨rfl, by with_reducible (repeat' first | assumption | exact Below.refl _ _ | refine Below.drew ?_ | refine bdrewN ?_ _ | refine Below.setCell ?_ (by first | exact Nat.le_refl _ | (simp; done) | (simp; omega) | omega) _ | refine Below.alloc ?_ (by first | exact Nat.le_refl _ | (simp; done) | (simp; omega) | omega) _)⟩
end Go.Proofs.Ytpblkidbaheboaa
