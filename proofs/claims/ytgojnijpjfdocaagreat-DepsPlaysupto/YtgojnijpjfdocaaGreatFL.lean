/- The contract of the law's lives: it answers true. New memory alone is made. -/
import Derived.Test.YtgojnijpjfdocaaGreatFX
namespace Go.Proofs.YtgojnijpjfdocaaGreat
open Go.RowKit Go.Shelf
set_option linter.all false
def fL : Rf := ⟨true, 1, 1, 3, 1⟩
def dL (vb : Nat) : Dv := ⟨1, 2, some ⟨vb, 0, none⟩, 1, 1, [fL]⟩
theorem cstL (vb : Nat) : cst [dL vb] = 2 := rfl
theorem runL (vb : Nat) : runE [dL vb] = updE (fun _ _ => []) 1 2 (onceR [fL]) := rfl
theorem edgL (vb : Nat) : IsEdg (runE [dL vb]) [⟨1, 2, fL⟩] := by
  refine ⟨List.pairwise_singleton _ _, fun e => ?_⟩
  rw [runL]
  unfold updE
  constructor
  · intro h
    rw [List.mem_singleton.1 h]
    rw [if_pos ⟨rfl, rfl⟩]
    exact (onceR_mem _ _).2 List.mem_cons_self
  · intro h
    by_cases q : e.r = 1 ∧ e.c = 2
    · rw [if_pos q] at h
      have := List.mem_singleton.1 ((onceR_mem _ _).1 h)
      obtain ⟨r, c, f⟩ := e
      simp only at q this
      rw [q.1, q.2, this]
      exact List.mem_cons_self
    · rw [if_neg q] at h
      cases h
theorem whoL (vb : Nat) : IsWho (runE [dL vb]) 2 1 [⟨1, 2⟩] := by
  refine ⟨List.pairwise_singleton _ _, fun z => ?_⟩
  rw [runL]
  unfold updE
  constructor
  · intro h
    rw [List.mem_singleton.1 h]
    exact ⟨fL, by rw [if_pos ⟨rfl, rfl⟩]; exact (onceR_mem _ _).2 List.mem_cons_self, rfl⟩
  · rintro ⟨f, h, _⟩
    by_cases q : z.r = 1 ∧ z.c = 2
    · obtain ⟨r, c⟩ := z
      simp only at q
      rw [q.1, q.2]
      exact List.mem_cons_self
    · rw [if_neg q] at h
      cases h
theorem i64_small {x : Int} (h : 0 ≤ x) (h2 : x ≤ 5000) : I64 x := ⟨by omega, by omega⟩
set_option maxRecDepth 100000 in
set_option maxHeartbeats 4000000 in
theorem lives_any (w : World) : Calls Tryz.prog 19 #[] w fun e w' => e = .returned (.bool true) ∧ Below w.heap.size w w' := by
  have mixed : Tryz.prog.follows .mixedOrders = true := by kernel_rfl
  have he1 : ∀ w : World, (binOp .eql 33 (.agg #[.int .i64 1, .int .i64 2]) (.agg #[.int .i64 1, .int .i64 2])).run Tryz.prog w = .ok (.bool true) w := fun w => eqSCl ⟨1, 2⟩ w
  have he2 : ∀ w : World, (binOp .eql 52 (.agg #[.int .i64 1, .int .i64 2, .bool true, .int .i64 1, .int .i64 1, .int .i64 3, .int .i64 1]) (.agg #[.int .i64 1, .int .i64 2, .bool true, .int .i64 1, .int .i64 1, .int .i64 3, .int .i64 1])).run Tryz.prog w = .ok (.bool true) w := fun w => eqSEd ⟨1, 2, fL⟩ w
  have HSt : Hid (∀ (w1 W : World) (N vb : Nat), Dw (fun b => b < w.heap.size) w1 N [] → Below w1.heap.size w1 W → w.heap.size ≤ w1.heap.size → w1.heap.size ≤ vb → Own W vb #[.bool true, .int .i64 1, .int .i64 1, .int .i64 3, .int .i64 1] → Calls Tryz.prog 11 #[.pointer (some ⟨N, 0, none⟩), .agg #[.int .i64 1, .int .i64 2], .slice (some ⟨vb, 0, none⟩) 1 1] W fun e w' => e = .returned (.int .i64 0) ∧ Dw (fun b => b < w.heap.size) w' N [dL vb] ∧ Mut (fun b => w.heap.size ≤ b ∧ b < w1.heap.size) W w') := (show _ from fun w1 W N vb h hb hz hvb ho => by
    have h2 : Dw (fun b => b < W.heap.size ∧ (b < w.heap.size ∨ w1.heap.size ≤ b)) W N [] := (Dw.fresh h (fun b q => q.2)).keep hb
    refine (dset_dw W N _ [] (dL vb) h2 (fun b q => q.1) ⟨some ⟨vb, 0, none⟩, 1, 1, rfl, rfl, Nat.le_refl _, by omega, fun _ => ⟨vb, 0, rfl, ho.lt, ?_⟩⟩ (fun p n c e q => ?_) (by rw [List.nil_append, cstL]; omega)).mono ?_
    · intro i x hi j u hu
      match i, hi with
      | 0, hi =>
        injection hi with hi
        subst hi
        rw [show 0 + 0 * 5 + j = j by omega, ho.cell]
        rw [← List.getElem?_toArray] at hu
        exact hu
    · injection e with e1 e2 e3
      injection e1 with e1
      subst e1
      exact ⟨ho.lt, .inr hvb⟩
    · rintro e w' ⟨rfl, k1, k2⟩
      refine ⟨rfl, Dw.fresh k1 (fun b q => .inl ⟨by have := hb.size; omega, .inl q⟩), k2.os, k2.tape, k2.output, k2.size, fun b hbl hn => k2.block b hbl (fun q => q ⟨hbl, ?_⟩)⟩
      by_cases e : b < w.heap.size
      · exact .inl e
      · by_cases e2 : w1.heap.size ≤ b
        · exact .inr e2
        · exact absurd ⟨by omega, by omega⟩ hn)
  have HSn : Hid (∀ W N, Calls Tryz.prog 11 #[.pointer (some ⟨N, 0, none⟩), .agg #[.int .i64 0, .int .i64 0], .slice none 0 0] W fun e w' => e = .returned (.int .i64 3) ∧ Below W.heap.size W w') := (show _ from fun W N => dset_addr W N (.slice none 0 0) 0 0 rfl)
  have t1 : True := trivial
  have t2 : True := trivial
  go_enter Tryz.func19, Tryz.ntmps19
  go_wp2_with (first
    | (go_at_call 9; refine (dnew_dw _).mono ?_; rintro e w1 ⟨N, rfl, q0, q1, q2⟩; have HD1 : Hid (Dw (fun b => b < w.heap.size) w1 N []) := (show Dw _ _ _ _ from Dw.fresh q1 (fun b q => .inl (by simpa using q))); have hB1 : Below w.heap.size w w1 := (by simpa using q2); have zN : w.heap.size ≤ N := (by simpa using q0); have lN : N < w1.heap.size := HD1.out.lt; clear q0 q1 q2)
    | (go_at_call 11; clear t1; refine (HSt.out w1 _ N (w1.heap.size + 1 + 1) HD1.out (by with_reducible (repeat' first | assumption | exact Below.refl _ _ | refine Below.drew ?_ | refine bdrewN ?_ _ | refine Below.setCell ?_ (by first | exact Nat.le_refl _ | (simp; done) | (simp; omega) | omega) _ | refine Below.alloc ?_ (by first | exact Nat.le_refl _ | (simp; done) | (simp; omega) | omega) _)) hB1.size (by omega) (by with_reducible (repeat' first | assumption | refine Own.drew ?_ | refine Own.drewN ?_ _ | (refine Own.at ?_; first | rfl | (simp; done)) | refine Own.past ?_ _))).mono ?_; rintro e w2 ⟨rfl, q1, q2⟩; have HD2 : Hid (Dw (fun b => b < w.heap.size) w2 N [dL (w1.heap.size + 1 + 1)]) := q1; have oC2 : Own w2 w1.heap.size #[.int .i64 1, .int .i64 2] := Own.mut (by with_reducible (repeat' first | assumption | refine Own.drew ?_ | refine Own.drewN ?_ _ | (refine Own.at ?_; first | rfl | (simp; done)) | refine Own.past ?_ _)) q2 (fun q => by omega); have oF2 : Own w2 (w1.heap.size + 1) #[.bool true, .int .i64 1, .int .i64 1, .int .i64 3, .int .i64 1] := Own.mut (by with_reducible (repeat' first | assumption | refine Own.drew ?_ | refine Own.drewN ?_ _ | (refine Own.at ?_; first | rfl | (simp; done)) | refine Own.past ?_ _)) q2 (fun q => by omega); have hB2 : Below w.heap.size w w2 := (show Below w.heap.size w _ from by with_reducible (repeat' first | assumption | exact Below.refl _ _ | refine Below.drew ?_ | refine bdrewN ?_ _ | refine Below.setCell ?_ (by first | exact Nat.le_refl _ | (simp; done) | (simp; omega) | omega) _ | refine Below.alloc ?_ (by first | exact Nat.le_refl _ | (simp; done) | (simp; omega) | omega) _)).trans (q2.to_below (by first | omega | (simp; omega)) (fun k q => q.1)); clear q1 q2)
    | (go_at_call 15; refine (ddir_dw _ N _ _ 2 1 (HD2.out.keep (by with_reducible (repeat' first | assumption | exact Below.refl _ _ | refine Below.drew ?_ | refine bdrewN ?_ _ | refine Below.setCell ?_ (by first | exact Nat.le_refl _ | (simp; done) | (simp; omega) | omega) _ | refine Below.alloc ?_ (by first | exact Nat.le_refl _ | (simp; done) | (simp; omega) | omega) _))) (i64_small (by decide) (by decide)) (i64_small (by decide) (by decide))).mono ?_; rintro e w3 ⟨v3, rfl, l3, q1, q2, q3⟩; have hl3 : l3 = [⟨1, 2⟩] := IsWho.uniq q2 (whoL _); subst hl3; obtain ⟨p3, c3, rfl, z3, z3', v4⟩ := RowG.view Cl.len q1; obtain ⟨gc, rfl, lc, hc⟩ := v4 (by simp); have zz3 := hB2.size; have hB3 : Below w.heap.size w w3 := bup (by with_reducible (repeat' first | assumption | exact Below.refl _ _ | refine Below.drew ?_ | refine bdrewN ?_ _ | refine Below.setCell ?_ (by first | exact Nat.le_refl _ | (simp; done) | (simp; omega) | omega) _ | refine Below.alloc ?_ (by first | exact Nat.le_refl _ | (simp; done) | (simp; omega) | omega) _)) q3; have HD3 : Hid (Dw (fun b => b < w.heap.size) w3 N [dL (w1.heap.size + 1 + 1)]) := (show Dw _ _ _ _ from (HD2.out.keep (by with_reducible (repeat' first | assumption | exact Below.refl _ _ | refine Below.drew ?_ | refine bdrewN ?_ _ | refine Below.setCell ?_ (by first | exact Nat.le_refl _ | (simp; done) | (simp; omega) | omega) _ | refine Below.alloc ?_ (by first | exact Nat.le_refl _ | (simp; done) | (simp; omega) | omega) _))).keep q3); have oC3 : Own w3 w1.heap.size #[.int .i64 1, .int .i64 2] := Own.keep (by with_reducible (repeat' first | assumption | refine Own.drew ?_ | refine Own.drewN ?_ _ | (refine Own.at ?_; first | rfl | (simp; done)) | refine Own.past ?_ _)) q3; have oF3 : Own w3 (w1.heap.size + 1) #[.bool true, .int .i64 1, .int .i64 1, .int .i64 3, .int .i64 1] := Own.keep (by with_reducible (repeat' first | assumption | refine Own.drew ?_ | refine Own.drewN ?_ _ | (refine Own.at ?_; first | rfl | (simp; done)) | refine Own.past ?_ _)) q3; have k30 : w3.cell? ⟨gc, 0, none⟩ = some (.int .i64 1) := (hc 0 _ rfl 0 _ rfl); have k31 : w3.cell? ⟨gc, 1, none⟩ = some (.int .i64 2) := (hc 0 _ rfl 1 _ rfl); clear q1 q2 q3 hc v4)
    | (go_at_call 18; refine (dedg_dw _ N _ _ (HD3.out.keep (by with_reducible (repeat' first | assumption | exact Below.refl _ _ | refine Below.drew ?_ | refine bdrewN ?_ _ | refine Below.setCell ?_ (by first | exact Nat.le_refl _ | (simp; done) | (simp; omega) | omega) _ | refine Below.alloc ?_ (by first | exact Nat.le_refl _ | (simp; done) | (simp; omega) | omega) _))) (by rw [cstL]; omega)).mono ?_; rintro e w4 ⟨v5, rfl, l5, q1, q2, q3⟩; have hl5 : l5 = [⟨1, 2, fL⟩] := IsEdg.uniq q2 (edgL _); subst hl5; obtain ⟨p5, c5, rfl, z5, z5', v6⟩ := RowG.view Ed.len q1; obtain ⟨ge, rfl, le5, hc⟩ := v6 (by simp); have hB4 : Below w.heap.size w w4 := bup (by with_reducible (repeat' first | assumption | exact Below.refl _ _ | refine Below.drew ?_ | refine bdrewN ?_ _ | refine Below.setCell ?_ (by first | exact Nat.le_refl _ | (simp; done) | (simp; omega) | omega) _ | refine Below.alloc ?_ (by first | exact Nat.le_refl _ | (simp; done) | (simp; omega) | omega) _)) q3; have oC4 : Own w4 w1.heap.size #[.int .i64 1, .int .i64 2] := Own.keep (by with_reducible (repeat' first | assumption | refine Own.drew ?_ | refine Own.drewN ?_ _ | (refine Own.at ?_; first | rfl | (simp; done)) | refine Own.past ?_ _)) q3; have oF4 : Own w4 (w1.heap.size + 1) #[.bool true, .int .i64 1, .int .i64 1, .int .i64 3, .int .i64 1] := Own.keep (by with_reducible (repeat' first | assumption | refine Own.drew ?_ | refine Own.drewN ?_ _ | (refine Own.at ?_; first | rfl | (simp; done)) | refine Own.past ?_ _)) q3; have m0 : w4.cell? ⟨gc, 0, none⟩ = some (.int .i64 1) := (q3.cell (p := ⟨gc, 0, none⟩) (by simpa using lc)).trans k30; have m1 : w4.cell? ⟨gc, 1, none⟩ = some (.int .i64 2) := (q3.cell (p := ⟨gc, 1, none⟩) (by simpa using lc)).trans k31; have n0 : w4.cell? ⟨ge, 0, none⟩ = some (.int .i64 1) := hc 0 _ rfl 0 _ rfl; have n1 : w4.cell? ⟨ge, 1, none⟩ = some (.int .i64 2) := hc 0 _ rfl 1 _ rfl; have n2 : w4.cell? ⟨ge, 2, none⟩ = some (.bool true) := hc 0 _ rfl 2 _ rfl; have n3 : w4.cell? ⟨ge, 3, none⟩ = some (.int .i64 1) := hc 0 _ rfl 3 _ rfl; have n4 : w4.cell? ⟨ge, 4, none⟩ = some (.int .i64 1) := hc 0 _ rfl 4 _ rfl; have n5 : w4.cell? ⟨ge, 5, none⟩ = some (.int .i64 3) := hc 0 _ rfl 5 _ rfl; have n6 : w4.cell? ⟨ge, 6, none⟩ = some (.int .i64 1) := hc 0 _ rfl 6 _ rfl; have a0 : w4.cell? ⟨w1.heap.size, 0, none⟩ = some (.int .i64 1) := oC4.cell 0; have a1 : w4.cell? ⟨w1.heap.size, 1, none⟩ = some (.int .i64 2) := oC4.cell 1; have b0 : w4.cell? ⟨w1.heap.size + 1, 0, none⟩ = some (.bool true) := oF4.cell 0; have b1 : w4.cell? ⟨w1.heap.size + 1, 1, none⟩ = some (.int .i64 1) := oF4.cell 1; have b2 : w4.cell? ⟨w1.heap.size + 1, 2, none⟩ = some (.int .i64 1) := oF4.cell 2; have b3 : w4.cell? ⟨w1.heap.size + 1, 3, none⟩ = some (.int .i64 3) := oF4.cell 3; have b4 : w4.cell? ⟨w1.heap.size + 1, 4, none⟩ = some (.int .i64 1) := oF4.cell 4; have lge : ge < w4.heap.size := le5; have lgc : gc < w4.heap.size := Nat.lt_of_lt_of_le lc (by simpa using q3.size); clear q1 q2 q3 hc v6))
  have hz1 : (1 : Int) = 1 := rfl
  go_region_held3 (fun w' => w'.cell? ⟨w1.heap.size, 0, none⟩ = some (.int .i64 1) ∧ w'.cell? ⟨w1.heap.size, 1, none⟩ = some (.int .i64 2) ∧ w'.cell? ⟨w1.heap.size + 1, 0, none⟩ = some (.bool true) ∧ w'.cell? ⟨w1.heap.size + 1, 1, none⟩ = some (.int .i64 1) ∧ w'.cell? ⟨w1.heap.size + 1, 2, none⟩ = some (.int .i64 1) ∧ w'.cell? ⟨w1.heap.size + 1, 3, none⟩ = some (.int .i64 3) ∧ w'.cell? ⟨w1.heap.size + 1, 4, none⟩ = some (.int .i64 1) ∧ w'.cell? ⟨gc, 0, none⟩ = some (.int .i64 1) ∧ w'.cell? ⟨gc, 1, none⟩ = some (.int .i64 2) ∧ w'.cell? ⟨ge, 0, none⟩ = some (.int .i64 1) ∧ w'.cell? ⟨ge, 1, none⟩ = some (.int .i64 2) ∧ w'.cell? ⟨ge, 2, none⟩ = some (.bool true) ∧ w'.cell? ⟨ge, 3, none⟩ = some (.int .i64 1) ∧ w'.cell? ⟨ge, 4, none⟩ = some (.int .i64 1) ∧ w'.cell? ⟨ge, 5, none⟩ = some (.int .i64 3) ∧ w'.cell? ⟨ge, 6, none⟩ = some (.int .i64 1)) ((repeat' apply And.intro) <;> (first | (go_keep; done) | (go_simp; done))) ((go_at_call 11; refine (HSn.out _ N).mono ?_; rintro e w6 ⟨rfl, hb6⟩; have hB6 : Below w.heap.size w w6 := bup (by with_reducible (repeat' first | assumption | exact Below.refl _ _ | refine Below.drew ?_ | refine bdrewN ?_ _ | refine Below.setCell ?_ (by first | exact Nat.le_refl _ | (simp; done) | (simp; omega) | omega) _ | refine Below.alloc ?_ (by first | exact Nat.le_refl _ | (simp; done) | (simp; omega) | omega) _)) hb6; have oC6 : Own w6 w1.heap.size #[.int .i64 1, .int .i64 2] := Own.keep (by with_reducible (repeat' first | assumption | refine Own.drew ?_ | refine Own.drewN ?_ _ | (refine Own.at ?_; first | rfl | (simp; done)) | refine Own.past ?_ _)) hb6; have oF6 : Own w6 (w1.heap.size + 1) #[.bool true, .int .i64 1, .int .i64 1, .int .i64 3, .int .i64 1] := Own.keep (by with_reducible (repeat' first | assumption | refine Own.drew ?_ | refine Own.drewN ?_ _ | (refine Own.at ?_; first | rfl | (simp; done)) | refine Own.past ?_ _)) hb6; have p0 : w6.cell? ⟨gc, 0, none⟩ = some (.int .i64 1) := (hb6.cell (p := ⟨gc, 0, none⟩) (by first | exact lgc | (simp; omega))).trans m0; have p1 : w6.cell? ⟨gc, 1, none⟩ = some (.int .i64 2) := (hb6.cell (p := ⟨gc, 1, none⟩) (by first | exact lgc | (simp; omega))).trans m1; have q0 : w6.cell? ⟨ge, 0, none⟩ = some (.int .i64 1) := (hb6.cell (p := ⟨ge, 0, none⟩) (by first | exact lge | (simp; omega))).trans n0; have q1 : w6.cell? ⟨ge, 1, none⟩ = some (.int .i64 2) := (hb6.cell (p := ⟨ge, 1, none⟩) (by first | exact lge | (simp; omega))).trans n1; have q2 : w6.cell? ⟨ge, 2, none⟩ = some (.bool true) := (hb6.cell (p := ⟨ge, 2, none⟩) (by first | exact lge | (simp; omega))).trans n2; have q3 : w6.cell? ⟨ge, 3, none⟩ = some (.int .i64 1) := (hb6.cell (p := ⟨ge, 3, none⟩) (by first | exact lge | (simp; omega))).trans n3; have q4 : w6.cell? ⟨ge, 4, none⟩ = some (.int .i64 1) := (hb6.cell (p := ⟨ge, 4, none⟩) (by first | exact lge | (simp; omega))).trans n4; have q5 : w6.cell? ⟨ge, 5, none⟩ = some (.int .i64 3) := (hb6.cell (p := ⟨ge, 5, none⟩) (by first | exact lge | (simp; omega))).trans n5; have q6 : w6.cell? ⟨ge, 6, none⟩ = some (.int .i64 1) := (hb6.cell (p := ⟨ge, 6, none⟩) (by first | exact lge | (simp; omega))).trans n6; have a60 : w6.cell? ⟨w1.heap.size, 0, none⟩ = some (.int .i64 1) := oC6.cell 0; have a61 : w6.cell? ⟨w1.heap.size, 1, none⟩ = some (.int .i64 2) := oC6.cell 1; have b60 : w6.cell? ⟨w1.heap.size + 1, 0, none⟩ = some (.bool true) := oF6.cell 0; have b61 : w6.cell? ⟨w1.heap.size + 1, 1, none⟩ = some (.int .i64 1) := oF6.cell 1; have b62 : w6.cell? ⟨w1.heap.size + 1, 2, none⟩ = some (.int .i64 1) := oF6.cell 2; have b63 : w6.cell? ⟨w1.heap.size + 1, 3, none⟩ = some (.int .i64 3) := oF6.cell 3; have b64 : w6.cell? ⟨w1.heap.size + 1, 4, none⟩ = some (.int .i64 1) := oF6.cell 4; clear hb6))
  go_wp2
  go_ret
  exact ⟨rfl, by with_reducible (repeat' first | assumption | exact Below.refl _ _ | refine Below.drew ?_ | refine bdrewN ?_ _ | refine Below.setCell ?_ (by first | exact Nat.le_refl _ | (simp; done) | (simp; omega) | omega) _ | refine Below.alloc ?_ (by first | exact Nat.le_refl _ | (simp; done) | (simp; omega) | omega) _)⟩
end Go.Proofs.YtgojnijpjfdocaaGreat
