/- The law's does: Next; and every deed. -/
import Derived.Test.YtaafpfjmnhmalaaS27
namespace Go.Proofs.Ytaafpfjmnhmalaa
open Go.RowKit
set_option linter.all false
set_option maxRecDepth 100000 in
set_option maxHeartbeats 8000000 in
theorem does_next (w : World) (F : Nat → Prop) (k : Bx) (R : List Im) (kd r c t l b rr wh : Int) (h : Hid (BW w F k (itL k R) R)) (hg : Hid (rngR R)) (ik : I64 kd) (ir : I64 r) (ic : I64 c) (it : I64 t) (il : I64 l) (ib : I64 b) (irr : I64 rr) (iw : I64 wh) (hk : pkI kd 6 = 4) : Calls Try.prog 9 #[.pointer (some ⟨k.q, 0, none⟩), .agg #[.int .i64 kd, .int .i64 r, .int .i64 c, .int .i64 t, .int .i64 l, .int .i64 b, .int .i64 rr, .int .i64 wh]] w fun e w' => e = .returned (.bool true) ∧ GOut w F k w' := by
  have mixed : Try.prog.follows .mixedOrders = true := by kernel_rfl
  have hq0 : w.cell? ⟨k.q, 0, none⟩ = some (.pointer (some ⟨k.s, 0, none⟩)) := h.out.q.cell 0
  have hq1 : w.cell? ⟨k.q, 1, none⟩ = some (.pointer (some ⟨k.y, 0, none⟩)) := h.out.q.cell 1
  have hq2 : w.cell? ⟨k.q, 2, none⟩ = some (.slice (some ⟨k.p, 0, none⟩) 8 k.pc) := h.out.q.cell 2
  have hql := h.out.q.lt
  have hnb : ¬ F w.heap.size := fun q => by have := h.out.fl _ q; omega
  have HP6 : Hid (∀ W, Calls Try.prog 21 #[.int .i64 kd, .int .i64 6] W fun e w' => e = .returned (.int .i64 4) ∧ w' = W) := fun W => by rw [← hk]; exact pick_any W kd 6 ik (by omega) (by omega)
  have HP8 : Hid (∀ W, Calls Try.prog 21 #[.int .i64 wh, .int .i64 8] W fun e w' => e = .returned (.int .i64 (pkI wh 8)) ∧ w' = W) := fun W => pick_any W wh 8 iw (by omega) (by omega)
  have hpw := pk_in wh (n := 8) (by omega)
  clear hk
  have HD : ∃ (v0 v1 : Int) (fb : Bool), nextR R t l b rr r c = .tuple #[.agg #[.int .i64 v0, .int .i64 v1], .bool fb] := by
    rcases next_two (itL k R) t l b rr r c with ⟨e0, _⟩ | ⟨x, _, _, e0⟩
    · rw [it_next] at e0; exact ⟨_, _, _, e0⟩
    · rw [it_next] at e0; exact ⟨_, _, _, e0⟩
  obtain ⟨v0, v1, fb, e0⟩ := HD
  have HX : Hid (∀ W, Below w.heap.size w W → Calls Try.prog 17 #[.pointer (some ⟨k.s, 0, none⟩), .agg #[.int .i64 t, .int .i64 l, .int .i64 b, .int .i64 rr], .agg #[.int .i64 r, .int .i64 c]] W fun e w' => e = .returned (.tuple #[.agg #[.int .i64 v0, .int .i64 v1], .bool fb]) ∧ Below W.heap.size W w') := fun W hb => by rw [← e0, ← it_next k]; exact bx_next W F k _ R t l b rr r c (h.out.keep hb) it il ib irr ir ic
  have HY : Hid (∀ W, Below w.heap.size w W → Calls Try.prog 26 #[.pointer (some ⟨k.y, 0, none⟩), .agg #[.int .i64 t, .int .i64 l, .int .i64 b, .int .i64 rr], .agg #[.int .i64 r, .int .i64 c]] W fun e w' => e = .returned (.tuple #[.agg #[.int .i64 v0, .int .i64 v1], .bool fb]) ∧ Below W.heap.size W w') := fun W hb => by rw [← e0]; exact by_next W F k _ R t l b rr r c (h.out.keep hb)
  have heq := eqC v0 v1 v0 v1
  rw [sameC_refl] at heq
  clear e0
  generalize pkI wh 8 = pw at *
  go_enter Try.func9, Try.ntmps9
  go_wp2
  go_quiet ((go_at_call 21; exact Calls.quiet_of_same (HP8.out _)))
  go_wp2_with (go_at_call 21; refine (HP6.out _).mono ?_; rintro e w5 ⟨rfl, h5⟩; have h6 := h5.symm; subst h6)
  go_region_held3 (fun w' => w'.cell? ⟨k.q, 0, none⟩ = some (.pointer (some ⟨k.s, 0, none⟩)) ∧ w'.cell? ⟨k.q, 1, none⟩ = some (.pointer (some ⟨k.y, 0, none⟩)) ∧ w'.cell? ⟨k.q, 2, none⟩ = some (.slice (some ⟨k.p, 0, none⟩) 8 k.pc) ∧ w'.cell? ⟨w.heap.size, 0, none⟩ = some (.int .i64 kd) ∧ w'.cell? ⟨w.heap.size, 1, none⟩ = some (.int .i64 r) ∧ w'.cell? ⟨w.heap.size, 2, none⟩ = some (.int .i64 c) ∧ w'.cell? ⟨w.heap.size, 3, none⟩ = some (.int .i64 t) ∧ w'.cell? ⟨w.heap.size, 4, none⟩ = some (.int .i64 l) ∧ w'.cell? ⟨w.heap.size, 5, none⟩ = some (.int .i64 b) ∧ w'.cell? ⟨w.heap.size, 6, none⟩ = some (.int .i64 rr) ∧ w'.cell? ⟨w.heap.size, 7, none⟩ = some (.int .i64 wh)) ((repeat' apply And.intro) <;> (first | (go_keep; done) | (go_simp; done))) (first | (go_at_call 17; refine (HX.out _ (by with_reducible (repeat' first | assumption | exact Below.refl _ _ | refine Below.drew ?_ | refine bdrewN ?_ _ | refine Below.setCell ?_ (by first | exact Nat.le_refl _ | (simp; done) | (simp; omega) | omega) _ | refine Below.alloc ?_ (by first | exact Nat.le_refl _ | (simp; done) | (simp; omega) | omega) _))).mono ?_; rintro e wa ⟨rfl, hwa⟩; have hBwa : Below w.heap.size w wa := bup (by with_reducible (repeat' first | assumption | exact Below.refl _ _ | refine Below.drew ?_ | refine bdrewN ?_ _ | refine Below.setCell ?_ (by first | exact Nat.le_refl _ | (simp; done) | (simp; omega) | omega) _ | refine Below.alloc ?_ (by first | exact Nat.le_refl _ | (simp; done) | (simp; omega) | omega) _)) hwa; have zwa := hBwa.size; have owa : Own wa w.heap.size #[.int .i64 kd, .int .i64 r, .int .i64 c, .int .i64 t, .int .i64 l, .int .i64 b, .int .i64 rr, .int .i64 wh] := Own.keep (by with_reducible (repeat' first | assumption | refine Own.drew ?_ | refine Own.drewN ?_ _ | (refine Own.at ?_; first | rfl | (simp; done)) | refine Own.past ?_ _)) hwa; have cwa := owa.cell; have lwa := owa.lt; have q0wa := (hBwa.cell (p := ⟨k.q, 0, none⟩) hql).trans hq0; have q1wa := (hBwa.cell (p := ⟨k.q, 1, none⟩) hql).trans hq1; have q2wa := (hBwa.cell (p := ⟨k.q, 2, none⟩) hql).trans hq2; (try (refine with_fact (p := Own wa (w.heap.size + 1) #[.int .i64 0, .int .i64 0]) ?_ ?_; (· (refine Own.keep ?_ hwa; with_reducible (repeat' first | assumption | refine Own.drew ?_ | refine Own.drewN ?_ _ | (refine Own.at ?_; first | rfl | (simp; done)) | refine Own.past ?_ _); done)); intro on; have con := on.cell; have fon := on.fro; have lon := on.lt))))
  · go_wp2
    have gX : Own (wa.alloc (.cells #[.int .i64 v0, .int .i64 v1] 32)) (wa.heap.size) #[.int .i64 v0, .int .i64 v1] := Own.new _ _ _
    have g0 : Own (wa.alloc (.cells #[.int .i64 v0, .int .i64 v1] 32)) w.heap.size #[.int .i64 kd, .int .i64 r, .int .i64 c, .int .i64 t, .int .i64 l, .int .i64 b, .int .i64 rr, .int .i64 wh] := owa.past _
    have gB : Below w.heap.size w (wa.alloc (.cells #[.int .i64 v0, .int .i64 v1] 32)) := by with_reducible (repeat' first | assumption | exact Below.refl _ _ | refine Below.drew ?_ | refine bdrewN ?_ _ | refine Below.setCell ?_ (by first | exact Nat.le_refl _ | (simp; done) | (simp; omega) | omega) _ | refine Below.alloc ?_ (by first | exact Nat.le_refl _ | (simp; done) | (simp; omega) | omega) _)
    obtain ⟨W2, eW2⟩ : ∃ W', W' = (wa.alloc (.cells #[.int .i64 v0, .int .i64 v1] 32)) := ⟨_, rfl⟩
    obtain ⟨X6, eX6⟩ : ∃ X' : Nat, X' = wa.heap.size := ⟨_, rfl⟩
    rw [← eW2] at gX g0 gB ⊢
    rw [← eX6] at gX ⊢
    have gS := gB.size
    clear eW2 eX6 hBwa zwa owa cwa lwa q0wa q1wa q2wa hwa
    have cg0 := g0.cell
    have lg0 := g0.lt
    have lgX := gX.lt
    have z0 := (gB.cell (p := ⟨k.q, 0, none⟩) hql).trans hq0
    have z1 := (gB.cell (p := ⟨k.q, 1, none⟩) hql).trans hq1
    have z2 := (gB.cell (p := ⟨k.q, 2, none⟩) hql).trans hq2
    go_region_held3 (fun w' => w'.cell? ⟨k.q, 0, none⟩ = some (.pointer (some ⟨k.s, 0, none⟩)) ∧ w'.cell? ⟨k.q, 1, none⟩ = some (.pointer (some ⟨k.y, 0, none⟩)) ∧ w'.cell? ⟨k.q, 2, none⟩ = some (.slice (some ⟨k.p, 0, none⟩) 8 k.pc) ∧ w'.cell? ⟨w.heap.size, 0, none⟩ = some (.int .i64 kd) ∧ w'.cell? ⟨w.heap.size, 1, none⟩ = some (.int .i64 r) ∧ w'.cell? ⟨w.heap.size, 2, none⟩ = some (.int .i64 c) ∧ w'.cell? ⟨w.heap.size, 3, none⟩ = some (.int .i64 t) ∧ w'.cell? ⟨w.heap.size, 4, none⟩ = some (.int .i64 l) ∧ w'.cell? ⟨w.heap.size, 5, none⟩ = some (.int .i64 b) ∧ w'.cell? ⟨w.heap.size, 6, none⟩ = some (.int .i64 rr) ∧ w'.cell? ⟨w.heap.size, 7, none⟩ = some (.int .i64 wh)) ((repeat' apply And.intro) <;> (first | (go_keep; done) | (go_simp; done))) (first | (go_at_call 26; refine (HY.out _ (by with_reducible (repeat' first | assumption | exact Below.refl _ _ | refine Below.drew ?_ | refine bdrewN ?_ _ | refine Below.setCell ?_ (by first | exact Nat.le_refl _ | (simp; done) | (simp; omega) | omega) _ | refine Below.alloc ?_ (by first | exact Nat.le_refl _ | (simp; done) | (simp; omega) | omega) _))).mono ?_; rintro e wb ⟨rfl, hwb⟩; have hBwb : Below w.heap.size w wb := bup (by with_reducible (repeat' first | assumption | exact Below.refl _ _ | refine Below.drew ?_ | refine bdrewN ?_ _ | refine Below.setCell ?_ (by first | exact Nat.le_refl _ | (simp; done) | (simp; omega) | omega) _ | refine Below.alloc ?_ (by first | exact Nat.le_refl _ | (simp; done) | (simp; omega) | omega) _)) hwb; have zwb := hBwb.size; have owb : Own wb w.heap.size #[.int .i64 kd, .int .i64 r, .int .i64 c, .int .i64 t, .int .i64 l, .int .i64 b, .int .i64 rr, .int .i64 wh] := Own.keep (by with_reducible (repeat' first | assumption | refine Own.drew ?_ | refine Own.drewN ?_ _ | (refine Own.at ?_; first | rfl | (simp; done)) | refine Own.past ?_ _)) hwb; have cwb := owb.cell; have lwb := owb.lt; have q0wb := (hBwb.cell (p := ⟨k.q, 0, none⟩) hql).trans hq0; have q1wb := (hBwb.cell (p := ⟨k.q, 1, none⟩) hql).trans hq1; have q2wb := (hBwb.cell (p := ⟨k.q, 2, none⟩) hql).trans hq2; have ob6 : Own wb X6 #[.int .i64 v0, .int .i64 v1] := Own.keep (by with_reducible (repeat' first | assumption | refine Own.drew ?_ | refine Own.drewN ?_ _ | (refine Own.at ?_; first | rfl | (simp; done)) | refine Own.past ?_ _)) hwb; have hB2b : Below W2.heap.size W2 wb := bup (by with_reducible (repeat' first | assumption | exact Below.refl _ _ | refine Below.drew ?_ | refine bdrewN ?_ _ | refine Below.setCell ?_ (by first | exact Nat.le_refl _ | (simp; done) | (simp; omega) | omega) _ | refine Below.alloc ?_ (by first | exact Nat.le_refl _ | (simp; done) | (simp; omega) | omega) _)) hwb; have z2b := hB2b.size; (try (refine with_fact (p := Own wb (W2.heap.size) #[.int .i64 0, .int .i64 0]) ?_ ?_; (· (refine Own.keep ?_ hwb; with_reducible (repeat' first | assumption | refine Own.drew ?_ | refine Own.drewN ?_ _ | (refine Own.at ?_; first | rfl | (simp; done)) | refine Own.past ?_ _); done)); intro om; have com := om.cell; have fom := om.fro; have lom := om.lt))))
    · have hX8 : Own (wb.alloc (.cells #[.int .i64 v0, .int .i64 v1] 32)) (wb.heap.size) #[.int .i64 v0, .int .i64 v1] := Own.new _ _ _
      have hX6 : Own (wb.alloc (.cells #[.int .i64 v0, .int .i64 v1] 32)) X6 #[.int .i64 v0, .int .i64 v1] := ob6.past _
      have hB8 : Below w.heap.size w (wb.alloc (.cells #[.int .i64 v0, .int .i64 v1] 32)) := by with_reducible (repeat' first | assumption | exact Below.refl _ _ | refine Below.drew ?_ | refine bdrewN ?_ _ | refine Below.setCell ?_ (by first | exact Nat.le_refl _ | (simp; done) | (simp; omega) | omega) _ | refine Below.alloc ?_ (by first | exact Nat.le_refl _ | (simp; done) | (simp; omega) | omega) _)
      obtain ⟨W3, eW3⟩ : ∃ W', W' = (wb.alloc (.cells #[.int .i64 v0, .int .i64 v1] 32)) := ⟨_, rfl⟩
      obtain ⟨X8, eX8⟩ : ∃ X' : Nat, X' = wb.heap.size := ⟨_, rfl⟩
      rw [← eW3] at hX8 hX6 hB8 ⊢
      rw [← eX8] at hX8 ⊢
      clear eW3 eX8
      have c1 := hX8.cell
      have l1 := hX8.lt
      have c2 := hX6.cell
      have l2 := hX6.lt
      cases fb
      all_goals go_wp2
      all_goals go_ret
      all_goals exact ⟨rfl, R, BOut.refl h.out hB8, hg.out⟩
    · have hX8 : Own ((wb.setCell ⟨W2.heap.size, 0, none⟩ (.int .i64 v0)).setCell ⟨W2.heap.size, 1, none⟩ (.int .i64 v1)) (W2.heap.size) #[.int .i64 v0, .int .i64 v1] := own_put (k := 1) (own_put (k := 0) om (by simp)) (by simp)
      have hX6 : Own ((wb.setCell ⟨W2.heap.size, 0, none⟩ (.int .i64 v0)).setCell ⟨W2.heap.size, 1, none⟩ (.int .i64 v1)) X6 #[.int .i64 v0, .int .i64 v1] := (ob6.aside _ (by simp; omega)).aside _ (by simp; omega)
      have hB8 : Below w.heap.size w ((wb.setCell ⟨W2.heap.size, 0, none⟩ (.int .i64 v0)).setCell ⟨W2.heap.size, 1, none⟩ (.int .i64 v1)) := by with_reducible (repeat' first | assumption | exact Below.refl _ _ | refine Below.drew ?_ | refine bdrewN ?_ _ | refine Below.setCell ?_ (by first | exact Nat.le_refl _ | (simp; done) | (simp; omega) | omega) _ | refine Below.alloc ?_ (by first | exact Nat.le_refl _ | (simp; done) | (simp; omega) | omega) _)
      obtain ⟨W3, eW3⟩ : ∃ W', W' = ((wb.setCell ⟨W2.heap.size, 0, none⟩ (.int .i64 v0)).setCell ⟨W2.heap.size, 1, none⟩ (.int .i64 v1)) := ⟨_, rfl⟩
      obtain ⟨X8, eX8⟩ : ∃ X' : Nat, X' = W2.heap.size := ⟨_, rfl⟩
      rw [← eW3] at hX8 hX6 hB8 ⊢
      rw [← eX8] at hX8 ⊢
      clear eW3 eX8
      have c1 := hX8.cell
      have l1 := hX8.lt
      have c2 := hX6.cell
      have l2 := hX6.lt
      cases fb
      all_goals go_wp2
      all_goals go_ret
      all_goals exact ⟨rfl, R, BOut.refl h.out hB8, hg.out⟩
  · go_wp2
    have gX : Own ((wa.setCell ⟨w.heap.size + 1, 0, none⟩ (.int .i64 v0)).setCell ⟨w.heap.size + 1, 1, none⟩ (.int .i64 v1)) (w.heap.size + 1) #[.int .i64 v0, .int .i64 v1] := own_put (k := 1) (own_put (k := 0) on (by simp)) (by simp)
    have g0 : Own ((wa.setCell ⟨w.heap.size + 1, 0, none⟩ (.int .i64 v0)).setCell ⟨w.heap.size + 1, 1, none⟩ (.int .i64 v1)) w.heap.size #[.int .i64 kd, .int .i64 r, .int .i64 c, .int .i64 t, .int .i64 l, .int .i64 b, .int .i64 rr, .int .i64 wh] := (owa.aside _ (by simp)).aside _ (by simp)
    have gB : Below w.heap.size w ((wa.setCell ⟨w.heap.size + 1, 0, none⟩ (.int .i64 v0)).setCell ⟨w.heap.size + 1, 1, none⟩ (.int .i64 v1)) := by with_reducible (repeat' first | assumption | exact Below.refl _ _ | refine Below.drew ?_ | refine bdrewN ?_ _ | refine Below.setCell ?_ (by first | exact Nat.le_refl _ | (simp; done) | (simp; omega) | omega) _ | refine Below.alloc ?_ (by first | exact Nat.le_refl _ | (simp; done) | (simp; omega) | omega) _)
    obtain ⟨W2, eW2⟩ : ∃ W', W' = ((wa.setCell ⟨w.heap.size + 1, 0, none⟩ (.int .i64 v0)).setCell ⟨w.heap.size + 1, 1, none⟩ (.int .i64 v1)) := ⟨_, rfl⟩
    obtain ⟨X6, eX6⟩ : ∃ X' : Nat, X' = w.heap.size + 1 := ⟨_, rfl⟩
    rw [← eW2] at gX g0 gB ⊢
    rw [← eX6] at gX ⊢
    have gS := gB.size
    clear eW2 eX6 hBwa zwa owa cwa lwa q0wa q1wa q2wa hwa
    have cg0 := g0.cell
    have lg0 := g0.lt
    have lgX := gX.lt
    have z0 := (gB.cell (p := ⟨k.q, 0, none⟩) hql).trans hq0
    have z1 := (gB.cell (p := ⟨k.q, 1, none⟩) hql).trans hq1
    have z2 := (gB.cell (p := ⟨k.q, 2, none⟩) hql).trans hq2
    go_region_held3 (fun w' => w'.cell? ⟨k.q, 0, none⟩ = some (.pointer (some ⟨k.s, 0, none⟩)) ∧ w'.cell? ⟨k.q, 1, none⟩ = some (.pointer (some ⟨k.y, 0, none⟩)) ∧ w'.cell? ⟨k.q, 2, none⟩ = some (.slice (some ⟨k.p, 0, none⟩) 8 k.pc) ∧ w'.cell? ⟨w.heap.size, 0, none⟩ = some (.int .i64 kd) ∧ w'.cell? ⟨w.heap.size, 1, none⟩ = some (.int .i64 r) ∧ w'.cell? ⟨w.heap.size, 2, none⟩ = some (.int .i64 c) ∧ w'.cell? ⟨w.heap.size, 3, none⟩ = some (.int .i64 t) ∧ w'.cell? ⟨w.heap.size, 4, none⟩ = some (.int .i64 l) ∧ w'.cell? ⟨w.heap.size, 5, none⟩ = some (.int .i64 b) ∧ w'.cell? ⟨w.heap.size, 6, none⟩ = some (.int .i64 rr) ∧ w'.cell? ⟨w.heap.size, 7, none⟩ = some (.int .i64 wh)) ((repeat' apply And.intro) <;> (first | (go_keep; done) | (go_simp; done))) (first | (go_at_call 26; refine (HY.out _ (by with_reducible (repeat' first | assumption | exact Below.refl _ _ | refine Below.drew ?_ | refine bdrewN ?_ _ | refine Below.setCell ?_ (by first | exact Nat.le_refl _ | (simp; done) | (simp; omega) | omega) _ | refine Below.alloc ?_ (by first | exact Nat.le_refl _ | (simp; done) | (simp; omega) | omega) _))).mono ?_; rintro e wb ⟨rfl, hwb⟩; have hBwb : Below w.heap.size w wb := bup (by with_reducible (repeat' first | assumption | exact Below.refl _ _ | refine Below.drew ?_ | refine bdrewN ?_ _ | refine Below.setCell ?_ (by first | exact Nat.le_refl _ | (simp; done) | (simp; omega) | omega) _ | refine Below.alloc ?_ (by first | exact Nat.le_refl _ | (simp; done) | (simp; omega) | omega) _)) hwb; have zwb := hBwb.size; have owb : Own wb w.heap.size #[.int .i64 kd, .int .i64 r, .int .i64 c, .int .i64 t, .int .i64 l, .int .i64 b, .int .i64 rr, .int .i64 wh] := Own.keep (by with_reducible (repeat' first | assumption | refine Own.drew ?_ | refine Own.drewN ?_ _ | (refine Own.at ?_; first | rfl | (simp; done)) | refine Own.past ?_ _)) hwb; have cwb := owb.cell; have lwb := owb.lt; have q0wb := (hBwb.cell (p := ⟨k.q, 0, none⟩) hql).trans hq0; have q1wb := (hBwb.cell (p := ⟨k.q, 1, none⟩) hql).trans hq1; have q2wb := (hBwb.cell (p := ⟨k.q, 2, none⟩) hql).trans hq2; have ob6 : Own wb X6 #[.int .i64 v0, .int .i64 v1] := Own.keep (by with_reducible (repeat' first | assumption | refine Own.drew ?_ | refine Own.drewN ?_ _ | (refine Own.at ?_; first | rfl | (simp; done)) | refine Own.past ?_ _)) hwb; have hB2b : Below W2.heap.size W2 wb := bup (by with_reducible (repeat' first | assumption | exact Below.refl _ _ | refine Below.drew ?_ | refine bdrewN ?_ _ | refine Below.setCell ?_ (by first | exact Nat.le_refl _ | (simp; done) | (simp; omega) | omega) _ | refine Below.alloc ?_ (by first | exact Nat.le_refl _ | (simp; done) | (simp; omega) | omega) _)) hwb; have z2b := hB2b.size; (try (refine with_fact (p := Own wb (W2.heap.size) #[.int .i64 0, .int .i64 0]) ?_ ?_; (· (refine Own.keep ?_ hwb; with_reducible (repeat' first | assumption | refine Own.drew ?_ | refine Own.drewN ?_ _ | (refine Own.at ?_; first | rfl | (simp; done)) | refine Own.past ?_ _); done)); intro om; have com := om.cell; have fom := om.fro; have lom := om.lt))))
    · have hX8 : Own (wb.alloc (.cells #[.int .i64 v0, .int .i64 v1] 32)) (wb.heap.size) #[.int .i64 v0, .int .i64 v1] := Own.new _ _ _
      have hX6 : Own (wb.alloc (.cells #[.int .i64 v0, .int .i64 v1] 32)) X6 #[.int .i64 v0, .int .i64 v1] := ob6.past _
      have hB8 : Below w.heap.size w (wb.alloc (.cells #[.int .i64 v0, .int .i64 v1] 32)) := by with_reducible (repeat' first | assumption | exact Below.refl _ _ | refine Below.drew ?_ | refine bdrewN ?_ _ | refine Below.setCell ?_ (by first | exact Nat.le_refl _ | (simp; done) | (simp; omega) | omega) _ | refine Below.alloc ?_ (by first | exact Nat.le_refl _ | (simp; done) | (simp; omega) | omega) _)
      obtain ⟨W3, eW3⟩ : ∃ W', W' = (wb.alloc (.cells #[.int .i64 v0, .int .i64 v1] 32)) := ⟨_, rfl⟩
      obtain ⟨X8, eX8⟩ : ∃ X' : Nat, X' = wb.heap.size := ⟨_, rfl⟩
      rw [← eW3] at hX8 hX6 hB8 ⊢
      rw [← eX8] at hX8 ⊢
      clear eW3 eX8
      have c1 := hX8.cell
      have l1 := hX8.lt
      have c2 := hX6.cell
      have l2 := hX6.lt
      cases fb
      all_goals go_wp2
      all_goals go_ret
      all_goals exact ⟨rfl, R, BOut.refl h.out hB8, hg.out⟩
    · have hX8 : Own ((wb.setCell ⟨W2.heap.size, 0, none⟩ (.int .i64 v0)).setCell ⟨W2.heap.size, 1, none⟩ (.int .i64 v1)) (W2.heap.size) #[.int .i64 v0, .int .i64 v1] := own_put (k := 1) (own_put (k := 0) om (by simp)) (by simp)
      have hX6 : Own ((wb.setCell ⟨W2.heap.size, 0, none⟩ (.int .i64 v0)).setCell ⟨W2.heap.size, 1, none⟩ (.int .i64 v1)) X6 #[.int .i64 v0, .int .i64 v1] := (ob6.aside _ (by simp; omega)).aside _ (by simp; omega)
      have hB8 : Below w.heap.size w ((wb.setCell ⟨W2.heap.size, 0, none⟩ (.int .i64 v0)).setCell ⟨W2.heap.size, 1, none⟩ (.int .i64 v1)) := by with_reducible (repeat' first | assumption | exact Below.refl _ _ | refine Below.drew ?_ | refine bdrewN ?_ _ | refine Below.setCell ?_ (by first | exact Nat.le_refl _ | (simp; done) | (simp; omega) | omega) _ | refine Below.alloc ?_ (by first | exact Nat.le_refl _ | (simp; done) | (simp; omega) | omega) _)
      obtain ⟨W3, eW3⟩ : ∃ W', W' = ((wb.setCell ⟨W2.heap.size, 0, none⟩ (.int .i64 v0)).setCell ⟨W2.heap.size, 1, none⟩ (.int .i64 v1)) := ⟨_, rfl⟩
      obtain ⟨X8, eX8⟩ : ∃ X' : Nat, X' = W2.heap.size := ⟨_, rfl⟩
      rw [← eW3] at hX8 hX6 hB8 ⊢
      rw [← eX8] at hX8 ⊢
      clear eW3 eX8
      have c1 := hX8.cell
      have l1 := hX8.lt
      have c2 := hX6.cell
      have l2 := hX6.lt
      cases fb
      all_goals go_wp2
      all_goals go_ret
      all_goals exact ⟨rfl, R, BOut.refl h.out hB8, hg.out⟩
/-- Every deed: both answer the same, and go on telling the same. -/
theorem does_any (w : World) (F : Nat → Prop) (k : Bx) (R : List Im) (d : Dd) (hd : d.ok) (h : BW w F k (itL k R) R) (hg : rngR R) : Calls Try.prog 9 #[.pointer (some ⟨k.q, 0, none⟩), .agg d.cells] w fun e w' => e = .returned (.bool true) ∧ GOut w F k w' := by
  obtain ⟨kd, r, c, t, l, b, rr, wh⟩ := d
  obtain ⟨h1, h2, h3, h4, h5, h6, h7, h8⟩ := hd
  have hp := pk_in kd (n := 6) (by omega)
  have hc : pkI kd 6 = 0 ∨ pkI kd 6 = 1 ∨ pkI kd 6 = 2 ∨ pkI kd 6 = 3 ∨ pkI kd 6 = 4 ∨ pkI kd 6 = 5 := by omega
  rcases hc with q | q | q | q | q | q
  · exact does_put w F k R kd r c t l b rr wh h hg h1 h2 h3 h4 h5 h6 h7 h8 q
  · exact does_nil w F k R kd r c t l b rr wh h hg h1 h2 h3 h4 h5 h6 h7 h8 q
  · exact does_drop w F k R kd r c t l b rr wh h hg h1 h2 h3 h4 h5 h6 h7 h8 q
  · exact does_get w F k R kd r c t l b rr wh h hg h1 h2 h3 h4 h5 h6 h7 h8 q
  · exact does_next w F k R kd r c t l b rr wh h hg h1 h2 h3 h4 h5 h6 h7 h8 q
  · exact does_walk w F k R kd r c t l b rr wh h hg h1 h2 h3 h4 h5 h6 h7 h8 q
end Go.Proofs.Ytaafpfjmnhmalaa
