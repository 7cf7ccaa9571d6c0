/- The law's walks. -/
import Derived.Test.YtaafpfjmnhmalaaS24
namespace Go.Proofs.Ytaafpfjmnhmalaa
open Go.RowKit
set_option linter.all false
theorem with_fact {p q : Prop} (h : p) (k : p → q) : q := k h
set_option maxRecDepth 100000 in
set_option maxHeartbeats 8000000 in
theorem walks_any (w : World) (F : Nat → Prop) (k : Bx) (R : List Im) (t le b rr : Int) (h : Hid (BW w F k (itL k R) R)) (it : I64 t) (il : I64 le) (ib : I64 b) (ir : I64 rr) (hin : Hid (InS (itL k R))) :
    Calls Try.prog 11 #[.pointer (some ⟨k.q, 0, none⟩), .agg #[.int .i64 t, .int .i64 le, .int .i64 b, .int .i64 rr]] w fun e w' => e = .returned (.bool true) ∧ Below w.heap.size w w' := by
  have mixed : Try.prog.follows .mixedOrders = true := by kernel_rfl
  have hq0 : w.cell? ⟨k.q, 0, none⟩ = some (.pointer (some ⟨k.s, 0, none⟩)) := h.out.q.cell 0
  have hq1 : w.cell? ⟨k.q, 1, none⟩ = some (.pointer (some ⟨k.y, 0, none⟩)) := h.out.q.cell 1
  have hql := h.out.q.lt
  go_enter Try.func11, Try.ntmps11
  go_wp2
  go_loopw [7] (fun _ w' => ∃ ar ac : Int, Hid (I64 ar ∧ I64 ac) ∧ Own w' (w.heap.size + 1) #[.int .i64 ar, .int .i64 ac] ∧ Below w.heap.size w w' ∧ Own w' w.heap.size #[.int .i64 t, .int .i64 le, .int .i64 b, .int .i64 rr]) (fun _ w' => behV (itL k R) (w'.cell? ⟨w.heap.size + 1, 0, none⟩) (w'.cell? ⟨w.heap.size + 1, 1, none⟩))
  case atStart => exact ⟨0, 0, (show Hid _ from ⟨i64_s, i64_s⟩), by with_reducible (repeat' first | assumption | refine Own.drew ?_ | refine Own.drewN ?_ _ | (refine Own.at ?_; first | rfl | (simp; done)) | refine Own.past ?_ _), by with_reducible (repeat' first | assumption | exact Below.refl _ _ | refine Below.drew ?_ | refine bdrewN ?_ _ | refine Below.setCell ?_ (by first | exact Nat.le_refl _ | (simp; done) | (simp; omega) | omega) _ | refine Below.alloc ?_ (by first | exact Nat.le_refl _ | (simp; done) | (simp; omega) | omega) _), by with_reducible (repeat' first | assumption | refine Own.drew ?_ | refine Own.drewN ?_ _ | (refine Own.at ?_; first | rfl | (simp; done)) | refine Own.past ?_ _)⟩
  case round =>
    obtain ⟨ar, ac, hII, o9, hB5, o5⟩ := hrel
    have c9 := o9.cell
    have f9 := o9.fro
    have l9 := o9.lt
    have c5 := o5.cell
    have l5 := o5.lt
    have y0 := (hB5.cell (p := ⟨k.q, 0, none⟩) hql).trans hq0
    have y1 := (hB5.cell (p := ⟨k.q, 1, none⟩) hql).trans hq1
    have z5 := hB5.size
    have HX : Hid (∀ W, Below w.heap.size w W → Calls Try.prog 17 #[.pointer (some ⟨k.s, 0, none⟩), .agg #[.int .i64 t, .int .i64 le, .int .i64 b, .int .i64 rr], .agg #[.int .i64 ar, .int .i64 ac]] W fun e w' => e = .returned (nextR R t le b rr ar ac) ∧ Below W.heap.size W w') := fun W hb => by rw [← it_next k]; exact bx_next W F k _ R t le b rr ar ac (h.out.keep hb) it il ib ir hII.out.1 hII.out.2
    have HY : Hid (∀ W, Below w.heap.size w W → Calls Try.prog 26 #[.pointer (some ⟨k.y, 0, none⟩), .agg #[.int .i64 t, .int .i64 le, .int .i64 b, .int .i64 rr], .agg #[.int .i64 ar, .int .i64 ac]] W fun e w' => e = .returned (nextR R t le b rr ar ac) ∧ Below W.heap.size W w') := fun W hb => by_next W F k _ R t le b rr ar ac (h.out.keep hb)
    have HD : ∃ (v0 v1 : Int) (fb : Bool), nextR R t le b rr ar ac = .tuple #[.agg #[.int .i64 v0, .int .i64 v1], .bool fb] ∧ Hid (fb = true → (I64 v0 ∧ I64 v1) ∧ behV (itL k R) (some (.int .i64 v0)) (some (.int .i64 v1)) < behV (itL k R) (some (.int .i64 ar)) (some (.int .i64 ac))) := by
      rcases next_two (itL k R) t le b rr ar ac with ⟨e0, _⟩ | ⟨x, hx, hpx, e0⟩
      · rw [it_next] at e0
        exact ⟨0, 0, false, e0, (show Hid _ from fun q => by cases q)⟩
      · rw [it_next] at e0
        have hi := hin.out x hx
        exact ⟨x.r, x.c, true, e0, (show Hid _ from fun _ => ⟨⟨⟨by omega, by omega⟩, ⟨by omega, by omega⟩⟩, behV_lt hx (by have := (pN_is _ _ _ _ _ _ _).1 hpx; exact befB_t this.2)⟩)⟩
    obtain ⟨v0, v1, fb, e0, HD⟩ := HD
    rw [e0] at HX HY
    have hne := neC v0 v1 v0 v1
    rw [sameC_refl] at hne
    clear e0
    go_wp2
    go_region_held3 (fun w' => w'.cell? ⟨k.q, 0, none⟩ = some (.pointer (some ⟨k.s, 0, none⟩)) ∧ w'.cell? ⟨w.heap.size, 0, none⟩ = some (.int .i64 t) ∧ w'.cell? ⟨w.heap.size, 1, none⟩ = some (.int .i64 le) ∧ w'.cell? ⟨w.heap.size, 2, none⟩ = some (.int .i64 b) ∧ w'.cell? ⟨w.heap.size, 3, none⟩ = some (.int .i64 rr) ∧ w'.cell? ⟨w.heap.size + 1, 0, none⟩ = some (.int .i64 ar) ∧ w'.cell? ⟨w.heap.size + 1, 1, none⟩ = some (.int .i64 ac)) ((repeat' apply And.intro) <;> (first | (go_keep; done) | (go_simp; done))) (first | (go_at_call 17; refine (HX.out _ (by with_reducible (repeat' first | assumption | exact Below.refl _ _ | refine Below.drew ?_ | refine bdrewN ?_ _ | refine Below.setCell ?_ (by first | exact Nat.le_refl _ | (simp; done) | (simp; omega) | omega) _ | refine Below.alloc ?_ (by first | exact Nat.le_refl _ | (simp; done) | (simp; omega) | omega) _))).mono ?_; rintro e wa ⟨rfl, hba⟩; have hBa : Below w.heap.size w wa := bup (by with_reducible (repeat' first | assumption | exact Below.refl _ _ | refine Below.drew ?_ | refine bdrewN ?_ _ | refine Below.setCell ?_ (by first | exact Nat.le_refl _ | (simp; done) | (simp; omega) | omega) _ | refine Below.alloc ?_ (by first | exact Nat.le_refl _ | (simp; done) | (simp; omega) | omega) _)) hba; have za := hBa.size; have hBra : Below wr.heap.size wr wa := bup (by with_reducible (repeat' first | assumption | exact Below.refl _ _ | refine Below.drew ?_ | refine bdrewN ?_ _ | refine Below.setCell ?_ (by first | exact Nat.le_refl _ | (simp; done) | (simp; omega) | omega) _ | refine Below.alloc ?_ (by first | exact Nat.le_refl _ | (simp; done) | (simp; omega) | omega) _)) hba; have zra := hBra.size; have oa9 : Own wa (w.heap.size + 1) #[.int .i64 ar, .int .i64 ac] := Own.keep (by with_reducible (repeat' first | assumption | refine Own.drew ?_ | refine Own.drewN ?_ _ | (refine Own.at ?_; first | rfl | (simp; done)) | refine Own.past ?_ _)) hba; have oa5 : Own wa w.heap.size #[.int .i64 t, .int .i64 le, .int .i64 b, .int .i64 rr] := Own.keep (by with_reducible (repeat' first | assumption | refine Own.drew ?_ | refine Own.drewN ?_ _ | (refine Own.at ?_; first | rfl | (simp; done)) | refine Own.past ?_ _)) hba; have ca9 := oa9.cell; have ca5 := oa5.cell; have la9 := oa9.lt; have la5 := oa5.lt; have ya0 := (hBa.cell (p := ⟨k.q, 0, none⟩) hql).trans hq0; have ya1 := (hBa.cell (p := ⟨k.q, 1, none⟩) hql).trans hq1; (try (refine with_fact (p := Own wa (wr.heap.size) #[.int .i64 0, .int .i64 0]) ?_ ?_; (· (refine Own.keep ?_ hba; with_reducible (repeat' first | assumption | refine Own.drew ?_ | refine Own.drewN ?_ _ | (refine Own.at ?_; first | rfl | (simp; done)) | refine Own.past ?_ _); done)); intro on; have con := on.cell; have fon := on.fro; have lon := on.lt))))
    · go_wp2
      have gX : Own (wa.alloc (.cells #[.int .i64 v0, .int .i64 v1] 32)) wa.heap.size #[.int .i64 v0, .int .i64 v1] := Own.new _ _ _
      have g0 : Own (wa.alloc (.cells #[.int .i64 v0, .int .i64 v1] 32)) (w.heap.size + 1) #[.int .i64 ar, .int .i64 ac] := oa9.past _
      have g1 : Own (wa.alloc (.cells #[.int .i64 v0, .int .i64 v1] 32)) (w.heap.size) #[.int .i64 t, .int .i64 le, .int .i64 b, .int .i64 rr] := oa5.past _
      have gB : Below w.heap.size w (wa.alloc (.cells #[.int .i64 v0, .int .i64 v1] 32)) := by with_reducible (repeat' first | assumption | exact Below.refl _ _ | refine Below.drew ?_ | refine bdrewN ?_ _ | refine Below.setCell ?_ (by first | exact Nat.le_refl _ | (simp; done) | (simp; omega) | omega) _ | refine Below.alloc ?_ (by first | exact Nat.le_refl _ | (simp; done) | (simp; omega) | omega) _)
      obtain ⟨W2, eW2⟩ : ∃ W', W' = (wa.alloc (.cells #[.int .i64 v0, .int .i64 v1] 32)) := ⟨_, rfl⟩
      obtain ⟨X6, eX6⟩ : ∃ X' : Nat, X' = wa.heap.size := ⟨_, rfl⟩
      rw [← eW2] at gX g0 g1 gB ⊢
      rw [← eX6] at gX ⊢
      have gS : w.heap.size ≤ W2.heap.size := gB.size
      clear eW2 eX6
      have cg1 := g0.cell
      have lg1 := g0.lt
      have cg2 := g1.cell
      have lg2 := g1.lt
      have lgX := gX.lt
      have z0 := (gB.cell (p := ⟨k.q, 0, none⟩) hql).trans hq0
      have z1 := (gB.cell (p := ⟨k.q, 1, none⟩) hql).trans hq1
      clear c9 f9 l9 c5 l5 y0 y1 z5 hBa za hBra zra oa9 oa5 ca9 ca5 la9 la5 ya0 ya1 hba
      go_region_held3 (fun w' => w'.cell? ⟨k.q, 1, none⟩ = some (.pointer (some ⟨k.y, 0, none⟩)) ∧ w'.cell? ⟨w.heap.size, 0, none⟩ = some (.int .i64 t) ∧ w'.cell? ⟨w.heap.size, 1, none⟩ = some (.int .i64 le) ∧ w'.cell? ⟨w.heap.size, 2, none⟩ = some (.int .i64 b) ∧ w'.cell? ⟨w.heap.size, 3, none⟩ = some (.int .i64 rr) ∧ w'.cell? ⟨w.heap.size + 1, 0, none⟩ = some (.int .i64 ar) ∧ w'.cell? ⟨w.heap.size + 1, 1, none⟩ = some (.int .i64 ac)) ((repeat' apply And.intro) <;> (first | (go_keep; done) | (go_simp; done))) (first | (go_at_call 26; refine (HY.out _ (by with_reducible (repeat' first | assumption | exact Below.refl _ _ | refine Below.drew ?_ | refine bdrewN ?_ _ | refine Below.setCell ?_ (by first | exact Nat.le_refl _ | (simp; done) | (simp; omega) | omega) _ | refine Below.alloc ?_ (by first | exact Nat.le_refl _ | (simp; done) | (simp; omega) | omega) _))).mono ?_; rintro e wb ⟨rfl, hbb⟩; have hBb : Below w.heap.size w wb := bup (by with_reducible (repeat' first | assumption | exact Below.refl _ _ | refine Below.drew ?_ | refine bdrewN ?_ _ | refine Below.setCell ?_ (by first | exact Nat.le_refl _ | (simp; done) | (simp; omega) | omega) _ | refine Below.alloc ?_ (by first | exact Nat.le_refl _ | (simp; done) | (simp; omega) | omega) _)) hbb; have zb := hBb.size; have hB2b : Below W2.heap.size W2 wb := bup (by with_reducible (repeat' first | assumption | exact Below.refl _ _ | refine Below.drew ?_ | refine bdrewN ?_ _ | refine Below.setCell ?_ (by first | exact Nat.le_refl _ | (simp; done) | (simp; omega) | omega) _ | refine Below.alloc ?_ (by first | exact Nat.le_refl _ | (simp; done) | (simp; omega) | omega) _)) hbb; have z2b := hB2b.size; have ob9 : Own wb (w.heap.size + 1) #[.int .i64 ar, .int .i64 ac] := Own.keep (by with_reducible (repeat' first | assumption | refine Own.drew ?_ | refine Own.drewN ?_ _ | (refine Own.at ?_; first | rfl | (simp; done)) | refine Own.past ?_ _)) hbb; have ob5 : Own wb w.heap.size #[.int .i64 t, .int .i64 le, .int .i64 b, .int .i64 rr] := Own.keep (by with_reducible (repeat' first | assumption | refine Own.drew ?_ | refine Own.drewN ?_ _ | (refine Own.at ?_; first | rfl | (simp; done)) | refine Own.past ?_ _)) hbb; have ob6 : Own wb X6 #[.int .i64 v0, .int .i64 v1] := Own.keep (by with_reducible (repeat' first | assumption | refine Own.drew ?_ | refine Own.drewN ?_ _ | (refine Own.at ?_; first | rfl | (simp; done)) | refine Own.past ?_ _)) hbb; have cb9 := ob9.cell; have cb5 := ob5.cell; have lb9 := ob9.lt; have lb5 := ob5.lt; have yb1 := (hBb.cell (p := ⟨k.q, 1, none⟩) hql).trans hq1; (try (refine with_fact (p := Own wb (W2.heap.size) #[.int .i64 0, .int .i64 0]) ?_ ?_; (· (refine Own.keep ?_ hbb; with_reducible (repeat' first | assumption | refine Own.drew ?_ | refine Own.drewN ?_ _ | (refine Own.at ?_; first | rfl | (simp; done)) | refine Own.past ?_ _); done)); intro on; have con := on.cell; have fon := on.fro; have lon := on.lt))))
      · have hX8 : Own (wb.alloc (.cells #[.int .i64 v0, .int .i64 v1] 32)) (wb.heap.size) #[.int .i64 v0, .int .i64 v1] := Own.new _ _ _
        have hX6 : Own (wb.alloc (.cells #[.int .i64 v0, .int .i64 v1] 32)) X6 #[.int .i64 v0, .int .i64 v1] := ob6.past _
        have h9 : Own (wb.alloc (.cells #[.int .i64 v0, .int .i64 v1] 32)) (w.heap.size + 1) #[.int .i64 ar, .int .i64 ac] := ob9.past _
        have h5 : Own (wb.alloc (.cells #[.int .i64 v0, .int .i64 v1] 32)) w.heap.size #[.int .i64 t, .int .i64 le, .int .i64 b, .int .i64 rr] := ob5.past _
        have hB8 : Below w.heap.size w (wb.alloc (.cells #[.int .i64 v0, .int .i64 v1] 32)) := by with_reducible (repeat' first | assumption | exact Below.refl _ _ | refine Below.drew ?_ | refine bdrewN ?_ _ | refine Below.setCell ?_ (by first | exact Nat.le_refl _ | (simp; done) | (simp; omega) | omega) _ | refine Below.alloc ?_ (by first | exact Nat.le_refl _ | (simp; done) | (simp; omega) | omega) _)
        obtain ⟨W3, eW3⟩ : ∃ W', W' = (wb.alloc (.cells #[.int .i64 v0, .int .i64 v1] 32)) := ⟨_, rfl⟩
        obtain ⟨X8, eX8⟩ : ∃ X' : Nat, X' = wb.heap.size := ⟨_, rfl⟩
        rw [← eW3] at hX8 hX6 h9 h5 hB8 ⊢
        rw [← eX8] at hX8 ⊢
        have gS3 := hB8.size
        clear eW3 eX8
        have c1 := hX8.cell
        have l1 := hX8.lt
        have c2 := hX6.cell
        have l2 := hX6.lt
        have c3 := h9.cell
        have f3 := h9.fro
        have l3 := h9.lt
        cases fb
        · go_wp2
          go_ret
          exact ⟨rfl, hB8⟩
        · go_wp2
          have oN := own_put (k := 1) (x := .int .i64 v1) (own_put (k := 0) (x := .int .i64 v0) h9 (by simp)) (by simp)
          refine ⟨⟨v0, v1, (show Hid _ from (HD.out rfl).1), oN, by with_reducible (repeat' first | assumption | exact Below.refl _ _ | refine Below.drew ?_ | refine bdrewN ?_ _ | refine Below.setCell ?_ (by first | exact Nat.le_refl _ | (simp; done) | (simp; omega) | omega) _ | refine Below.alloc ?_ (by first | exact Nat.le_refl _ | (simp; done) | (simp; omega) | omega) _), (h5.aside _ (by simp)).aside _ (by simp)⟩, ?_⟩
          rw [oN.cell 0, oN.cell 1, o9.cell 0, o9.cell 1]
          exact (HD.out rfl).2
      · have hX8 : Own ((wb.setCell ⟨W2.heap.size, 0, none⟩ (.int .i64 v0)).setCell ⟨W2.heap.size, 1, none⟩ (.int .i64 v1)) (W2.heap.size) #[.int .i64 v0, .int .i64 v1] := own_put (k := 1) (own_put (k := 0) on (by simp)) (by simp)
        have hX6 : Own ((wb.setCell ⟨W2.heap.size, 0, none⟩ (.int .i64 v0)).setCell ⟨W2.heap.size, 1, none⟩ (.int .i64 v1)) X6 #[.int .i64 v0, .int .i64 v1] := (ob6.aside _ (by simp; omega)).aside _ (by simp; omega)
        have h9 : Own ((wb.setCell ⟨W2.heap.size, 0, none⟩ (.int .i64 v0)).setCell ⟨W2.heap.size, 1, none⟩ (.int .i64 v1)) (w.heap.size + 1) #[.int .i64 ar, .int .i64 ac] := (ob9.aside _ (by simp; omega)).aside _ (by simp; omega)
        have h5 : Own ((wb.setCell ⟨W2.heap.size, 0, none⟩ (.int .i64 v0)).setCell ⟨W2.heap.size, 1, none⟩ (.int .i64 v1)) w.heap.size #[.int .i64 t, .int .i64 le, .int .i64 b, .int .i64 rr] := (ob5.aside _ (by simp; omega)).aside _ (by simp; omega)
        have hB8 : Below w.heap.size w ((wb.setCell ⟨W2.heap.size, 0, none⟩ (.int .i64 v0)).setCell ⟨W2.heap.size, 1, none⟩ (.int .i64 v1)) := by with_reducible (repeat' first | assumption | exact Below.refl _ _ | refine Below.drew ?_ | refine bdrewN ?_ _ | refine Below.setCell ?_ (by first | exact Nat.le_refl _ | (simp; done) | (simp; omega) | omega) _ | refine Below.alloc ?_ (by first | exact Nat.le_refl _ | (simp; done) | (simp; omega) | omega) _)
        obtain ⟨W3, eW3⟩ : ∃ W', W' = ((wb.setCell ⟨W2.heap.size, 0, none⟩ (.int .i64 v0)).setCell ⟨W2.heap.size, 1, none⟩ (.int .i64 v1)) := ⟨_, rfl⟩
        obtain ⟨X8, eX8⟩ : ∃ X' : Nat, X' = W2.heap.size := ⟨_, rfl⟩
        rw [← eW3] at hX8 hX6 h9 h5 hB8 ⊢
        rw [← eX8] at hX8 ⊢
        have gS3 := hB8.size
        clear eW3 eX8
        have c1 := hX8.cell
        have l1 := hX8.lt
        have c2 := hX6.cell
        have l2 := hX6.lt
        have c3 := h9.cell
        have f3 := h9.fro
        have l3 := h9.lt
        cases fb
        · go_wp2
          go_ret
          exact ⟨rfl, hB8⟩
        · go_wp2
          have oN := own_put (k := 1) (x := .int .i64 v1) (own_put (k := 0) (x := .int .i64 v0) h9 (by simp)) (by simp)
          refine ⟨⟨v0, v1, (show Hid _ from (HD.out rfl).1), oN, by with_reducible (repeat' first | assumption | exact Below.refl _ _ | refine Below.drew ?_ | refine bdrewN ?_ _ | refine Below.setCell ?_ (by first | exact Nat.le_refl _ | (simp; done) | (simp; omega) | omega) _ | refine Below.alloc ?_ (by first | exact Nat.le_refl _ | (simp; done) | (simp; omega) | omega) _), (h5.aside _ (by simp)).aside _ (by simp)⟩, ?_⟩
          rw [oN.cell 0, oN.cell 1, o9.cell 0, o9.cell 1]
          exact (HD.out rfl).2
    · go_wp2
      have gX : Own ((wa.setCell ⟨wr.heap.size, 0, none⟩ (.int .i64 v0)).setCell ⟨wr.heap.size, 1, none⟩ (.int .i64 v1)) wr.heap.size #[.int .i64 v0, .int .i64 v1] := own_put (k := 1) (own_put (k := 0) on (by simp)) (by simp)
      have g0 : Own ((wa.setCell ⟨wr.heap.size, 0, none⟩ (.int .i64 v0)).setCell ⟨wr.heap.size, 1, none⟩ (.int .i64 v1)) (w.heap.size + 1) #[.int .i64 ar, .int .i64 ac] := (oa9.aside _ (by simp; omega)).aside _ (by simp; omega)
      have g1 : Own ((wa.setCell ⟨wr.heap.size, 0, none⟩ (.int .i64 v0)).setCell ⟨wr.heap.size, 1, none⟩ (.int .i64 v1)) (w.heap.size) #[.int .i64 t, .int .i64 le, .int .i64 b, .int .i64 rr] := (oa5.aside _ (by simp; omega)).aside _ (by simp; omega)
      have gB : Below w.heap.size w ((wa.setCell ⟨wr.heap.size, 0, none⟩ (.int .i64 v0)).setCell ⟨wr.heap.size, 1, none⟩ (.int .i64 v1)) := by with_reducible (repeat' first | assumption | exact Below.refl _ _ | refine Below.drew ?_ | refine bdrewN ?_ _ | refine Below.setCell ?_ (by first | exact Nat.le_refl _ | (simp; done) | (simp; omega) | omega) _ | refine Below.alloc ?_ (by first | exact Nat.le_refl _ | (simp; done) | (simp; omega) | omega) _)
      obtain ⟨W2, eW2⟩ : ∃ W', W' = ((wa.setCell ⟨wr.heap.size, 0, none⟩ (.int .i64 v0)).setCell ⟨wr.heap.size, 1, none⟩ (.int .i64 v1)) := ⟨_, rfl⟩
      obtain ⟨X6, eX6⟩ : ∃ X' : Nat, X' = wr.heap.size := ⟨_, rfl⟩
      rw [← eW2] at gX g0 g1 gB ⊢
      rw [← eX6] at gX ⊢
      have gS : w.heap.size ≤ W2.heap.size := gB.size
      clear eW2 eX6
      have cg1 := g0.cell
      have lg1 := g0.lt
      have cg2 := g1.cell
      have lg2 := g1.lt
      have lgX := gX.lt
      have z0 := (gB.cell (p := ⟨k.q, 0, none⟩) hql).trans hq0
      have z1 := (gB.cell (p := ⟨k.q, 1, none⟩) hql).trans hq1
      clear c9 f9 l9 c5 l5 y0 y1 z5 hBa za hBra zra oa9 oa5 ca9 ca5 la9 la5 ya0 ya1 hba
      go_region_held3 (fun w' => w'.cell? ⟨k.q, 1, none⟩ = some (.pointer (some ⟨k.y, 0, none⟩)) ∧ w'.cell? ⟨w.heap.size, 0, none⟩ = some (.int .i64 t) ∧ w'.cell? ⟨w.heap.size, 1, none⟩ = some (.int .i64 le) ∧ w'.cell? ⟨w.heap.size, 2, none⟩ = some (.int .i64 b) ∧ w'.cell? ⟨w.heap.size, 3, none⟩ = some (.int .i64 rr) ∧ w'.cell? ⟨w.heap.size + 1, 0, none⟩ = some (.int .i64 ar) ∧ w'.cell? ⟨w.heap.size + 1, 1, none⟩ = some (.int .i64 ac)) ((repeat' apply And.intro) <;> (first | (go_keep; done) | (go_simp; done))) (first | (go_at_call 26; refine (HY.out _ (by with_reducible (repeat' first | assumption | exact Below.refl _ _ | refine Below.drew ?_ | refine bdrewN ?_ _ | refine Below.setCell ?_ (by first | exact Nat.le_refl _ | (simp; done) | (simp; omega) | omega) _ | refine Below.alloc ?_ (by first | exact Nat.le_refl _ | (simp; done) | (simp; omega) | omega) _))).mono ?_; rintro e wb ⟨rfl, hbb⟩; have hBb : Below w.heap.size w wb := bup (by with_reducible (repeat' first | assumption | exact Below.refl _ _ | refine Below.drew ?_ | refine bdrewN ?_ _ | refine Below.setCell ?_ (by first | exact Nat.le_refl _ | (simp; done) | (simp; omega) | omega) _ | refine Below.alloc ?_ (by first | exact Nat.le_refl _ | (simp; done) | (simp; omega) | omega) _)) hbb; have zb := hBb.size; have hB2b : Below W2.heap.size W2 wb := bup (by with_reducible (repeat' first | assumption | exact Below.refl _ _ | refine Below.drew ?_ | refine bdrewN ?_ _ | refine Below.setCell ?_ (by first | exact Nat.le_refl _ | (simp; done) | (simp; omega) | omega) _ | refine Below.alloc ?_ (by first | exact Nat.le_refl _ | (simp; done) | (simp; omega) | omega) _)) hbb; have z2b := hB2b.size; have ob9 : Own wb (w.heap.size + 1) #[.int .i64 ar, .int .i64 ac] := Own.keep (by with_reducible (repeat' first | assumption | refine Own.drew ?_ | refine Own.drewN ?_ _ | (refine Own.at ?_; first | rfl | (simp; done)) | refine Own.past ?_ _)) hbb; have ob5 : Own wb w.heap.size #[.int .i64 t, .int .i64 le, .int .i64 b, .int .i64 rr] := Own.keep (by with_reducible (repeat' first | assumption | refine Own.drew ?_ | refine Own.drewN ?_ _ | (refine Own.at ?_; first | rfl | (simp; done)) | refine Own.past ?_ _)) hbb; have ob6 : Own wb X6 #[.int .i64 v0, .int .i64 v1] := Own.keep (by with_reducible (repeat' first | assumption | refine Own.drew ?_ | refine Own.drewN ?_ _ | (refine Own.at ?_; first | rfl | (simp; done)) | refine Own.past ?_ _)) hbb; have cb9 := ob9.cell; have cb5 := ob5.cell; have lb9 := ob9.lt; have lb5 := ob5.lt; have yb1 := (hBb.cell (p := ⟨k.q, 1, none⟩) hql).trans hq1; (try (refine with_fact (p := Own wb (W2.heap.size) #[.int .i64 0, .int .i64 0]) ?_ ?_; (· (refine Own.keep ?_ hbb; with_reducible (repeat' first | assumption | refine Own.drew ?_ | refine Own.drewN ?_ _ | (refine Own.at ?_; first | rfl | (simp; done)) | refine Own.past ?_ _); done)); intro on; have con := on.cell; have fon := on.fro; have lon := on.lt))))
      · have hX8 : Own (wb.alloc (.cells #[.int .i64 v0, .int .i64 v1] 32)) (wb.heap.size) #[.int .i64 v0, .int .i64 v1] := Own.new _ _ _
        have hX6 : Own (wb.alloc (.cells #[.int .i64 v0, .int .i64 v1] 32)) X6 #[.int .i64 v0, .int .i64 v1] := ob6.past _
        have h9 : Own (wb.alloc (.cells #[.int .i64 v0, .int .i64 v1] 32)) (w.heap.size + 1) #[.int .i64 ar, .int .i64 ac] := ob9.past _
        have h5 : Own (wb.alloc (.cells #[.int .i64 v0, .int .i64 v1] 32)) w.heap.size #[.int .i64 t, .int .i64 le, .int .i64 b, .int .i64 rr] := ob5.past _
        have hB8 : Below w.heap.size w (wb.alloc (.cells #[.int .i64 v0, .int .i64 v1] 32)) := by with_reducible (repeat' first | assumption | exact Below.refl _ _ | refine Below.drew ?_ | refine bdrewN ?_ _ | refine Below.setCell ?_ (by first | exact Nat.le_refl _ | (simp; done) | (simp; omega) | omega) _ | refine Below.alloc ?_ (by first | exact Nat.le_refl _ | (simp; done) | (simp; omega) | omega) _)
        obtain ⟨W3, eW3⟩ : ∃ W', W' = (wb.alloc (.cells #[.int .i64 v0, .int .i64 v1] 32)) := ⟨_, rfl⟩
        obtain ⟨X8, eX8⟩ : ∃ X' : Nat, X' = wb.heap.size := ⟨_, rfl⟩
        rw [← eW3] at hX8 hX6 h9 h5 hB8 ⊢
        rw [← eX8] at hX8 ⊢
        have gS3 := hB8.size
        clear eW3 eX8
        have c1 := hX8.cell
        have l1 := hX8.lt
        have c2 := hX6.cell
        have l2 := hX6.lt
        have c3 := h9.cell
        have f3 := h9.fro
        have l3 := h9.lt
        cases fb
        · go_wp2
          go_ret
          exact ⟨rfl, hB8⟩
        · go_wp2
          have oN := own_put (k := 1) (x := .int .i64 v1) (own_put (k := 0) (x := .int .i64 v0) h9 (by simp)) (by simp)
          refine ⟨⟨v0, v1, (show Hid _ from (HD.out rfl).1), oN, by with_reducible (repeat' first | assumption | exact Below.refl _ _ | refine Below.drew ?_ | refine bdrewN ?_ _ | refine Below.setCell ?_ (by first | exact Nat.le_refl _ | (simp; done) | (simp; omega) | omega) _ | refine Below.alloc ?_ (by first | exact Nat.le_refl _ | (simp; done) | (simp; omega) | omega) _), (h5.aside _ (by simp)).aside _ (by simp)⟩, ?_⟩
          rw [oN.cell 0, oN.cell 1, o9.cell 0, o9.cell 1]
          exact (HD.out rfl).2
      · have hX8 : Own ((wb.setCell ⟨W2.heap.size, 0, none⟩ (.int .i64 v0)).setCell ⟨W2.heap.size, 1, none⟩ (.int .i64 v1)) (W2.heap.size) #[.int .i64 v0, .int .i64 v1] := own_put (k := 1) (own_put (k := 0) on (by simp)) (by simp)
        have hX6 : Own ((wb.setCell ⟨W2.heap.size, 0, none⟩ (.int .i64 v0)).setCell ⟨W2.heap.size, 1, none⟩ (.int .i64 v1)) X6 #[.int .i64 v0, .int .i64 v1] := (ob6.aside _ (by simp; omega)).aside _ (by simp; omega)
        have h9 : Own ((wb.setCell ⟨W2.heap.size, 0, none⟩ (.int .i64 v0)).setCell ⟨W2.heap.size, 1, none⟩ (.int .i64 v1)) (w.heap.size + 1) #[.int .i64 ar, .int .i64 ac] := (ob9.aside _ (by simp; omega)).aside _ (by simp; omega)
        have h5 : Own ((wb.setCell ⟨W2.heap.size, 0, none⟩ (.int .i64 v0)).setCell ⟨W2.heap.size, 1, none⟩ (.int .i64 v1)) w.heap.size #[.int .i64 t, .int .i64 le, .int .i64 b, .int .i64 rr] := (ob5.aside _ (by simp; omega)).aside _ (by simp; omega)
        have hB8 : Below w.heap.size w ((wb.setCell ⟨W2.heap.size, 0, none⟩ (.int .i64 v0)).setCell ⟨W2.heap.size, 1, none⟩ (.int .i64 v1)) := by with_reducible (repeat' first | assumption | exact Below.refl _ _ | refine Below.drew ?_ | refine bdrewN ?_ _ | refine Below.setCell ?_ (by first | exact Nat.le_refl _ | (simp; done) | (simp; omega) | omega) _ | refine Below.alloc ?_ (by first | exact Nat.le_refl _ | (simp; done) | (simp; omega) | omega) _)
        obtain ⟨W3, eW3⟩ : ∃ W', W' = ((wb.setCell ⟨W2.heap.size, 0, none⟩ (.int .i64 v0)).setCell ⟨W2.heap.size, 1, none⟩ (.int .i64 v1)) := ⟨_, rfl⟩
        obtain ⟨X8, eX8⟩ : ∃ X' : Nat, X' = W2.heap.size := ⟨_, rfl⟩
        rw [← eW3] at hX8 hX6 h9 h5 hB8 ⊢
        rw [← eX8] at hX8 ⊢
        have gS3 := hB8.size
        clear eW3 eX8
        have c1 := hX8.cell
        have l1 := hX8.lt
        have c2 := hX6.cell
        have l2 := hX6.lt
        have c3 := h9.cell
        have f3 := h9.fro
        have l3 := h9.lt
        cases fb
        · go_wp2
          go_ret
          exact ⟨rfl, hB8⟩
        · go_wp2
          have oN := own_put (k := 1) (x := .int .i64 v1) (own_put (k := 0) (x := .int .i64 v0) h9 (by simp)) (by simp)
          refine ⟨⟨v0, v1, (show Hid _ from (HD.out rfl).1), oN, by with_reducible (repeat' first | assumption | exact Below.refl _ _ | refine Below.drew ?_ | refine bdrewN ?_ _ | refine Below.setCell ?_ (by first | exact Nat.le_refl _ | (simp; done) | (simp; omega) | omega) _ | refine Below.alloc ?_ (by first | exact Nat.le_refl _ | (simp; done) | (simp; omega) | omega) _), (h5.aside _ (by simp)).aside _ (by simp)⟩, ?_⟩
          rw [oN.cell 0, oN.cell 1, o9.cell 0, o9.cell 1]
          exact (HD.out rfl).2
end Go.Proofs.Ytaafpfjmnhmalaa
